
/- Walks of LexUnescapes and LexPlain over any Unescape that answers as the plain function. -/
import Derived.Test.YtflfnnkdkfcpkaaGreatDoorLxF
import Derived.Test.YtflfnnkdkfcpkaaGreatDoorLxPlain2
namespace Go.Proofs.YtflfnnkdkfcpkaaGreatDoor
open Go.RowKit Wb

/-- The program's Unescape answers as the plain function. -/
def UnC : Prop := ∀ (s : ByteArray) (attr : Bool) (w : World), s.size ≤ 1000000000 →
  Calls Tryz.prog 13 #[.string s, .bool attr] w fun e w' => e = .returned (.tuple #[.string (unB s attr).1, .int .i64 (unB s attr).2.1, .int .i64 (unB s attr).2.2]) ∧ Below w.heap.size w w'
def AwC : Prop := ∀ w : World, Calls Tryz.prog 10 #[] w fun e w' => e = .returned (.bool true) ∧ Below w.heap.size w w'

/-! ### LexPlain's plain facts -/
theorem unL_len (attr : Bool) : ∀ (f : Nat) (l : List UInt8) (k : Nat) (a : List UInt8), unL attr f l k = .ok a → a.length ≤ 4 * l.length := by
  intro f
  induction f with
  | zero =>
    intro l k a h
    simp only [unL, Except.ok.injEq] at h
    subst h
    simp
  | succ f ih =>
    intro l k a h
    cases l with
    | nil =>
      simp only [unL, Except.ok.injEq] at h
      subst h
      simp
    | cons c l =>
      unfold unL at h
      split at h
      · cases hs : semi l with
        | none => rw [hs] at h; cases h
        | some p =>
          obtain ⟨t, r⟩ := p
          rw [hs] at h
          simp only at h
          cases hv : refV t with
          | none => rw [hv] at h; cases h
          | some x =>
            rw [hv] at h
            simp only at h
            obtain ⟨b, hb, rfl⟩ := ex_map_ok h
            have h1 := ih _ _ _ hb
            have h2 := refV_le hv
            have h3 := congrArg List.length (semi_drop hs)
            simp only [List.length_append, List.length_cons] at h3 ⊢
            omega
      · split at h
        · split at h
          · obtain ⟨b, hb, rfl⟩ := ex_map_ok h
            have h1 := ih _ _ _ hb
            simp only [List.length_drop, List.length_cons] at h1 ⊢
            omega
          · obtain ⟨b, hb, rfl⟩ := ex_map_ok h
            have h1 := ih _ _ _ hb
            simp only [List.length_cons] at h1 ⊢
            omega
        · obtain ⟨b, hb, rfl⟩ := ex_map_ok h
          have h1 := ih _ _ _ hb
          simp only [List.length_cons] at h1 ⊢
          omega

theorem unB_cases (s : ByteArray) (attr : Bool) : (∃ x : List UInt8, unL attr (s.size + 1) s.data.toList 0 = .ok x ∧ unB s attr = (⟨x.toArray⟩, 0, 0) ∧ x.length ≤ 4 * s.size) ∨ ∃ p : Nat, unB s attr = (⟨#[]⟩, (p : Int), 16) := by
  cases h : unL attr (s.size + 1) s.data.toList 0 with
  | ok x =>
    refine .inl ⟨x, rfl, unB_ok h, ?_⟩
    have := unL_len _ _ _ _ _ h
    simpa using this
  | error p => exact .inr ⟨p, unB_bad h⟩

theorem app_list (s t : ByteArray) : (s ++ t).data.toList = s.data.toList ++ t.data.toList := by simp [ByteArray.data_append]
theorem ba_of (s : ByteArray) : (⟨s.data.toList.toArray⟩ : ByteArray) = s := by cases s; simp

theorem unB_app {s t : ByteArray} {x y : List UInt8} (hs : unL false (s.size + 1) s.data.toList 0 = .ok x) (ht : unL false (t.size + 1) t.data.toList 0 = .ok y) (hl : s.size = 0 ∨ ∃ h : s.size - 1 < s.size, s[s.size - 1] ≠ 13) :
    unB (s ++ t) false = (⟨(x ++ y).toArray⟩, 0, 0) := by
  have hL : s.data.toList.length = s.size := by simp
  have hT : t.data.toList.length = t.size := by simp
  refine unB_ok ?_
  rw [app_list]
  have hlast : ∀ hn : s.data.toList ≠ [], s.data.toList.getLast hn ≠ 13 := by
    intro hn
    rcases hl with h0 | ⟨h1, h2⟩
    · exact absurd (List.eq_nil_of_length_eq_zero (by omega)) hn
    · rw [List.getLast_eq_getElem]
      simp only [hL]
      exact h2
  rw [unL_app false t.data.toList s.data.toList.length s.data.toList (Nat.le_refl _) x 0 (s.size + 1) ((s ++ t).size + 1) (t.size + 1) hs (by omega) (by simp) (by omega) hlast]
  have : unL false (t.size + 1) t.data.toList (0 + s.data.toList.length) = .ok y := unL_place ht _
  rw [this]
  rfl

theorem unB_plain {s : ByteArray} (h : ∀ b ∈ s.data.toList, b ≠ 38 ∧ b ≠ 13) : unB s false = (s, 0, 0) ∧ unB (s ++ ⟨#[38, 103, 116, 59]⟩) false = (s ++ ⟨#[62]⟩, 0, 0) := by
  have hL : s.data.toList.length = s.size := by simp
  have h1 := unL_plain s.data.toList (s.size + 1) 0 (by omega) h
  refine ⟨by rw [unB_ok h1, ba_of], ?_⟩
  have h2 : unL false ((⟨#[38, 103, 116, 59]⟩ : ByteArray).size + 1) (⟨#[38, 103, 116, 59]⟩ : ByteArray).data.toList 0 = .ok [62] := unL_gt 0 0
  rw [unB_app h1 h2]
  · congr 1
  · by_cases h0 : s.size = 0
    · exact .inl h0
    · refine .inr ⟨by omega, ?_⟩
      have hm : s[s.size - 1]'(by omega) ∈ s.data.toList := by
        have : s[s.size - 1]'(by omega) = s.data.toList[s.size - 1]'(by omega) := rfl
        rw [this]
        exact List.getElem_mem _
      exact (h _ hm).2
end Go.Proofs.YtflfnnkdkfcpkaaGreatDoor
