
/- What the reference's Unescape answers: steps of the plain function at a place of the text. -/
import Derived.Test.YtflfnnkdkfcpkaaGreatDoorLxD
namespace Go.Proofs.YtflfnnkdkfcpkaaGreatDoor
open Go.RowKit Wb

def unB (s : ByteArray) (attr : Bool) : ByteArray × Int × Int :=
  match unL attr (s.size + 1) s.data.toList 0 with
  | .ok x => (⟨x.toArray⟩, 0, 0)
  | .error p => (⟨#[]⟩, p, 16)
theorem unB_ok {s : ByteArray} {attr : Bool} {x : List UInt8} (h : unL attr (s.size + 1) s.data.toList 0 = .ok x) : unB s attr = (⟨x.toArray⟩, 0, 0) := by unfold unB; rw [h]
theorem unB_bad {s : ByteArray} {attr : Bool} {p : Nat} (h : unL attr (s.size + 1) s.data.toList 0 = .error p) : unB s attr = (⟨#[]⟩, (p : Int), 16) := by unfold unB; rw [h]

theorem map_app (o : Except Nat (List UInt8)) (out x : List UInt8) : (o.map (x ++ ·)).map (out ++ ·) = o.map ((out ++ x) ++ ·) := by
  cases o <;> simp [Except.map]
theorem map_cons (o : Except Nat (List UInt8)) (out : List UInt8) (c : UInt8) : (o.map (c :: ·)).map (out ++ ·) = o.map ((out ++ [c]) ++ ·) := by
  cases o <;> simp [Except.map]

theorem refAt_semi {s : ByteArray} {k : Nat} {x : List UInt8} {n : Nat} (h : refAt s k = some (x, n)) :
    ∃ t r, semi (s.data.toList.drop (k + 1)) = some (t, r) ∧ refV t = some x ∧ t.length = n := by
  unfold refAt at h
  cases hs : semi (s.data.toList.drop (k + 1)) with
  | none => rw [hs] at h; cases h
  | some p =>
    obtain ⟨t, r⟩ := p
    rw [hs] at h
    simp only at h
    cases hv : refV t with
    | none => rw [hv] at h; cases h
    | some y =>
      rw [hv] at h
      simp only [Option.some.injEq, Prod.mk.injEq] at h
      obtain ⟨rfl, rfl⟩ := h
      exact ⟨t, r, rfl, hv, rfl⟩

theorem semi_len : ∀ {l t r : List UInt8}, semi l = some (t, r) → r = l.drop (t.length + 1) ∧ t.length + 1 ≤ l.length
  | [], _, _, h => by cases h
  | c :: l, t, r, h => by
    unfold semi at h
    split at h
    · simp only [Option.some.injEq, Prod.mk.injEq] at h
      obtain ⟨rfl, rfl⟩ := h
      simp
    · cases hs : semi l with
      | none => rw [hs] at h; cases h
      | some p =>
        obtain ⟨a, b⟩ := p
        rw [hs] at h
        simp only [Option.some.injEq, Prod.mk.injEq] at h
        obtain ⟨rfl, rfl⟩ := h
        obtain ⟨h1, h2⟩ := semi_len hs
        refine ⟨by rw [h1]; simp, by simp; omega⟩

theorem un_ref {s : ByteArray} {k f : Nat} {x : List UInt8} {n : Nat} {attr : Bool} (hk : k < s.size) (h38 : s[k] = 38) (h : refAt s k = some (x, n)) :
    unL attr (f + 1) (s.data.toList.drop k) k = (unL attr f (s.data.toList.drop (k + n + 2)) (k + n + 2)).map (x ++ ·) ∧ k + n + 2 ≤ s.size := by
  obtain ⟨t, r, h1, h2, rfl⟩ := refAt_semi h
  obtain ⟨h3, h4⟩ := semi_len h1
  have hL : s.data.toList.length = s.size := by simp
  constructor
  · rw [drop_byte s k hk]
    conv => lhs; unfold unL
    rw [if_pos h38, h1]
    simp only [h2]
    rw [h3, List.drop_drop, show k + 1 + (t.length + 1) = k + t.length + 2 from by omega]
  · simp at h4
    omega
theorem un_bad {s : ByteArray} {k f : Nat} {attr : Bool} (hk : k < s.size) (h38 : s[k] = 38) (h : refAt s k = none) :
    unL attr (f + 1) (s.data.toList.drop k) k = .error k := by
  rw [drop_byte s k hk]
  unfold unL
  rw [if_pos h38]
  unfold refAt at h
  cases hs : semi (s.data.toList.drop (k + 1)) with
  | none => rfl
  | some p =>
    obtain ⟨t, r⟩ := p
    rw [hs] at h
    simp only at h ⊢
    cases hv : refV t with
    | none => rfl
    | some y => rw [hv] at h; cases h
theorem un_crlf {s : ByteArray} {k f : Nat} {attr : Bool} (hk : k < s.size) (hk1 : k + 1 < s.size) (h13 : s[k] = 13) (h10 : s[k + 1] = 10) :
    unL attr (f + 1) (s.data.toList.drop k) k = (unL attr f (s.data.toList.drop (k + 2)) (k + 2)).map ((if attr then 32 else 10) :: ·) := by
  rw [drop_byte s k hk]
  conv => lhs; unfold unL
  rw [if_neg (by rw [h13]; decide), if_pos h13, drop_byte s (k + 1) hk1, h10]
  simp
theorem un_cr {s : ByteArray} {k f : Nat} {attr : Bool} (hk : k < s.size) (h13 : s[k] = 13) (h : ∀ h1 : k + 1 < s.size, s[k + 1] ≠ 10) :
    unL attr (f + 1) (s.data.toList.drop k) k = (unL attr f (s.data.toList.drop (k + 1)) (k + 1)).map ((if attr then 32 else 10) :: ·) := by
  rw [drop_byte s k hk]
  conv => lhs; unfold unL
  rw [if_neg (by rw [h13]; decide), if_pos h13, if_neg]
  by_cases h1 : k + 1 < s.size
  · rw [drop_byte s (k + 1) h1]
    simp [h h1]
  · rw [List.drop_eq_nil_of_le (by simp; omega)]
    simp
theorem un_other {s : ByteArray} {k f : Nat} {attr : Bool} (hk : k < s.size) (h38 : s[k] ≠ 38) (h13 : s[k] ≠ 13) :
    unL attr (f + 1) (s.data.toList.drop k) k = (unL attr f (s.data.toList.drop (k + 1)) (k + 1)).map ((if attr && (s[k] == 9 || s[k] == 10) then 32 else s[k]) :: ·) := by
  rw [drop_byte s k hk]
  conv => lhs; unfold unL
  rw [if_neg h38, if_neg h13]
theorem un_end {s : ByteArray} {k f : Nat} {attr : Bool} (hk : s.size ≤ k) : unL attr (f + 1) (s.data.toList.drop k) k = .ok [] := by
  rw [List.drop_eq_nil_of_le (by simpa using hk)]; rfl

theorem enc_le (n : Int) : (enc n).length ≤ 4 := by
  unfold enc
  split
  · split
    · simp
    · split
      · simp
      · split <;> simp
  · simp
theorem refV_le {t x : List UInt8} (h : refV t = some x) : x.length ≤ 4 := by
  unfold refV at h
  split at h
  · cases h; simp
  · split at h
    · cases h; simp
    · split at h
      · cases h; simp
      · split at h
        · cases h; simp
        · split at h
          · cases h; simp
          · split at h
            · split at h
              · cases h; exact enc_le _
              · cases h
            · cases h

theorem byte_eq (s : ByteArray) (k : Nat) (h : k < s.size) (c : UInt8) : ((s[k].toNat : Int) == (c.toNat : Int)) = decide (s[k] = c) := by
  by_cases e : s[k] = c
  · rw [e]; simp
  · have : s[k].toNat ≠ c.toNat := fun h => e (UInt8.toNat_inj.1 h)
    rw [decide_eq_false e]
    simp
    omega
end Go.Proofs.YtflfnnkdkfcpkaaGreatDoor
