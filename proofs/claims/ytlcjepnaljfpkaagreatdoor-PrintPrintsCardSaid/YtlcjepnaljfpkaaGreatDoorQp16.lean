/- LxTok2 LxTok3. -/
import Derived.Test.YtlcjepnaljfpkaaGreatDoorQp15
namespace Wb
theorem takeWhile_le (p : UInt8 → Bool) (l : List UInt8) : (l.takeWhile p).length ≤ l.length := (List.takeWhile_sublist _).length_le
theorem text_some {l : List UInt8} {n : Nat} {a : Option Tk} (h : textR l = some (n, a)) :
    n = (l.takeWhile (· != 60)).length ∧ 1 ≤ n ∧ ∃ x, a = some (4, [], [], x) := by
  unfold textR at h
  simp only at h
  split at h
  · cases h
  · rename_i hne
    split at h
    · cases h
    · split at h
      · cases h
      · rename_i x hx
        simp only [Option.some.injEq, Prod.mk.injEq] at h
        obtain ⟨rfl, rfl⟩ := h
        refine ⟨rfl, ?_, x, rfl⟩
        cases hh : l.takeWhile (· != 60) with
        | nil => rw [hh] at hne; simp at hne
        | cons c r => simp
theorem text_loc : Loc 1 textR := by
  intro l n a h
  obtain ⟨hn, hn1, x, rfl⟩ := text_some h
  have hle := takeWhile_le (· != 60) l
  refine ⟨by omega, fun l' ht => ?_⟩
  by_cases hl : (l.takeWhile (· != 60)).length < l.length
  · rw [hn] at ht
    obtain ⟨h1, _⟩ := span_take (· != 60) l l' hl ht
    rw [← h]
    unfold textR
    rw [h1]
  · have hnl : n = l.length := by omega
    have e : l' = l := by
      rw [hnl, List.take_of_length_le (l := l) (by omega)] at ht
      have hlen := congrArg List.length ht
      simp only [List.length_take] at hlen
      rw [List.take_of_length_le (by omega)] at ht
      exact ht
    rw [e, h]
theorem piece_takes {l : List UInt8} {n : Nat} {a : Option Tk} (h : pieceR l = some (n, a)) : 1 ≤ n := by
  unfold pieceR at h
  split at h
  · exact mark_takes _ _ _ h
  · exact (text_some h).2.1
theorem piece_loc : Loc 1 pieceR := by
  intro l n a h
  have hn := piece_takes h
  unfold pieceR at h
  split at h
  · rename_i hc
    obtain ⟨h1, h2⟩ := mark_loc.mono (Nat.zero_le 1) l n a h
    refine ⟨h1, fun l' hl => ?_⟩
    unfold pieceR
    rw [take_le hl (show 1 ≤ n + 1 from by omega), if_pos hc]
    exact h2 l' hl
  · rename_i hc
    obtain ⟨h1, h2⟩ := text_loc l n a h
    refine ⟨h1, fun l' hl => ?_⟩
    unfold pieceR
    rw [take_le hl (show 1 ≤ n + 1 from by omega), if_neg hc]
    exact h2 l' hl
def consT (at_ : Nat) (t : Option Tk) (ts : List (Nat × Tk)) : List (Nat × Tk) :=
  match t with
  | none => ts
  | some t => (at_, t) :: ts
def tokL : Nat → List UInt8 → Nat → Option (List (Nat × Tk))
  | 0, l, _ => if l.isEmpty then some [] else none
  | f + 1, l, at_ =>
    if l.isEmpty then some []
    else match pieceR l with
      | none => none
      | some (n, t) => match tokL f (l.drop n) (at_ + n) with
        | none => none
        | some ts => some (consT at_ t ts)
theorem tokL_nil (f at_ : Nat) : tokL f [] at_ = some [] := by cases f <;> rfl
theorem tokL_step {f at_ n : Nat} {l : List UInt8} {t : Option Tk} {ts : List (Nat × Tk)} (hp : pieceR l = some (n, t)) (hr : tokL f (l.drop n) (at_ + n) = some ts) :
    tokL (f + 1) l at_ = some (consT at_ t ts) := by
  have hne : l.isEmpty = false := by
    cases l with
    | nil =>
      have h1 := piece_takes hp
      obtain ⟨h2, _⟩ := piece_loc _ _ _ hp
      simp at h2
      omega
    | cons c l => rfl
  unfold tokL
  rw [hne, hp]
  simp only [hr]
  rfl
theorem tokL_some {f at_ : Nat} {l : List UInt8} {ts : List (Nat × Tk)} (h : tokL f l at_ = some ts) :
    (l = [] ∧ ts = []) ∨ ∃ f' n t us, f = f' + 1 ∧ pieceR l = some (n, t) ∧ tokL f' (l.drop n) (at_ + n) = some us ∧ ts = consT at_ t us := by
  cases l with
  | nil =>
    rw [tokL_nil] at h
    simp only [Option.some.injEq] at h
    exact .inl ⟨rfl, h.symm⟩
  | cons c l =>
    right
    cases f with
    | zero => simp [tokL] at h
    | succ f =>
      unfold tokL at h
      rw [show (c :: l).isEmpty = false from rfl] at h
      simp only [Bool.false_eq_true, if_false] at h
      cases hp : pieceR (c :: l) with
      | none => rw [hp] at h; cases h
      | some p =>
        obtain ⟨n, t⟩ := p
        rw [hp] at h
        simp only at h
        cases hr : tokL f ((c :: l).drop n) (at_ + n) with
        | none => rw [hr] at h; cases h
        | some us =>
          rw [hr] at h
          simp only [Option.some.injEq] at h
          exact ⟨f, n, t, us, rfl, rfl, hr, h.symm⟩
end Wb
namespace Wb
def TxtOK (l : List UInt8) : Prop := ∃ ns : List Int, (∀ n ∈ ns, charB n = true) ∧ l = ns.flatMap enc
theorem b8_nat (n : Int) (h0 : 0 ≤ n) (h1 : n < 256) : ((b8 n).toNat : Int) = n := by
  unfold b8
  simp
  omega
theorem enc_low {n : Int} {b : UInt8} (h : b ∈ enc n) (hb : b.toNat < 128) : enc n = [b] ∧ n = b.toNat := by
  unfold enc at h ⊢
  split at h
  · rename_i hs
    have hr := (sgn_iff n).1 hs
    rw [if_pos hs]
    split at h
    · rename_i h1
      rw [if_pos h1]
      simp only [List.mem_singleton] at h
      subst h
      exact ⟨rfl, (b8_nat n (by omega) (by omega)).symm⟩
    · exfalso
      split at h
      · simp only [List.mem_cons, List.not_mem_nil, or_false] at h
        rcases h with rfl | rfl
        · have := b8_nat (192 + n / 64) (by omega) (by omega); omega
        · have := b8_nat (128 + n % 64) (by omega) (by omega); omega
      · split at h
        · simp only [List.mem_cons, List.not_mem_nil, or_false] at h
          rcases h with rfl | rfl | rfl
          · have := b8_nat (224 + n / 4096) (by omega) (by omega); omega
          · have := b8_nat (128 + n / 64 % 64) (by omega) (by omega); omega
          · have := b8_nat (128 + n % 64) (by omega) (by omega); omega
        · simp only [List.mem_cons, List.not_mem_nil, or_false] at h
          rcases h with rfl | rfl | rfl | rfl
          · have := b8_nat (240 + n / 262144) (by omega) (by omega); omega
          · have := b8_nat (128 + n / 4096 % 64) (by omega) (by omega); omega
          · have := b8_nat (128 + n / 64 % 64) (by omega) (by omega); omega
          · have := b8_nat (128 + n % 64) (by omega) (by omega); omega
  · simp at h
theorem TxtOK.nil : TxtOK [] := ⟨[], by simp, rfl⟩
theorem TxtOK.app {a b : List UInt8} (ha : TxtOK a) (hb : TxtOK b) : TxtOK (a ++ b) := by
  obtain ⟨ns, h1, rfl⟩ := ha
  obtain ⟨ms, h2, rfl⟩ := hb
  refine ⟨ns ++ ms, ?_, by simp⟩
  intro n hn
  rcases List.mem_append.1 hn with h | h
  · exact h1 n h
  · exact h2 n h
theorem enc_ascii {b : UInt8} (h : b.toNat < 128) : enc (b.toNat : Int) = [b] := by
  have hs : sgn (b.toNat : Int) = true := by rw [sgn_iff]; omega
  unfold enc
  rw [if_pos hs, if_pos (by omega)]
  unfold b8
  simp
theorem TxtOK.ascii {l : List UInt8} (h : ∀ b ∈ l, 32 ≤ b.toNat ∧ b.toNat < 128) : TxtOK l := by
  refine ⟨l.map fun b => (b.toNat : Int), fun n hn => ?_, ?_⟩
  · obtain ⟨b, hb, rfl⟩ := List.mem_map.1 hn
    have := h b hb
    unfold charB
    simp [inS, charS]
    omega
  · induction l with
    | nil => rfl
    | cons c l ih =>
      rw [List.map_cons, List.flatMap_cons, enc_ascii (h c (by simp)).2, ← ih (fun b hb => h b (by simp [hb]))]
      rfl
end Wb
