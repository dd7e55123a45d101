import Derived.Test.YtjohfljkhlkjoaaGreatDoorLeFit
import Derived.Lib.Replace
import Derived.Lib.CountLaws
import Derived.Lib.IndexLaws
import Derived.Lib.IndexBytes
namespace Wb
open Go
theorem rall_nil {o n : List UInt8} (ho : o ≠ []) (hn : o ≠ n) : Lib.replaceAll [] o n = [] := by
  have hi : Lib.index [] o = -1 := by
    unfold Lib.index
    cases o with
    | nil => exact absurd rfl ho
    | cons c l => rfl
  unfold Lib.replaceAll Lib.replace Lib.replaceNum
  rw [if_neg (by simpa using hn), if_pos (.inl (by omega)), Lib.count_miss hi]
  rfl
theorem rall_unf {o n : List UInt8} (hn : o ≠ n) (s : List UInt8) : Lib.replaceAll s o n = Lib.replaceK o n (Lib.count s o) s := by
  unfold Lib.replaceAll Lib.replace Lib.replaceNum
  rw [if_neg (by simpa using hn), if_pos (.inl (by omega))]
theorem rall_hit {o n l : List UInt8} (ho : o ≠ []) (hn : o ≠ n) (h : o.isPrefixOf l = true) : Lib.replaceAll l o n = n ++ Lib.replaceAll (l.drop o.length) o n := by
  have hl : l ≠ [] := by
    rintro rfl
    cases o with
    | nil => exact ho rfl
    | cons c r => cases h
  have hi : Lib.index l o = (0 : Nat) := by
    cases l with
    | nil => exact absurd rfl hl
    | cons c l =>
      unfold Lib.index
      rw [if_pos h]
      rfl
  rw [rall_unf hn, rall_unf hn, Lib.count_hit ho hi, Nat.add_comm, Lib.replaceK_hit _ _ _ _ _ hi]
  simp
theorem rall_skip {o n l : List UInt8} {c : UInt8} (ho : o ≠ []) (hn : o ≠ n) (h : o.isPrefixOf (c :: l) = false) : Lib.replaceAll (c :: l) o n = c :: Lib.replaceAll l o n := by
  have e : Lib.index (c :: l) o = if Lib.index l o == -1 then -1 else Lib.index l o + 1 := by
    conv => lhs; unfold Lib.index
    rw [if_neg (by simp [h])]
  rcases Lib.index_spec l o with ⟨hi, _⟩ | ⟨i, hi, _, _, _⟩
  · rw [hi] at e
    have e' : Lib.index (c :: l) o = -1 := by simpa using e
    rw [rall_unf hn, rall_unf hn, Lib.count_miss hi, Lib.count_miss e']
    rfl
  · have e' : Lib.index (c :: l) o = ((i + 1 : Nat) : Int) := by
      rw [e, hi, if_neg (by simp)]
      rfl
    rw [rall_unf hn, rall_unf hn, Lib.count_hit ho hi, Lib.count_hit ho e', show i + 1 + o.length = (i + o.length) + 1 from by omega, List.drop_succ_cons, Nat.add_comm 1, Lib.replaceK_hit _ _ _ _ _ hi, Lib.replaceK_hit _ _ _ _ _ e']
    simp [show i + 1 + o.length = (i + o.length) + 1 from by omega]
def swapB (c d x : UInt8) : UInt8 := if x = c then d else x
theorem rall_one (c d : UInt8) (h : c ≠ d) : ∀ l : List UInt8, Lib.replaceAll l [c] [d] = l.map (swapB c d)
  | [] => rall_nil (by simp) (by simpa using h)
  | x :: l => by
    by_cases hx : x = c
    · subst hx
      rw [rall_hit (by simp) (by simpa using h) (by simp)]
      simp [rall_one x d h l, swapB]
    · rw [rall_skip (by simp) (by simpa using h) (by simp [List.isPrefixOf]; exact fun e => hx e.symm), rall_one c d h l]
      simp [swapB, hx]
theorem rall_crlf : ∀ (n : Nat) (l : List UInt8), l.length ≤ n → (Lib.replaceAll l [13, 10] [10]).map (swapB 13 10) = endsL l := by
  intro n
  induction n with
  | zero =>
    intro l hl
    obtain rfl : l = [] := List.eq_nil_of_length_eq_zero (by omega)
    rw [rall_nil (by simp) (by simp)]
    rfl
  | succ n ih =>
    intro l hl
    cases l with
    | nil =>
      rw [rall_nil (by simp) (by simp)]
      rfl
    | cons c l =>
      simp only [List.length_cons] at hl
      by_cases h : [13, 10].isPrefixOf (c :: l) = true
      · obtain ⟨r, hr⟩ := List.isPrefixOf_iff_prefix.1 h
        have hr' : c :: l = 13 :: 10 :: r := hr.symm
        rw [rall_hit (by simp) (by simp) h, hr']
        simp only [List.cons.injEq] at hr'
        have hrl : r.length ≤ n := by have := congrArg List.length hr'.2; simp at this; omega
        simp only [List.length_cons, List.length_nil, List.drop_succ_cons, List.drop_zero, List.cons_append, List.nil_append, List.map_cons]
        rw [ih r hrl]
        rfl
      · rw [Bool.not_eq_true] at h
        rw [rall_skip (by simp) (by simp) h, List.map_cons, ih l (by omega)]
        by_cases hc : c = 13
        · subst hc
          have h10 : ¬ l.take 1 = [10] := by
            intro e
            cases l with
            | nil => cases e
            | cons d l => simp at e; subst e; simp at h
          conv => rhs; unfold endsL
          rw [if_pos rfl, if_neg h10]
          rfl
        · conv => rhs; unfold endsL
          rw [if_neg hc]
          simp [swapB, hc]
def linesL (attr : Bool) (l : List UInt8) : List UInt8 := if attr then ((endsL l).map (swapB 10 32)).map (swapB 9 32) else endsL l
theorem endsL_len : ∀ l : List UInt8, (endsL l).length ≤ l.length
  | [] => Nat.le_refl _
  | c :: l => by
    have := endsL_len l
    unfold endsL
    split
    · split <;> (simp only [List.length_cons]; omega)
    · simp only [List.length_cons]; omega
theorem linesL_len (attr : Bool) (l : List UInt8) : (linesL attr l).length ≤ l.length := by
  have := endsL_len l
  unfold linesL
  split <;> simp <;> omega
theorem linesL_nil (attr : Bool) : linesL attr [] = [] := by cases attr <;> rfl
theorem linesL_crlf (attr : Bool) (l : List UInt8) : linesL attr (13 :: 10 :: l) = (if attr then 32 else 10) :: linesL attr l := by
  have e : endsL (13 :: 10 :: l) = 10 :: endsL l := by
    conv => lhs; unfold endsL
    rw [if_pos rfl, if_pos (by rfl)]
    conv => lhs; unfold endsL
    rw [if_neg (by decide)]
  unfold linesL
  rw [e]
  cases attr <;> rfl
theorem linesL_cr (attr : Bool) (l : List UInt8) (h : ¬ l.take 1 = [10]) : linesL attr (13 :: l) = (if attr then 32 else 10) :: linesL attr l := by
  have e : endsL (13 :: l) = 10 :: endsL l := by
    conv => lhs; unfold endsL
    rw [if_pos rfl, if_neg h]
  unfold linesL
  rw [e]
  cases attr <;> rfl
theorem linesL_cons (attr : Bool) (c : UInt8) (l : List UInt8) (h : c ≠ 13) : linesL attr (c :: l) = (if attr && (c == 9 || c == 10) then 32 else c) :: linesL attr l := by
  have e : endsL (c :: l) = c :: endsL l := by
    conv => lhs; unfold endsL
    rw [if_neg h]
  unfold linesL
  rw [e]
  cases attr
  · rfl
  · simp only [if_true, List.map_cons, Bool.true_and, List.cons.injEq, and_true]
    unfold swapB
    by_cases h10 : c = 10
    · subst h10; rfl
    · rw [if_neg h10]
      by_cases h9 : c = 9
      · subst h9; rfl
      · rw [if_neg h9, if_neg (by simp [h9, h10])]
theorem unL_seg (attr : Bool) (t : List UInt8) (ht : t = [] ∨ t.take 1 = [38]) : ∀ (n : Nat) (a : List UInt8), a.length ≤ n → (∀ b ∈ a, b ≠ 38) → ∀ (k g h : Nat), (a ++ t).length < g → t.length < h →
    unL attr g (a ++ t) k = (unL attr h t (k + a.length)).map (linesL attr a ++ ·) := by
  have h10 : ¬ t.take 1 = [10] := by
    rcases ht with rfl | e
    · simp
    · rw [e]; decide
  intro n
  induction n with
  | zero =>
    intro a ha _ k g h hg hh
    obtain rfl : a = [] := List.eq_nil_of_length_eq_zero (by omega)
    rw [List.nil_append, unL_fuel attr t.length t (Nat.le_refl _) g h k (by simpa using hg) hh, linesL_nil]
    simp only [List.length_nil, Nat.add_zero]
    cases unL attr h t k <;> rfl
  | succ n ih =>
    intro a ha hno k g h hg hh
    cases a with
    | nil =>
      rw [List.nil_append, unL_fuel attr t.length t (Nat.le_refl _) g h k (by simpa using hg) hh, linesL_nil]
      simp only [List.length_nil, Nat.add_zero]
      cases unL attr h t k <;> rfl
    | cons c l =>
      obtain ⟨g, rfl⟩ : ∃ g', g = g' + 1 := ⟨g - 1, by omega⟩
      simp only [List.length_cons, List.length_append] at ha hg
      have h38 := hno c (by simp)
      have hnl : ∀ b ∈ l, b ≠ 38 := fun b hb => hno b (by simp [hb])
      rw [List.cons_append]
      conv => lhs; unfold unL
      rw [if_neg h38]
      by_cases h13 : c = 13
      · subst h13
        rw [if_pos rfl]
        cases l with
        | nil =>
          rw [List.nil_append, if_neg h10, linesL_cr attr [] (by simp), linesL_nil, unL_fuel attr t.length t (Nat.le_refl _) g h (k + 1) (by simp at hg; omega) hh]
          rfl
        | cons d l =>
          by_cases hd : d = 10
          · subst hd
            simp only [List.length_cons] at ha hg
            rw [if_pos (by rfl), linesL_crlf]
            simp only [List.cons_append, List.drop_succ_cons, List.drop_zero]
            rw [ih l (by omega) (fun b hb => hnl b (by simp [hb])) (k + 2) g h (by simp; omega) hh, map_one]
            congr 2
            simp only [List.length_cons]
            omega
          · have hd' : ¬ (d :: l ++ t).take 1 = [10] := by simpa using hd
            rw [if_neg hd', linesL_cr attr (d :: l) (by simpa using hd), ih (d :: l) (by omega) hnl (k + 1) g h (by simp at hg ⊢; omega) hh, map_one]
            congr 2
            simp only [List.length_cons]
            omega
      · rw [if_neg h13, linesL_cons attr c l h13, ih l (by omega) hnl (k + 1) g h (by simp; omega) hh, map_one]
        congr 2
        simp only [List.length_cons]
        omega
theorem unL_seg_end (attr : Bool) (a : List UInt8) (hno : ∀ b ∈ a, b ≠ 38) (k g : Nat) (hg : a.length < g) : unL attr g a k = .ok (linesL attr a) := by
  have := unL_seg attr [] (.inl rfl) a.length a (Nat.le_refl _) hno k g 1 (by simpa using hg) (by simp)
  rw [List.append_nil] at this
  rw [this]
  simp [unL, Except.map]
def refX (b : List UInt8) : List UInt8 × Nat :=
  match semi b with
  | none => ([], 0)
  | some (t, _) => match refV t with
    | none => ([], 0)
    | some x => (x, t.length + 2)
theorem unL_amp_bad (attr : Bool) (b : List UInt8) (h k : Nat) (hz : (refX b).2 = 0) : unL attr (h + 1) (38 :: b) k = .error k := by
  unfold refX at hz
  unfold unL
  rw [if_pos rfl]
  cases hs : semi b with
  | none => rfl
  | some p =>
    obtain ⟨t, r⟩ := p
    rw [hs] at hz
    simp only at hz ⊢
    cases hv : refV t with
    | none => rfl
    | some x => rw [hv] at hz; simp at hz
theorem unL_amp_ok (attr : Bool) (b : List UInt8) (h k n : Nat) (x : List UInt8) (hz : refX b = (x, n)) (hn : n ≠ 0) :
    unL attr (h + 1) (38 :: b) k = (unL attr h ((38 :: b).drop n) (k + n)).map (x ++ ·) ∧ n ≤ b.length + 1 ∧ 2 ≤ n ∧ x ≠ [] := by
  unfold refX at hz
  cases hs : semi b with
  | none => rw [hs] at hz; simp only [Prod.mk.injEq] at hz; omega
  | some p =>
    obtain ⟨t, r⟩ := p
    have hd := semi_drop hs
    rw [hs] at hz
    simp only at hz
    cases hv : refV t with
    | none => rw [hv] at hz; simp only [Prod.mk.injEq] at hz; omega
    | some x' =>
      rw [hv] at hz
      simp only [Prod.mk.injEq] at hz
      obtain ⟨rfl, rfl⟩ := hz
      have hr : (38 :: b).drop (t.length + 2) = r := by
        rw [hd, List.drop_succ_cons, show t.length + 1 = (t ++ [59]).length from by simp, show t ++ 59 :: r = (t ++ [59]) ++ r from by simp, List.drop_left]
      refine ⟨?_, ?_, by omega, ?_⟩
      · rw [hr]
        conv => lhs; unfold unL
        rw [if_pos rfl, hs]
        simp only [hv]
        rfl
      · rw [hd]; simp
      · intro e
        subst e
        unfold refV at hv
        repeat' split at hv
        all_goals first | (simp at hv; done) | skip
        rename_i n0 _ hch
        simp only [Option.some.injEq] at hv
        exact Wb.enc_ne n0 (char_sgn n0 hch) hv
end Wb
