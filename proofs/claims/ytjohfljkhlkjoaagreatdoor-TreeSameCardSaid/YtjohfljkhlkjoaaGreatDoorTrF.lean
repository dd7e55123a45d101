import GoSem.Core.Float
namespace Wb
open Ieee
def dbl (n : Nat) : Nat := Go.FloatKind.f64.nearest (n : Int)
theorem cut_none (n : Nat) : Toward.even.cut false n 0 = n := by
  unfold Toward.cut
  simp [Nat.mod_one]
theorem cut_shift (n d : Nat) (hn : 0 < n) : Toward.even.cut false (n * 2 ^ d) d = n := by
  have hl : d ≤ (n * 2 ^ d).log2 + 2 := by
    have h1 : 2 ^ d ≤ n * 2 ^ d := Nat.le_mul_of_pos_left _ hn
    have h2 := (Nat.le_log2 (by have := Nat.pow_pos (n := d) (show 0 < 2 by omega); have := Nat.mul_pos hn this; omega)).2 h1
    omega
  unfold Toward.cut
  rw [Nat.min_eq_left hl]
  have hg : 1 <<< d = 2 ^ d := by rw [Nat.shiftLeft_eq, Nat.one_mul]
  have hp : 0 < 2 ^ d := Nat.pow_pos (by omega)
  simp only [hg, Nat.mul_mod_left, Nat.mul_div_cancel _ hp]
  have h0 : ¬ 2 ^ d < 2 * 0 := by omega
  have h1 : ¬ 2 ^ d = 2 * 0 := by omega
  simp [h0]
def rungOf (n : Nat) : Nat := (n.log2 + 1022) * 2 ^ 52 + n * 2 ^ (52 - n.log2)
theorem sig_bounds (n : Nat) (h0 : 0 < n) (h : n.log2 ≤ 52) : 2 ^ 52 ≤ n * 2 ^ (52 - n.log2) ∧ n * 2 ^ (52 - n.log2) < 2 ^ 53 := by
  have h1 : 2 ^ n.log2 ≤ n := Nat.log2_self_le (by omega)
  have h2 : n < 2 ^ (n.log2 + 1) := Nat.lt_log2_self
  have e1 : 2 ^ 52 = 2 ^ n.log2 * 2 ^ (52 - n.log2) := by rw [← Nat.pow_add]; congr 1; omega
  have e2 : 2 ^ 53 = 2 ^ (n.log2 + 1) * 2 ^ (52 - n.log2) := by rw [← Nat.pow_add]; congr 1; omega
  have hp : 0 < 2 ^ (52 - n.log2) := Nat.pow_pos (by omega)
  constructor
  · rw [e1]; exact Nat.mul_le_mul_right _ h1
  · rw [e2]; exact Nat.mul_lt_mul_of_pos_right h2 hp
theorem log2_shift (n k : Nat) (h0 : 0 < n) : (n * 2 ^ k).log2 = n.log2 + k := by
  have h1 : 2 ^ n.log2 ≤ n := Nat.log2_self_le (by omega)
  have h2 : n < 2 ^ (n.log2 + 1) := Nat.lt_log2_self
  have hp : 0 < 2 ^ k := Nat.pow_pos (by omega)
  have hne : n * 2 ^ k ≠ 0 := by have := Nat.mul_pos h0 hp; omega
  apply Nat.le_antisymm
  · have : n * 2 ^ k < 2 ^ (n.log2 + k + 1) := by
      rw [show n.log2 + k + 1 = (n.log2 + 1) + k from by omega, Nat.pow_add]
      exact Nat.mul_lt_mul_of_pos_right h2 hp
    have := (Nat.log2_lt hne).2 this
    omega
  · exact (Nat.le_log2 hne).2 (by rw [Nat.pow_add]; exact Nat.mul_le_mul_right _ h1)
theorem nearest_exact (n k : Nat) (h0 : 0 < n) (h : n.log2 ≤ 52) : double.nearest false (n * 2 ^ k) (-(k : Int)) = rungOf n := by
  have hp : 0 < 2 ^ k := Nat.pow_pos (by omega)
  have hne : n * 2 ^ k ≠ 0 := by have := Nat.mul_pos h0 hp; omega
  have hl := log2_shift n k h0
  obtain ⟨b1, b2⟩ := sig_bounds n h0 h
  have hfb : double.fractionBits = 52 := rfl
  have hlp : double.leastPlace = -1074 := by decide
  have hbin : double.binade = 2 ^ 52 := rfl
  have hinf : double.infRung = 2047 * 2 ^ 52 := by decide
  unfold Format.nearest
  rw [if_neg hne, hl]
  simp only [hfb, hlp, hbin, hinf]
  have hlast : max (-(k : Int) + ((n.log2 + k : Nat) : Int) - (52 : Nat)) (-1074) = (n.log2 : Int) - 52 := by omega
  rw [hlast]
  have hkept : Toward.even.cut false ((n * 2 ^ k) <<< (-(k : Int) - ((n.log2 : Int) - 52)).toNat) (((n.log2 : Int) - 52) - -(k : Int)).toNat = n * 2 ^ (52 - n.log2) := by
    by_cases hc : k ≤ 52 - n.log2
    · have e1 : (-(k : Int) - ((n.log2 : Int) - 52)).toNat = 52 - n.log2 - k := by omega
      have e2 : (((n.log2 : Int) - 52) - -(k : Int)).toNat = 0 := by omega
      rw [e1, e2, cut_none, Nat.shiftLeft_eq, Nat.mul_assoc, ← Nat.pow_add]
      congr 2
      omega
    · have e1 : (-(k : Int) - ((n.log2 : Int) - 52)).toNat = 0 := by omega
      have e2 : (((n.log2 : Int) - 52) - -(k : Int)).toNat = k - (52 - n.log2) := by omega
      have e3 : n * 2 ^ k = (n * 2 ^ (52 - n.log2)) * 2 ^ (k - (52 - n.log2)) := by
        rw [Nat.mul_assoc, ← Nat.pow_add]
        congr 2
        omega
      rw [e1, e2, Nat.shiftLeft_zero, e3, cut_shift _ _ (by omega)]
  rw [hkept]
  have hr : (((n.log2 : Int) - 52) - -1074).toNat = n.log2 + 1022 := by omega
  rw [hr]
  unfold Format.word rungOf
  rw [if_neg (by decide), Nat.min_eq_left]
  omega
theorem dbl_pos {n : Nat} (h0 : 0 < n) (h : n.log2 ≤ 52) : dbl n = rungOf n := by
  have := nearest_exact n 0 h0 h
  rw [Nat.pow_zero, Nat.mul_one, show (-((0 : Nat) : Int)) = 0 from rfl] at this
  rw [← this]
  unfold dbl Go.FloatKind.nearest Go.FloatKind.encode Go.FloatKind.format Format.write
  simp only
  rw [decide_eq_false (by omega), Int.natAbs_natCast]
theorem dbl_zero : dbl 0 = 0 := by decide +kernel
theorem log2_le {n : Nat} (h : n < 2 ^ 53) : n.log2 ≤ 52 := by
  by_cases h0 : n = 0
  · subst h0; decide
  · have := (Nat.log2_lt h0).2 h
    omega
theorem read_pos {n : Nat} (h0 : 0 < n) (h : n < 2 ^ 53) : double.read (dbl n) = .number false (n * 2 ^ (52 - n.log2)) ((n.log2 : Int) - 52) := by
  have hl := log2_le h
  obtain ⟨b1, b2⟩ := sig_bounds n h0 hl
  rw [dbl_pos h0 hl]
  obtain ⟨r, hr⟩ : ∃ r, n * 2 ^ (52 - n.log2) = 2 ^ 52 + r := ⟨n * 2 ^ (52 - n.log2) - 2 ^ 52, by omega⟩
  have e : rungOf n = (n.log2 + 1023) * 2 ^ 52 + r := by
    unfold rungOf
    rw [hr]
    omega
  rw [hr, e]
  generalize hL : n.log2 = L at *
  have hrl : r < 2 ^ 52 := by omega
  have hw : double.signWeight = 2 ^ 63 := rfl
  have hbin : double.binade = 2 ^ 52 := rfl
  have hinf : double.infRung = 2047 * 2 ^ 52 := by decide
  have hlp : double.leastPlace = -1074 := by decide
  have s1 : (L + 1023) * 2 ^ 52 + r < 2 ^ 63 := by omega
  unfold Format.read
  simp only [hw, hbin, hinf, hlp]
  rw [Nat.div_eq_of_lt s1, Nat.mod_eq_of_lt s1]
  rw [if_neg (by omega), if_pos (by omega)]
  have d1 : ((L + 1023) * 2 ^ 52 + r) / 2 ^ 52 = L + 1023 := by omega
  have d2 : ((L + 1023) * 2 ^ 52 + r) % 2 ^ 52 = r := by omega
  rw [d1, d2]
  simp only [Datum.number.injEq, true_and]
  refine ⟨by decide, ?_⟩
  omega
theorem read_zero : double.read (dbl 0) = .number false 0 (-1074) := by rw [dbl_zero]; decide +kernel
theorem read_dbl {n : Nat} (h : n < 2 ^ 53) : ∃ m i, double.read (dbl n) = .number false m i ∧ i ≤ 0 ∧ ((0 < n → -52 ≤ i) ∧ (n = 0 → m = 0)) ∧ ∀ base : Int, base ≤ i → signed false m (i - base).toNat = ((n * 2 ^ (-base).toNat : Nat) : Int) := by
  by_cases h0 : n = 0
  · subst h0
    refine ⟨0, -1074, read_zero, by omega, ⟨fun h => by omega, fun _ => rfl⟩, fun base _ => ?_⟩
    unfold signed
    simp
  · have hl := log2_le h
    refine ⟨_, _, read_pos (by omega) h, by omega, ⟨fun _ => by omega, fun hz => absurd hz h0⟩, fun base hb => ?_⟩
    unfold signed
    rw [if_neg (by decide), Nat.shiftLeft_eq, Nat.mul_assoc, ← Nat.pow_add]
    congr 3
    omega
theorem add_dbl {a b : Nat} (h : a + b < 2 ^ 53) : double.add (dbl a) (dbl b) = some (dbl (a + b)) := by
  obtain ⟨m, i, r1, hi, ⟨hi2, hm⟩, e1⟩ := read_dbl (n := a) (by omega)
  obtain ⟨n, j, r2, hj, ⟨hj2, hn⟩, e2⟩ := read_dbl (n := b) (by omega)
  unfold Format.add
  rw [r1, r2]
  simp only [Datum.sum, Option.map_some, Option.some.injEq]
  have f1 := e1 (min i j) (Int.min_le_left _ _)
  have f2 := e2 (min i j) (Int.min_le_right _ _)
  rw [f1, f2]
  generalize hk : (-(min i j)).toNat = k at *
  have hb : min i j = -(k : Int) := by omega
  have ht : ((a * 2 ^ k : Nat) : Int) + ((b * 2 ^ k : Nat) : Int) = (((a + b) * 2 ^ k : Nat) : Int) := by rw [Nat.add_mul]; omega
  rw [ht, hb]
  by_cases hz : a + b = 0
  · have e : (a + b) * 2 ^ k = 0 := by rw [hz]; simp
    rw [e, hz, dbl_zero]
    simp [Format.write, Format.nearest, Format.word]
  · have hp : 0 < 2 ^ k := Nat.pow_pos (by omega)
    have hpos : 0 < (a + b) * 2 ^ k := Nat.mul_pos (by omega) hp
    rw [if_neg (by omega), decide_eq_false (by omega), Int.natAbs_natCast]
    show double.nearest false ((a + b) * 2 ^ k) (-(k : Int)) = _
    rw [nearest_exact (a + b) k (by omega) (log2_le h), dbl_pos (by omega) (log2_le h)]
end Wb
