/- TrF TrA TrB TrD TrTc TrYa PaP PaM. -/
import GoSem.Core.Float
import Derived.Test.YtlcjepnaljfpkaaProg
import Derived.Laws.ComplexArith
import Derived.Laws.Cover2
import Derived.Laws.Cover3
import Derived.Deep.RegionWith
import Derived.Test.YtlcjepnaljfpkaaQe1
import Derived.Test.YtlcjepnaljfpkaaQe2
import Derived.Test.YtlcjepnaljfpkaaQe3
namespace Wb
open Ieee
def dbl (n : Nat) : Nat := Go.FloatKind.f64.nearest (n : Int)
theorem cut_none (n : Nat) : Toward.even.cut false n 0 = n := by
  unfold Toward.cut
  simp [Nat.mod_one]
theorem cut_shift (n d : Nat) (hn : 0 < n) : Toward.even.cut false (n * 2 ^ d) d = n := by
  have hl : d ≤ (n * 2 ^ d).log2 + 2 := by
    have h1 : 2 ^ d ≤ n * 2 ^ d := Nat.le_mul_of_pos_left _ hn
    have h2 := (Nat.le_log2 (by have := Nat.pow_pos (n := d) (show 0 < 2 by omega); have := Nat.mul_pos hn this; omega)).2 h1
    omega
  unfold Toward.cut
  rw [Nat.min_eq_left hl]
  have hg : 1 <<< d = 2 ^ d := by rw [Nat.shiftLeft_eq, Nat.one_mul]
  have hp : 0 < 2 ^ d := Nat.pow_pos (by omega)
  simp only [hg, Nat.mul_mod_left, Nat.mul_div_cancel _ hp]
  have h0 : ¬ 2 ^ d < 2 * 0 := by omega
  have h1 : ¬ 2 ^ d = 2 * 0 := by omega
  simp [h0]
def rungOf (n : Nat) : Nat := (n.log2 + 1022) * 2 ^ 52 + n * 2 ^ (52 - n.log2)
theorem sig_bounds (n : Nat) (h0 : 0 < n) (h : n.log2 ≤ 52) : 2 ^ 52 ≤ n * 2 ^ (52 - n.log2) ∧ n * 2 ^ (52 - n.log2) < 2 ^ 53 := by
  have h1 : 2 ^ n.log2 ≤ n := Nat.log2_self_le (by omega)
  have h2 : n < 2 ^ (n.log2 + 1) := Nat.lt_log2_self
  have e1 : 2 ^ 52 = 2 ^ n.log2 * 2 ^ (52 - n.log2) := by rw [← Nat.pow_add]; congr 1; omega
  have e2 : 2 ^ 53 = 2 ^ (n.log2 + 1) * 2 ^ (52 - n.log2) := by rw [← Nat.pow_add]; congr 1; omega
  have hp : 0 < 2 ^ (52 - n.log2) := Nat.pow_pos (by omega)
  constructor
  · rw [e1]; exact Nat.mul_le_mul_right _ h1
  · rw [e2]; exact Nat.mul_lt_mul_of_pos_right h2 hp
theorem log2_shift (n k : Nat) (h0 : 0 < n) : (n * 2 ^ k).log2 = n.log2 + k := by
  have h1 : 2 ^ n.log2 ≤ n := Nat.log2_self_le (by omega)
  have h2 : n < 2 ^ (n.log2 + 1) := Nat.lt_log2_self
  have hp : 0 < 2 ^ k := Nat.pow_pos (by omega)
  have hne : n * 2 ^ k ≠ 0 := by have := Nat.mul_pos h0 hp; omega
  apply Nat.le_antisymm
  · have : n * 2 ^ k < 2 ^ (n.log2 + k + 1) := by
      rw [show n.log2 + k + 1 = (n.log2 + 1) + k from by omega, Nat.pow_add]
      exact Nat.mul_lt_mul_of_pos_right h2 hp
    have := (Nat.log2_lt hne).2 this
    omega
  · exact (Nat.le_log2 hne).2 (by rw [Nat.pow_add]; exact Nat.mul_le_mul_right _ h1)
theorem nearest_exact (n k : Nat) (h0 : 0 < n) (h : n.log2 ≤ 52) : double.nearest false (n * 2 ^ k) (-(k : Int)) = rungOf n := by
  have hp : 0 < 2 ^ k := Nat.pow_pos (by omega)
  have hne : n * 2 ^ k ≠ 0 := by have := Nat.mul_pos h0 hp; omega
  have hl := log2_shift n k h0
  obtain ⟨b1, b2⟩ := sig_bounds n h0 h
  have hfb : double.fractionBits = 52 := rfl
  have hlp : double.leastPlace = -1074 := by decide
  have hbin : double.binade = 2 ^ 52 := rfl
  have hinf : double.infRung = 2047 * 2 ^ 52 := by decide
  unfold Format.nearest
  rw [if_neg hne, hl]
  simp only [hfb, hlp, hbin, hinf]
  have hlast : max (-(k : Int) + ((n.log2 + k : Nat) : Int) - (52 : Nat)) (-1074) = (n.log2 : Int) - 52 := by omega
  rw [hlast]
  have hkept : Toward.even.cut false ((n * 2 ^ k) <<< (-(k : Int) - ((n.log2 : Int) - 52)).toNat) (((n.log2 : Int) - 52) - -(k : Int)).toNat = n * 2 ^ (52 - n.log2) := by
    by_cases hc : k ≤ 52 - n.log2
    · have e1 : (-(k : Int) - ((n.log2 : Int) - 52)).toNat = 52 - n.log2 - k := by omega
      have e2 : (((n.log2 : Int) - 52) - -(k : Int)).toNat = 0 := by omega
      rw [e1, e2, cut_none, Nat.shiftLeft_eq, Nat.mul_assoc, ← Nat.pow_add]
      congr 2
      omega
    · have e1 : (-(k : Int) - ((n.log2 : Int) - 52)).toNat = 0 := by omega
      have e2 : (((n.log2 : Int) - 52) - -(k : Int)).toNat = k - (52 - n.log2) := by omega
      have e3 : n * 2 ^ k = (n * 2 ^ (52 - n.log2)) * 2 ^ (k - (52 - n.log2)) := by
        rw [Nat.mul_assoc, ← Nat.pow_add]
        congr 2
        omega
      rw [e1, e2, Nat.shiftLeft_zero, e3, cut_shift _ _ (by omega)]
  rw [hkept]
  have hr : (((n.log2 : Int) - 52) - -1074).toNat = n.log2 + 1022 := by omega
  rw [hr]
  unfold Format.word rungOf
  rw [if_neg (by decide), Nat.min_eq_left]
  omega
theorem dbl_pos {n : Nat} (h0 : 0 < n) (h : n.log2 ≤ 52) : dbl n = rungOf n := by
  have := nearest_exact n 0 h0 h
  rw [Nat.pow_zero, Nat.mul_one, show (-((0 : Nat) : Int)) = 0 from rfl] at this
  rw [← this]
  unfold dbl Go.FloatKind.nearest Go.FloatKind.encode Go.FloatKind.format Format.write
  simp only
  rw [decide_eq_false (by omega), Int.natAbs_natCast]
theorem dbl_zero : dbl 0 = 0 := by decide +kernel
theorem log2_le {n : Nat} (h : n < 2 ^ 53) : n.log2 ≤ 52 := by
  by_cases h0 : n = 0
  · subst h0; decide
  · have := (Nat.log2_lt h0).2 h
    omega
theorem read_pos {n : Nat} (h0 : 0 < n) (h : n < 2 ^ 53) : double.read (dbl n) = .number false (n * 2 ^ (52 - n.log2)) ((n.log2 : Int) - 52) := by
  have hl := log2_le h
  obtain ⟨b1, b2⟩ := sig_bounds n h0 hl
  rw [dbl_pos h0 hl]
  obtain ⟨r, hr⟩ : ∃ r, n * 2 ^ (52 - n.log2) = 2 ^ 52 + r := ⟨n * 2 ^ (52 - n.log2) - 2 ^ 52, by omega⟩
  have e : rungOf n = (n.log2 + 1023) * 2 ^ 52 + r := by
    unfold rungOf
    rw [hr]
    omega
  rw [hr, e]
  generalize hL : n.log2 = L at *
  have hrl : r < 2 ^ 52 := by omega
  have hw : double.signWeight = 2 ^ 63 := rfl
  have hbin : double.binade = 2 ^ 52 := rfl
  have hinf : double.infRung = 2047 * 2 ^ 52 := by decide
  have hlp : double.leastPlace = -1074 := by decide
  have s1 : (L + 1023) * 2 ^ 52 + r < 2 ^ 63 := by omega
  unfold Format.read
  simp only [hw, hbin, hinf, hlp]
  rw [Nat.div_eq_of_lt s1, Nat.mod_eq_of_lt s1]
  rw [if_neg (by omega), if_pos (by omega)]
  have d1 : ((L + 1023) * 2 ^ 52 + r) / 2 ^ 52 = L + 1023 := by omega
  have d2 : ((L + 1023) * 2 ^ 52 + r) % 2 ^ 52 = r := by omega
  rw [d1, d2]
  simp only [Datum.number.injEq, true_and]
  refine ⟨by decide, ?_⟩
  omega
theorem read_zero : double.read (dbl 0) = .number false 0 (-1074) := by rw [dbl_zero]; decide +kernel
theorem read_dbl {n : Nat} (h : n < 2 ^ 53) : ∃ m i, double.read (dbl n) = .number false m i ∧ i ≤ 0 ∧ ((0 < n → -52 ≤ i) ∧ (n = 0 → m = 0)) ∧ ∀ base : Int, base ≤ i → signed false m (i - base).toNat = ((n * 2 ^ (-base).toNat : Nat) : Int) := by
  by_cases h0 : n = 0
  · subst h0
    refine ⟨0, -1074, read_zero, by omega, ⟨fun h => by omega, fun _ => rfl⟩, fun base _ => ?_⟩
    unfold signed
    simp
  · have hl := log2_le h
    refine ⟨_, _, read_pos (by omega) h, by omega, ⟨fun _ => by omega, fun hz => absurd hz h0⟩, fun base hb => ?_⟩
    unfold signed
    rw [if_neg (by decide), Nat.shiftLeft_eq, Nat.mul_assoc, ← Nat.pow_add]
    congr 3
    omega
theorem add_dbl {a b : Nat} (h : a + b < 2 ^ 53) : double.add (dbl a) (dbl b) = some (dbl (a + b)) := by
  obtain ⟨m, i, r1, hi, ⟨hi2, hm⟩, e1⟩ := read_dbl (n := a) (by omega)
  obtain ⟨n, j, r2, hj, ⟨hj2, hn⟩, e2⟩ := read_dbl (n := b) (by omega)
  unfold Format.add
  rw [r1, r2]
  simp only [Datum.sum, Option.map_some, Option.some.injEq]
  have f1 := e1 (min i j) (Int.min_le_left _ _)
  have f2 := e2 (min i j) (Int.min_le_right _ _)
  rw [f1, f2]
  generalize hk : (-(min i j)).toNat = k at *
  have hb : min i j = -(k : Int) := by omega
  have ht : ((a * 2 ^ k : Nat) : Int) + ((b * 2 ^ k : Nat) : Int) = (((a + b) * 2 ^ k : Nat) : Int) := by rw [Nat.add_mul]; omega
  rw [ht, hb]
  by_cases hz : a + b = 0
  · have e : (a + b) * 2 ^ k = 0 := by rw [hz]; simp
    rw [e, hz, dbl_zero]
    simp [Format.write, Format.nearest, Format.word]
  · have hp : 0 < 2 ^ k := Nat.pow_pos (by omega)
    have hpos : 0 < (a + b) * 2 ^ k := Nat.mul_pos (by omega) hp
    rw [if_neg (by omega), decide_eq_false (by omega), Int.natAbs_natCast]
    show double.nearest false ((a + b) * 2 ^ k) (-(k : Int)) = _
    rw [nearest_exact (a + b) k (by omega) (log2_le h), dbl_pos (by omega) (log2_le h)]
theorem order_dbl {a b : Nat} (ha : a < 2 ^ 53) (hb : b < 2 ^ 53) : double.order (dbl a) (dbl b) = some (compare (a : Int) (b : Int)) := by
  obtain ⟨m, i, r1, hi, ⟨hi2, hm⟩, e1⟩ := read_dbl ha
  obtain ⟨n, j, r2, hj, ⟨hj2, hn⟩, e2⟩ := read_dbl hb
  unfold Format.order
  rw [r1, r2]
  simp only [Datum.order, Option.some.injEq]
  rw [e1 (min i j) (Int.min_le_left _ _), e2 (min i j) (Int.min_le_right _ _)]
  generalize (-(min i j)).toNat = k
  have hp : 0 < 2 ^ k := Nat.pow_pos (by omega)
  rcases Nat.lt_trichotomy a b with h | h | h
  · have h1 : a * 2 ^ k < b * 2 ^ k := Nat.mul_lt_mul_of_pos_right h hp
    rw [show compare (a : Int) (b : Int) = .lt from by rw [Int.compare_eq_lt]; omega, Int.compare_eq_lt]
    omega
  · subst h
    rw [show compare (a : Int) (a : Int) = .eq from by rw [Int.compare_eq_eq], Int.compare_eq_eq]
  · have h1 : b * 2 ^ k < a * 2 ^ k := Nat.mul_lt_mul_of_pos_right h hp
    rw [show compare (a : Int) (b : Int) = .gt from by rw [Int.compare_eq_gt]; omega, Int.compare_eq_gt]
    omega
end Wb
namespace Go.Proofs.Ytlcjepnaljfpkaa
open Go.RowKit Wb
def cst (a b : Nat) : Value := .complex .f64 (dbl a) (dbl b)
theorem cst_add (P : Program) {a b c d : Nat} (h1 : a + c < 2 ^ 53) (h2 : b + d < 2 ^ 53) (t : TypeId) (w : World) :
    (binOp .add t (cst a b) (cst c d)).run P w = .ok (cst (a + c) (b + d)) w := by
  refine run_complex_sum w .add (.inl rfl) t .f64 _ _ _ _ _ _ ?_
  unfold cSumBits floatBits
  show (Option.bind (Ieee.double.add (dbl a) (dbl c)) fun re => Option.bind (Ieee.double.add (dbl b) (dbl d)) fun im => some (re, im)) = _
  rw [add_dbl h1, add_dbl h2]
  rfl
theorem cst_zero : cst 0 0 = .complex .f64 0 0 := by unfold cst; rw [dbl_zero]
theorem dbl_one : dbl 1 = 4607182418800017408 := by decide +kernel
theorem cst_one : cst 1 0 = .complex .f64 4607182418800017408 0 := by unfold cst; rw [dbl_zero, dbl_one]
theorem cst_bytes (n : Nat) : (Value.complex .f64 0 (floatOfInt .f64 (n : Int))) = cst 0 n := by unfold cst; rw [dbl_zero]; rfl
def sumSz (l : List ByteArray) : Nat := (l.map ByteArray.size).sum
theorem sumSz_step {l : List ByteArray} {k : Nat} {s : ByteArray} (h : l[k]? = some s) : sumSz (l.take (k + 1)) = sumSz (l.take k) + s.size := by
  unfold sumSz
  rw [List.take_add_one, h]
  simp
theorem sumSz_le (l : List ByteArray) (k : Nat) : sumSz (l.take k) ≤ sumSz l := by
  unfold sumSz
  conv => rhs; rw [← List.take_append_drop k l]
  rw [List.map_append, List.sum_append]
  omega
def cells1 (l : List ByteArray) : List Value := l.map .string
set_option maxHeartbeats 1000000 in
theorem bytes_any (A : Option Addr) (l : List ByteArray) (c : Nat) (w : World) (hl : l.length ≤ 1000) (hs : sumSz l < 2 ^ 53) (hA : Sl w 1 A l.length (cells1 l)) :
    Calls Try.prog 54 #[.slice A l.length c] w fun e w' => e = .returned (cst 0 (sumSz l)) ∧ w = w' := by
  have H0 := Lib.hid cst_zero
  go_enter Try.func54, Try.ntmps54
  rw [← H0.out]
  go_wp2
  go_loop [3, 8] (fun vs vi => ∃ k : Nat, k ≤ l.length ∧ vi = .int .i64 k ∧ vs = cst 0 (sumSz (l.take k))) (fun _ vi => ((l.length : Int) - intOf vi).toNat)
  case atStart => exact ⟨0, by omega, rfl, rfl⟩
  case round =>
    obtain ⟨k, hk, rfl, rfl⟩ := hrel
    by_cases h0 : k < l.length
    · obtain ⟨s, he⟩ : ∃ s, l[k]? = some s := ⟨l[k], List.getElem?_eq_getElem h0⟩
      obtain ⟨ad, rfl, hb, hc⟩ := hA.2 (by omega)
      have hcell := hc k (.string s) (by unfold cells1; rw [List.getElem?_map, he]; rfl)
      have hst := sumSz_step he
      have hle := sumSz_le l (k + 1)
      have hadd : ∀ (t : TypeId) (w : World), (binOp .add t (cst 0 (sumSz (l.take k))) (.complex .f64 0 (floatOfInt .f64 (s.size : Int)))).run Try.prog w = .ok (cst 0 (sumSz (l.take (k + 1)))) w := fun t w => by
        rw [cst_bytes, cst_add Try.prog (by omega) (by omega), hst]
      clear hc hst hle he
      go_wp2_with (simp only [hadd])
      go_round
      case rel => exact ⟨k + 1, by omega, by go_num, rfl⟩
      case measure => simp [intOf]; omega
    · have : k = l.length := by omega
      subst this
      rw [List.take_length]
      go_wp2
      go_ret
      exact ⟨rfl, rfl⟩
end Go.Proofs.Ytlcjepnaljfpkaa
namespace Go.Proofs.Ytlcjepnaljfpkaa
open Go.RowKit Wb
theorem Sl1.built (w : World) (l : List ByteArray) (T : TypeId) : Sl (w.alloc (.cells (cells1 l).toArray T)) 1 (some ⟨w.heap.size, 0, none⟩) l.length (cells1 l) := by
  refine ⟨by simp [cells1], fun _ => ⟨_, rfl, by simp, fun j u hu => ?_⟩⟩
  have e : (⟨w.heap.size, 0, none⟩ : Addr).add j = ⟨w.heap.size, j, none⟩ := by unfold Addr.add; split <;> simp_all
  rw [e]
  have hj := (List.getElem?_eq_some_iff.1 hu).1
  have hblk : (w.alloc (.cells (cells1 l).toArray T)).heap[w.heap.size]? = some (.cells (cells1 l).toArray T (0, 0)) := by
    show (w.heap.push _)[w.heap.size]? = _
    simp
  simp only [World.cell?, hblk]
  simpa using hu
theorem attrsS_step {l : List Tr} {k : Nat} {x : Tr} (h : l[k]? = some x) : attrsS (l.take (k + 1)) = attrsS (l.take k) + (x.1.1.size + x.1.2.size + x.2.size) := by
  unfold attrsS
  rw [List.take_add_one, h]
  simp [attrS]
theorem attrsS_le (l : List Tr) (k : Nat) : attrsS (l.take k) ≤ attrsS l := by
  unfold attrsS
  conv => rhs; rw [← List.take_append_drop k l]
  rw [List.map_append, List.sum_append]
  omega
set_option maxHeartbeats 1000000 in
theorem own_any (n : Nd) (A K : Option Addr) (ca ck : Nat) (w : World) (hA : Sl3 w A n.attrs) (hl : n.attrs.length ≤ 1000000) (hb : ownB n < 2 ^ 52) :
    Calls Try.prog 41 #[ndV n A ca K ck] w fun e w' => e = .returned (cst 1 (ownB n)) ∧ Below w.heap.size w w' := by
  obtain ⟨kd, ⟨sp, lo⟩, al, ks, tx⟩ := n
  have H0 := Lib.hid cst_zero
  have H1 := Lib.hid cst_one
  by_cases hk : kd = 1
  · subst hk
    have ho : ownB (.mk 1 (sp, lo) al ks tx) = sp.size + lo.size + attrsS al := by unfold ownB; rw [if_pos (show (Nd.mk 1 (sp, lo) al ks tx).kind = 1 from rfl)]; rfl
    rw [ho] at hb ⊢
    simp only [Nd.attrs] at hl hA
    have hadd1 : ∀ (t : TypeId) (w : World), (binOp .add t (.complex .f64 4607182418800017408 0) (cst 0 (sp.size + lo.size))).run Try.prog w = .ok (cst 1 (sp.size + lo.size)) w := fun t w => by
      rw [← H1.out, cst_add Try.prog (by omega) (by omega), Nat.zero_add]
    clear ho
    unfold ndV ndCells
    simp only [Nd.kind, Nd.name, Nd.attrs, Nd.kids, Nd.text]
    go_enter Try.func41, Try.ntmps41
    go_wp2_with fail
    refine (bytes_any _ [sp, lo] 2 _ (by simp) (by simp [sumSz]; omega) (by have h := Sl1.built (w.alloc (.cells #[.int .i64 1, .string sp, .string lo, .slice A al.length ca, .slice K ks.length ck, .string tx] 27)) [sp, lo] 9; simpa [cells1] using h)).mono ?_
    rintro e w' ⟨rfl, rfl⟩
    rw [show sumSz [sp, lo] = sp.size + lo.size from by simp [sumSz]]
    go_wp2
    go_loopw [3, 26] (fun vs vi wr => ∃ k : Nat, k ≤ al.length ∧ vi = .int .i64 k ∧ vs = cst 1 (sp.size + lo.size + attrsS (al.take k)) ∧ Below w.heap.size w wr) (fun _ vi _ => ((al.length : Int) - intOf vi).toNat)
    case atStart => exact ⟨0, by omega, rfl, by simp [attrsS], ((Below.refl _ w).alloc (Nat.le_refl _) _).alloc (by simp) _⟩
    case round =>
      obtain ⟨k, hk, rfl, rfl, hbw⟩ := hrel
      by_cases h0 : k < al.length
      · obtain ⟨⟨⟨a1, a2⟩, a3⟩, he⟩ : ∃ x, al[k]? = some x := ⟨al[k], List.getElem?_eq_getElem h0⟩
        obtain ⟨ad, rfl, had, c1, c2, c3⟩ := (hA.below hbw).at_ he
        have hst := attrsS_step he
        simp only at hst c1 c2 c3
        have hle := attrsS_le al (k + 1)
        have hadd2 : ∀ (t : TypeId) (w : World), (binOp .add t (cst 1 (sp.size + lo.size + attrsS (al.take k))) (cst 0 (a1.size + a2.size + a3.size))).run Try.prog w = .ok (cst 1 (sp.size + lo.size + attrsS (al.take (k + 1)))) w := fun t w => by
          rw [cst_add Try.prog (by omega) (by omega), hst, Nat.add_zero]
          congr 2
          omega
        have hsum : a1.size + a2.size + a3.size < 2 ^ 53 := by omega
        clear hst hle he had hadd1
        go_wp2_with fail
        refine (bytes_any _ [a1, a2, a3] 3 _ (by simp) (by simp [sumSz]; omega) (by have h := Sl1.built (wr.alloc (.cells #[.string a1, .string a2, .string a3] 29)) [a1, a2, a3] 9; simpa [cells1] using h)).mono ?_
        rintro e w' ⟨rfl, rfl⟩
        rw [show sumSz [a1, a2, a3] = a1.size + a2.size + a3.size from by simp [sumSz]; omega]
        go_wp2
        go_roundw
        case rel => exact ⟨k + 1, by omega, by go_num, rfl, (hbw.alloc hbw.size _).alloc (by have := hbw.size; simp; omega) _⟩
        case measure => simp [intOf]; omega
      · have : k = al.length := by omega
        subst this
        rw [List.take_length]
        go_wp2
        go_ret
        exact ⟨rfl, hbw⟩
  · have hk' : (kd == 1) = false := by simpa using hk
    have ho : ownB (.mk kd (sp, lo) al ks tx) = tx.size := by unfold ownB; rw [if_neg (by simpa [Nd.kind] using hk)]; rfl
    rw [ho] at hb ⊢
    have hadd : ∀ (t : TypeId) (w : World), (binOp .add t (.complex .f64 4607182418800017408 0) (cst 0 (tx.size))).run Try.prog w = .ok (cst 1 tx.size) w := fun t w => by
      rw [← H1.out, cst_add Try.prog (by omega) (by omega), Nat.zero_add]
    clear hk ho hA hl
    unfold ndV ndCells
    simp only [Nd.kind, Nd.name, Nd.attrs, Nd.kids, Nd.text]
    go_enter Try.func41, Try.ntmps41
    go_wp2_with fail
    refine (bytes_any _ [tx] 1 _ (by simp) (by simp [sumSz]; omega) (by have h := Sl1.built (w.alloc (.cells #[.int .i64 kd, .string sp, .string lo, .slice A al.length ca, .slice K ks.length ck, .string tx] 27)) [tx] 9; simpa [cells1] using h)).mono ?_
    rintro e w' ⟨rfl, rfl⟩
    rw [show sumSz [tx] = tx.size from by simp [sumSz]]
    go_wp2
    go_ret
    exact ⟨rfl, ((Below.refl _ w).alloc (Nat.le_refl _) _).alloc (by simp) _⟩
end Go.Proofs.Ytlcjepnaljfpkaa
namespace Go.Proofs.Ytlcjepnaljfpkaa
open Go.RowKit Wb
set_option maxHeartbeats 2000000 in
theorem cost_any (n : Nd) : ∀ (A K : Option Addr) (ca ck : Nat) (w : World), NodeV w n A K → smallN n → costN n + costB n < 2 ^ 52 →
    Calls Try.prog 17 #[ndV n A ca K ck] w fun e w' => e = .returned (cst (costN n) (costB n)) ∧ Below w.heap.size w w' := by
  induction n using Nd.induct with
  | h n ih =>
    intro A K ca ck w hV hsm hb
    obtain ⟨hA, hK⟩ := hV
    obtain ⟨s1, s2, s3⟩ := (smallN_is n).1 hsm
    have hO := own_any n A K ca ck (w.alloc (.cells (ndCells n.kind n.name A n.attrs.length ca K n.kids.length ck n.text).toArray 27)) (Sl.alloc hA _) s1 (by rw [costB_is] at hb; omega)
    have IH := Lib.hid ih
    have S3 := Lib.hid s3
    rw [costN_is, costB_is] at hb ⊢
    obtain ⟨kd, ⟨sp, lo⟩, al, ks, tx⟩ := n
    generalize ownB (.mk kd (sp, lo) al ks tx) = ob at hb hO ⊢
    simp only [Nd.kids] at hb IH S3 hK s2 ⊢
    unfold ndV ndCells at hO ⊢
    simp only [Nd.kind, Nd.name, Nd.attrs, Nd.kids, Nd.text] at hO ⊢
    clear ih hsm s3 s1 hA
    go_enter Try.func17, Try.ntmps17
    go_wp2_with fail
    refine hO.mono ?_
    rintro e w1 ⟨rfl, hb1⟩
    have hbw := ((Below.refl w.heap.size w).alloc (Nat.le_refl _) _).trans (hb1.mono (by simp))
    clear hO
    have hbx : w1.heap[w.heap.size]? = some (.cells #[.int .i64 kd, .string sp, .string lo, .slice A al.length ca, .slice K ks.length ck, .string tx] 27 (0, 0)) :=
      (hb1.block _ (by simp)).trans (by show (w.heap.push _)[w.heap.size]? = _; simp)
    have c4 : w1.cell? ⟨w.heap.size, 4, none⟩ = some (.slice K ks.length ck) := by simp [World.cell?, hbx]
    clear hbx hb1
    go_wp2
    go_loopw [3, 11] (fun vs vi wr => ∃ k : Nat, k ≤ ks.length ∧ vi = .int .i64 k ∧ vs = cst (1 + costNs (ks.take k)) (ob + costBs (ks.take k)) ∧ Below w.heap.size w wr) (fun _ vi _ => ((ks.length : Int) - intOf vi).toNat)
    case atStart => exact ⟨0, by omega, rfl, rfl, hbw⟩
    case round =>
      obtain ⟨k, hk, rfl, rfl, hbr⟩ := hrel
      by_cases h0 : k < ks.length
      · obtain ⟨x, he⟩ : ∃ x, ks[k]? = some x := ⟨ks[k], List.getElem?_eq_getElem h0⟩
        obtain ⟨ad, A1, ca1, K1, ck1, rfl, had, d0, d1, d2, d3, d4, d5, hA1, hK1⟩ := (hK.below hbr).at_ he
        obtain ⟨t1, t2⟩ := costs_take he
        obtain ⟨t3, t4⟩ := costs_le ks (k + 1)
        have hI := IH.out x (List.mem_of_getElem? he) A1 K1 ca1 ck1 (wr.alloc (.cells (ndCells x.kind x.name A1 x.attrs.length ca1 K1 x.kids.length ck1 x.text).toArray 27)) ⟨Sl.alloc hA1 _, hK1.below ((Below.refl _ _).alloc (Nat.le_refl _) _)⟩ (S3.out x (List.mem_of_getElem? he)) (by omega)
        have hadd : ∀ (t : TypeId) (w : World), (binOp .add t (cst (1 + costNs (ks.take k)) (ob + costBs (ks.take k))) (cst (costN x) (costB x))).run Try.prog w = .ok (cst (1 + costNs (ks.take (k + 1))) (ob + costBs (ks.take (k + 1)))) w := fun t w => by
          rw [cst_add Try.prog (by omega) (by omega), t1, t2]
          congr 2 <;> omega
        unfold ndV ndCells at hI
        clear t1 t2 t3 t4 he had hA1 hK1 c4
        go_wp2_with fail
        refine hI.mono ?_
        rintro e w2 ⟨rfl, hb2⟩
        clear hI
        have hb3 := ((Below.refl wr.heap.size wr).alloc (Nat.le_refl _) _).trans (hb2.mono (by simp))
        go_wp2
        go_roundw
        case rel => exact ⟨k + 1, by omega, by go_num, rfl, hbr.trans (hb3.mono hbr.size)⟩
        case measure => simp [intOf]; omega
      · have : k = ks.length := by omega
        subst this
        rw [List.take_length]
        go_wp2
        go_ret
        exact ⟨rfl, hbr⟩
end Go.Proofs.Ytlcjepnaljfpkaa
namespace Wb
mutual
/-- No text of it is long. -/
def szN : Nd → Prop
  | .mk _ n al ks t => n.1.size ≤ 1000000000 ∧ n.2.size ≤ 1000000000 ∧ (∀ a ∈ al, a.1.1.size ≤ 1000000000 ∧ a.1.2.size ≤ 1000000000 ∧ a.2.size ≤ 1000000000) ∧ t.size ≤ 1000000000 ∧ szKs ks
def szKs : List Nd → Prop
  | [] => True
  | k :: ks => szN k ∧ szKs ks
end
theorem szKs_iff : ∀ ks : List Nd, szKs ks ↔ ∀ k ∈ ks, szN k
  | [] => by simp [szKs]
  | k :: ks => by simp [szKs, szKs_iff ks]
end Wb
namespace Go.Proofs.Ytlcjepnaljfpkaa
open Go.RowKit Wb
end Go.Proofs.Ytlcjepnaljfpkaa
namespace Go.Proofs.Ytlcjepnaljfpkaa
open Go.RowKit Wb
theorem own_base {w : World} {base base' sz n : Nat} {e : TypeId} {v : Value} {xs : List Value} (h : w.ownsRow base e sz v n xs) (hb : base' ≤ base) : w.ownsRow base' e sz v n xs := by
  refine ⟨h.1, ?_⟩
  rcases h.2 with h2 | ⟨g, cap, cur, a, b, rest⟩
  · exact .inl h2
  · exact .inr ⟨g, cap, cur, a, Nat.le_trans hb b, rest⟩
end Go.Proofs.Ytlcjepnaljfpkaa
namespace Wb
def Nd.withKids (n : Nd) (ks : List Nd) : Nd := .mk n.kind n.name n.attrs ks n.text
theorem Nd.kids_with (n : Nd) (ks : List Nd) : (n.withKids ks).kids = ks := rfl
theorem Nd.eta (n : Nd) : Nd.mk n.kind n.name n.attrs n.kids n.text = n := by cases n; rfl
def atP : Nd → List Int → Option Nd
  | n, [] => some n
  | n, p :: ps => if p < 0 then none else match n.kids[p.toNat]? with
    | some k => atP k ps
    | none => none
theorem atP_cons (n : Nd) (p : Int) (ps : List Int) : atP n (p :: ps) = if p < 0 then none else match n.kids[p.toNat]? with | some k => atP k ps | none => none := rfl
def chP (f : Nd → Option Nd) : Nd → List Int → Option Nd
  | n, [] => if n.kind = 1 then f n else none
  | n, p :: ps => if p < 0 then none else match n.kids[p.toNat]? with
    | some k => (chP f k ps).map fun k' => n.withKids (n.kids.set p.toNat k')
    | none => none
theorem chP_cons (f : Nd → Option Nd) (n : Nd) (p : Int) (ps : List Int) : chP f n (p :: ps) = if p < 0 then none else match n.kids[p.toNat]? with | some k => (chP f k ps).map fun k' => n.withKids (n.kids.set p.toNat k') | none => none := rfl
def setP : Nd → List Int → Nd → Nd
  | _, [], x => x
  | n, p :: ps, x => match n.kids[p.toNat]? with
    | some k => n.withKids (n.kids.set p.toNat (setP k ps x))
    | none => n
theorem setP_cons (n : Nd) (p : Int) (ps : List Int) (x : Nd) : setP n (p :: ps) x = match n.kids[p.toNat]? with | some k => n.withKids (n.kids.set p.toNat (setP k ps x)) | none => n := rfl
def textsL : List Nd → List UInt8
  | [] => []
  | k :: ks => k.text.data.toList ++ textsL ks
def joinK : List Nd → List Nd
  | [] => []
  | k :: ks => if k.kind = 2 then .mk k.kind k.name k.attrs k.kids ⟨(k.text.data.toList ++ textsL (ks.takeWhile fun x => x.kind = 2)).toArray⟩ :: joinK (ks.dropWhile fun x => x.kind = 2) else k :: joinK ks
termination_by l => l.length
decreasing_by
  · have h1 := congrArg List.length (List.takeWhile_append_dropWhile (p := fun x : Nd => decide (x.kind = 2)) (l := ks))
    rw [List.length_append] at h1
    simp only [List.length_cons]
    omega
  · simp
def txEnd (ks : List Nd) (p : Nat) : Nat := p + ((ks.drop p).takeWhile fun x => x.kind = 2).length
theorem txEnd_go {ks : List Nd} {p : Nat} {x : Nd} (h : ks[p]? = some x) : txEnd ks p = if x.kind = 2 then txEnd ks (p + 1) else p := by
  obtain ⟨hp, e⟩ := List.getElem?_eq_some_iff.1 h
  unfold txEnd
  rw [List.drop_eq_getElem_cons hp, e]
  by_cases hk : x.kind = 2
  · rw [if_pos hk, List.takeWhile_cons_of_pos (by simpa using hk), List.length_cons]; omega
  · rw [if_neg hk, List.takeWhile_cons_of_neg (by simpa using hk)]; simp
theorem txEnd_end {ks : List Nd} {p : Nat} (h : ks.length ≤ p) : txEnd ks p = p := by
  unfold txEnd
  rw [List.drop_eq_nil_of_le h]; rfl
theorem txEnd_le {ks : List Nd} {p : Nat} (h : p ≤ ks.length) : p ≤ txEnd ks p ∧ txEnd ks p ≤ ks.length := by
  have h1 := congrArg List.length (List.takeWhile_append_dropWhile (p := fun x : Nd => decide (x.kind = 2)) (l := ks.drop p))
  rw [List.length_append, List.length_drop] at h1
  unfold txEnd
  omega
def noAdj : Int → List Nd → Prop
  | _, [] => True
  | a, k :: ks => ¬ (a = 2 ∧ k.kind = 2) ∧ noAdj k.kind ks
theorem joinK_same : ∀ (ks : List Nd) (a : Int), noAdj a ks → joinK ks = ks
  | [], _, _ => by rw [joinK]
  | k :: ks, a, h => by
    rw [joinK]
    obtain ⟨_, h2⟩ := h
    by_cases hk : k.kind = 2
    · rw [if_pos hk]
      have ht : ks.takeWhile (fun x => decide (x.kind = 2)) = [] := by
        cases ks with
        | nil => rfl
        | cons y ys =>
          rw [List.takeWhile_cons, if_neg]
          intro e
          exact h2.1 ⟨hk, by simpa using e⟩
      have hd : ks.dropWhile (fun x => decide (x.kind = 2)) = ks := by
        have := List.takeWhile_append_dropWhile (p := fun x : Nd => decide (x.kind = 2)) (l := ks)
        rw [ht, List.nil_append] at this
        exact this
      rw [ht, hd, joinK_same ks _ h2]
      simp only [textsL, List.append_nil]
      rw [Nd.eta]
    · rw [if_neg hk, joinK_same ks _ h2]
termination_by ks => ks.length
decreasing_by all_goals simp
theorem chP_some {f : Nd → Option Nd} : ∀ (l : List Int) (n m : Nd), chP f n l = some m → ∃ e e', atP n l = some e ∧ e.kind = 1 ∧ f e = some e' ∧ m = setP n l e'
  | [], n, m, h => by
    unfold chP at h
    by_cases hk : n.kind = 1
    · rw [if_pos hk] at h
      exact ⟨n, m, rfl, hk, h, rfl⟩
    · rw [if_neg hk] at h; cases h
  | p :: ps, n, m, h => by
    rw [chP_cons] at h
    by_cases hp : p < 0
    · rw [if_pos hp] at h; cases h
    · rw [if_neg hp] at h
      cases hk : n.kids[p.toNat]? with
      | none => rw [hk] at h; cases h
      | some k =>
        rw [hk] at h
        simp only [Option.map_eq_some_iff] at h
        obtain ⟨k', h1, h2⟩ := h
        obtain ⟨e, e', a1, a2, a3, a4⟩ := chP_some ps k k' h1
        refine ⟨e, e', by rw [atP_cons, if_neg hp, hk]; exact a1, a2, a3, ?_⟩
        rw [setP_cons, hk, ← h2, a4]
theorem setP_app : ∀ (l : List Int) (n : Nd) (p : Int) (e x : Nd), atP n l = some e → p.toNat < e.kids.length → setP n (l ++ [p]) x = setP n l (e.withKids (e.kids.set p.toNat x))
  | [], n, p, e, x, h, hl => by
    simp only [atP, Option.some.injEq] at h
    subst h
    rw [List.nil_append, setP_cons, List.getElem?_eq_getElem hl]
    rfl
  | q :: l, n, p, e, x, h, hl => by
    rw [atP_cons] at h
    by_cases hq : q < 0
    · rw [if_pos hq] at h; cases h
    · rw [if_neg hq] at h
      rw [List.cons_append, setP_cons, setP_cons]
      cases hk : n.kids[q.toNat]? with
      | none => rfl
      | some k =>
        rw [hk] at h
        simp only
        rw [setP_app l k p e x h hl]
theorem atP_else : ∀ (l o : List Int) (n x : Nd), (atP n l).isSome → ¬ (o.take l.length = l) → ¬ (l.take o.length = o) → atP (setP n l x) o = atP n o
  | [], o, n, x, _, h, _ => absurd (by simp) h
  | p :: l, [], n, x, _, _, h => absurd (by simp) h
  | p :: l, q :: o, n, x, hs, h1, h2 => by
    rw [atP_cons] at hs
    by_cases hp : p < 0
    · simp [hp] at hs
    rw [if_neg hp] at hs
    rw [setP_cons, atP_cons, atP_cons]
    cases hk : n.kids[p.toNat]? with
    | none => rfl
    | some k =>
      rw [hk] at hs
      simp only at hs ⊢
      by_cases hq : q < 0
      · rw [if_pos hq, if_pos hq]
      rw [if_neg hq, if_neg hq]
      rw [Nd.kids_with]
      by_cases e : q = p
      · subst e
        have hlt := (List.getElem?_eq_some_iff.1 hk).1
        rw [List.getElem?_set_self hlt, hk]
        exact atP_else l o k x hs (fun e => h1 (by simp [e])) (fun e => h2 (by simp [e]))
      · have hne : p.toNat ≠ q.toNat := by omega
        rw [List.getElem?_set_ne hne]
end Wb
namespace Wb
open Go Go.RowKit
def ndC (n : Nd) (av kv : Value) : List Value := [.int .i64 n.kind, .string n.name.1, .string n.name.2, av, kv, .string n.text]
mutual
/-- A node that lies in blocks from lo on, below hi, apart from one another. -/
def ownC (TA TN : TypeId) (w : World) : Nd → List Value → Nat → Nat → Prop
  | .mk k n asz ks t, cs, lo, hi => ∃ av kv css, cs = ndC (.mk k n asz ks t) av kv ∧ w.ownsRow lo TA 3 av asz.length (cells3 asz) ∧ w.ownsRow lo TN 6 kv ks.length css.flatten ∧ css.length = ks.length ∧
      (∀ b, av.ownBlock = some b → b < hi ∧ kv.ownBlock ≠ some b) ∧ (∀ b, kv.ownBlock = some b → b < hi) ∧ kidsO TA TN w (fun b => av.ownBlock = some b ∨ kv.ownBlock = some b) ks css lo hi
def kidsO (TA TN : TypeId) (w : World) (X : Nat → Prop) : List Nd → List (List Value) → Nat → Nat → Prop
  | [], css, _, _ => css = []
  | n :: ns, css, lo, hi => ∃ cs rest l h, css = cs :: rest ∧ lo ≤ l ∧ l ≤ h ∧ h ≤ hi ∧ (∀ b, l ≤ b → b < h → ¬ X b) ∧ ownC TA TN w n cs l h ∧ kidsO TA TN w X ns rest h hi
end
section
variable {TA TN : TypeId} {w w' : World}
theorem ownC_iff (n : Nd) (cs : List Value) (lo hi : Nat) : ownC TA TN w n cs lo hi ↔ ∃ av kv css, cs = ndC n av kv ∧ w.ownsRow lo TA 3 av n.attrs.length (cells3 n.attrs) ∧ w.ownsRow lo TN 6 kv n.kids.length css.flatten ∧ css.length = n.kids.length ∧
      (∀ b, av.ownBlock = some b → b < hi ∧ kv.ownBlock ≠ some b) ∧ (∀ b, kv.ownBlock = some b → b < hi) ∧ kidsO TA TN w (fun b => av.ownBlock = some b ∨ kv.ownBlock = some b) n.kids css lo hi := by
  cases n with
  | mk k n asz ks t => rw [ownC]; rfl
theorem ownC_len {n : Nd} {cs : List Value} {lo hi : Nat} (h : ownC TA TN w n cs lo hi) : cs.length = 6 := by
  obtain ⟨av, kv, css, rfl, _⟩ := (ownC_iff n cs lo hi).1 h
  rfl
theorem kidsO_len {X : Nat → Prop} : ∀ {ks : List Nd} {css : List (List Value)} {lo hi : Nat}, kidsO TA TN w X ks css lo hi → css.length = ks.length ∧ ∀ cs ∈ css, cs.length = 6
  | [], css, lo, hi, h => by rw [kidsO] at h; subst h; simp
  | n :: ns, css, lo, hi, h => by
    rw [kidsO] at h
    obtain ⟨cs, rest, l, hh, rfl, _, _, _, _, h5, h6⟩ := h
    obtain ⟨h7, h8⟩ := kidsO_len h6
    refine ⟨by simp [h7], fun c hc => ?_⟩
    rcases List.mem_cons.1 hc with rfl | hc
    · exact ownC_len h5
    · exact h8 c hc
theorem kidsO_at {X : Nat → Prop} : ∀ {ks : List Nd} {css : List (List Value)} {lo hi : Nat}, kidsO TA TN w X ks css lo hi → ∀ (k : Nat) (n : Nd), ks[k]? = some n →
    ∃ cs l h, css[k]? = some cs ∧ lo ≤ l ∧ l ≤ h ∧ h ≤ hi ∧ (∀ b, l ≤ b → b < h → ¬ X b) ∧ ownC TA TN w n cs l h ∧
      ∀ (j : Nat) (m : Nd), j ≠ k → ks[j]? = some m → ∃ cs' l' h', css[j]? = some cs' ∧ lo ≤ l' ∧ h' ≤ hi ∧ (h' ≤ l ∨ h ≤ l') ∧ (∀ b, l' ≤ b → b < h' → ¬ X b) ∧ ownC TA TN w m cs' l' h'
  | [], css, lo, hi, h, k, n, hk => by simp at hk
  | n0 :: ns, css, lo, hi, h, k, n, hk => by
    rw [kidsO] at h
    obtain ⟨cs, rest, l, hh, rfl, h1, h2, h3, h4, h5, h6⟩ := h
    cases k with
    | zero =>
      simp only [List.getElem?_cons_zero, Option.some.injEq] at hk
      subst hk
      refine ⟨cs, l, hh, rfl, h1, h2, h3, h4, h5, fun j m hj hm => ?_⟩
      obtain ⟨j, rfl⟩ : ∃ i, j = i + 1 := ⟨j - 1, by omega⟩
      obtain ⟨cs', l', h', a1, a2, a3, a4, a5, a6, _⟩ := kidsO_at h6 j m (by simpa using hm)
      exact ⟨cs', l', h', by simpa using a1, by omega, a4, .inr a2, a5, a6⟩
    | succ k =>
      obtain ⟨cs', l', h', a1, a2, a3, a4, a5, a6, a7⟩ := kidsO_at h6 k n (by simpa using hk)
      refine ⟨cs', l', h', by simpa using a1, by omega, a3, a4, a5, a6, fun j m hj hm => ?_⟩
      cases j with
      | zero =>
        simp only [List.getElem?_cons_zero, Option.some.injEq] at hm
        subst hm
        exact ⟨cs, l, hh, rfl, h1, h3, .inl a2, h4, h5⟩
      | succ j =>
        obtain ⟨c2, l2, h2', b1, b2, b3, b4, b5, b6⟩ := a7 j m (by omega) (by simpa using hm)
        exact ⟨c2, l2, h2', by simpa using b1, by omega, b3, b4, b5, b6⟩
theorem ownC_keep (n : Nd) : ∀ (cs : List Value) (lo hi : Nat), (∀ b, lo ≤ b → b < hi → w'.heap[b]? = w.heap[b]?) → ownC TA TN w n cs lo hi → ownC TA TN w' n cs lo hi := by
  induction n using Nd.induct with
  | h n ih =>
    intro cs lo hi hk h
    obtain ⟨av, kv, css, e, h1, h2, h3, h4, h5, h6⟩ := (ownC_iff n cs lo hi).1 h
    refine (ownC_iff n cs lo hi).2 ⟨av, kv, css, e, own_blk h1 fun b hb => hk b (own_in h1 hb).1 (h4 b hb).1, own_blk h2 fun b hb => hk b (own_in h2 hb).1 (h5 b hb), h3, h4, h5, ?_⟩
    clear h h1 h2 h3 h4 h5 e
    have hk' : ∀ (ks : List Nd), (∀ k ∈ ks, k ∈ n.kids) → ∀ (css : List (List Value)) (l : Nat), lo ≤ l → kidsO TA TN w (fun b => av.ownBlock = some b ∨ kv.ownBlock = some b) ks css l hi → kidsO TA TN w' (fun b => av.ownBlock = some b ∨ kv.ownBlock = some b) ks css l hi := by
      intro ks
      induction ks with
      | nil => intro _ css l _ h; rw [kidsO] at h ⊢; exact h
      | cons x ks ihk =>
        intro hm css l hl h
        rw [kidsO] at h ⊢
        obtain ⟨c, rest, l1, h1, rfl, b1, b2, b3, b4, b5, b6⟩ := h
        exact ⟨c, rest, l1, h1, rfl, b1, b2, b3, b4, ih x (hm x (by simp)) c l1 h1 (fun b p q => hk b (by omega) (by omega)) b5, ihk (fun k hk => hm k (by simp [hk])) rest h1 (by omega) b6⟩
    exact hk' n.kids (fun _ h => h) css lo (Nat.le_refl _) h6
theorem kidsO_keep {X : Nat → Prop} : ∀ (ks : List Nd) (css : List (List Value)) (lo hi : Nat), (∀ b, lo ≤ b → b < hi → ¬ X b → w'.heap[b]? = w.heap[b]?) → kidsO TA TN w X ks css lo hi → kidsO TA TN w' X ks css lo hi
  | [], css, lo, hi, _, h => by rw [kidsO] at h ⊢; exact h
  | n :: ns, css, lo, hi, hk, h => by
    rw [kidsO] at h ⊢
    obtain ⟨c, rest, l1, h1, rfl, b1, b2, b3, b4, b5, b6⟩ := h
    exact ⟨c, rest, l1, h1, rfl, b1, b2, b3, b4, ownC_keep n c l1 h1 (fun b p q => hk b (by omega) (by omega) (b4 b p q)) b5, kidsO_keep ns rest h1 hi (fun b p q => hk b (by omega) q) b6⟩
theorem kidsO_mono {X Y : Nat → Prop} : ∀ (ks : List Nd) (css : List (List Value)) (lo hi lo' hi' : Nat), lo' ≤ lo → hi ≤ hi' → (∀ b, lo ≤ b → b < hi → Y b → X b) → kidsO TA TN w X ks css lo hi → kidsO TA TN w Y ks css lo' hi'
  | [], css, lo, hi, lo', hi', _, _, _, h => by rw [kidsO] at h ⊢; exact h
  | n :: ns, css, lo, hi, lo', hi', e1, e2, hk, h => by
    rw [kidsO] at h ⊢
    obtain ⟨c, rest, l1, h1, rfl, b1, b2, b3, b4, b5, b6⟩ := h
    exact ⟨c, rest, l1, h1, rfl, by omega, b2, by omega, fun b p q r => b4 b p q (hk b (by omega) (by omega) r), b5, kidsO_mono ns rest h1 hi h1 hi' (Nat.le_refl _) e2 (fun b p q => hk b (by omega) q) b6⟩
theorem kidsO_app {X : Nat → Prop} {n : Nd} {cs : List Value} {l h : Nat} (hn : ownC TA TN w n cs l h) (hX : ∀ b, l ≤ b → b < h → ¬ X b) (hlh : l ≤ h) : ∀ (ks : List Nd) (css : List (List Value)) (lo hi : Nat), lo ≤ hi → hi ≤ l → kidsO TA TN w X ks css lo hi → kidsO TA TN w X (ks ++ [n]) (css ++ [cs]) lo h
  | [], css, lo, hi, e0, e1, hk => by
    rw [kidsO] at hk
    subst hk
    rw [List.nil_append, List.nil_append, kidsO]
    exact ⟨cs, [], l, h, rfl, by omega, hlh, Nat.le_refl _, hX, hn, by rw [kidsO]⟩
  | m :: ns, css, lo, hi, e0, e1, hk => by
    rw [kidsO] at hk
    obtain ⟨c, rest, l1, h1, rfl, b1, b2, b3, b4, b5, b6⟩ := hk
    rw [List.cons_append, List.cons_append, kidsO]
    exact ⟨c, rest ++ [cs], l1, h1, rfl, b1, b2, by omega, b4, b5, kidsO_app hn hX hlh ns rest h1 hi b3 e1 b6⟩
theorem ownC_lohi {n : Nd} {cs : List Value} {lo hi lo' hi' : Nat} (h : ownC TA TN w n cs lo hi) (h1 : lo' ≤ lo) (h2 : hi ≤ hi') : ownC TA TN w n cs lo' hi' := by
  obtain ⟨av, kv, css, e, a1, a2, a3, a4, a5, a6⟩ := (ownC_iff n cs lo hi).1 h
  have up : ∀ {e : TypeId} {sz n : Nat} {v : Value} {xs : List Value}, w.ownsRow lo e sz v n xs → w.ownsRow lo' e sz v n xs := fun {e sz n v xs} h => by
    refine ⟨h.1, ?_⟩
    rcases h.2 with h | ⟨g, cap, cur, p, q, r⟩
    · exact .inl h
    · exact .inr ⟨g, cap, cur, p, by omega, r⟩
  exact (ownC_iff n cs lo' hi').2 ⟨av, kv, css, e, up a1, up a2, a3, fun b hb => ⟨Nat.lt_of_lt_of_le (a4 b hb).1 h2, (a4 b hb).2⟩, fun b hb => Nat.lt_of_lt_of_le (a5 b hb) h2, kidsO_mono _ _ _ _ _ _ h1 h2 (fun _ _ _ h => h) a6⟩
theorem ownC_node (n : Nd) : ∀ (cs : List Value) (lo hi : Nat), ownC TA TN w n cs lo hi → nodeC w n cs := by
  induction n using Nd.induct with
  | h n ih =>
    intro cs lo hi h
    obtain ⟨av, kv, css, e, h1, h2, h3, h4, h5, h6⟩ := (ownC_iff n cs lo hi).1 h
    obtain ⟨A, ca, hav⟩ := own_shape h1
    obtain ⟨K, ck, hkv⟩ := own_shape h2
    have hA : ∃ A' ca', av = .slice A' n.attrs.length ca' ∧ Sl3 w A' n.attrs := by
      rcases h1.2 with ⟨e1, e2⟩ | ⟨g, cap, cur, e1, _⟩
      · have : n.attrs = [] := List.eq_nil_of_length_eq_zero e2
        exact ⟨none, 0, by rw [e1, e2], by rw [this]; exact Sl3.nil _ _⟩
      · subst e1
        exact ⟨_, cap, rfl, Sl3.of_own h1⟩
    obtain ⟨A', ca', rfl, hA⟩ := hA
    have hlen := (kidsO_len h6).2
    have hK : ∃ K' ck', kv = .slice K' n.kids.length ck' ∧ SlN w K' n.kids := by
      rcases h2.2 with ⟨e1, e2⟩ | ⟨g, cap, cur, e1, _, hg, _⟩
      · have : n.kids = [] := List.eq_nil_of_length_eq_zero e2
        exact ⟨none, 0, by rw [e1, e2], .inl this⟩
      · subst e1
        refine ⟨_, cap, rfl, .inr ⟨_, rfl, blk_in hg, (kidsC_iff w _ _ 0).2 fun k m hm => ?_⟩⟩
        obtain ⟨c, l, hh, c1, _, _, _, _, c6, _⟩ := kidsO_at h6 k m hm
        refine ⟨c, fun j u hu => ?_, ih m (List.mem_of_getElem? hm) c l hh c6⟩
        rw [Nat.zero_add]
        have hj : j < 6 := by
          have := (List.getElem?_eq_some_iff.1 hu).1
          rw [ownC_len c6] at this; exact this
        exact h2.cells (g := g) rfl _ _ ((flat_at hlen k c c1 j hj).trans hu)
    obtain ⟨K', ck', rfl, hK⟩ := hK
    exact (nodeC_V w n cs).2 ⟨A', ca', K', ck', e, hA, hK⟩
end
end Wb
