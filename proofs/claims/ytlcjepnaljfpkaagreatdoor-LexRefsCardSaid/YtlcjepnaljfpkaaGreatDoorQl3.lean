/- LeUn Kit UtfA. -/
import Derived.Lib.Replace
import Derived.Lib.CountLaws
import Derived.Lib.IndexLaws
import Derived.Lib.IndexBytes
import Derived.WalkKit
import Derived.WalkSpells
import Derived.WalkLawsBesides
import Derived.Lib.Hide
import Derived.Laws.BitsAllLaws
import Derived.Test.YtlcjepnaljfpkaaGreatDoorRows
import Derived.Test.YtlcjepnaljfpkaaGreatDoorQl1
import Derived.Test.YtlcjepnaljfpkaaGreatDoorQl2
namespace Wb
open Go
theorem rall_nil {o n : List UInt8} (ho : o ≠ []) (hn : o ≠ n) : Lib.replaceAll [] o n = [] := by
  have hi : Lib.index [] o = -1 := by
    unfold Lib.index
    cases o with
    | nil => exact absurd rfl ho
    | cons c l => rfl
  unfold Lib.replaceAll Lib.replace Lib.replaceNum
  rw [if_neg (by simpa using hn), if_pos (.inl (by omega)), Lib.count_miss hi]
  rfl
theorem rall_unf {o n : List UInt8} (hn : o ≠ n) (s : List UInt8) : Lib.replaceAll s o n = Lib.replaceK o n (Lib.count s o) s := by
  unfold Lib.replaceAll Lib.replace Lib.replaceNum
  rw [if_neg (by simpa using hn), if_pos (.inl (by omega))]
theorem rall_hit {o n l : List UInt8} (ho : o ≠ []) (hn : o ≠ n) (h : o.isPrefixOf l = true) : Lib.replaceAll l o n = n ++ Lib.replaceAll (l.drop o.length) o n := by
  have hl : l ≠ [] := by
    rintro rfl
    cases o with
    | nil => exact ho rfl
    | cons c r => cases h
  have hi : Lib.index l o = (0 : Nat) := by
    cases l with
    | nil => exact absurd rfl hl
    | cons c l =>
      unfold Lib.index
      rw [if_pos h]
      rfl
  rw [rall_unf hn, rall_unf hn, Lib.count_hit ho hi, Nat.add_comm, Lib.replaceK_hit _ _ _ _ _ hi]
  simp
theorem rall_skip {o n l : List UInt8} {c : UInt8} (ho : o ≠ []) (hn : o ≠ n) (h : o.isPrefixOf (c :: l) = false) : Lib.replaceAll (c :: l) o n = c :: Lib.replaceAll l o n := by
  have e : Lib.index (c :: l) o = if Lib.index l o == -1 then -1 else Lib.index l o + 1 := by
    conv => lhs; unfold Lib.index
    rw [if_neg (by simp [h])]
  rcases Lib.index_spec l o with ⟨hi, _⟩ | ⟨i, hi, _, _, _⟩
  · rw [hi] at e
    have e' : Lib.index (c :: l) o = -1 := by simpa using e
    rw [rall_unf hn, rall_unf hn, Lib.count_miss hi, Lib.count_miss e']
    rfl
  · have e' : Lib.index (c :: l) o = ((i + 1 : Nat) : Int) := by
      rw [e, hi, if_neg (by simp)]
      rfl
    rw [rall_unf hn, rall_unf hn, Lib.count_hit ho hi, Lib.count_hit ho e', show i + 1 + o.length = (i + o.length) + 1 from by omega, List.drop_succ_cons, Nat.add_comm 1, Lib.replaceK_hit _ _ _ _ _ hi, Lib.replaceK_hit _ _ _ _ _ e']
    simp [show i + 1 + o.length = (i + o.length) + 1 from by omega]
def swapB (c d x : UInt8) : UInt8 := if x = c then d else x
theorem rall_one (c d : UInt8) (h : c ≠ d) : ∀ l : List UInt8, Lib.replaceAll l [c] [d] = l.map (swapB c d)
  | [] => rall_nil (by simp) (by simpa using h)
  | x :: l => by
    by_cases hx : x = c
    · subst hx
      rw [rall_hit (by simp) (by simpa using h) (by simp)]
      simp [rall_one x d h l, swapB]
    · rw [rall_skip (by simp) (by simpa using h) (by simp [List.isPrefixOf]; exact fun e => hx e.symm), rall_one c d h l]
      simp [swapB, hx]
theorem rall_crlf : ∀ (n : Nat) (l : List UInt8), l.length ≤ n → (Lib.replaceAll l [13, 10] [10]).map (swapB 13 10) = endsL l := by
  intro n
  induction n with
  | zero =>
    intro l hl
    obtain rfl : l = [] := List.eq_nil_of_length_eq_zero (by omega)
    rw [rall_nil (by simp) (by simp)]
    rfl
  | succ n ih =>
    intro l hl
    cases l with
    | nil =>
      rw [rall_nil (by simp) (by simp)]
      rfl
    | cons c l =>
      simp only [List.length_cons] at hl
      by_cases h : [13, 10].isPrefixOf (c :: l) = true
      · obtain ⟨r, hr⟩ := List.isPrefixOf_iff_prefix.1 h
        have hr' : c :: l = 13 :: 10 :: r := hr.symm
        rw [rall_hit (by simp) (by simp) h, hr']
        simp only [List.cons.injEq] at hr'
        have hrl : r.length ≤ n := by have := congrArg List.length hr'.2; simp at this; omega
        simp only [List.length_cons, List.length_nil, List.drop_succ_cons, List.drop_zero, List.cons_append, List.nil_append, List.map_cons]
        rw [ih r hrl]
        rfl
      · rw [Bool.not_eq_true] at h
        rw [rall_skip (by simp) (by simp) h, List.map_cons, ih l (by omega)]
        by_cases hc : c = 13
        · subst hc
          have h10 : ¬ l.take 1 = [10] := by
            intro e
            cases l with
            | nil => cases e
            | cons d l => simp at e; subst e; simp at h
          conv => rhs; unfold endsL
          rw [if_pos rfl, if_neg h10]
          rfl
        · conv => rhs; unfold endsL
          rw [if_neg hc]
          simp [swapB, hc]
def linesL (attr : Bool) (l : List UInt8) : List UInt8 := if attr then ((endsL l).map (swapB 10 32)).map (swapB 9 32) else endsL l
theorem endsL_len : ∀ l : List UInt8, (endsL l).length ≤ l.length
  | [] => Nat.le_refl _
  | c :: l => by
    have := endsL_len l
    unfold endsL
    split
    · split <;> (simp only [List.length_cons]; omega)
    · simp only [List.length_cons]; omega
theorem linesL_len (attr : Bool) (l : List UInt8) : (linesL attr l).length ≤ l.length := by
  have := endsL_len l
  unfold linesL
  split <;> simp <;> omega
theorem linesL_nil (attr : Bool) : linesL attr [] = [] := by cases attr <;> rfl
theorem linesL_crlf (attr : Bool) (l : List UInt8) : linesL attr (13 :: 10 :: l) = (if attr then 32 else 10) :: linesL attr l := by
  have e : endsL (13 :: 10 :: l) = 10 :: endsL l := by
    conv => lhs; unfold endsL
    rw [if_pos rfl, if_pos (by rfl)]
    conv => lhs; unfold endsL
    rw [if_neg (by decide)]
  unfold linesL
  rw [e]
  cases attr <;> rfl
theorem linesL_cr (attr : Bool) (l : List UInt8) (h : ¬ l.take 1 = [10]) : linesL attr (13 :: l) = (if attr then 32 else 10) :: linesL attr l := by
  have e : endsL (13 :: l) = 10 :: endsL l := by
    conv => lhs; unfold endsL
    rw [if_pos rfl, if_neg h]
  unfold linesL
  rw [e]
  cases attr <;> rfl
theorem linesL_cons (attr : Bool) (c : UInt8) (l : List UInt8) (h : c ≠ 13) : linesL attr (c :: l) = (if attr && (c == 9 || c == 10) then 32 else c) :: linesL attr l := by
  have e : endsL (c :: l) = c :: endsL l := by
    conv => lhs; unfold endsL
    rw [if_neg h]
  unfold linesL
  rw [e]
  cases attr
  · rfl
  · simp only [if_true, List.map_cons, Bool.true_and, List.cons.injEq, and_true]
    unfold swapB
    by_cases h10 : c = 10
    · subst h10; rfl
    · rw [if_neg h10]
      by_cases h9 : c = 9
      · subst h9; rfl
      · rw [if_neg h9, if_neg (by simp [h9, h10])]
theorem unL_seg (attr : Bool) (t : List UInt8) (ht : t = [] ∨ t.take 1 = [38]) : ∀ (n : Nat) (a : List UInt8), a.length ≤ n → (∀ b ∈ a, b ≠ 38) → ∀ (k g h : Nat), (a ++ t).length < g → t.length < h →
    unL attr g (a ++ t) k = (unL attr h t (k + a.length)).map (linesL attr a ++ ·) := by
  have h10 : ¬ t.take 1 = [10] := by
    rcases ht with rfl | e
    · simp
    · rw [e]; decide
  intro n
  induction n with
  | zero =>
    intro a ha _ k g h hg hh
    obtain rfl : a = [] := List.eq_nil_of_length_eq_zero (by omega)
    rw [List.nil_append, unL_fuel attr t.length t (Nat.le_refl _) g h k (by simpa using hg) hh, linesL_nil]
    simp only [List.length_nil, Nat.add_zero]
    cases unL attr h t k <;> rfl
  | succ n ih =>
    intro a ha hno k g h hg hh
    cases a with
    | nil =>
      rw [List.nil_append, unL_fuel attr t.length t (Nat.le_refl _) g h k (by simpa using hg) hh, linesL_nil]
      simp only [List.length_nil, Nat.add_zero]
      cases unL attr h t k <;> rfl
    | cons c l =>
      obtain ⟨g, rfl⟩ : ∃ g', g = g' + 1 := ⟨g - 1, by omega⟩
      simp only [List.length_cons, List.length_append] at ha hg
      have h38 := hno c (by simp)
      have hnl : ∀ b ∈ l, b ≠ 38 := fun b hb => hno b (by simp [hb])
      rw [List.cons_append]
      conv => lhs; unfold unL
      rw [if_neg h38]
      by_cases h13 : c = 13
      · subst h13
        rw [if_pos rfl]
        cases l with
        | nil =>
          rw [List.nil_append, if_neg h10, linesL_cr attr [] (by simp), linesL_nil, unL_fuel attr t.length t (Nat.le_refl _) g h (k + 1) (by simp at hg; omega) hh]
          rfl
        | cons d l =>
          by_cases hd : d = 10
          · subst hd
            simp only [List.length_cons] at ha hg
            rw [if_pos (by rfl), linesL_crlf]
            simp only [List.cons_append, List.drop_succ_cons, List.drop_zero]
            rw [ih l (by omega) (fun b hb => hnl b (by simp [hb])) (k + 2) g h (by simp; omega) hh, map_one]
            congr 2
            simp only [List.length_cons]
            omega
          · have hd' : ¬ (d :: l ++ t).take 1 = [10] := by simpa using hd
            rw [if_neg hd', linesL_cr attr (d :: l) (by simpa using hd), ih (d :: l) (by omega) hnl (k + 1) g h (by simp at hg ⊢; omega) hh, map_one]
            congr 2
            simp only [List.length_cons]
            omega
      · rw [if_neg h13, linesL_cons attr c l h13, ih l (by omega) hnl (k + 1) g h (by simp; omega) hh, map_one]
        congr 2
        simp only [List.length_cons]
        omega
theorem unL_seg_end (attr : Bool) (a : List UInt8) (hno : ∀ b ∈ a, b ≠ 38) (k g : Nat) (hg : a.length < g) : unL attr g a k = .ok (linesL attr a) := by
  have := unL_seg attr [] (.inl rfl) a.length a (Nat.le_refl _) hno k g 1 (by simpa using hg) (by simp)
  rw [List.append_nil] at this
  rw [this]
  simp [unL, Except.map]
def refX (b : List UInt8) : List UInt8 × Nat :=
  match semi b with
  | none => ([], 0)
  | some (t, _) => match refV t with
    | none => ([], 0)
    | some x => (x, t.length + 2)
theorem unL_amp_bad (attr : Bool) (b : List UInt8) (h k : Nat) (hz : (refX b).2 = 0) : unL attr (h + 1) (38 :: b) k = .error k := by
  unfold refX at hz
  unfold unL
  rw [if_pos rfl]
  cases hs : semi b with
  | none => rfl
  | some p =>
    obtain ⟨t, r⟩ := p
    rw [hs] at hz
    simp only at hz ⊢
    cases hv : refV t with
    | none => rfl
    | some x => rw [hv] at hz; simp at hz
theorem unL_amp_ok (attr : Bool) (b : List UInt8) (h k n : Nat) (x : List UInt8) (hz : refX b = (x, n)) (hn : n ≠ 0) :
    unL attr (h + 1) (38 :: b) k = (unL attr h ((38 :: b).drop n) (k + n)).map (x ++ ·) ∧ n ≤ b.length + 1 ∧ 2 ≤ n ∧ x ≠ [] := by
  unfold refX at hz
  cases hs : semi b with
  | none => rw [hs] at hz; simp only [Prod.mk.injEq] at hz; omega
  | some p =>
    obtain ⟨t, r⟩ := p
    have hd := semi_drop hs
    rw [hs] at hz
    simp only at hz
    cases hv : refV t with
    | none => rw [hv] at hz; simp only [Prod.mk.injEq] at hz; omega
    | some x' =>
      rw [hv] at hz
      simp only [Prod.mk.injEq] at hz
      obtain ⟨rfl, rfl⟩ := hz
      have hr : (38 :: b).drop (t.length + 2) = r := by
        rw [hd, List.drop_succ_cons, show t.length + 1 = (t ++ [59]).length from by simp, show t ++ 59 :: r = (t ++ [59]) ++ r from by simp, List.drop_left]
      refine ⟨?_, ?_, by omega, ?_⟩
      · rw [hr]
        conv => lhs; unfold unL
        rw [if_pos rfl, hs]
        simp only [hv]
        rfl
      · rw [hd]; simp
      · intro e
        subst e
        unfold refV at hv
        repeat' split at hv
        all_goals first | (simp at hv; done) | skip
        rename_i n0 _ hch
        simp only [Option.some.injEq] at hv
        exact Wb.enc_ne n0 (char_sgn n0 hch) hv
end Wb
namespace Wb
open Go
theorem ret_b {a b : Bool} (h : a = b) : Ending.returned (.bool a) = Ending.returned (.bool b) := by rw [h]
theorem ret_i {k : IntKind} {a b : Int} (h : a = b) : Ending.returned (.int k a) = Ending.returned (.int k b) := by rw [h]
theorem ret_s {a b : ByteArray} (h : a = b) : Ending.returned (.string a) = Ending.returned (.string b) := by rw [h]
theorem ret_ii {k k' : IntKind} {a b a' b' : Int} (h : a = b) (h' : a' = b') :
    Ending.returned (.tuple #[.int k a, .int k' a']) = Ending.returned (.tuple #[.int k b, .int k' b']) := by rw [h, h']
theorem and_low_nat (x k : Nat) : x &&& (2 ^ k - 1) = x % 2 ^ k := Nat.and_two_pow_sub_one_eq_mod x k
theorem or_nat (a b k : Nat) (hb : b < 2 ^ k) : a * 2 ^ k ||| b = a * 2 ^ k + b := by
  have := Nat.shiftLeft_add_eq_or_of_lt hb a
  rw [Nat.shiftLeft_eq] at this
  exact this.symm
theorem ofInt_i32 (a : Nat) (ha : a < 2147483648) : (BitVec.ofInt 32 (a : Int)).toNat = a := by
  rw [BitVec.ofInt_natCast, BitVec.toNat_ofNat]; exact Nat.mod_eq_of_lt (by omega)
theorem i32_and_nat (a b : Nat) (ha : a < 2147483648) (hb : b < 2147483648) : bits .and .i32 (a : Int) (b : Int) = ((a &&& b : Nat) : Int) := by
  have hx : a &&& b < 2 ^ 31 := Nat.and_lt_two_pow _ (by omega)
  show IntKind.i32.wrap ((BitVec.ofInt 32 (a : Int) &&& BitVec.ofInt 32 (b : Int)).toNat : Int) = _
  rw [BitVec.toNat_and, ofInt_i32 a ha, ofInt_i32 b hb]
  simp only [IntKind.wrap, IntKind.bits, IntKind.signed]
  simp
  omega
theorem i32_or_nat (a b : Nat) (ha : a < 2147483648) (hb : b < 2147483648) : bits .or .i32 (a : Int) (b : Int) = ((a ||| b : Nat) : Int) := by
  have hx : a ||| b < 2 ^ 31 := Nat.or_lt_two_pow (by omega) (by omega)
  show IntKind.i32.wrap ((BitVec.ofInt 32 (a : Int) ||| BitVec.ofInt 32 (b : Int)).toNat : Int) = _
  rw [BitVec.toNat_or, ofInt_i32 a ha, ofInt_i32 b hb]
  simp only [IntKind.wrap, IntKind.bits, IntKind.signed]
  simp
  omega
theorem i32_and63 (c : Int) (h0 : 0 ≤ c) (h1 : c < 2147483648) : bits .and .i32 c 63 = c % 64 := by
  obtain ⟨C, rfl⟩ := Int.eq_ofNat_of_zero_le h0
  have h := i32_and_nat C 63 (by omega) (by decide)
  have := and_low_nat C 6
  simp only [show (2 : Nat) ^ 6 - 1 = 63 from rfl, show (2 : Nat) ^ 6 = 64 from rfl] at this
  rw [this] at h
  simpa using h
theorem i32_or64 (a b : Int) (h0 : 0 ≤ a) (h1 : a < 33554432) (h2 : 0 ≤ b) (h3 : b < 64) : bits .or .i32 (a * 64) b = a * 64 + b := by
  obtain ⟨A, rfl⟩ := Int.eq_ofNat_of_zero_le h0
  obtain ⟨B, rfl⟩ := Int.eq_ofNat_of_zero_le h2
  have h := i32_or_nat (A * 2 ^ 6) B (by simp; omega) (by omega)
  rw [or_nat A B 6 (by simp; omega)] at h
  simpa using h
end Wb
namespace Go.Proofs.YtlcjepnaljfpkaaGreatDoor
open Go.RowKit Wb
set_option maxHeartbeats 400000 in
theorem first_any (c : Int) (w : World) (h0 : 0 ≤ c) (h1 : c < 256) :
    Calls Tryz.prog 130 #[.int .u8 c] w fun e w' => e = .returned (.tuple #[.int .i64 (fsz c), .int .i32 (fbt c)]) ∧ w = w' := by
  have k31 := u8_and31 c h0 h1
  have k15 := u8_and15 c h0 h1
  have k7 := u8_and7 c h0 h1
  go_enter Tryz.func130, Tryz.ntmps130
  go_wp2
  all_goals
    go_ret2
    refine ⟨ret_ii ?_ ?_, rfl⟩
    all_goals
      try simp only [beq_iff_eq, beq_eq_false_iff_ne] at *
      first | unfold fsz | unfold fbt
      repeat (first | (rw [if_pos (by omega)]) | (rw [if_neg (by omega)]))
set_option maxHeartbeats 400000 in
theorem further_any (r below : Int) (w : World) (h0 : 0 ≤ r) (h1 : r < 2147483648) (hb0 : 0 ≤ below) (hb1 : below ≤ 12) :
    Calls Tryz.prog 27 #[.int .i32 r, .int .i64 below] w fun e w' => e = .returned (.int .u8 (128 + r / 2 ^ below.toNat % 64)) ∧ w = w' := by
  go_enter Tryz.func27, Tryz.ntmps27
  go_wp2
  go_ret
  refine ⟨ret_i ?_, rfl⟩
  have hp : (0 : Int) < 2 ^ below.toNat := Int.pow_pos (by decide)
  have q0 : 0 ≤ r / 2 ^ below.toNat := Int.ediv_nonneg h0 (by omega)
  have q1 : r / 2 ^ below.toNat ≤ r := Int.ediv_le_self _ h0
  generalize r / 2 ^ below.toNat = q at *
  show bits BinOp.or IntKind.u8 128 (bits BinOp.and IntKind.i32 q 63 % 256) = _
  rw [i32_and63 q q0 (by omega), u8_or128 _ (by omega) (by omega)]
  omega
set_option maxHeartbeats 400000 in
theorem blank_any (c : Int) (w : World) :
    Calls Tryz.prog 63 #[.int .u8 c] w fun e w' => e = .returned (.bool (blk c)) ∧ w = w' := by
  go_enter Tryz.func63, Tryz.ntmps63
  go_wp2
  all_goals
    go_ret
    refine ⟨ret_b ?_, rfl⟩
    unfold blk
    simp_all
theorem inS_take (r : Int) (l : List (Int × Int)) (k : Nat) (h : k < l.length) (h0 : inS r (l.take k) = false) :
    inS r (l.take (k + 1)) = (decide (l[k].1 ≤ r) && decide (r ≤ l[k].2)) := by
  unfold inS at *
  rw [List.take_succ_eq_append_getElem h, List.any_append, h0]
  simp
theorem inS_mono (r : Int) (l : List (Int × Int)) (j : Nat) (h : true = inS r (l.take j)) : true = inS r l := by
  unfold inS at *
  have h := h.symm
  rw [List.any_eq_true] at h
  obtain ⟨x, hx, hp⟩ := h
  exact (List.any_eq_true.2 ⟨x, List.mem_of_mem_take hx, hp⟩).symm
set_option maxHeartbeats 400000 in
theorem within_any (r : Int) (l : List (Int × Int)) (b n : Nat) (w : World) (hn : l.length = n) (hn1 : n ≤ 1000) (hb : b < w.heap.size)
    (hc : ∀ k (h : k < l.length), w.cell? ⟨b, k * 2, none⟩ = some (.int .i32 l[k].1) ∧ w.cell? ⟨b, k * 2 + 1, none⟩ = some (.int .i32 l[k].2)) :
    Calls Tryz.prog 24 #[.int .i32 r, .slice (some ⟨b, 0, none⟩) n n] w fun e w' => e = .returned (.bool (inS r l)) ∧ Below w.heap.size w w' := by
  have HC := Lib.hid hc
  have HN := Lib.hid hn
  clear hc hn
  go_enter Tryz.func24, Tryz.ntmps24
  go_wp2
  go_loopw [9] (fun i wr => ∃ k : Nat, k ≤ n ∧ i = .int .i64 k ∧ Hid (inS r (l.take k) = false) ∧ Below w.heap.size w wr) (fun i _ => n - (intOf i).toNat)
  case atStart => exact ⟨0, Nat.zero_le _, rfl, rfl, Below.refl _ _⟩
  case round =>
    obtain ⟨k, hk, rfl, HI, hbel⟩ := hrel
    by_cases hlt : k < n
    · have hk' : k < l.length := by rw [HN.out]; exact hlt
      have hs := hbel.size
      obtain ⟨lo, hi, e1, e2, HS⟩ : ∃ lo hi, wr.cell? ⟨b, k * 2, none⟩ = some (.int .i32 lo) ∧ wr.cell? ⟨b, k * 2 + 1, none⟩ = some (.int .i32 hi) ∧ Hid (inS r (l.take (k + 1)) = (decide (lo ≤ r) && decide (r ≤ hi))) :=
        ⟨_, _, (hbel.cell (p := ⟨b, k * 2, none⟩) hb).trans (HC.out k hk').1, (hbel.cell (p := ⟨b, k * 2 + 1, none⟩) hb).trans (HC.out k hk').2, inS_take r l k hk' HI.out⟩
      go_wp2
      · go_ret
        refine ⟨ret_b (inS_mono r l (k + 1) ?_), hbel.alloc hs _⟩
        rw [HS.out]
        simp [*]
      all_goals
        go_roundw
        case rel => exact ⟨k + 1, by omega, by go_num, Lib.hid (by rw [HS.out]; simp; omega), hbel.alloc hs _⟩
        case measure => simp [intOf]; omega
    · go_wp2
      go_ret
      refine ⟨ret_b ?_, hbel⟩
      have HI' := HI.out
      rw [List.take_of_length_le (by rw [HN.out]; omega)] at HI'
      exact HI'.symm
end Go.Proofs.YtlcjepnaljfpkaaGreatDoor
