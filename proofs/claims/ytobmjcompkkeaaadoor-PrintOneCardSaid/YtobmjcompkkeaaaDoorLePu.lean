
/- Contracts: the number that digits tell, at most 31 bits (internal/strconv.ParseUint, strconv.ParseUint), numbered. -/
import Derived.Test.YtobmjcompkkeaaaDoorLeUn
import Derived.Test.YtobmjcompkkeaaaDoorMgU
import Derived.Test.YtobmjcompkkeaaaDoorMgM
import Derived.Test.YtobmjcompkkeaaaDoorShelf
import Derived.Lib.ConvBytes
import Derived.Lib.AtoiErrMem
import Derived.Laws.Strings3
import Derived.Laws.Closers25
import Derived.Laws.Closers25b
import Derived.BigCall
import Derived.BigGuard
namespace Go.Proofs.YtobmjcompkkeaaaDoor
open Go.RowKit Wb

theorem digL_ge (base : Int) (hb : 1 ≤ base) : ∀ (l : List UInt8) (n m : Int), 0 ≤ n → digL base n l = some m → n ≤ m
  | [], n, m, _, h => by simp [digL] at h; omega
  | c :: l, n, m, h0, h => by
    unfold digL at h
    split at h
    · cases h
    · have hd := digV_nn c.toNat
      have h1 : n * 1 ≤ n * base := Int.mul_le_mul_of_nonneg_left hb h0
      have := digL_ge base hb l _ m (by omega) h
      omega

/-- The number of 31 bits, if it is one. -/
def puX (base : Int) (l : List UInt8) : Option Int :=
  match numL base l with
  | some n => if n ≤ 2147483647 then some n else none
  | none => none
theorem puX_go {base : Int} {l : List UInt8} (hl : l ≠ []) : puX base l = match digL base 0 l with | some n => if n ≤ 2147483647 then some n else none | none => none := by
  unfold puX numL; rw [if_neg hl]

def dec31 (o : Option Int) : Option Int := match o with | some n => if n ≤ 2147483647 then some n else none | none => none

theorem or32_all : ∀ n : Fin 256, (97 ≤ bits .or .u8 (n.val : Int) 32 ∧ bits .or .u8 (n.val : Int) 32 ≤ 122 → lowB n.val = bits .or .u8 (n.val : Int) 32) ∧
    (¬ (97 ≤ bits .or .u8 (n.val : Int) 32 ∧ bits .or .u8 (n.val : Int) 32 ≤ 122) → ¬ (48 ≤ (n.val : Int) ∧ (n.val : Int) ≤ 57) → digV n.val = 99) := by
  decide +kernel
theorem or32_yes {c : UInt8} (h1 : 97 ≤ bits .or .u8 (c.toNat : Int) 32) (h2 : bits .or .u8 (c.toNat : Int) 32 ≤ 122) : lowB c.toNat = bits .or .u8 (c.toNat : Int) 32 :=
  (or32_all ⟨c.toNat, c.toNat_lt⟩).1 ⟨h1, h2⟩
theorem or32_no {c : UInt8} (h : ¬ (97 ≤ bits .or .u8 (c.toNat : Int) 32 ∧ bits .or .u8 (c.toNat : Int) 32 ≤ 122)) (hd : ¬ (48 ≤ (c.toNat : Int) ∧ (c.toNat : Int) ≤ 57)) : digV c.toNat = 99 :=
  (or32_all ⟨c.toNat, c.toNat_lt⟩).2 h hd
theorem digV_dec {c : UInt8} (h : 48 ≤ (c.toNat : Int) ∧ (c.toNat : Int) ≤ 57) : digV c.toNat = (c.toNat : Int) - 48 := by
  have e : lowB c.toNat = c.toNat := by unfold lowB; rw [if_neg (by omega)]
  unfold digV
  rw [e, if_pos h]
theorem digV_let {v : Int} {c : UInt8} (h : lowB c.toNat = v) (h1 : 97 ≤ v) (h2 : v ≤ 122) : (v ≤ 102 → digV c.toNat = v - 87) ∧ (102 < v → digV c.toNat = 99) := by
  unfold digV
  rw [h, if_neg (by omega)]
  constructor
  · intro h3; rw [if_pos ⟨h1, h3⟩]
  · intro h3; rw [if_neg (by omega)]

theorem digL_step {base a : Int} {c : UInt8} {l : List UInt8} {d : Int} (hd : digV c.toNat = d) (h : d < base) : digL base a (c :: l) = digL base (a * base + d) l := by
  conv => lhs; unfold digL
  rw [hd, if_neg (by omega)]
theorem digL_stop {base a : Int} {c : UInt8} {l : List UInt8} (h : base ≤ digV c.toNat) : digL base a (c :: l) = none := by
  unfold digL; rw [if_pos h]
theorem dec31_over {base a : Int} {l : List UInt8} (hb : 1 ≤ base) (h0 : 0 ≤ a) (h : 2147483647 < a) : dec31 (digL base a l) = none := by
  unfold dec31
  cases hd : digL base a l with
  | none => rfl
  | some m =>
    have := digL_ge base hb l a m h0 hd
    simp only
    rw [if_neg (by omega)]

end Go.Proofs.YtobmjcompkkeaaaDoor
