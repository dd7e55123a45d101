
/- Contract of the reference's number. -/
import Derived.Test.YtflfnnkdkfcpkaaGreatDoorLxA
namespace Go.Proofs.YtflfnnkdkfcpkaaGreatDoor
open Go.RowKit Wb

/-- What number answers: -1, or the digits' number, counted no further than past two millions. -/
def numR (base : Int) (l : List UInt8) : Int :=
  match (if l = [] then none else capL base 0 l) with
  | some n => n
  | none => -1

theorem digV_lt (c : Int) : digV c < 100 := by
  unfold digV
  split
  · omega
  · split <;> omega
theorem capL_bad {base n : Int} {c : UInt8} {l : List UInt8} (h : base ≤ digV c.toNat) : capL base n (c :: l) = none := by
  unfold capL; rw [if_pos h]
theorem capL_low {base n : Int} {c : UInt8} {l : List UInt8} (h : ¬ base ≤ digV c.toNat) (hn : n < 2000000) : capL base n (c :: l) = capL base (n * base + digV c.toNat) l := by
  conv => lhs; unfold capL
  rw [if_neg h, if_pos hn]
theorem capL_high {base n : Int} {c : UInt8} {l : List UInt8} (h : ¬ base ≤ digV c.toNat) (hn : ¬ n < 2000000) : capL base n (c :: l) = capL base n l := by
  conv => lhs; unfold capL
  rw [if_neg h, if_neg hn]
theorem numR_some {base n : Int} {l : List UInt8} (h : l ≠ []) (ho : capL base 0 l = some n) : numR base l = n := by
  unfold numR; rw [if_neg h, ho]
theorem numR_none {base : Int} {l : List UInt8} (ho : capL base 0 l = none) : numR base l = -1 := by
  unfold numR
  split
  · rename_i n hn
    split at hn
    · cases hn
    · rw [ho] at hn; cases hn
  · rfl
theorem numR_nil {base : Int} : numR base [] = -1 := rfl

theorem drop_byte (s : ByteArray) (k : Nat) (h : k < s.size) : s.data.toList.drop k = s[k] :: s.data.toList.drop (k + 1) := by
  have hk : k < s.data.toList.length := by simpa using h
  rw [List.drop_eq_getElem_cons hk]
  rfl

end Go.Proofs.YtflfnnkdkfcpkaaGreatDoor
