
/- Contract of watchbillref01.Rune: it answers what utf.Rune answers. -/
import Derived.Test.YtoahkpkkkjnngaaGreatDoorUtfD
import Derived.Lib.Strings
namespace Go.Proofs.YtoahkpkkkjnngaaGreatDoor
open Go.RowKit Wb

theorem cut_list (s : ByteArray) (k m : Nat) : (s.extract k (k + m)).data.toList = (s.data.toList.drop k).take m := by
  rw [Lib.extract_data]
  have : k + m - k = m := by omega
  rw [this]
theorem cut_size (s : ByteArray) (k m : Nat) (h : k + m ≤ s.size) : (s.extract k (k + m)).size = m := by
  simp; omega

end Go.Proofs.YtoahkpkkkjnngaaGreatDoor
