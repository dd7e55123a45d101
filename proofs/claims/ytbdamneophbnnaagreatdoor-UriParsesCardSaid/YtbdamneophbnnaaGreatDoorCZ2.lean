/- Mem Mem2. -/
import Derived.Test.YtbdamneophbnnaaGreatDoorCU15
import Derived.Test.YtbdamneophbnnaaGreatDoorCU17
namespace Wb
open Go Go.RowKit
theorem of_drew {w w' : World} (h : Below w.drew.heap.size w.drew w') : Below w.heap.size w w' := (Below.refl w.heap.size w).drew.trans h
section
variable {P : Program} (w : World)
end
end Wb
namespace Wb
open Go Go.RowKit
theorem cells1_append (a b : List ByteArray) : cells1 (a ++ b) = cells1 a ++ cells1 b := by simp [cells1]
end Wb
