
/- Contract: the reference's Raws at two slices that read alike. -/
import Derived.Test.YtoahkpkkkjnngaaGreatDoorRows
import Derived.Test.YtoahkpkkkjnngaaGreatDoorMem
namespace Go.Proofs.YtoahkpkkkjnngaaGreatDoor
open Go.RowKit Wb

end Go.Proofs.YtoahkpkkkjnngaaGreatDoor
