
/- Contract: the reference's Raws at two slices that read alike. -/
import Derived.Test.YtmfgbniabgencaaGreatDoorRows
import Derived.Test.YtmfgbniabgencaaGreatDoorMgM
namespace Go.Proofs.YtmfgbniabgencaaGreatDoor
open Go.RowKit Wb

end Go.Proofs.YtmfgbniabgencaaGreatDoor
