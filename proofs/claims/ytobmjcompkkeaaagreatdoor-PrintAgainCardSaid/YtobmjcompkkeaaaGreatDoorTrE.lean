import Derived.Test.YtobmjcompkkeaaaGreatDoorMgW
import Derived.Deep.RegionHeld2
import Derived.Deep.Cut
import Derived.BigRegion
namespace Go.Proofs.YtobmjcompkkeaaaGreatDoor
open Go.RowKit Wb
end Go.Proofs.YtobmjcompkkeaaaGreatDoor
