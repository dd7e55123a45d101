import Derived.Test.YtobmjcompkkeaaaGreatDoorProg
import Derived.Test.YtobmjcompkkeaaaGreatDoorKit
import Derived.Test.YtobmjcompkkeaaaGreatDoorMgP
import Derived.Test.YtobmjcompkkeaaaGreatDoorTrF
import Derived.Test.YtobmjcompkkeaaaGreatDoorMgU
import Derived.Laws.ComplexArith
import Derived.Laws.Cover2
import Derived.Laws.Cover3
namespace Go.Proofs.YtobmjcompkkeaaaGreatDoor
open Go.RowKit Wb
def cells1 (l : List ByteArray) : List Value := l.map .string
end Go.Proofs.YtobmjcompkkeaaaGreatDoor
namespace Go.Proofs.YtobmjcompkkeaaaGreatDoor
open Go.RowKit Wb
end Go.Proofs.YtobmjcompkkeaaaGreatDoor
namespace Go.Proofs.YtobmjcompkkeaaaGreatDoor
open Go.RowKit Wb
end Go.Proofs.YtobmjcompkkeaaaGreatDoor
