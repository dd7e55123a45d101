import Derived.Test.YtjohfljkhlkjoaaGreatDoorProg
import Derived.Test.YtjohfljkhlkjoaaGreatDoorMgKi
import Derived.Test.YtjohfljkhlkjoaaGreatDoorMgP
import Derived.Test.YtjohfljkhlkjoaaGreatDoorTrF
import Derived.Test.YtjohfljkhlkjoaaGreatDoorMgU
import Derived.Laws.ComplexArith
import Derived.Laws.Cover2
import Derived.Laws.Cover3
namespace Go.Proofs.YtjohfljkhlkjoaaGreatDoor
open Go.RowKit Wb
def cells1 (l : List ByteArray) : List Value := l.map .string
end Go.Proofs.YtjohfljkhlkjoaaGreatDoor

namespace Go.Proofs.YtjohfljkhlkjoaaGreatDoor
open Go.RowKit Wb
end Go.Proofs.YtjohfljkhlkjoaaGreatDoor

namespace Go.Proofs.YtjohfljkhlkjoaaGreatDoor
open Go.RowKit Wb
end Go.Proofs.YtjohfljkhlkjoaaGreatDoor

