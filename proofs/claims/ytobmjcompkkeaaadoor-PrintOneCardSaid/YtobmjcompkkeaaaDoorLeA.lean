
/- Contracts of the landed lex: giving up (a panic with a place and a code), and what is deferred in Unescape. -/
import Derived.Test.YtobmjcompkkeaaaDoorMgU
import Derived.Test.YtobmjcompkkeaaaDoorMgM
import Derived.Recover
import Derived.Laws.Pointers
namespace Go.Proofs.YtobmjcompkkeaaaDoor
open Go.RowKit Wb

end Go.Proofs.YtobmjcompkkeaaaDoor
