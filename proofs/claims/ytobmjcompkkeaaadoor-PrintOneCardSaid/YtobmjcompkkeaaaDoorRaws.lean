
/- Contract: the reference's Raws at two slices that read alike. -/
import Derived.Test.YtobmjcompkkeaaaDoorRows
import Derived.Test.YtobmjcompkkeaaaDoorMgM
namespace Go.Proofs.YtobmjcompkkeaaaDoor
open Go.RowKit Wb

end Go.Proofs.YtobmjcompkkeaaaDoor
