
/- Contract: the number that digits to the base 16 tell, at most 31 bits. -/
import Derived.Test.YtobmjcompkkeaaaDoorLePu
namespace Go.Proofs.YtobmjcompkkeaaaDoor
open Go.RowKit Wb

end Go.Proofs.YtobmjcompkkeaaaDoor
