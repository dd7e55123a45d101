import Derived.Test.YtjohfljkhlkjoaaGreatDoorMgM
import Derived.Deep.AppendSrc
namespace Wb
open Go Go.RowKit
section
variable {P : Program} (w : World)
end
end Wb
