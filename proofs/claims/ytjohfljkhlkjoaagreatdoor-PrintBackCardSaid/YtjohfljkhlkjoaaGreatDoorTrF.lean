import GoSem.Core.Float
namespace Wb
open Ieee
end Wb
