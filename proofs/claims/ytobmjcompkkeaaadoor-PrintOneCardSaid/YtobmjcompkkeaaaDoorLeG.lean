
/- What of the package-level variables the walks of layer 3 ask; strconv.ParseUint at 31 bits; numbered. -/
import Derived.Test.YtobmjcompkkeaaaDoorLePv
import Derived.Test.YtobmjcompkkeaaaDoorMgU
namespace Go.Proofs.YtobmjcompkkeaaaDoor
open Go.RowKit Wb

def foldZ : List Int := (List.range 128).map fun (i : Nat) => if i = 75 then 107 else if i = 83 then 115 else if i = 107 then 8490 else if i = 115 then 383 else if 65 ≤ i ∧ i ≤ 90 then (i : Int) + 32 else if 97 ≤ i ∧ i ≤ 122 then (i : Int) - 32 else (i : Int)

/-- What strconv.ParseUint answers. -/
def PuOut (o : Option Int) (e : Ending) : Prop :=
  match o with
  | some n => e = .returned (.tuple #[.int .u64 n, .nilIface])
  | none => ∃ v t p, e = .returned (.tuple #[.int .u64 v, .iface t p])

/-- The sign of a number in digits; none: no bytes. -/
def numX (b : Int) (l : List UInt8) : List UInt8 :=
  match puX b l with
  | some n => if charB n = true then enc n else []
  | none => []

end Go.Proofs.YtobmjcompkkeaaaDoor
