
/- Contracts: the builder's small parts (ended, inner). -/
import Derived.Test.YtobmjcompkkeaaaDoorProg
import Derived.Test.YtobmjcompkkeaaaDoorKit
import Derived.Test.YtobmjcompkkeaaaDoorMgG
import Derived.Test.YtobmjcompkkeaaaDoorMgU
import Derived.Deep.RegionHeld2
import Derived.BigRegion
import Derived.Test.YtobmjcompkkeaaaDoorMgR
import Derived.Deep.AppendLies
import Derived.Deep.Draws
import Derived.Deep.Cut
import Derived.Deep.RegionLaw
import Derived.Test.YtobmjcompkkeaaaDoorUtfG
namespace Go.Proofs.YtobmjcompkkeaaaDoor
open Go.RowKit Wb

section
variable {base B : Nat} {b : Bd} {ov : Value} {xs l : List ElX} {x : ElX} {rc : List Value} {w : World}

end
end Go.Proofs.YtobmjcompkkeaaaDoor

namespace Go.Proofs.YtobmjcompkkeaaaDoor
open Go.RowKit Wb

section
variable {base B : Nat} {b : Bd} {ov : Value} {xs l : List ElX} {x : ElX} {rc : List Value} {w : World}

theorem node_info : (Tryd.prog.info? 27).map (fun i => (i.zero, i.size, i.bytes)) = some (some (.agg #[.int .i64 0, .string ⟨#[]⟩, .string ⟨#[]⟩, .slice none 0 0, .slice none 0 0, .string ⟨#[]⟩]), 6, 104) := by kernel_rfl

end
end Go.Proofs.YtobmjcompkkeaaaDoor

namespace Go.Proofs.YtobmjcompkkeaaaDoor
open Go.RowKit Wb

section
variable {base B : Nat} {b : Bd} {ov : Value} {xs l : List ElX} {x : ElX} {rc : List Value} {w : World}

theorem len_costs : ∀ ks : List Nd, ks.length ≤ costNs ks
  | [] => by simp
  | k :: ks => by
    have := len_costs ks
    have := costN_pos k
    simp only [costNs, List.length_cons]
    omega
theorem opN_mem : ∀ {l : List El} {e : El}, e ∈ l → elN e ≤ opN l
  | x :: l, e, h => by
    have hc : opN (x :: l) = elN x + opN l := by simp [opN]
    rcases List.mem_cons.1 h with rfl | h
    · omega
    · have := opN_mem h
      omega
end
end Go.Proofs.YtobmjcompkkeaaaDoor

namespace Go.Proofs.YtobmjcompkkeaaaDoor
open Go.RowKit Wb

section
variable {base B : Nat} {b : Bd} {ov : Value} {xs l : List ElX} {x : ElX} {rc : List Value} {w : World}

end
end Go.Proofs.YtobmjcompkkeaaaDoor

