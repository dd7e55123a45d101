import Derived.Test.YtobmjcompkkeaaaGreatDoorMgE
import Derived.Test.YtobmjcompkkeaaaGreatDoorMgH
import Derived.Test.YtobmjcompkkeaaaGreatDoorMgTp
namespace Wb
end Wb
namespace Go.Proofs.YtobmjcompkkeaaaGreatDoor
open Go.RowKit Wb
theorem parse_printed {n : Nd} (hok : okN 1 n) (hk : n.kind = 1) (hc : costN n ≤ 2000) (hl : (nodeT n sE).length ≤ 32768) : parseX ⟨(nodeT n sE).toArray⟩ = .ok (ordN n) := by
  obtain ⟨ts, hd, ht⟩ := doc_printed hok hk hl
  have htok : tokensU (nodeT n sE) = .ok ts := by
    rcases tokens_fit (nodeT n sE) with ⟨vs, h1, h2⟩ | ⟨h1, _⟩
    · rw [h2, doc_one h1 hd]
    · exact absurd hd (h1 ts)
  unfold parseX
  rw [of_list, htok]
  exact tree_printed hok hk hc ht _
end Go.Proofs.YtobmjcompkkeaaaGreatDoor
