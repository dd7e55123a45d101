import Derived.Test.YtobmjcompkkeaaaGreatDoorTrE
import Derived.Test.YtobmjcompkkeaaaGreatDoorMgY
import Derived.Deep.RegionHeld
import Derived.Deep.Cut
namespace Go.Proofs.YtobmjcompkkeaaaGreatDoor
open Go.RowKit Wb
end Go.Proofs.YtobmjcompkkeaaaGreatDoor
namespace Go.Proofs.YtobmjcompkkeaaaGreatDoor
open Go.RowKit Wb
end Go.Proofs.YtobmjcompkkeaaaGreatDoor
namespace Go.Proofs.YtobmjcompkkeaaaGreatDoor
open Go.RowKit Wb
theorem cells_of_nd {w : World} {g : Nat} {k : Int} {p q : ByteArray} {A K : Option Addr} {la ca lk ck : Nat} {t : ByteArray} {ty : TypeId} (h : w.heap[g]? = some (.cells #[.int .i64 k, .string p, .string q, .slice A la ca, .slice K lk ck, .string t] ty (0, 0))) :
    w.cell? ⟨g, 0, none⟩ = some (.int .i64 k) ∧ w.cell? ⟨g, 1, none⟩ = some (.string p) ∧ w.cell? ⟨g, 2, none⟩ = some (.string q) ∧ w.cell? ⟨g, 3, none⟩ = some (.slice A la ca) ∧ w.cell? ⟨g, 4, none⟩ = some (.slice K lk ck) ∧ w.cell? ⟨g, 5, none⟩ = some (.string t) := by
  refine ⟨?_, ?_, ?_, ?_, ?_, ?_⟩ <;> simp [World.cell?, h]
end Go.Proofs.YtobmjcompkkeaaaGreatDoor
