
/- Contract: the builder's begun. -/
import Derived.Test.YtobmjcompkkeaaaDoorMgI
import Derived.Test.YtobmjcompkkeaaaDoorMgR
import Derived.Test.YtobmjcompkkeaaaDoorMgQ
namespace Go.Proofs.YtobmjcompkkeaaaDoor
open Go.RowKit Wb

/-- A token as a value. -/
def tkVal (t : TkV) (tA : Option Addr) (tc : Nat) : Value := .agg #[.int .i64 t.kind, .int .i64 t.place, .string t.name, .slice tA t.attrs.length tc, .string t.text]

/-- What begun leaves. -/
def BegunOut (sc : List Pr) (t : TkV) (w : World) (e : Ending) (w' : World) : Prop :=
  Below w.heap.size w w' ∧ match begunX sc t with
  | .error c => c ≠ 0 ∧ e = .returned (.tuple #[.agg #[.string sE, .slice none 0 0, .int .i64 0, .string sE, .string sE, .slice none 0 0, .slice none 0 0, .string sE], .int .i64 c])
  | .ok x => ∃ sA k aA m, e = .returned (.tuple #[.agg (ElX.cells ⟨x, sA, k, aA, m, .slice none 0 0⟩).toArray, .int .i64 0]) ∧ Sl2 w' sA x.scope ∧ Sl3 w' aA x.attrs ∧ Fresh w.heap.size sA ∧ Fresh w.heap.size aA

/-- Eight cells. -/
def eight (w : World) (g : Nat) (c0 c1 c2 c3 c4 c5 c6 c7 : Value) : World :=
  (((((((w.setCell ⟨g, 0, none⟩ c0).setCell ⟨g, 1, none⟩ c1).setCell ⟨g, 2, none⟩ c2).setCell ⟨g, 3, none⟩ c3).setCell ⟨g, 4, none⟩ c4).setCell ⟨g, 5, none⟩ c5).setCell ⟨g, 6, none⟩ c6).setCell ⟨g, 7, none⟩ c7
theorem eight_blk {w : World} {g : Nat} {t : TypeId} {z0 z1 z2 z3 z4 z5 z6 z7 : Value} (h : w.heap[g]? = some (.cells #[z0, z1, z2, z3, z4, z5, z6, z7] t (0, 0))) (c0 c1 c2 c3 c4 c5 c6 c7 : Value) :
    ((((((((w.setCell ⟨g, 0, none⟩ c0).setCell ⟨g, 1, none⟩ c1).setCell ⟨g, 2, none⟩ c2).setCell ⟨g, 3, none⟩ c3).setCell ⟨g, 4, none⟩ c4).setCell ⟨g, 5, none⟩ c5).setCell ⟨g, 6, none⟩ c6).setCell ⟨g, 7, none⟩ c7).heap[g]? = some (.cells #[c0, c1, c2, c3, c4, c5, c6, c7] t (0, 0)) := by
  have := blk_set (blk_set (blk_set (blk_set (blk_set (blk_set (blk_set (blk_set h 0 c0) 1 c1) 2 c2) 3 c3) 4 c4) 5 c5) 6 c6) 7 c7
  simpa using this
theorem eight_below {B : Nat} {a w : World} {g : Nat} (h : Below B a w) (hg : B ≤ g) (c0 c1 c2 c3 c4 c5 c6 c7 : Value) :
    Below B a ((((((((w.setCell ⟨g, 0, none⟩ c0).setCell ⟨g, 1, none⟩ c1).setCell ⟨g, 2, none⟩ c2).setCell ⟨g, 3, none⟩ c3).setCell ⟨g, 4, none⟩ c4).setCell ⟨g, 5, none⟩ c5).setCell ⟨g, 6, none⟩ c6).setCell ⟨g, 7, none⟩ c7) := by
  have st : ∀ (v : World) (i : Nat) (c : Value), Below B a v → Below B a (v.setCell ⟨g, i, none⟩ c) := fun v i c hv => hv.setCell (p := ⟨g, i, none⟩) hg c
  exact st _ _ _ (st _ _ _ (st _ _ _ (st _ _ _ (st _ _ _ (st _ _ _ (st _ _ _ (st _ _ _ h)))))))

theorem eight_keep (w : World) (g : Nat) (c0 c1 c2 c3 c4 c5 c6 c7 : Value) :
    Keep (fun k => k = g) w ((((((((w.setCell ⟨g, 0, none⟩ c0).setCell ⟨g, 1, none⟩ c1).setCell ⟨g, 2, none⟩ c2).setCell ⟨g, 3, none⟩ c3).setCell ⟨g, 4, none⟩ c4).setCell ⟨g, 5, none⟩ c5).setCell ⟨g, 6, none⟩ c6).setCell ⟨g, 7, none⟩ c7) := by
  have st : ∀ (v : World) (i : Nat) (c : Value), Keep (fun k => k = g) w v → Keep (fun k => k = g) w (v.setCell ⟨g, i, none⟩ c) := fun v i c hv => hv.setCell (p := ⟨g, i, none⟩) rfl c
  exact st _ _ _ (st _ _ _ (st _ _ _ (st _ _ _ (st _ _ _ (st _ _ _ (st _ _ _ (st _ _ _ (Keep.refl _ w))))))))
theorem begunOut_bad {sc : List Pr} {t : TkV} {w w' : World} {c : Int} (hr : begunX sc t = .error c) (hc : c ≠ 0) (hb : Below w.heap.size w w') :
    BegunOut sc t w (.returned (.tuple #[.agg #[.string sE, .slice none 0 0, .int .i64 0, .string sE, .string sE, .slice none 0 0, .slice none 0 0, .string sE], .int .i64 c])) w' := by
  refine ⟨hb, ?_⟩
  rw [hr]
  exact ⟨hc, rfl⟩
theorem begunOut_good {sc : List Pr} {t : TkV} {w w' : World} {x : El} {sA aA : Option Addr} {k m : Nat} (hr : begunX sc t = .ok x) (hb : Below w.heap.size w w') (h1 : Sl2 w' sA x.scope) (h2 : Sl3 w' aA x.attrs) (h3 : Fresh w.heap.size sA) (h4 : Fresh w.heap.size aA) :
    BegunOut sc t w (.returned (.tuple #[.agg (ElX.cells ⟨x, sA, k, aA, m, .slice none 0 0⟩).toArray, .int .i64 0])) w' := by
  refine ⟨hb, ?_⟩
  rw [hr]
  exact ⟨sA, k, aA, m, rfl, h1, h2, h3, h4⟩

end Go.Proofs.YtobmjcompkkeaaaDoor

namespace Go.Proofs.YtobmjcompkkeaaaDoor
open Go.RowKit Wb

section
variable {base B : Nat} {b : Bd} {ov : Value} {xs l : List ElX} {x : ElX} {rc : List Value} {w : World}

end
end Go.Proofs.YtobmjcompkkeaaaDoor

namespace Go.Proofs.YtobmjcompkkeaaaDoor
open Go.RowKit Wb

section
variable {base B : Nat} {b : Bd} {ov : Value} {xs l : List ElX} {x : ElX} {rc : List Value} {w : World}

end
end Go.Proofs.YtobmjcompkkeaaaDoor

