import Derived.Test.YtjohfljkhlkjoaaGreatDoorTrE
import Derived.Test.YtjohfljkhlkjoaaGreatDoorMgY
import Derived.Deep.RegionHeld
import Derived.Deep.Cut
namespace Go.Proofs.YtjohfljkhlkjoaaGreatDoor
open Go.RowKit Wb
set_option maxRecDepth 100000 in
theorem tfew_any (n : Nd) (A K : Option Addr) (ca ck : Nat) (w : World) (hV : NodeV w n A K) (hl : lenN 9223372036854775807 n) :
    Calls Tryz.prog 14 #[ndV n A ca K ck] w fun e w' => e = .returned (.bool (decide (weighN n 30000 ≤ 30000))) ∧ Below w.heap.size w w' := by
  have hI := weigh_any n A K ca ck 30000 (w.alloc (.cells (ndCells n.kind n.name A n.attrs.length ca K n.kids.length ck n.text).toArray 37)) (by omega) (NodeV.below hV ((Below.refl _ w).alloc (Nat.le_refl _) _)) hl
  have hN := heap_alloc_new w (.cells (ndCells n.kind n.name A n.attrs.length ca K n.kids.length ck n.text).toArray 37)
  have HB := Lib.hid ((Below.refl w.heap.size w).alloc (Nat.le_refl _) (.cells (ndCells n.kind n.name A n.attrs.length ca K n.kids.length ck n.text).toArray 37))
  have hsz : w.heap.size ≤ (w.alloc (.cells (ndCells n.kind n.name A n.attrs.length ca K n.kids.length ck n.text).toArray 37)).heap.size := by simp
  unfold ndV ndCells at hI ⊢
  unfold ndCells at hN HB hsz
  have n0 := blk_cell hN 0
  have n1 := blk_cell hN 1
  have n2 := blk_cell hN 2
  have n3 := blk_cell hN 3
  have n4 := blk_cell hN 4
  have n5 := blk_cell hN 5
  simp only [List.getElem?_toArray, List.getElem?_cons_zero, List.getElem?_cons_succ] at n0 n1 n2 n3 n4 n5
  clear hN
  go_enter Tryz.func14, Tryz.ntmps14
  go_wp2_with fail
  refine hI.mono ?_
  rintro e w2 ⟨rfl, hb2⟩
  clear hI
  go_wp2
  go_ret
  exact ⟨by congr 2; simp; omega, HB.out.trans (hb2.mono hsz)⟩
end Go.Proofs.YtjohfljkhlkjoaaGreatDoor

namespace Go.Proofs.YtjohfljkhlkjoaaGreatDoor
open Go.RowKit Wb
end Go.Proofs.YtjohfljkhlkjoaaGreatDoor

namespace Go.Proofs.YtjohfljkhlkjoaaGreatDoor
open Go.RowKit Wb
theorem cells_of_nd {w : World} {g : Nat} {k : Int} {p q : ByteArray} {A K : Option Addr} {la ca lk ck : Nat} {t : ByteArray} {ty : TypeId} (h : w.heap[g]? = some (.cells #[.int .i64 k, .string p, .string q, .slice A la ca, .slice K lk ck, .string t] ty (0, 0))) :
    w.cell? ⟨g, 0, none⟩ = some (.int .i64 k) ∧ w.cell? ⟨g, 1, none⟩ = some (.string p) ∧ w.cell? ⟨g, 2, none⟩ = some (.string q) ∧ w.cell? ⟨g, 3, none⟩ = some (.slice A la ca) ∧ w.cell? ⟨g, 4, none⟩ = some (.slice K lk ck) ∧ w.cell? ⟨g, 5, none⟩ = some (.string t) := by
  refine ⟨?_, ?_, ?_, ?_, ?_, ?_⟩ <;> simp [World.cell?, h]
end Go.Proofs.YtjohfljkhlkjoaaGreatDoor

