/- OwnB. -/
import Derived.Test.YtbdamneophbnnaaGreatDoorCZ2
namespace Wb
open Go Go.RowKit
structure OwnB (g : Nat) (w w1 : World) (cs : Array Value) (t : TypeId) : Prop where
  blk : w1.heap[g]? = some (.cells cs t (0, 0))
  low : w.heap.size ≤ g
theorem OwnB.lt {g : Nat} {w w1 : World} {cs : Array Value} {t : TypeId} (h : OwnB g w w1 cs t) : g < w1.heap.size := (Array.getElem?_eq_some_iff.1 h.blk).1
theorem OwnB.new {w w1 : World} (cs : Array Value) (t : TypeId) (hb : Below w.heap.size w w1) : OwnB w1.heap.size w (w1.alloc (.cells cs t)) cs t := ⟨heap_alloc_new w1 _, hb.size⟩
theorem OwnB.new0 (w : World) (cs : Array Value) (t : TypeId) : OwnB w.heap.size w (w.alloc (.cells cs t)) cs t := ⟨heap_alloc_new w _, Nat.le_refl _⟩
theorem OwnB.next {g : Nat} {w w1 w2 : World} {cs : Array Value} {t : TypeId} (h : OwnB g w w1 cs t) (hb : Below w1.heap.size w1 w2) : OwnB g w w2 cs t := ⟨(hb.block g h.lt).trans h.blk, h.low⟩
theorem OwnB.alloc {g : Nat} {w w1 : World} {cs : Array Value} {t : TypeId} (h : OwnB g w w1 cs t) (o : Obj) : OwnB g w (w1.alloc o) cs t := h.next ((Below.refl _ _).alloc (Nat.le_refl _) o)
theorem OwnB.set {g : Nat} {w w1 : World} {cs : Array Value} {t : TypeId} (h : OwnB g w w1 cs t) (i : Nat) (v : Value) {cs' : Array Value} (e : cs.setIfInBounds i v = cs') : OwnB g w (w1.setCell ⟨g, i, none⟩ v) cs' t := ⟨by rw [← e]; exact blk_set h.blk i v, h.low⟩
theorem OwnB.other {g g' : Nat} {w w1 : World} {cs : Array Value} {t : TypeId} (h : OwnB g w w1 cs t) (hne : g ≠ g') (i : Nat) (v : Value) : OwnB g w (w1.setCell ⟨g', i, none⟩ v) cs t := ⟨(Below.heap_setCell _ _ _ _ hne).trans h.blk, h.low⟩
theorem OwnB.cell {g : Nat} {w w1 : World} {cs : Array Value} {t : TypeId} (h : OwnB g w w1 cs t) (i : Nat) : w1.cell? ⟨g, i, none⟩ = cs[i]? := blk_cell h.blk i
theorem OwnB.free {g : Nat} {w w1 : World} {cs : Array Value} {t : TypeId} (h : OwnB g w w1 cs t) (i : Nat) : w1.frozen? ⟨g, i, none⟩ = false := blk_free h.blk i
theorem OwnB.below {g : Nat} {w w1 : World} {cs : Array Value} {t : TypeId} (h : OwnB g w w1 cs t) (hb : Below w.heap.size w w1) (i : Nat) (v : Value) : Below w.heap.size w (w1.setCell ⟨g, i, none⟩ v) := hb.setCell h.low v
theorem OwnB.put2_0 {g : Nat} {w w1 : World} {v0 v1 : Value} {t : TypeId} (h : OwnB g w w1 #[v0, v1] t) (u : Value) : OwnB g w (w1.setCell ⟨g, 0, none⟩ u) #[u, v1] t := h.set 0 u rfl
theorem OwnB.put2_1 {g : Nat} {w w1 : World} {v0 v1 : Value} {t : TypeId} (h : OwnB g w w1 #[v0, v1] t) (u : Value) : OwnB g w (w1.setCell ⟨g, 1, none⟩ u) #[v0, u] t := h.set 1 u rfl
theorem OwnB.all2 {g : Nat} {w w1 : World} {v0 v1 : Value} {t : TypeId} (h : OwnB g w w1 #[v0, v1] t) (u0 u1 : Value) : OwnB g w ((w1.setCell ⟨g, 0, none⟩ u0).setCell ⟨g, 1, none⟩ u1) #[u0, u1] t := ((h.put2_0 u0).put2_1 u1)
theorem OwnB.put5_0 {g : Nat} {w w1 : World} {v0 v1 v2 v3 v4 : Value} {t : TypeId} (h : OwnB g w w1 #[v0, v1, v2, v3, v4] t) (u : Value) : OwnB g w (w1.setCell ⟨g, 0, none⟩ u) #[u, v1, v2, v3, v4] t := h.set 0 u rfl
theorem OwnB.put5_1 {g : Nat} {w w1 : World} {v0 v1 v2 v3 v4 : Value} {t : TypeId} (h : OwnB g w w1 #[v0, v1, v2, v3, v4] t) (u : Value) : OwnB g w (w1.setCell ⟨g, 1, none⟩ u) #[v0, u, v2, v3, v4] t := h.set 1 u rfl
theorem OwnB.put5_2 {g : Nat} {w w1 : World} {v0 v1 v2 v3 v4 : Value} {t : TypeId} (h : OwnB g w w1 #[v0, v1, v2, v3, v4] t) (u : Value) : OwnB g w (w1.setCell ⟨g, 2, none⟩ u) #[v0, v1, u, v3, v4] t := h.set 2 u rfl
theorem OwnB.put5_3 {g : Nat} {w w1 : World} {v0 v1 v2 v3 v4 : Value} {t : TypeId} (h : OwnB g w w1 #[v0, v1, v2, v3, v4] t) (u : Value) : OwnB g w (w1.setCell ⟨g, 3, none⟩ u) #[v0, v1, v2, u, v4] t := h.set 3 u rfl
theorem OwnB.put5_4 {g : Nat} {w w1 : World} {v0 v1 v2 v3 v4 : Value} {t : TypeId} (h : OwnB g w w1 #[v0, v1, v2, v3, v4] t) (u : Value) : OwnB g w (w1.setCell ⟨g, 4, none⟩ u) #[v0, v1, v2, v3, u] t := h.set 4 u rfl
theorem OwnB.all5 {g : Nat} {w w1 : World} {v0 v1 v2 v3 v4 : Value} {t : TypeId} (h : OwnB g w w1 #[v0, v1, v2, v3, v4] t) (u0 u1 u2 u3 u4 : Value) : OwnB g w (((((w1.setCell ⟨g, 0, none⟩ u0).setCell ⟨g, 1, none⟩ u1).setCell ⟨g, 2, none⟩ u2).setCell ⟨g, 3, none⟩ u3).setCell ⟨g, 4, none⟩ u4) #[u0, u1, u2, u3, u4] t := (((((h.put5_0 u0).put5_1 u1).put5_2 u2).put5_3 u3).put5_4 u4)
theorem OwnB.put9_0 {g : Nat} {w w1 : World} {v0 v1 v2 v3 v4 v5 v6 v7 v8 : Value} {t : TypeId} (h : OwnB g w w1 #[v0, v1, v2, v3, v4, v5, v6, v7, v8] t) (u : Value) : OwnB g w (w1.setCell ⟨g, 0, none⟩ u) #[u, v1, v2, v3, v4, v5, v6, v7, v8] t := h.set 0 u rfl
theorem OwnB.put9_1 {g : Nat} {w w1 : World} {v0 v1 v2 v3 v4 v5 v6 v7 v8 : Value} {t : TypeId} (h : OwnB g w w1 #[v0, v1, v2, v3, v4, v5, v6, v7, v8] t) (u : Value) : OwnB g w (w1.setCell ⟨g, 1, none⟩ u) #[v0, u, v2, v3, v4, v5, v6, v7, v8] t := h.set 1 u rfl
theorem OwnB.put9_2 {g : Nat} {w w1 : World} {v0 v1 v2 v3 v4 v5 v6 v7 v8 : Value} {t : TypeId} (h : OwnB g w w1 #[v0, v1, v2, v3, v4, v5, v6, v7, v8] t) (u : Value) : OwnB g w (w1.setCell ⟨g, 2, none⟩ u) #[v0, v1, u, v3, v4, v5, v6, v7, v8] t := h.set 2 u rfl
theorem OwnB.put9_3 {g : Nat} {w w1 : World} {v0 v1 v2 v3 v4 v5 v6 v7 v8 : Value} {t : TypeId} (h : OwnB g w w1 #[v0, v1, v2, v3, v4, v5, v6, v7, v8] t) (u : Value) : OwnB g w (w1.setCell ⟨g, 3, none⟩ u) #[v0, v1, v2, u, v4, v5, v6, v7, v8] t := h.set 3 u rfl
theorem OwnB.put9_4 {g : Nat} {w w1 : World} {v0 v1 v2 v3 v4 v5 v6 v7 v8 : Value} {t : TypeId} (h : OwnB g w w1 #[v0, v1, v2, v3, v4, v5, v6, v7, v8] t) (u : Value) : OwnB g w (w1.setCell ⟨g, 4, none⟩ u) #[v0, v1, v2, v3, u, v5, v6, v7, v8] t := h.set 4 u rfl
theorem OwnB.put9_5 {g : Nat} {w w1 : World} {v0 v1 v2 v3 v4 v5 v6 v7 v8 : Value} {t : TypeId} (h : OwnB g w w1 #[v0, v1, v2, v3, v4, v5, v6, v7, v8] t) (u : Value) : OwnB g w (w1.setCell ⟨g, 5, none⟩ u) #[v0, v1, v2, v3, v4, u, v6, v7, v8] t := h.set 5 u rfl
theorem OwnB.put9_6 {g : Nat} {w w1 : World} {v0 v1 v2 v3 v4 v5 v6 v7 v8 : Value} {t : TypeId} (h : OwnB g w w1 #[v0, v1, v2, v3, v4, v5, v6, v7, v8] t) (u : Value) : OwnB g w (w1.setCell ⟨g, 6, none⟩ u) #[v0, v1, v2, v3, v4, v5, u, v7, v8] t := h.set 6 u rfl
theorem OwnB.put9_7 {g : Nat} {w w1 : World} {v0 v1 v2 v3 v4 v5 v6 v7 v8 : Value} {t : TypeId} (h : OwnB g w w1 #[v0, v1, v2, v3, v4, v5, v6, v7, v8] t) (u : Value) : OwnB g w (w1.setCell ⟨g, 7, none⟩ u) #[v0, v1, v2, v3, v4, v5, v6, u, v8] t := h.set 7 u rfl
theorem OwnB.put9_8 {g : Nat} {w w1 : World} {v0 v1 v2 v3 v4 v5 v6 v7 v8 : Value} {t : TypeId} (h : OwnB g w w1 #[v0, v1, v2, v3, v4, v5, v6, v7, v8] t) (u : Value) : OwnB g w (w1.setCell ⟨g, 8, none⟩ u) #[v0, v1, v2, v3, v4, v5, v6, v7, u] t := h.set 8 u rfl
theorem OwnB.all9 {g : Nat} {w w1 : World} {v0 v1 v2 v3 v4 v5 v6 v7 v8 : Value} {t : TypeId} (h : OwnB g w w1 #[v0, v1, v2, v3, v4, v5, v6, v7, v8] t) (u0 u1 u2 u3 u4 u5 u6 u7 u8 : Value) : OwnB g w (((((((((w1.setCell ⟨g, 0, none⟩ u0).setCell ⟨g, 1, none⟩ u1).setCell ⟨g, 2, none⟩ u2).setCell ⟨g, 3, none⟩ u3).setCell ⟨g, 4, none⟩ u4).setCell ⟨g, 5, none⟩ u5).setCell ⟨g, 6, none⟩ u6).setCell ⟨g, 7, none⟩ u7).setCell ⟨g, 8, none⟩ u8) #[u0, u1, u2, u3, u4, u5, u6, u7, u8] t := (((((((((h.put9_0 u0).put9_1 u1).put9_2 u2).put9_3 u3).put9_4 u4).put9_5 u5).put9_6 u6).put9_7 u7).put9_8 u8)
end Wb
