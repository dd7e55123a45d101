/- LeQ. -/
import Derived.Test.YtlcjepnaljfpkaaGreatDoorQl17
namespace Go.Proofs.YtlcjepnaljfpkaaGreatDoor
open Go.RowKit Wb
theorem raw_info : (Tryz.prog.info? 54).map (fun i => (i.zero, i.size, i.bytes)) = some (some (.agg #[.string ⟨#[]⟩, .string ⟨#[]⟩]), 2, 32) := by kernel_rfl
theorem own_keeps {D : Nat} {w w2 : World} {base sz n : Nat} {e : TypeId} {v : Value} {xs : List Value} (h : w.ownsRow base e sz v n xs) (hk : Keeps D w w2) (hD : D < base) : w2.ownsRow base e sz v n xs := by
  refine ⟨h.1, ?_⟩
  rcases h.2 with hn | ⟨g, cap, cur, rfl, hbg, hg, rest⟩
  · exact .inl hn
  · have hl : g < w.heap.size := by
      rcases Nat.lt_or_ge g w.heap.size with hl | hl
      · exact hl
      · rw [Array.getElem?_eq_none hl] at hg; cases hg
    exact .inr ⟨g, cap, cur, rfl, hbg, (hk.block g hl (by omega)).trans hg, rest⟩
theorem own_blk_ne {w : World} {base sz n g : Nat} {e t : TypeId} {v : Value} {xs : List Value} {cs : Array Value} {fr : Nat × Nat} (h : w.ownsRow base e sz v n xs) (hb : w.heap[g]? = some (.cells cs t fr)) (hne : t ≠ e) : v.ownBlock ≠ some g := by
  intro hv
  rcases h.2 with ⟨rfl, _⟩ | ⟨k, cap, cur, rfl, _, hk, _⟩
  · simp [Value.ownBlock] at hv
  · simp [Value.ownBlock] at hv
    subst hv
    rw [hb] at hk
    injection hk with hk
    injection hk with _ ht
    exact hne ht
theorem own_set {w : World} {base sz n g : Nat} {e : TypeId} {v : Value} {xs : List Value} (h : w.ownsRow base e sz v n xs) (hne : v.ownBlock ≠ some g) (o : Nat) (u : Value) : (w.setCell ⟨g, o, none⟩ u).ownsRow base e sz v n xs := by
  refine ⟨h.1, ?_⟩
  rcases h.2 with hn | ⟨k, cap, cur, rfl, hbg, hk, rest⟩
  · exact .inl hn
  · have : k ≠ g := by
      intro e
      subst e
      exact hne rfl
    exact .inr ⟨k, cap, cur, rfl, hbg, (Below.heap_setCell _ _ _ _ (by simpa using this)).trans hk, rest⟩
structure TagW (w0 : World) (D : Nat) (s : ByteArray) (fr at_ T : Nat) (k : Int) (x : ByteArray) (acc : List Pr) (w : World) : Prop where
  keeps : Keeps D w0 w
  doc : DocW w D s fr at_
  rblk : w.heap[w0.heap.size]? = some (.cells (tokZ 0 0 ⟨#[]⟩ ⟨#[]⟩) 52 (0, 0))
  lt : w0.heap.size < T
  ex : ∃ v, w.heap[T]? = some (.cells #[.int .i64 k, .int .i64 fr, .string x, v, .string ⟨#[]⟩] 52 (0, 0)) ∧ w.ownsRow w0.heap.size 54 2 v acc.length (cells2 acc)
section
variable {w0 w w' : World} {D : Nat} {s : ByteArray} {fr at_ T : Nat} {k : Int} {x : ByteArray} {acc : List Pr}
theorem blk_lt {w : World} {g : Nat} {o : Obj} (h : w.heap[g]? = some o) : g < w.heap.size := by
  rcases Nat.lt_or_ge g w.heap.size with hl | hl
  · exact hl
  · rw [Array.getElem?_eq_none hl] at h; cases h
theorem TagW.step (h : TagW w0 D s fr at_ T k x acc w) {a : Nat} (hk : Keeps D w w') (hd : DocW w' D s fr a) (hD : D < w0.heap.size) : TagW w0 D s fr a T k x acc w' := by
  obtain ⟨v, h1, h2⟩ := h.ex
  have hlt := h.lt
  exact ⟨h.keeps.trans hk, hd, (hk.block _ (blk_lt h.rblk) (by omega)).trans h.rblk, h.lt, v, (hk.block _ (blk_lt h1) (by omega)).trans h1, own_keeps h2 hk hD⟩
theorem TagW.kind (h : TagW w0 D s fr at_ T k x acc w) (k' : Int) (hD : D < w0.heap.size) : TagW w0 D s fr at_ T k' x acc (w.setCell ⟨T, 0, none⟩ (.int .i64 k')) := by
  obtain ⟨v, h1, h2⟩ := h.ex
  have hlt := h.lt
  exact ⟨h.keeps.other (by omega) _ _, h.doc.other (by omega) _ _, (Below.heap_setCell _ _ _ _ (by simp; omega)).trans h.rblk, h.lt, v, blk_set h1 0 _, own_set h2 (own_blk_ne h2 h1 (by decide)) _ _⟩
theorem TagW.app (h : TagW w0 D s fr at_ T k x acc w) (hD : D < w0.heap.size) (p : Pr) {v v4 : Value} {w4 : World} {cs : Array Value}
    (hv : w.heap[T]? = some (.cells #[.int .i64 k, .int .i64 fr, .string x, v, .string ⟨#[]⟩] 52 (0, 0))) (hown : w.ownsRow w0.heap.size 54 2 v acc.length (cells2 acc))
    (h4 : w4.ownsRow w0.heap.size 54 2 v4 (acc.length + 1) (cells2 acc ++ [.string p.1, .string p.2])) (hg : (w.alloc (.cells cs 54)).grownBy w4 v.ownBlock) :
    TagW w0 D s fr at_ T k x (acc ++ [p]) (w4.setCell ⟨T, 3, none⟩ v4) := by
  have hlt := h.lt
  have old : ∀ g, g < w.heap.size → v.ownBlock ≠ some g → w4.heap[g]? = w.heap[g]? := fun g h1 h2 => (hg.block g (by simp; omega) (fun e => h2 e.symm)).trans (Below.heap_alloc _ _ _ h1)
  have hT4 : w4.heap[T]? = some (.cells #[.int .i64 k, .int .i64 fr, .string x, v, .string ⟨#[]⟩] 52 (0, 0)) := (old T (blk_lt hv) (own_blk_ne hown hv (by decide))).trans hv
  have hR4 : w4.heap[w0.heap.size]? = some (.cells (tokZ 0 0 ⟨#[]⟩ ⟨#[]⟩) 52 (0, 0)) := (old _ (blk_lt h.rblk) (own_blk_ne hown h.rblk (by decide))).trans h.rblk
  have hb : ∀ g, g < w0.heap.size → v.ownBlock ≠ some g := by
    intro g hgl he
    rcases hown.2 with ⟨rfl, _⟩ | ⟨q, cap, cur, rfl, hbq, _⟩
    · simp [Value.ownBlock] at he
    · simp [Value.ownBlock] at he
      omega
  have hk4 : Keeps D w0 w4 := ⟨hg.os.trans h.keeps.os, hg.tape.trans h.keeps.tape, hg.output.trans h.keeps.output, Nat.le_trans h.keeps.size (Nat.le_trans (by simp) hg.size), fun g hgl hgd =>
    (old g (Nat.lt_of_lt_of_le hgl h.keeps.size) (hb g hgl)).trans (h.keeps.block g hgl hgd)⟩
  refine ⟨hk4.other (by omega) _ _, ?_, ?_, h.lt, v4, blk_set hT4 3 _, ?_⟩
  · exact DocW.other (w := w4) ((old D h.doc.lt (hb D hD)).trans h.doc) (by omega) _ _
  · exact (Below.heap_setCell _ _ _ _ (by simp; omega)).trans hR4
  · have := own_set h4 (own_blk_ne h4 hT4 (by decide)) 3 v4
    rw [List.length_append, cells2_append]
    exact this
end
end Go.Proofs.YtlcjepnaljfpkaaGreatDoor
