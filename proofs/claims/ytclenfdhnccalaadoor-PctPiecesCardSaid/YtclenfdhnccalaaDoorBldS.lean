
/- Contract: String of a builder of the call's own, as often as it is asked: it is told again the same (the bytes that were told are frozen, so nothing is written any more). -/
import Derived.Test.YtclenfdhnccalaaDoorBld
import Derived.Lib.UnsafeStr
namespace Wb
open Go Go.RowKit
theorem freeze_here {w : World} {g : Nat} {cur : Array Value} {t : TypeId} {fr : Nat × Nat} (h : w.heap[g]? = some (.cells cur t fr)) (n : Nat) : ∃ fr', (w.freeze ⟨g, 0, none⟩ n).heap[g]? = some (.cells cur t fr') := by
  unfold World.freeze
  split
  · exact ⟨fr, h⟩
  · refine ⟨(if fr.1 == fr.2 then (0, 0 + n) else (min fr.1 0, max fr.2 (0 + n))), ?_⟩
    simp only [Array.getElem?_modify, if_pos]
    rw [h]
    rfl
theorem freeze_else {w : World} {g k : Nat} (h : k ≠ g) (n : Nat) : (w.freeze ⟨g, 0, none⟩ n).heap[k]? = w.heap[k]? := by
  unfold World.freeze
  split
  · rfl
  · simp only [Array.getElem?_modify]
    rw [if_neg (fun e => h e.symm)]
end Wb
namespace Go.Proofs.YtclenfdhnccalaaDoor
open Go.RowKit Wb
/-- A builder whose text may have been told already. -/
def ToldB (B b : Nat) (l : List UInt8) (w : World) : Prop := B ≤ b ∧ ∃ p v, w.heap[b]? = some (.cells #[p, v] 40 (0, 0)) ∧
  ((v = .slice none 0 0 ∧ l = []) ∨ ∃ g cap cur fr, v = .slice (some ⟨g, 0, none⟩) l.length cap ∧ B ≤ g ∧ g ≠ b ∧ w.heap[g]? = some (.cells cur 5 fr) ∧ l.length ≤ cap ∧ cap ≤ maxLen ∧ cur.size = cap ∧ cur.toList.take l.length = Lib.byteCells l)
theorem toldB_of {B b : Nat} {l : List UInt8} {w : World} (h : Lib.IsBuilder 40 5 B b (Lib.byteCells l) w) : ToldB B b l w := by
  obtain ⟨p, hB, v, hbk, hown, hne⟩ : ∃ p, Lib.BuilderAt 40 5 B b p (Lib.byteCells l) w := by
    rcases h with h | h
    · exact ⟨_, h⟩
    · exact ⟨_, h⟩
  rw [Lib.byteCells_length] at hown
  refine ⟨hB, p, v, hbk, ?_⟩
  rcases hown.2 with ⟨hv, hz⟩ | ⟨g, cap, cur, hv, hbg, hg, hnc, hcm, hcs, htake⟩
  · exact .inl ⟨hv, List.eq_nil_of_length_eq_zero hz⟩
  · refine .inr ⟨g, cap, cur, _, hv, hbg, ?_, hg, hnc, hcm, by omega, by rw [Nat.mul_one] at htake; exact htake⟩
    rintro rfl
    exact hne (by rw [hv]; rfl)
theorem ToldB.keep {B b : Nat} {l : List UInt8} {w w' : World} (h : ToldB B b l w) (hk : ∀ k, k < w.heap.size → w'.heap[k]? = w.heap[k]?) : ToldB B b l w' := by
  obtain ⟨h1, p, v, h2, h3⟩ := h
  refine ⟨h1, p, v, (hk b (Array.getElem?_eq_some_iff.1 h2).1).trans h2, ?_⟩
  rcases h3 with h3 | ⟨g, cap, cur, fr, a1, a2, a3, a4, a5⟩
  · exact .inl h3
  · exact .inr ⟨g, cap, cur, fr, a1, a2, a3, (hk g (Array.getElem?_eq_some_iff.1 a4).1).trans a4, a5⟩
theorem ToldB.below {B b : Nat} {l : List UInt8} {w w' : World} (h : ToldB B b l w) (hb : Below w.heap.size w w') : ToldB B b l w' := h.keep fun _ hk => hb.block _ hk
theorem ToldB.freeze {B b : Nat} {l : List UInt8} {w : World} (h : ToldB B b l w) {g : Nat} (hg : g ≠ b) (n : Nat) : ToldB B b l (w.freeze ⟨g, 0, none⟩ n) := by
  obtain ⟨h1, p, v, h2, h3⟩ := h
  refine ⟨h1, p, v, (freeze_else (fun e => hg e.symm) n).trans h2, ?_⟩
  rcases h3 with h3 | ⟨g', cap, cur, fr, a1, a2, a3, a4, a5⟩
  · exact .inl h3
  · by_cases e : g' = g
    · subst e
      obtain ⟨fr', hf⟩ := freeze_here a4 n
      exact .inr ⟨g', cap, cur, fr', a1, a2, a3, hf, a5⟩
    · exact .inr ⟨g', cap, cur, fr, a1, a2, a3, (freeze_else e n).trans a4, a5⟩

set_option maxHeartbeats 2000000 in
set_option maxRecDepth 100000 in
theorem told_string {B b : Nat} {l : List UInt8} {w : World} (h : ToldB B b l w) (hBw : B ≤ w.heap.size) :
    Calls Tryd.prog 19 #[.pointer (some ⟨b, 0, none⟩)] w fun e w' => e = .returned (.string ⟨l.toArray⟩) ∧ Below B w w' ∧ ToldB B b l w' := by
  have hUS := fun (W : World) (q : Option Addr) => Lib.run_unsafeString_none (P := Tryd.prog) W 56 3 9 q
  have hU0 : ∀ (W : World), (Builtin.unsafeSliceData_ #[35] 56 #[.slice none 0 0]).run Tryd.prog W = .ok (.pointer none) W := fun _ => rfl
  have HT := Lib.hid h
  obtain ⟨hBb, p, v, h2, h3⟩ := h
  have hbw := (Array.getElem?_eq_some_iff.1 h2).1
  have HTd : Hid (ToldB B b l w.drew) := Lib.hid HT.out
  rcases h3 with ⟨rfl, rfl⟩ | ⟨g, cap, cur, fr, rfl, hbg, hgb, hg, hnc, hcm, hcs, htake⟩
  · have c1 : w.drew.cell? ⟨b, 1, none⟩ = some (.slice none 0 0) := blk_cell (w := w.drew) h2 1
    clear HT h2
    go_enter Tryd.func19, Tryd.ntmps19
    go_wp2
    go_region
    all_goals (go_wp2; go_ret; exact ⟨rfl, Below.drew (Below.refl B w), HTd.out⟩)
  · by_cases h0 : l = []
    · subst h0
      by_cases hc0 : cap = 0
      · subst hc0
        have c1 : w.drew.cell? ⟨b, 1, none⟩ = some (.slice (some ⟨g, 0, none⟩) 0 0) := blk_cell (w := w.drew) h2 1
        have c0 : w.cell? ⟨b, 1, none⟩ = some (.slice (some ⟨g, 0, none⟩) 0 0) := c1
        have hSD : (Builtin.unsafeSliceData_ #[35] 56 #[.slice (some ⟨g, 0, none⟩) 0 0]).run Tryd.prog w.drew = .ok (.pointer (some ⟨w.drew.heap.size, 0, none⟩)) (w.drew.alloc (.view ⟨g, 0, none⟩ 5)) :=
          Lib.run_unsafeSliceData_zero w.drew _ _ 5 Tryd.underlying56 ⟨g, 0, none⟩ 0 (5, cur.size) (by have hg' : w.drew.heap[g]? = some (.cells cur 5 fr) := hg; simp [World.shape?, hg'])
        have c2 : (w.drew.alloc (.view ⟨g, 0, none⟩ 5)).cell? ⟨b, 1, none⟩ = some (.slice (some ⟨g, 0, none⟩) 0 0) := by
          have : (w.drew.alloc (.view ⟨g, 0, none⟩ 5)).heap[b]? = _ := (Lib.alloc_old w.drew _ b hbw).trans h2
          exact blk_cell this 1
        have c3 : (w.alloc (.view ⟨g, 0, none⟩ 5)).drew.cell? ⟨b, 1, none⟩ = some (.slice (some ⟨g, 0, none⟩) 0 0) := c2
        have HTa : Hid (ToldB B b [] (w.drew.alloc (.view ⟨g, 0, none⟩ 5))) := Lib.hid (HTd.out.keep fun k hk => Lib.alloc_old w.drew _ k hk)
        clear HT h2 hg hcs htake
        go_enter Tryd.func19, Tryd.ntmps19
        go_wp2
        go_region
        all_goals (go_wp2; go_ret; exact ⟨rfl, (Below.drew (Below.refl B w)).alloc hBw _, HTa.out⟩)
      · have c1 : w.drew.cell? ⟨b, 1, none⟩ = some (.slice (some ⟨g, 0, none⟩) 0 cap) := blk_cell (w := w.drew) h2 1
        have hSD : (Builtin.unsafeSliceData_ #[35] 56 #[.slice (some ⟨g, 0, none⟩) 0 cap]).run Tryd.prog w.drew = .ok (.pointer (some ⟨g, 0, none⟩)) w.drew :=
          Lib.run_unsafeSliceData_row _ _ _ _ _ _ hc0
        clear HT h2 hg hcs htake hc0 hcm hnc
        go_enter Tryd.func19, Tryd.ntmps19
        go_wp2
        go_region
        all_goals (go_wp2; go_ret; exact ⟨rfl, Below.drew (Below.refl B w), HTd.out⟩)
    · have hl0 : l.length ≠ 0 := by simpa using h0
      have c1 : w.drew.cell? ⟨b, 1, none⟩ = some (.slice (some ⟨g, 0, none⟩) l.length cap) := blk_cell (w := w.drew) h2 1
      have hSD : (Builtin.unsafeSliceData_ #[35] 56 #[.slice (some ⟨g, 0, none⟩) l.length cap]).run Tryd.prog w.drew = .ok (.pointer (some ⟨g, 0, none⟩)) w.drew :=
        Lib.run_unsafeSliceData_row _ _ _ _ _ _ (by omega)
      have hU2 : (Builtin.unsafeString_ #[56, 3] 9 #[.pointer (some ⟨g, 0, none⟩), .int .i64 l.length]).run Tryd.prog w.drew = .ok (.string ⟨l.toArray⟩) (w.drew.freeze ⟨g, 0, none⟩ l.length) := by
        refine Lib.run_unsafeString_row w.drew 56 3 9 5 Tryd.underlying56 (by kernel_rfl) g cur.size (by have hg' : w.drew.heap[g]? = some (.cells cur 5 fr) := hg; simp [World.shape?, hg']) l h0 (by omega) (by unfold maxLen at hcm; omega) ?_
        intro j x hx
        have hj := (List.getElem?_eq_some_iff.1 hx).1
        have e1 : (Lib.byteCells l)[j]? = some (.int .u8 x.toNat) := by simp [Lib.byteCells, hx]
        rw [← htake, List.getElem?_take, if_pos hj] at e1
        rw [Addr.add_lit, Nat.zero_add, cell_of_row w.drew g j cur 5 fr hg]
        simpa using e1
      have HTf : Hid (ToldB B b l (w.drew.freeze ⟨g, 0, none⟩ l.length)) := Lib.hid (HTd.out.freeze hgb _)
      clear HT h2 hg hcs htake hcm hnc hUS
      go_enter Tryd.func19, Tryd.ntmps19
      go_wp2
      go_region
      all_goals (go_wp2; go_ret; exact ⟨rfl, Lib.below_freeze (Below.drew (Below.refl B w)) (p := ⟨g, 0, none⟩) hbg _, HTf.out⟩)
end Go.Proofs.YtclenfdhnccalaaDoor
