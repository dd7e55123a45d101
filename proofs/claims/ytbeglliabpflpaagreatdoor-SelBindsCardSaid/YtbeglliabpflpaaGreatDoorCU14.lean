/- Bld BldS QdK QdS. -/
import Derived.Lib.Builder
import Derived.Lib.AppendStr
import Derived.Lib.UnsafeStr
import Derived.Deep.Cut
import Derived.Lib.SmallJoins
import Derived.Test.YtbeglliabpflpaaGreatDoorCU7
import Derived.Test.YtbeglliabpflpaaGreatDoorCU8
import Derived.Test.YtbeglliabpflpaaGreatDoorCU11
import Derived.Test.YtbeglliabpflpaaGreatDoorCU13
namespace Wb
open Go Go.RowKit
theorem own_blk' {w w' : World} {base sz n : Nat} {e : TypeId} {v : Value} {xs : List Value} (h : w.ownsRow base e sz v n xs) (hb : ∀ k, v.ownBlock = some k → w'.heap[k]? = w.heap[k]?) : w'.ownsRow base e sz v n xs := by
  refine ⟨h.1, ?_⟩
  rcases h.2 with h2 | ⟨g, cap, cur, rfl, hbg, hg, rest⟩
  · exact .inl h2
  · exact .inr ⟨g, cap, cur, rfl, hbg, (hb g rfl).trans hg, rest⟩
theorem own_in' {w : World} {base sz n g : Nat} {e : TypeId} {v : Value} {xs : List Value} (h : w.ownsRow base e sz v n xs) (hv : v.ownBlock = some g) : base ≤ g ∧ g < w.heap.size := h.lt g hv
theorem blk_in' {w : World} {g : Nat} {o : Obj} (h : w.heap[g]? = some o) : g < w.heap.size := (Array.getElem?_eq_some_iff.1 h).1
theorem isb_below' {T e : TypeId} {B b : Nat} {bs : List Value} {w w' : World} (h : Lib.IsBuilder T e B b bs w) (hb : Below w.heap.size w w') : Lib.IsBuilder T e B b bs w' := by
  have k : ∀ p, Lib.BuilderAt T e B b p bs w → Lib.BuilderAt T e B b p bs w' := by
    rintro p ⟨h1, v, h2, h3, h4⟩
    exact ⟨h1, v, still_block h2 hb, own_below h3 hb, h4⟩
  exact h.imp (k _) (k _)
end Wb
namespace Go.Proofs.YtbeglliabpflpaaGreatDoor
open Go.RowKit Wb
theorem qw_lies : liesAt Tryz.prog Tryz.prog.depth 80 (2 / Tryz.prog.cellsOf 80) 0 80 1 = true := by kernel_rfl
theorem qw_size : (Tryz.prog.info? 80).map (·.size) = some 2 := by kernel_rfl
theorem qw_byte : (Tryz.prog.info? 5).map (fun i => (i.zero, i.size, i.bytes)) = some (some (.int .u8 0), 1, 1) := by kernel_rfl
theorem qw_esc (x : Value) (w : World) : (callFunc 101 #[x]).run Tryz.prog w = .ok (.value x) w := by
  rw [run_callFunc_extern (P := Tryz.prog) (f := 101) (fn := Tryz.f101) (e := Extern.AbiNoEscape.same) (by kernel_rfl) (by kernel_rfl) (by kernel_rfl) (by kernel_rfl) (by kernel_rfl), Lib.run_noEscape]
  rfl
set_option maxHeartbeats 1000000 in
set_option maxRecDepth 100000 in
theorem qw_check {B b : Nat} {bs : List Value} {w : World} (h : Lib.IsBuilder 80 5 B b bs w) :
    Calls Tryz.prog 76 #[.pointer (some ⟨b, 0, none⟩)] w fun e w' => e = .returned (.tuple #[]) ∧ Lib.BuilderAt 80 5 B b (.pointer (some ⟨b, 0, none⟩)) bs w' ∧ Below B w w' := by
  obtain ⟨j, hj, hjs⟩ := Option.map_eq_some_iff.1 qw_size
  rcases h with ⟨h1, v, h2, h3, h4⟩ | ⟨h1, v, h2, h3, h4⟩
  · have h0 : w.cell? ⟨b, 0, none⟩ = some (.pointer none) := blk_cell h2 0
    have hfz := blk_free h2 0
    have hsh : w.shape? b = some (80, 2) := by simp [World.shape?, h2]
    have e1 : (convert 77 132 (.pointer (some ⟨b, 0, none⟩))).run Tryz.prog w = .ok (.pointer (some ⟨b, 0, none⟩)) w := Lib.run_to_unsafe w ⟨b, 0, none⟩ Tryz.underlying77 Tryz.underlying132 hj (by rw [hjs]; decide) hsh (by show 0 < 2; omega)
    have e2 : (convert 132 77 (.pointer (some ⟨b, 0, none⟩))).run Tryz.prog w = .ok (.pointer (some ⟨b, 0, none⟩)) w := Lib.run_from_unsafe w ⟨b, 0, none⟩ Tryz.underlying132 Tryz.underlying77 hj hsh qw_lies
    have e3 := qw_esc
    have hfin : Lib.BuilderAt 80 5 B b (.pointer (some ⟨b, 0, none⟩)) bs (w.setCell ⟨b, 0, none⟩ (.pointer (some ⟨b, 0, none⟩))) ∧ Below B w (w.setCell ⟨b, 0, none⟩ (.pointer (some ⟨b, 0, none⟩))) := by
      refine ⟨⟨h1, v, by simpa using blk_set h2 0 (.pointer (some ⟨b, 0, none⟩)), own_blk' h3 fun k hv => Below.heap_setCell _ _ _ _ (fun e => h4 (by rw [hv]; simpa using e)), h4⟩, (Below.refl B w).setCell (p := ⟨b, 0, none⟩) h1 _⟩
    have HF := Lib.hid hfin
    clear hfin h3 h4 hsh hj hjs h2
    go_enter Tryz.func76, Tryz.ntmps76
    go_wp2
    go_end0
    exact ⟨rfl, HF.out⟩
  · have h0 : w.cell? ⟨b, 0, none⟩ = some (.pointer (some ⟨b, 0, none⟩)) := blk_cell h2 0
    have hfin : Lib.BuilderAt 80 5 B b (.pointer (some ⟨b, 0, none⟩)) bs w ∧ Below B w w := ⟨⟨h1, v, h2, h3, h4⟩, Below.refl _ _⟩
    have HF := Lib.hid hfin
    have hpe := fun (v : World) => Lib.run_neq_ptr_same (P := Tryz.prog) v ⟨b, 0, none⟩ Tryz.underlying77 hj
    clear hfin h3 h4 hj hjs h2
    go_enter Tryz.func76, Tryz.ntmps76
    go_wp2
    go_end0
    exact ⟨rfl, HF.out⟩
set_option maxHeartbeats 2000000 in
set_option maxRecDepth 100000 in
theorem qwrite_any (B b : Nat) (bs : List Value) (s : ByteArray) (w : World) (h : Lib.IsBuilder 80 5 B b bs w) (hlen : bs.length + s.size ≤ 140737488355328) (_hBw : B ≤ w.heap.size) :
    Calls Tryz.prog 62 #[.pointer (some ⟨b, 0, none⟩), .string s] w fun e w' => (∃ v, e = .returned v) ∧ Lib.IsBuilder 80 5 B b (bs ++ Lib.strCells s) w' ∧ Below B w w' := by
  obtain ⟨i0, hi, hz0, hz1, hz2⟩ := info_parts qw_byte
  have hc := qw_check h
  clear h
  go_enter Tryz.func62, Tryz.ntmps62
  go_wp2_with fail
  refine hc.mono ?_
  rintro e w1 ⟨rfl, ⟨a1, v, a2, a3, a4⟩, hk1⟩
  have c0 : w1.cell? ⟨b, 0, none⟩ = some (.pointer (some ⟨b, 0, none⟩)) := blk_cell a2 0
  have c1 : w1.cell? ⟨b, 1, none⟩ = some v := blk_cell a2 1
  have hb1 := blk_in' a2
  have A2 := Lib.hid a2
  have A4 := Lib.hid a4
  have K1 := Lib.hid hk1
  have hm : bs.length + s.size ≤ maxLen := by unfold maxLen; omega
  have hbw : B ≤ w1.heap.size := by omega
  clear hc hk1 a2 a4
  go_wp2_with (at_builtin; refine Lib.wpList_append_own_string _ rfl _ _ 78 9 rfl B 5 i0 Tryz.underlying78 Tryz.underlying9 hi hz0 hz1 hz2 _ _ _ rfl a3 s rfl hm hlen hbw ?_)
  intro v' w2 hown' hgrow _
  obtain ⟨A, c, rfl⟩ := own_shape hown'
  have hne : some b ≠ v.ownBlock := fun e => A4.out e.symm
  have hb2 := grown_block A2.out hgrow hne
  have d0 : w2.cell? ⟨b, 0, none⟩ = some (.pointer (some ⟨b, 0, none⟩)) := blk_cell hb2 0
  have d1 : w2.cell? ⟨b, 1, none⟩ = some v := blk_cell hb2 1
  have f1 := blk_free hb2 1
  have hk2 : Below B w1 (w2.setCell ⟨b, 1, none⟩ (.slice A (bs.length + s.size) c)) :=
    ((Below.refl B w1).grown hgrow hbw (fun k hv => (own_in' a3 hv).1)).setCell (p := ⟨b, 1, none⟩) a1 _
  have hne2 : (Value.slice A (bs.length + s.size) c).ownBlock ≠ some b := by
    intro e
    rcases hown'.2 with ⟨h0, _⟩ | ⟨g, cap, cur, hv, _, hg, _⟩
    · rw [h0] at e; simp [Value.ownBlock] at e
    · rw [hv] at e
      simp only [Value.ownBlock, Option.some.injEq] at e
      subst e
      rw [hb2] at hg
      injection hg with hg
      injection hg with _ hg
      exact absurd hg (by decide)
  have hfin : Lib.IsBuilder 80 5 B b (bs ++ Lib.strCells s) (w2.setCell ⟨b, 1, none⟩ (.slice A (bs.length + s.size) c)) := by
    refine .inr ⟨a1, _, by simpa using blk_set hb2 1 (.slice A (bs.length + s.size) c), ?_, hne2⟩
    have := own_blk' (w' := w2.setCell ⟨b, 1, none⟩ (.slice A (bs.length + s.size) c)) hown' fun k hv => Below.heap_setCell _ _ _ _ (fun e => hne2 (by rw [hv]; simpa using e))
    rw [List.length_append, show (Lib.strCells s).length = s.size from by rw [Lib.strCells_eq, Lib.byteCells_length, ← Lib.size_eq]]
    exact this
  have HF := Lib.hid hfin
  have K2 := Lib.hid (K1.out.trans hk2)
  clear hfin hk2 hown' hgrow hb2 hne2 a3 hne
  go_wp2
  go_ret2
  exact ⟨⟨_, rfl⟩, HF.out, K2.out⟩
set_option maxHeartbeats 2000000 in
set_option maxRecDepth 100000 in
theorem qbyte_any (B b : Nat) (bs : List Value) (c : Int) (w : World) (h : Lib.IsBuilder 80 5 B b bs w) (hlen : bs.length + 1 ≤ 140737488355328) (_hBw : B ≤ w.heap.size) :
    Calls Tryz.prog 40 #[.pointer (some ⟨b, 0, none⟩), .int .u8 c] w fun e w' => (∃ v, e = .returned v) ∧ Lib.IsBuilder 80 5 B b (bs ++ [.int .u8 c]) w' ∧ Below B w w' := by
  obtain ⟨i0, hi, hz0, hz1, hz2⟩ := info_parts qw_byte
  have hc := qw_check h
  clear h
  go_enter Tryz.func40, Tryz.ntmps40
  go_wp2_with fail
  refine hc.mono ?_
  rintro e w1 ⟨rfl, ⟨hB, v, hbk, hown, hne⟩, hb1⟩
  have c0 : w1.cell? ⟨b, 0, none⟩ = some (.pointer (some ⟨b, 0, none⟩)) := blk_cell hbk 0
  have c1 : w1.cell? ⟨b, 1, none⟩ = some v := blk_cell hbk 1
  have hlt := blk_in' hbk
  have hbw : B ≤ w1.heap.size := by omega
  go_wp2_with (at_builtin; refine wpList_append_own _ rfl _ _ 78 rfl B 5 i0 (.int .u8 0) 1 1 Tryz.underlying78 hi hz0 hz1 hz2 rfl (by decide) _ _ _ rfl (hown.alloc _) ⟨w1.heap.size, 0, none⟩ 1 1 [.int .u8 c] rfl rfl ?c1 ?c2 ?c3 ?c4 ?c5 ?_)
  case c1 =>
    intro j u hj
    match j, hj with
    | 0, hj => simp at hj; subst hj; simp [Addr.add]
  case c2 => intro u hu; simp at hu; subst hu; rfl
  case c3 => unfold maxLen; omega
  case c4 => omega
  case c5 => simp; omega
  intro v' w2 hown' hgrow _
  have hb2 : w2.heap[b]? = some (.cells #[.pointer (some ⟨b, 0, none⟩), v] 80 (0, 0)) := by
    rw [hgrow.block b (by simp; omega) (fun e => hne e.symm), Lib.alloc_old w1 _ b hlt]
    exact hbk
  have d0 : w2.cell? ⟨b, 0, none⟩ = some (.pointer (some ⟨b, 0, none⟩)) := blk_cell hb2 0
  have d1 : w2.cell? ⟨b, 1, none⟩ = some v := blk_cell hb2 1
  have f1 := blk_free hb2 1
  obtain ⟨g, cap, rfl⟩ : ∃ g cap, v' = .slice (some ⟨g, 0, none⟩) (bs.length + 1) cap := by
    rcases hown'.2 with ⟨_, h0⟩ | ⟨g, cap, cur, hv, _⟩
    · omega
    · exact ⟨g, cap, hv⟩
  have hfin : Lib.IsBuilder 80 5 B b (bs ++ [.int .u8 c]) (w2.setCell ⟨b, 1, none⟩ (.slice (some ⟨g, 0, none⟩) (bs.length + 1) cap)) :=
    .inr (Lib.BuilderAt.put (T := 80) (e := 5) hB hb2 (bs' := bs ++ [.int .u8 c]) (by simpa using hown') (by decide))
  have HF := Lib.hid hfin
  have HK := Lib.hid (((hb1.alloc (by omega) _).grown hgrow (by simp; omega) (fun k hk => (hown.lt k hk).1)).setCell (p := ⟨b, 1, none⟩) hB (.slice (some ⟨g, 0, none⟩) (bs.length + 1) cap))
  clear hfin hown' hgrow hown hc
  go_wp2
  go_ret
  exact ⟨⟨_, rfl⟩, HF.out, HK.out⟩
end Go.Proofs.YtbeglliabpflpaaGreatDoor
namespace Wb
open Go Go.RowKit
theorem freeze_here {w : World} {g : Nat} {cur : Array Value} {t : TypeId} {fr : Nat × Nat} (h : w.heap[g]? = some (.cells cur t fr)) (n : Nat) : ∃ fr', (w.freeze ⟨g, 0, none⟩ n).heap[g]? = some (.cells cur t fr') := by
  unfold World.freeze
  split
  · exact ⟨fr, h⟩
  · refine ⟨(if fr.1 == fr.2 then (0, 0 + n) else (min fr.1 0, max fr.2 (0 + n))), ?_⟩
    simp only [Array.getElem?_modify, if_pos]
    rw [h]
    rfl
theorem freeze_else {w : World} {g k : Nat} (h : k ≠ g) (n : Nat) : (w.freeze ⟨g, 0, none⟩ n).heap[k]? = w.heap[k]? := by
  unfold World.freeze
  split
  · rfl
  · simp only [Array.getElem?_modify]
    rw [if_neg (fun e => h e.symm)]
end Wb
namespace Go.Proofs.YtbeglliabpflpaaGreatDoor
open Go.RowKit Wb
def ToldB (B b : Nat) (l : List UInt8) (w : World) : Prop := B ≤ b ∧ ∃ p v, w.heap[b]? = some (.cells #[p, v] 80 (0, 0)) ∧
  ((v = .slice none 0 0 ∧ l = []) ∨ ∃ g cap cur fr, v = .slice (some ⟨g, 0, none⟩) l.length cap ∧ B ≤ g ∧ g ≠ b ∧ w.heap[g]? = some (.cells cur 5 fr) ∧ l.length ≤ cap ∧ cap ≤ maxLen ∧ cur.size = cap ∧ cur.toList.take l.length = Lib.byteCells l)
theorem toldB_of {B b : Nat} {l : List UInt8} {w : World} (h : Lib.IsBuilder 80 5 B b (Lib.byteCells l) w) : ToldB B b l w := by
  obtain ⟨p, hB, v, hbk, hown, hne⟩ : ∃ p, Lib.BuilderAt 80 5 B b p (Lib.byteCells l) w := by
    rcases h with h | h
    · exact ⟨_, h⟩
    · exact ⟨_, h⟩
  rw [Lib.byteCells_length] at hown
  refine ⟨hB, p, v, hbk, ?_⟩
  rcases hown.2 with ⟨hv, hz⟩ | ⟨g, cap, cur, hv, hbg, hg, hnc, hcm, hcs, htake⟩
  · exact .inl ⟨hv, List.eq_nil_of_length_eq_zero hz⟩
  · refine .inr ⟨g, cap, cur, _, hv, hbg, ?_, hg, hnc, hcm, by omega, by rw [Nat.mul_one] at htake; exact htake⟩
    rintro rfl
    exact hne (by rw [hv]; rfl)
theorem ToldB.keep {B b : Nat} {l : List UInt8} {w w' : World} (h : ToldB B b l w) (hk : ∀ k, k < w.heap.size → w'.heap[k]? = w.heap[k]?) : ToldB B b l w' := by
  obtain ⟨h1, p, v, h2, h3⟩ := h
  refine ⟨h1, p, v, (hk b (Array.getElem?_eq_some_iff.1 h2).1).trans h2, ?_⟩
  rcases h3 with h3 | ⟨g, cap, cur, fr, a1, a2, a3, a4, a5⟩
  · exact .inl h3
  · exact .inr ⟨g, cap, cur, fr, a1, a2, a3, (hk g (Array.getElem?_eq_some_iff.1 a4).1).trans a4, a5⟩
theorem ToldB.below {B b : Nat} {l : List UInt8} {w w' : World} (h : ToldB B b l w) (hb : Below w.heap.size w w') : ToldB B b l w' := h.keep fun _ hk => hb.block _ hk
theorem ToldB.freeze {B b : Nat} {l : List UInt8} {w : World} (h : ToldB B b l w) {g : Nat} (hg : g ≠ b) (n : Nat) : ToldB B b l (w.freeze ⟨g, 0, none⟩ n) := by
  obtain ⟨h1, p, v, h2, h3⟩ := h
  refine ⟨h1, p, v, (freeze_else (fun e => hg e.symm) n).trans h2, ?_⟩
  rcases h3 with h3 | ⟨g', cap, cur, fr, a1, a2, a3, a4, a5⟩
  · exact .inl h3
  · by_cases e : g' = g
    · subst e
      obtain ⟨fr', hf⟩ := freeze_here a4 n
      exact .inr ⟨g', cap, cur, fr', a1, a2, a3, hf, a5⟩
    · exact .inr ⟨g', cap, cur, fr, a1, a2, a3, (freeze_else e n).trans a4, a5⟩
set_option maxHeartbeats 2000000 in
set_option maxRecDepth 100000 in
theorem told_string {B b : Nat} {l : List UInt8} {w : World} (h : ToldB B b l w) (hBw : B ≤ w.heap.size) :
    Calls Tryz.prog 42 #[.pointer (some ⟨b, 0, none⟩)] w fun e w' => e = .returned (.string ⟨l.toArray⟩) ∧ Below B w w' ∧ ToldB B b l w' := by
  have hUS := fun (W : World) (q : Option Addr) => Lib.run_unsafeString_none (P := Tryz.prog) W 114 3 9 q
  have hU0 : ∀ (W : World), (Builtin.unsafeSliceData_ #[78] 114 #[.slice none 0 0]).run Tryz.prog W = .ok (.pointer none) W := fun _ => rfl
  have HT := Lib.hid h
  obtain ⟨hBb, p, v, h2, h3⟩ := h
  have hbw := (Array.getElem?_eq_some_iff.1 h2).1
  have HTd : Hid (ToldB B b l w.drew) := Lib.hid HT.out
  rcases h3 with ⟨rfl, rfl⟩ | ⟨g, cap, cur, fr, rfl, hbg, hgb, hg, hnc, hcm, hcs, htake⟩
  · have c1 : w.drew.cell? ⟨b, 1, none⟩ = some (.slice none 0 0) := blk_cell (w := w.drew) h2 1
    clear HT h2
    go_enter Tryz.func42, Tryz.ntmps42
    go_wp2
    go_region
    all_goals (go_wp2; go_ret; exact ⟨rfl, Below.drew (Below.refl B w), HTd.out⟩)
  · by_cases h0 : l = []
    · subst h0
      by_cases hc0 : cap = 0
      · subst hc0
        have c1 : w.drew.cell? ⟨b, 1, none⟩ = some (.slice (some ⟨g, 0, none⟩) 0 0) := blk_cell (w := w.drew) h2 1
        have c0 : w.cell? ⟨b, 1, none⟩ = some (.slice (some ⟨g, 0, none⟩) 0 0) := c1
        have hSD : (Builtin.unsafeSliceData_ #[78] 114 #[.slice (some ⟨g, 0, none⟩) 0 0]).run Tryz.prog w.drew = .ok (.pointer (some ⟨w.drew.heap.size, 0, none⟩)) (w.drew.alloc (.view ⟨g, 0, none⟩ 5)) :=
          Lib.run_unsafeSliceData_zero w.drew _ _ 5 Tryz.underlying114 ⟨g, 0, none⟩ 0 (5, cur.size) (by have hg' : w.drew.heap[g]? = some (.cells cur 5 fr) := hg; simp [World.shape?, hg'])
        have c2 : (w.drew.alloc (.view ⟨g, 0, none⟩ 5)).cell? ⟨b, 1, none⟩ = some (.slice (some ⟨g, 0, none⟩) 0 0) := by
          have : (w.drew.alloc (.view ⟨g, 0, none⟩ 5)).heap[b]? = _ := (Lib.alloc_old w.drew _ b hbw).trans h2
          exact blk_cell this 1
        have c3 : (w.alloc (.view ⟨g, 0, none⟩ 5)).drew.cell? ⟨b, 1, none⟩ = some (.slice (some ⟨g, 0, none⟩) 0 0) := c2
        have HTa : Hid (ToldB B b [] (w.drew.alloc (.view ⟨g, 0, none⟩ 5))) := Lib.hid (HTd.out.keep fun k hk => Lib.alloc_old w.drew _ k hk)
        clear HT h2 hg hcs htake
        go_enter Tryz.func42, Tryz.ntmps42
        go_wp2
        go_region
        all_goals (go_wp2; go_ret; exact ⟨rfl, (Below.drew (Below.refl B w)).alloc hBw _, HTa.out⟩)
      · have c1 : w.drew.cell? ⟨b, 1, none⟩ = some (.slice (some ⟨g, 0, none⟩) 0 cap) := blk_cell (w := w.drew) h2 1
        have hSD : (Builtin.unsafeSliceData_ #[78] 114 #[.slice (some ⟨g, 0, none⟩) 0 cap]).run Tryz.prog w.drew = .ok (.pointer (some ⟨g, 0, none⟩)) w.drew :=
          Lib.run_unsafeSliceData_row _ _ _ _ _ _ hc0
        clear HT h2 hg hcs htake hc0 hcm hnc
        go_enter Tryz.func42, Tryz.ntmps42
        go_wp2
        go_region
        all_goals (go_wp2; go_ret; exact ⟨rfl, Below.drew (Below.refl B w), HTd.out⟩)
    · have hl0 : l.length ≠ 0 := by simpa using h0
      have c1 : w.drew.cell? ⟨b, 1, none⟩ = some (.slice (some ⟨g, 0, none⟩) l.length cap) := blk_cell (w := w.drew) h2 1
      have hSD : (Builtin.unsafeSliceData_ #[78] 114 #[.slice (some ⟨g, 0, none⟩) l.length cap]).run Tryz.prog w.drew = .ok (.pointer (some ⟨g, 0, none⟩)) w.drew :=
        Lib.run_unsafeSliceData_row _ _ _ _ _ _ (by omega)
      have hU2 : (Builtin.unsafeString_ #[114, 3] 9 #[.pointer (some ⟨g, 0, none⟩), .int .i64 l.length]).run Tryz.prog w.drew = .ok (.string ⟨l.toArray⟩) (w.drew.freeze ⟨g, 0, none⟩ l.length) := by
        refine Lib.run_unsafeString_row w.drew 114 3 9 5 Tryz.underlying114 (by kernel_rfl) g cur.size (by have hg' : w.drew.heap[g]? = some (.cells cur 5 fr) := hg; simp [World.shape?, hg']) l h0 (by omega) (by unfold maxLen at hcm; omega) ?_
        intro j x hx
        have hj := (List.getElem?_eq_some_iff.1 hx).1
        have e1 : (Lib.byteCells l)[j]? = some (.int .u8 x.toNat) := by simp [Lib.byteCells, hx]
        rw [← htake, List.getElem?_take, if_pos hj] at e1
        rw [Addr.add_lit, Nat.zero_add, cell_of_row w.drew g j cur 5 fr hg]
        simpa using e1
      have HTf : Hid (ToldB B b l (w.drew.freeze ⟨g, 0, none⟩ l.length)) := Lib.hid (HTd.out.freeze hgb _)
      clear HT h2 hg hcs htake hcm hnc hUS
      go_enter Tryz.func42, Tryz.ntmps42
      go_wp2
      go_region
      all_goals (go_wp2; go_ret; exact ⟨rfl, Lib.below_freeze (Below.drew (Below.refl B w)) (p := ⟨g, 0, none⟩) hbg _, HTf.out⟩)
end Go.Proofs.YtbeglliabpflpaaGreatDoor
namespace Wb
theorem esc_at {s b : List UInt8} {i : Nat} (hd : DecAt s b i) (h : i < s.length) (hc : s[i] = 37) :
    (escO (s.drop (i + 1)) = false ∧ pctD s = none) ∨ (escO (s.drop (i + 1)) = true ∧ i + 2 < s.length ∧ DecAt s (b ++ [escV (s.drop (i + 1))]) (i + 3)) := by
  by_cases h2 : i + 2 < s.length
  · have e : s.drop (i + 1) = s[i + 1] :: s[i + 2] :: s.drop (i + 3) := by
      rw [pdrop_at (show i + 1 < s.length by omega), pdrop_at (show i + 1 + 1 < s.length by omega)]
    rw [e]
    unfold escO escV
    by_cases hq : dgV s[i + 1] < 0 ∨ dgV s[i + 2] < 0
    · refine .inl ⟨by simp [hq], decAt_bad hd h hc (.inr ⟨h2, hq⟩)⟩
    · refine .inr ⟨by simp [hq], h2, ?_⟩
      simp only [if_neg hq]
      exact decAt_esc hd h2 hc (by omega) (by omega)
  · refine .inl ⟨(esc_short (by rw [List.length_drop]; omega)).2, decAt_bad hd h hc (.inl (by omega))⟩
theorem decP_none {s : List UInt8} (h : pctD s = none) : decP s = ([], 32) := by
  unfold decP
  rw [h]
theorem decP_some {s t : List UInt8} (h : pctD s = some t) : decP s = if 0 ≤ chk t then ([], 10) else (t, 0) := by
  unfold decP
  rw [h]
theorem ext_drop (s : ByteArray) (a : Nat) : (s.extract a s.size).data.toList = s.data.toList.drop a := by
  rw [ext_sub, List.take_of_length_le (by simp)]
end Wb
namespace Go.Proofs.YtbeglliabpflpaaGreatDoor
open Go.RowKit Wb
set_option maxRecDepth 100000 in
set_option maxHeartbeats 8000000 in
theorem decode_any (s : ByteArray) (w : World) (hs : s.size ≤ 1000000) :
    Calls Tryz.prog 17 #[.string s] w fun e w' => e = .returned (.tuple #[.string ⟨(decP s.data.toList).1.toArray⟩, .int .i64 (decP s.data.toList).2]) ∧ Below w.heap.size w w' := by
  obtain ⟨o, ho⟩ : ∃ o, decP s.data.toList = o := ⟨_, rfl⟩
  rw [ho]
  have HO := Lib.hid ho
  clear ho
  have HF0 := Lib.hid (Lib.fresh_isBuilder 80 5 w)
  have HB0 := Lib.hid ((Below.refl w.heap.size w).alloc (Nat.le_refl _) (.cells #[.pointer none, .slice none 0 0] 80))
  have hw0 : w.heap.size ≤ (w.alloc (.cells #[.pointer none, .slice none 0 0] 80)).heap.size := by simp
  go_enter Tryz.func17, Tryz.ntmps17
  go_wp2
  go_loopw [5] (fun v5 wr => ∃ (i : Nat) (acc : List UInt8), i ≤ s.size ∧ v5 = .int .i64 i ∧ acc.length ≤ i ∧ Hid (DecAt s.data.toList acc i) ∧ Hid (Lib.IsBuilder 80 5 w.heap.size w.heap.size (Lib.byteCells acc) wr) ∧ Hid (Below w.heap.size w wr) ∧ w.heap.size ≤ wr.heap.size) (fun v5 _ => ((s.size : Int) - intOf v5).toNat)
  case atStart => exact ⟨0, [], by omega, rfl, by simp, Lib.hid (decAt_zero _), HF0, HB0, hw0⟩
  case round =>
    clear HF0 HB0 hw0
    obtain ⟨i, acc, hil, rfl, hal, HD, HF, HB, hws⟩ := hrel
    by_cases h0 : i < s.size
    · have h0l : i < s.data.toList.length := by simpa using h0
      have w1 : IntKind.i64.wrap ((i : Int) + 1) = (i : Int) + 1 := by rw [IntKind.wrap_i64]; omega
      cases h37 : (s[i] == 37)
      · have hne : s.data.toList[i] ≠ 37 := fun h => by
          rw [beq_eq_false_iff_ne] at h37
          exact h37 h
        have HD2 : Hid (DecAt s.data.toList (acc ++ [s[i]]) (i + 1)) := Lib.hid (decAt_one HD.out h0l hne)
        have hp := u8_is37 _ _ h37
        have k1 := qbyte_any w.heap.size w.heap.size (Lib.byteCells acc) (s[i].toNat : Int) wr HF.out (by rw [Lib.byteCells_length]; omega) hws
        clear hne h37 HD HF
        go_wp2_with fail
        refine k1.mono ?_
        rintro e w5 ⟨⟨v, rfl⟩, hF5, hb5⟩
        have HF5 : Hid (Lib.IsBuilder 80 5 w.heap.size w.heap.size (Lib.byteCells (acc ++ [s[i]])) w5) := Lib.hid (by rw [Lib.byteCells_append]; exact hF5)
        have HB5 := Lib.hid (HB.out.trans hb5)
        have hws5 : w.heap.size ≤ w5.heap.size := Nat.le_trans hws hb5.size
        clear k1 hF5 hb5 HB hws
        go_wp2
        go_roundw
        case rel => exact ⟨i + 1, acc ++ [s[i]], by omega, by go_num, by rw [List.length_append]; simp; omega, HD2, HF5, HB5, hws5⟩
        case measure => simp [intOf]; omega
      · have he : s.data.toList[i] = 37 := by
          rw [beq_iff_eq] at h37
          exact h37
        have hp := u8_is37 _ _ h37
        have hes := esc_at HD.out h0l he
        have g1 : (i : Int) + 1 ≤ (s.size : Int) := by omega
        have g2 : (0 : Int) ≤ (i : Int) + 1 := by omega
        obtain ⟨x, hx⟩ : ∃ x, s.extract (i + 1) s.size = x := ⟨_, rfl⟩
        have hesc := fun v => pescaped_any x v
        rw [← ext_drop, hx] at hes
        clear h37 he
        rcases hes with ⟨h1, h2⟩ | ⟨h1, h2, h3⟩
        · have HE : Hid (o = ([], 32)) := Lib.hid (HO.out.symm.trans (decP_none h2))
          rw [h1] at hesc
          clear h1 h2 HD
          go_wp2_with fail
          (try rw [hx])
          refine (hesc _).mono ?_
          rintro e w5 ⟨rfl, rfl⟩
          clear hesc
          go_wp2
          go_ret2
          rw [HE.out]
          exact ⟨rfl, HB.out⟩
        · have HD2 := Lib.hid h3
          have h2s : i + 2 < s.size := by simpa using h2
          have w2 : IntKind.i64.wrap ((i : Int) + 2) = (i : Int) + 2 := by rw [IntKind.wrap_i64]; omega
          have w3 : IntKind.i64.wrap ((i : Int) + 3) = (i : Int) + 3 := by rw [IntKind.wrap_i64]; omega
          rw [h1] at hesc
          generalize escV x.data.toList = d at *
          have k1 := qbyte_any w.heap.size w.heap.size (Lib.byteCells acc) (d.toNat : Int) wr HF.out (by rw [Lib.byteCells_length]; omega) hws
          clear h1 h2 h3 HD HF
          go_wp2_with fail
          (try rw [hx])
          refine (hesc _).mono ?_
          rintro e w5 ⟨rfl, rfl⟩
          clear hesc
          go_wp2_with fail
          refine k1.mono ?_
          rintro e w6 ⟨⟨v, rfl⟩, hF6, hb6⟩
          have HF6 : Hid (Lib.IsBuilder 80 5 w.heap.size w.heap.size (Lib.byteCells (acc ++ [d])) w6) := Lib.hid (by rw [Lib.byteCells_append]; exact hF6)
          have HB6 := Lib.hid (HB.out.trans hb6)
          have hws6 : w.heap.size ≤ w6.heap.size := Nat.le_trans hws hb6.size
          clear k1 hF6 hb6 HB hws hx
          go_wp2
          go_roundw
          case rel => exact ⟨i + 3, acc ++ [d], by omega, by go_num, by rw [List.length_append]; simp; omega, HD2, HF6, HB6, hws6⟩
          case measure => simp [intOf]; omega
    · have hoe := HO.out.symm.trans (decP_some (decAt_end HD.out (by simp; omega)))
      have ck := fun v => check_any ⟨acc.toArray⟩ v (by show acc.toArray.size ≤ _; simp; omega)
      rw [show (⟨acc.toArray⟩ : ByteArray).data.toList = acc by simp] at ck
      have CK := Lib.hid ck
      have HT := Lib.hid (toldB_of HF.out)
      clear ck HD HF hal hil
      rcases chk_bd acc with hq | hq
      · rw [hq, if_neg (by omega)] at hoe
        have HOE := Lib.hid hoe
        rw [hq] at CK
        clear hq hoe
        go_wp2_with fail
        refine (told_string HT.out hws).mono ?_
        rintro e w5 ⟨rfl, hb5, ht5⟩
        have HB5 := Lib.hid (HB.out.trans hb5)
        have HT5 := Lib.hid ht5
        have hws5 : w.heap.size ≤ w5.heap.size := Nat.le_trans hws hb5.size
        clear hb5 ht5 HB HT
        go_wp2_with fail
        refine (CK.out _).mono ?_
        rintro e w6 ⟨rfl, hb6⟩
        have HB6 := Lib.hid (HB5.out.trans (hb6.mono hws5))
        have HT6 := Lib.hid (HT5.out.below hb6)
        have hws6 : w.heap.size ≤ w6.heap.size := Nat.le_trans hws5 hb6.size
        clear hb6 HB5 HT5 CK
        go_wp2_with fail
        refine (told_string HT6.out hws6).mono ?_
        rintro e w7 ⟨rfl, hb7, ht7⟩
        have HB7 := Lib.hid (HB6.out.trans hb7)
        clear hb7 ht7 HB6 HT6
        go_wp2
        go_ret2
        rw [HOE.out]
        exact ⟨rfl, HB7.out⟩
      · have hq0 : 0 ≤ chk acc := by omega
        rw [if_pos hq0] at hoe
        have HOE := Lib.hid hoe
        generalize chk acc = n at *
        clear hq hoe
        go_wp2_with fail
        refine (told_string HT.out hws).mono ?_
        rintro e w5 ⟨rfl, hb5, ht5⟩
        have HB5 := Lib.hid (HB.out.trans hb5)
        have hws5 : w.heap.size ≤ w5.heap.size := Nat.le_trans hws hb5.size
        clear hb5 ht5 HB HT
        go_wp2_with fail
        refine (CK.out _).mono ?_
        rintro e w6 ⟨rfl, hb6⟩
        have HB6 := Lib.hid (HB5.out.trans (hb6.mono hws5))
        clear hb6 HB5 CK
        go_wp2
        go_ret2
        rw [HOE.out]
        exact ⟨rfl, HB6.out⟩
end Go.Proofs.YtbeglliabpflpaaGreatDoor
namespace Wb
open Go Go.RowKit
theorem own_base {w : World} {base base' sz n : Nat} {e : TypeId} {v : Value} {xs : List Value} (h : w.ownsRow base' e sz v n xs) (hb : base ≤ base') : w.ownsRow base e sz v n xs := by
  refine ⟨h.1, ?_⟩
  rcases h.2 with h2 | ⟨g, cap, cur, h1, h2, h3⟩
  · exact .inl h2
  · exact .inr ⟨g, cap, cur, h1, by omega, h3⟩
end Wb
namespace Go.Proofs.YtbeglliabpflpaaGreatDoor
open Go.RowKit Wb
def GvM (w : World) : Prop := ∃ m, w.cell? ⟨0, 0, none⟩ = some (.int .i64 m)
theorem GvM.next {w w' : World} (h : GvM w) (hb : Below w.heap.size w w') : GvM w' := by
  obtain ⟨m, hm⟩ := h
  refine ⟨m, ?_⟩
  rw [hb.cell (World.block_lt_of_cell? w _ hm)]
  exact hm
theorem text_one (w : World) (g : Nat) (c : UInt8) (h : w.cell? ⟨g, 0, none⟩ = some (.int .u8 (c.toNat : Int))) :
    (convert 78 9 (.slice (some ⟨g, 0, none⟩) 1 1)).run Tryz.prog w = .ok (.string ⟨#[c]⟩) w := by
  have := run_text w g 1 1 [(c.toNat : Int)] rfl (by
    intro j v hv
    match j, hv with
    | 0, hv => simp at hv; subst hv; exact h)
  rw [this]
  have e : b8 (c.toNat : Int) = c := by unfold b8; simp
  simp [e]
set_option maxHeartbeats 1000000 in
set_option maxRecDepth 100000 in
theorem sclone_any (s : ByteArray) (w : World) (hs : s.size ≤ 1000000000) :
    Calls Tryz.prog 72 #[.string s] w fun e w' => e = .returned (.string s) ∧ Below w.heap.size w w' := by
  have k := fun v => Tryz.stringslite_Clone s v (by omega)
  go_enter Tryz.func72, Tryz.ntmps72
  go_wp2_with fail
  refine (k _).mono ?_
  rintro e w2 ⟨rfl, hb⟩
  clear k
  go_wp2
  go_ret
  exact ⟨rfl, hb⟩
theorem ssplit_any (s : ByteArray) (c : UInt8) (w : World) (hs : s.size ≤ 1000000) (hG : GvM w) :
    Calls Tryz.prog 71 #[.string s, .string ⟨#[c]⟩] w (PieOut (pcsB c s) w) := by
  obtain ⟨m, hm⟩ := hG
  refine (Tryz.strings_Split s ⟨#[c]⟩ m w (by omega) hm (by show 1 ≤ 1; omega)).mono ?_
  rintro e w' ⟨rfl, rfl⟩
  have hl := pcs_cnt c s
  rw [split_pieces]
  refine ⟨_, by rw [← hl], ?_, (Below.refl _ _).alloc (Nat.le_refl _) _⟩
  have hle := pcs_len c [] s.data.toList
  have hp : (pcsB c s).length ≤ s.size + 1 := by
    unfold pcsB
    rw [List.length_map]
    unfold pieceF
    simpa using hle
  have := World.ownsRow_lit (base := w.heap.size) (e := 9) (size := 1) w ((pcsB c s).map Value.string).toArray (pcsB c s).length (Nat.le_refl _) (by unfold maxLen; omega) (by simp)
  simpa [cells1] using this
set_option maxRecDepth 100000 in
set_option maxHeartbeats 8000000 in
theorem pieces_any (s : ByteArray) (c : UInt8) (w : World) (hs : s.size ≤ 1000000) (hG : GvM w) :
    Calls Tryz.prog 37 #[.string s, .int .u8 c.toNat] w (PieOut (pcsB c s) w) := by
  have HCL := Lib.hid (fun v => sclone_any s v (by omega))
  have HSP := Lib.hid (fun (v : World) (hb : Below w.heap.size w v) => ssplit_any s c v hs (hG.next hb))
  have HCV := Lib.hid (fun u g h => text_one u g c h)
  have k1 := fun (u : World) => text_one (u.alloc (.cells #[.int .u8 (c.toNat : Int)] 5)) u.heap.size c (by
    have := blk_cell (heap_alloc_new u (.cells #[.int .u8 (c.toNat : Int)] 5)) 0
    exact this)
  have hc0 : ((w.alloc (.cells #[.int .u8 (c.toNat : Int)] 5)).drew).cell? ⟨w.heap.size, 0, none⟩ = some (.int .u8 (c.toNat : Int)) := by
    have := blk_cell (heap_alloc_new w (.cells #[.int .u8 (c.toNat : Int)] 5)) 0
    exact this
  have k2 := text_one _ _ _ hc0
  have HC0 := Lib.hid hc0
  have HBB := Lib.hid (((Below.refl w.heap.size w).alloc (Nat.le_refl _) (.cells #[.int .u8 (c.toNat : Int)] 5)).drew)
  clear hc0 hG
  go_enter Tryz.func37, Tryz.ntmps37
  go_upto_region 1 with fail
  (try simp only [List.append])
  refine wp_region_held_drew (S := (fun _ => True)) (by kernel_rfl) (trivial) (fun hHeld => ?_)
  refine takeW 0 ?_
  refine takeW 2 ?_
  (try simp only [Act.put, List.setIfInBounds_toArray, List.set_cons_zero, List.set_cons_succ])
  refine wpAnyH_ready (rs := [1, 3]) (by kernel_rfl) (by simp) ?_
  refine AllReadyH.cons rfl (fun K2 hK2 => ?_) (AllReadyH.cons rfl (fun K2 hK2 => ?_) AllReadyH.nil)
  · go_simp
    refine (HCL.out _).mono ?_
    rintro e w2 ⟨rfl, hb2⟩
    have HB2 : Hid (Below w.heap.size w w2) := Lib.hid (by first | exact (Below.refl w.heap.size w).drew.trans hb2 | exact HBB.out.trans (hb2.mono HBB.out.size))
    try have kB := HCV.out w2 w.heap.size ((hb2.cell (p := ⟨w.heap.size, 0, none⟩) (by simp)).trans HC0.out)
    refine hK2.out _ _ trivial (fun _ => ?_)
    (try simp only [Act.put, List.setIfInBounds_toArray, List.set_cons_zero, List.set_cons_succ])
    refine wpAnyH_ready (rs := [3]) (by kernel_rfl) (by simp) ?_
    refine AllReadyH.cons rfl (fun K2 hK2 => ?_) AllReadyH.nil
    go_simp
    refine hK2.out _ _ trivial (fun _ => ?_)
    (try simp only [Act.put, List.setIfInBounds_toArray, List.set_cons_zero, List.set_cons_succ])
    refine wpAnyH_ready (rs := [4]) (by kernel_rfl) (by simp) ?_
    refine AllReadyH.cons rfl (fun K2 hK2 => ?_) AllReadyH.nil
    go_simp
    refine hK2.out _ _ trivial (fun _ => ?_)
    (try simp only [Act.put, List.setIfInBounds_toArray, List.set_cons_zero, List.set_cons_succ])
    refine wpAnyH_ready (rs := [5]) (by kernel_rfl) (by simp) ?_
    refine AllReadyH.cons rfl (fun K2 hK2 => ?_) AllReadyH.nil
    go_simp
    refine (HSP.out _ (by first | exact HB2.out | exact HB2.out.alloc HB2.out.size _)).mono ?_
    rintro e w6 ⟨v6, rfl, hown6, hb6⟩
    have HO6 := Lib.hid (own_base hown6 (by first | exact HB2.out.size | exact (HB2.out.alloc HB2.out.size _).size))
    have HB6 : Hid (Below w.heap.size w w6) := Lib.hid (by first | exact HB2.out.trans (hb6.mono HB2.out.size) | exact (HB2.out.alloc HB2.out.size _).trans (hb6.mono (HB2.out.alloc HB2.out.size _).size))
    clear hown6 hb6
    refine hK2.out _ _ trivial (fun _ => ?_)
    refine takeW 6 ?_
    (try simp only [Act.put, List.setIfInBounds_toArray, List.set_cons_zero, List.set_cons_succ])
    refine wpAnyH_done (by kernel_rfl) ?_ _
    go_wp2
    go_ret
    exact ⟨_, rfl, HO6.out, HB6.out⟩
  · go_simp
    refine hK2.out _ _ trivial (fun _ => ?_)
    (try simp only [Act.put, List.setIfInBounds_toArray, List.set_cons_zero, List.set_cons_succ])
    refine wpAnyH_ready (rs := [1, 4]) (by kernel_rfl) (by simp) ?_
    refine AllReadyH.cons rfl (fun K2 hK2 => ?_) (AllReadyH.cons rfl (fun K2 hK2 => ?_) AllReadyH.nil)
    · go_simp
      refine (HCL.out _).mono ?_
      rintro e w2 ⟨rfl, hb2⟩
      have HB2 : Hid (Below w.heap.size w w2) := Lib.hid (by first | exact (Below.refl w.heap.size w).drew.trans hb2 | exact HBB.out.trans (hb2.mono HBB.out.size))
      try have kB := HCV.out w2 w.heap.size ((hb2.cell (p := ⟨w.heap.size, 0, none⟩) (by simp)).trans HC0.out)
      refine hK2.out _ _ trivial (fun _ => ?_)
      (try simp only [Act.put, List.setIfInBounds_toArray, List.set_cons_zero, List.set_cons_succ])
      refine wpAnyH_ready (rs := [4]) (by kernel_rfl) (by simp) ?_
      refine AllReadyH.cons rfl (fun K2 hK2 => ?_) AllReadyH.nil
      go_simp
      refine hK2.out _ _ trivial (fun _ => ?_)
      (try simp only [Act.put, List.setIfInBounds_toArray, List.set_cons_zero, List.set_cons_succ])
      refine wpAnyH_ready (rs := [5]) (by kernel_rfl) (by simp) ?_
      refine AllReadyH.cons rfl (fun K2 hK2 => ?_) AllReadyH.nil
      go_simp
      refine (HSP.out _ (by first | exact HB2.out | exact HB2.out.alloc HB2.out.size _)).mono ?_
      rintro e w6 ⟨v6, rfl, hown6, hb6⟩
      have HO6 := Lib.hid (own_base hown6 (by first | exact HB2.out.size | exact (HB2.out.alloc HB2.out.size _).size))
      have HB6 : Hid (Below w.heap.size w w6) := Lib.hid (by first | exact HB2.out.trans (hb6.mono HB2.out.size) | exact (HB2.out.alloc HB2.out.size _).trans (hb6.mono (HB2.out.alloc HB2.out.size _).size))
      clear hown6 hb6
      refine hK2.out _ _ trivial (fun _ => ?_)
      refine takeW 6 ?_
      (try simp only [Act.put, List.setIfInBounds_toArray, List.set_cons_zero, List.set_cons_succ])
      refine wpAnyH_done (by kernel_rfl) ?_ _
      go_wp2
      go_ret
      exact ⟨_, rfl, HO6.out, HB6.out⟩
    · go_simp
      refine hK2.out _ _ trivial (fun _ => ?_)
      (try simp only [Act.put, List.setIfInBounds_toArray, List.set_cons_zero, List.set_cons_succ])
      refine wpAnyH_ready (rs := [1]) (by kernel_rfl) (by simp) ?_
      refine AllReadyH.cons rfl (fun K2 hK2 => ?_) AllReadyH.nil
      go_simp
      refine (HCL.out _).mono ?_
      rintro e w2 ⟨rfl, hb2⟩
      have HB2 : Hid (Below w.heap.size w w2) := Lib.hid (by first | exact (Below.refl w.heap.size w).drew.trans hb2 | exact HBB.out.trans (hb2.mono HBB.out.size))
      try have kB := HCV.out w2 w.heap.size ((hb2.cell (p := ⟨w.heap.size, 0, none⟩) (by simp)).trans HC0.out)
      refine hK2.out _ _ trivial (fun _ => ?_)
      (try simp only [Act.put, List.setIfInBounds_toArray, List.set_cons_zero, List.set_cons_succ])
      refine wpAnyH_ready (rs := [5]) (by kernel_rfl) (by simp) ?_
      refine AllReadyH.cons rfl (fun K2 hK2 => ?_) AllReadyH.nil
      go_simp
      refine (HSP.out _ (by first | exact HB2.out | exact HB2.out.alloc HB2.out.size _)).mono ?_
      rintro e w6 ⟨v6, rfl, hown6, hb6⟩
      have HO6 := Lib.hid (own_base hown6 (by first | exact HB2.out.size | exact (HB2.out.alloc HB2.out.size _).size))
      have HB6 : Hid (Below w.heap.size w w6) := Lib.hid (by first | exact HB2.out.trans (hb6.mono HB2.out.size) | exact (HB2.out.alloc HB2.out.size _).trans (hb6.mono (HB2.out.alloc HB2.out.size _).size))
      clear hown6 hb6
      refine hK2.out _ _ trivial (fun _ => ?_)
      (try simp only [Act.put, List.setIfInBounds_toArray, List.set_cons_zero, List.set_cons_succ])
      refine takeW 6 ?_
      (try simp only [Act.put, List.setIfInBounds_toArray, List.set_cons_zero, List.set_cons_succ])
      refine wpAnyH_done (by kernel_rfl) ?_ _
      go_wp2
      go_ret
      exact ⟨_, rfl, HO6.out, HB6.out⟩
end Go.Proofs.YtbeglliabpflpaaGreatDoor
