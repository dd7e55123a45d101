
/- Contracts: WriteByte of a builder of the call's own: blocks that bear a mark (a conversion's rows) stay as they are. -/
import Derived.Test.YtclenfdhnccalaaDoorBld
import Derived.Lib.ConvBytes
namespace Go.Proofs.YtclenfdhnccalaaDoor
open Go.RowKit Wb

/-- Blocks that bear a mark stay. -/
def KeepF (w w' : World) : Prop := ∀ (k : Nat) (cs : Array Value) (t : TypeId) (fr : Nat × Nat), fr ≠ (0, 0) → w.heap[k]? = some (Obj.cells cs t fr) → w'.heap[k]? = w.heap[k]?
theorem KeepF.refl (w : World) : KeepF w w := fun _ _ _ _ _ _ => rfl
theorem KeepF.trans {w w' w2 : World} (h : KeepF w w') (k : KeepF w' w2) : KeepF w w2 := fun i cs t fr h1 h3 => by
  have e := h i cs t fr h1 h3
  exact (k i cs t fr h1 (e.trans h3)).trans e
theorem KeepF.of_below {w w' : World} (h : Below w.heap.size w w') : KeepF w w' := fun _ _ _ _ _ h3 => h.block _ (Array.getElem?_eq_some_iff.1 h3).1
theorem KeepF.set {w : World} {b : Nat} {cs : Array Value} {t : TypeId} (h : w.heap[b]? = some (.cells cs t (0, 0))) (i : Nat) (u : Value) : KeepF w (w.setCell ⟨b, i, none⟩ u) := fun k cs' t fr h2 h3 => by
  refine Below.heap_setCell _ _ _ _ (fun e => ?_)
  subst e
  rw [h] at h3
  injection h3 with h3
  injection h3 with _ _ h4
  exact h2 h4.symm
theorem KeepF.grown {w w2 : World} {base n sz : Nat} {e : TypeId} {v : Value} {xs : List Value} (h : w.ownsRow base e sz v n xs) (hg : w.grownBy w2 v.ownBlock) : KeepF w w2 := fun k cs' t fr h1 h3 => by
  refine hg.block k (Array.getElem?_eq_some_iff.1 h3).1 (fun e => ?_)
  rcases h.2 with ⟨rfl, _⟩ | ⟨g, cap, cur, rfl, _, hb, _⟩
  · simp [Value.ownBlock] at e
  · simp only [Value.ownBlock, Option.some.injEq] at e
    subst e
    rw [hb] at h3
    injection h3 with h3
    injection h3 with _ _ h4
    exact h1 h4.symm
/-- The bytes of a text that was made a slice: they bear a mark. -/
def Marked (w : World) (k : Nat) (s : ByteArray) : Prop := ∃ cs fr, w.heap[k]? = some (Obj.cells cs 5 fr) ∧ fr ≠ (0, 0) ∧ ∀ (i : Nat) (c : UInt8), s.data.toList[i]? = some c → cs[i]? = some (.int .u8 (c.toNat : Int))
theorem Marked.new (w : World) (s : ByteArray) : Marked (Lib.bytesWorld w 5 s) w.heap.size s := by
  refine ⟨_, _, Lib.bytesWorld_at_new w 5 s, by simp, fun i c h => ?_⟩
  have hi := (List.getElem?_eq_some_iff.1 h).1
  have := Lib.bytesWorld_cell w 5 s i (by simpa using hi)
  rw [List.getD, h] at this
  unfold World.cell? at this
  rw [Lib.bytesWorld_at_new w 5 s] at this
  simpa using this
theorem Marked.keep {w w' : World} {k : Nat} {s : ByteArray} (h : Marked w k s) (hk : KeepF w w') : Marked w' k s := by
  obtain ⟨cs, fr, h1, h2, h3⟩ := h
  exact ⟨cs, fr, (hk k cs _ fr h2 h1).trans h1, h2, h3⟩
theorem Marked.cell {w : World} {k : Nat} {s : ByteArray} (h : Marked w k s) {i : Nat} {c : UInt8} (hc : s.data.toList[i]? = some c) : w.cell? ⟨k, i, none⟩ = some (.int .u8 (c.toNat : Int)) := by
  obtain ⟨cs, fr, h1, h2, h3⟩ := h
  rw [cell_of_row w k i cs _ fr h1]
  exact h3 i c hc

set_option maxHeartbeats 1000000 in
set_option maxRecDepth 100000 in
theorem qf_check {B b : Nat} {bs : List Value} {w : World} (h : Lib.IsBuilder 40 5 B b bs w) :
    Calls Tryd.prog 27 #[.pointer (some ⟨b, 0, none⟩)] w fun e w' => e = .returned (.tuple #[]) ∧ Lib.BuilderAt 40 5 B b (.pointer (some ⟨b, 0, none⟩)) bs w' ∧ Below B w w' ∧ KeepF w w' := by
  obtain ⟨j, hj, hjs⟩ := Option.map_eq_some_iff.1 qw_size
  rcases h with ⟨h1, v, h2, h3, h4⟩ | ⟨h1, v, h2, h3, h4⟩
  · have h0 : w.cell? ⟨b, 0, none⟩ = some (.pointer none) := blk_cell h2 0
    have hfz := blk_free h2 0
    have hsh : w.shape? b = some (40, 2) := by simp [World.shape?, h2]
    have e1 : (convert 38 63 (.pointer (some ⟨b, 0, none⟩))).run Tryd.prog w = .ok (.pointer (some ⟨b, 0, none⟩)) w := Lib.run_to_unsafe w ⟨b, 0, none⟩ Tryd.underlying38 Tryd.underlying63 hj (by rw [hjs]; decide) hsh (by show 0 < 2; omega)
    have e2 : (convert 63 38 (.pointer (some ⟨b, 0, none⟩))).run Tryd.prog w = .ok (.pointer (some ⟨b, 0, none⟩)) w := Lib.run_from_unsafe w ⟨b, 0, none⟩ Tryd.underlying63 Tryd.underlying38 hj hsh qw_lies
    have e3 := qw_esc
    have hfin : Lib.BuilderAt 40 5 B b (.pointer (some ⟨b, 0, none⟩)) bs (w.setCell ⟨b, 0, none⟩ (.pointer (some ⟨b, 0, none⟩))) ∧ Below B w (w.setCell ⟨b, 0, none⟩ (.pointer (some ⟨b, 0, none⟩))) ∧ KeepF w (w.setCell ⟨b, 0, none⟩ (.pointer (some ⟨b, 0, none⟩))) := by
      refine ⟨⟨h1, v, by simpa using blk_set h2 0 (.pointer (some ⟨b, 0, none⟩)), own_blk' h3 fun k hv => Below.heap_setCell _ _ _ _ (fun e => h4 (by rw [hv]; simpa using e)), h4⟩, (Below.refl B w).setCell (p := ⟨b, 0, none⟩) h1 _, KeepF.set h2 0 _⟩
    have HF := Lib.hid hfin
    clear hfin h3 h4 hsh hj hjs h2
    go_enter Tryd.func27, Tryd.ntmps27
    go_wp2
    go_end0
    exact ⟨rfl, HF.out⟩
  · have h0 : w.cell? ⟨b, 0, none⟩ = some (.pointer (some ⟨b, 0, none⟩)) := blk_cell h2 0
    have hfin : Lib.BuilderAt 40 5 B b (.pointer (some ⟨b, 0, none⟩)) bs w ∧ Below B w w ∧ KeepF w w := ⟨⟨h1, v, h2, h3, h4⟩, Below.refl _ _, KeepF.refl w⟩
    have HF := Lib.hid hfin
    have hpe := fun (v : World) => Lib.run_neq_ptr_same (P := Tryd.prog) v ⟨b, 0, none⟩ Tryd.underlying38 hj
    clear hfin h3 h4 hj hjs h2
    go_enter Tryd.func27, Tryd.ntmps27
    go_wp2
    go_end0
    exact ⟨rfl, HF.out⟩

set_option maxHeartbeats 2000000 in
set_option maxRecDepth 100000 in
theorem qfbyte_any (B b : Nat) (bs : List Value) (c : Int) (w : World) (h : Lib.IsBuilder 40 5 B b bs w) (hlen : bs.length + 1 ≤ 140737488355328) (_hBw : B ≤ w.heap.size) :
    Calls Tryd.prog 18 #[.pointer (some ⟨b, 0, none⟩), .int .u8 c] w fun e w' => (∃ v, e = .returned v) ∧ Lib.IsBuilder 40 5 B b (bs ++ [.int .u8 c]) w' ∧ Below B w w' ∧ KeepF w w' := by
  obtain ⟨i0, hi, hz0, hz1, hz2⟩ := info_parts qw_byte
  have hc := qf_check h
  clear h
  go_enter Tryd.func18, Tryd.ntmps18
  go_wp2_with fail
  refine hc.mono ?_
  rintro e w1 ⟨rfl, ⟨hB, v, hbk, hown, hne⟩, hb1, ht1⟩
  have c0 : w1.cell? ⟨b, 0, none⟩ = some (.pointer (some ⟨b, 0, none⟩)) := blk_cell hbk 0
  have c1 : w1.cell? ⟨b, 1, none⟩ = some v := blk_cell hbk 1
  have hlt := blk_in' hbk
  have hbw : B ≤ w1.heap.size := by omega
  go_wp2_with (at_builtin; refine wpList_append_own _ rfl _ _ 35 rfl B 5 i0 (.int .u8 0) 1 1 Tryd.underlying35 hi hz0 hz1 hz2 rfl (by decide) _ _ _ rfl (hown.alloc _) ⟨w1.heap.size, 0, none⟩ 1 1 [.int .u8 c] rfl rfl ?c1 ?c2 ?c3 ?c4 ?c5 ?_)
  case c1 =>
    intro j u hj
    match j, hj with
    | 0, hj => simp at hj; subst hj; simp [Addr.add]
  case c2 => intro u hu; simp at hu; subst hu; rfl
  case c3 => unfold maxLen; omega
  case c4 => omega
  case c5 => simp; omega
  intro v' w2 hown' hgrow _
  have hb2 : w2.heap[b]? = some (.cells #[.pointer (some ⟨b, 0, none⟩), v] 40 (0, 0)) := by
    rw [hgrow.block b (by simp; omega) (fun e => hne e.symm), Lib.alloc_old w1 _ b hlt]
    exact hbk
  have d0 : w2.cell? ⟨b, 0, none⟩ = some (.pointer (some ⟨b, 0, none⟩)) := blk_cell hb2 0
  have d1 : w2.cell? ⟨b, 1, none⟩ = some v := blk_cell hb2 1
  have f1 := blk_free hb2 1
  obtain ⟨g, cap, rfl⟩ : ∃ g cap, v' = .slice (some ⟨g, 0, none⟩) (bs.length + 1) cap := by
    rcases hown'.2 with ⟨_, h0⟩ | ⟨g, cap, cur, hv, _⟩
    · omega
    · exact ⟨g, cap, hv⟩
  have hfin : Lib.IsBuilder 40 5 B b (bs ++ [.int .u8 c]) (w2.setCell ⟨b, 1, none⟩ (.slice (some ⟨g, 0, none⟩) (bs.length + 1) cap)) :=
    .inr (Lib.BuilderAt.put (T := 40) (e := 5) hB hb2 (bs' := bs ++ [.int .u8 c]) (by simpa using hown') (by decide))
  have HF := Lib.hid hfin
  have HT := Lib.hid (ht1.trans (((KeepF.of_below ((Below.refl w1.heap.size w1).alloc (Nat.le_refl _) (.cells #[.int .u8 c] 5))).trans (KeepF.grown (hown.alloc _) hgrow)).trans (KeepF.set hb2 1 (.slice (some ⟨g, 0, none⟩) (bs.length + 1) cap))))
  have HK := Lib.hid (((hb1.alloc (by omega) _).grown hgrow (by simp; omega) (fun k hk => (hown.lt k hk).1)).setCell (p := ⟨b, 1, none⟩) hB (.slice (some ⟨g, 0, none⟩) (bs.length + 1) cap))
  clear hfin hown' hgrow hown hc ht1
  go_wp2
  go_ret
  exact ⟨⟨_, rfl⟩, HF.out, HK.out, HT.out⟩
end Go.Proofs.YtclenfdhnccalaaDoor
