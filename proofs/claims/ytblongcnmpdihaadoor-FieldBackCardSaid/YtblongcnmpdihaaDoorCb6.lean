/- Bld FeE. -/
import Derived.Deep.AppendSrc
import Derived.Lib.Builder
import Derived.Lib.AppendStr
import Derived.Lib.UnsafeStr
import Derived.Test.YtblongcnmpdihaaDoorCb3
import Derived.Test.YtblongcnmpdihaaDoorCb4
import Derived.Test.YtblongcnmpdihaaDoorCb5
namespace Wb
open Go Go.RowKit
theorem own_blk' {w w' : World} {base sz n : Nat} {e : TypeId} {v : Value} {xs : List Value} (h : w.ownsRow base e sz v n xs) (hb : ∀ k, v.ownBlock = some k → w'.heap[k]? = w.heap[k]?) : w'.ownsRow base e sz v n xs := by
  refine ⟨h.1, ?_⟩
  rcases h.2 with h2 | ⟨g, cap, cur, rfl, hbg, hg, rest⟩
  · exact .inl h2
  · exact .inr ⟨g, cap, cur, rfl, hbg, (hb g rfl).trans hg, rest⟩
theorem own_in' {w : World} {base sz n g : Nat} {e : TypeId} {v : Value} {xs : List Value} (h : w.ownsRow base e sz v n xs) (hv : v.ownBlock = some g) : base ≤ g ∧ g < w.heap.size := h.lt g hv
theorem blk_in' {w : World} {g : Nat} {o : Obj} (h : w.heap[g]? = some o) : g < w.heap.size := (Array.getElem?_eq_some_iff.1 h).1
theorem isb_below' {T e : TypeId} {B b : Nat} {bs : List Value} {w w' : World} (h : Lib.IsBuilder T e B b bs w) (hb : Below w.heap.size w w') : Lib.IsBuilder T e B b bs w' := by
  have k : ∀ p, Lib.BuilderAt T e B b p bs w → Lib.BuilderAt T e B b p bs w' := by
    rintro p ⟨h1, v, h2, h3, h4⟩
    exact ⟨h1, v, still_block h2 hb, own_below h3 hb, h4⟩
  exact h.imp (k _) (k _)
end Wb
namespace Go.Proofs.YtblongcnmpdihaaDoor
open Go.RowKit Wb
theorem qw_lies : liesAt Tryd.prog Tryd.prog.depth 54 (2 / Tryd.prog.cellsOf 54) 0 54 1 = true := by kernel_rfl
theorem qw_size : (Tryd.prog.info? 54).map (·.size) = some 2 := by kernel_rfl
theorem qw_byte : (Tryd.prog.info? 5).map (fun i => (i.zero, i.size, i.bytes)) = some (some (.int .u8 0), 1, 1) := by kernel_rfl
theorem qw_esc (x : Value) (w : World) : (callFunc 70 #[x]).run Tryd.prog w = .ok (.value x) w := by
  rw [run_callFunc_extern (P := Tryd.prog) (f := 70) (fn := Tryd.f70) (e := Extern.AbiNoEscape.same) (by kernel_rfl) (by kernel_rfl) (by kernel_rfl) (by kernel_rfl) (by kernel_rfl), Lib.run_noEscape]
  rfl
set_option maxHeartbeats 1000000 in
set_option maxRecDepth 100000 in
theorem qw_check {B b : Nat} {bs : List Value} {w : World} (h : Lib.IsBuilder 54 5 B b bs w) :
    Calls Tryd.prog 52 #[.pointer (some ⟨b, 0, none⟩)] w fun e w' => e = .returned (.tuple #[]) ∧ Lib.BuilderAt 54 5 B b (.pointer (some ⟨b, 0, none⟩)) bs w' ∧ Below B w w' := by
  obtain ⟨j, hj, hjs⟩ := Option.map_eq_some_iff.1 qw_size
  rcases h with ⟨h1, v, h2, h3, h4⟩ | ⟨h1, v, h2, h3, h4⟩
  · have h0 : w.cell? ⟨b, 0, none⟩ = some (.pointer none) := blk_cell h2 0
    have hfz := blk_free h2 0
    have hsh : w.shape? b = some (54, 2) := by simp [World.shape?, h2]
    have e1 : (convert 51 100 (.pointer (some ⟨b, 0, none⟩))).run Tryd.prog w = .ok (.pointer (some ⟨b, 0, none⟩)) w := Lib.run_to_unsafe w ⟨b, 0, none⟩ Tryd.underlying51 Tryd.underlying100 hj (by rw [hjs]; decide) hsh (by show 0 < 2; omega)
    have e2 : (convert 100 51 (.pointer (some ⟨b, 0, none⟩))).run Tryd.prog w = .ok (.pointer (some ⟨b, 0, none⟩)) w := Lib.run_from_unsafe w ⟨b, 0, none⟩ Tryd.underlying100 Tryd.underlying51 hj hsh qw_lies
    have e3 := qw_esc
    have hfin : Lib.BuilderAt 54 5 B b (.pointer (some ⟨b, 0, none⟩)) bs (w.setCell ⟨b, 0, none⟩ (.pointer (some ⟨b, 0, none⟩))) ∧ Below B w (w.setCell ⟨b, 0, none⟩ (.pointer (some ⟨b, 0, none⟩))) := by
      refine ⟨⟨h1, v, by simpa using blk_set h2 0 (.pointer (some ⟨b, 0, none⟩)), own_blk' h3 fun k hv => Below.heap_setCell _ _ _ _ (fun e => h4 (by rw [hv]; simpa using e)), h4⟩, (Below.refl B w).setCell (p := ⟨b, 0, none⟩) h1 _⟩
    have HF := Lib.hid hfin
    clear hfin h3 h4 hsh hj hjs h2
    go_enter Tryd.func52, Tryd.ntmps52
    go_wp2
    go_end0
    exact ⟨rfl, HF.out⟩
  · have h0 : w.cell? ⟨b, 0, none⟩ = some (.pointer (some ⟨b, 0, none⟩)) := blk_cell h2 0
    have hfin : Lib.BuilderAt 54 5 B b (.pointer (some ⟨b, 0, none⟩)) bs w ∧ Below B w w := ⟨⟨h1, v, h2, h3, h4⟩, Below.refl _ _⟩
    have HF := Lib.hid hfin
    have hpe := fun (v : World) => Lib.run_neq_ptr_same (P := Tryd.prog) v ⟨b, 0, none⟩ Tryd.underlying51 hj
    clear hfin h3 h4 hj hjs h2
    go_enter Tryd.func52, Tryd.ntmps52
    go_wp2
    go_end0
    exact ⟨rfl, HF.out⟩
set_option maxHeartbeats 2000000 in
set_option maxRecDepth 100000 in
theorem qwrite_any (B b : Nat) (bs : List Value) (s : ByteArray) (w : World) (h : Lib.IsBuilder 54 5 B b bs w) (hlen : bs.length + s.size ≤ 140737488355328) (_hBw : B ≤ w.heap.size) :
    Calls Tryd.prog 23 #[.pointer (some ⟨b, 0, none⟩), .string s] w fun e w' => (∃ v, e = .returned v) ∧ Lib.IsBuilder 54 5 B b (bs ++ Lib.strCells s) w' ∧ Below B w w' := by
  obtain ⟨i0, hi, hz0, hz1, hz2⟩ := info_parts qw_byte
  have hc := qw_check h
  clear h
  go_enter Tryd.func23, Tryd.ntmps23
  go_wp2_with fail
  refine hc.mono ?_
  rintro e w1 ⟨rfl, ⟨a1, v, a2, a3, a4⟩, hk1⟩
  have c0 : w1.cell? ⟨b, 0, none⟩ = some (.pointer (some ⟨b, 0, none⟩)) := blk_cell a2 0
  have c1 : w1.cell? ⟨b, 1, none⟩ = some v := blk_cell a2 1
  have hb1 := blk_in' a2
  have A2 := Lib.hid a2
  have A4 := Lib.hid a4
  have K1 := Lib.hid hk1
  have hm : bs.length + s.size ≤ maxLen := by unfold maxLen; omega
  have hbw : B ≤ w1.heap.size := by omega
  clear hc hk1 a2 a4
  go_wp2_with (at_builtin; refine Lib.wpList_append_own_string _ rfl _ _ 52 9 rfl B 5 i0 Tryd.underlying52 Tryd.underlying9 hi hz0 hz1 hz2 _ _ _ rfl a3 s rfl hm hlen hbw ?_)
  intro v' w2 hown' hgrow _
  obtain ⟨A, c, rfl⟩ := own_shape hown'
  have hne : some b ≠ v.ownBlock := fun e => A4.out e.symm
  have hb2 := grown_block A2.out hgrow hne
  have d0 : w2.cell? ⟨b, 0, none⟩ = some (.pointer (some ⟨b, 0, none⟩)) := blk_cell hb2 0
  have d1 : w2.cell? ⟨b, 1, none⟩ = some v := blk_cell hb2 1
  have f1 := blk_free hb2 1
  have hk2 : Below B w1 (w2.setCell ⟨b, 1, none⟩ (.slice A (bs.length + s.size) c)) :=
    ((Below.refl B w1).grown hgrow hbw (fun k hv => (own_in' a3 hv).1)).setCell (p := ⟨b, 1, none⟩) a1 _
  have hne2 : (Value.slice A (bs.length + s.size) c).ownBlock ≠ some b := by
    intro e
    rcases hown'.2 with ⟨h0, _⟩ | ⟨g, cap, cur, hv, _, hg, _⟩
    · rw [h0] at e; simp [Value.ownBlock] at e
    · rw [hv] at e
      simp only [Value.ownBlock, Option.some.injEq] at e
      subst e
      rw [hb2] at hg
      injection hg with hg
      injection hg with _ hg
      exact absurd hg (by decide)
  have hfin : Lib.IsBuilder 54 5 B b (bs ++ Lib.strCells s) (w2.setCell ⟨b, 1, none⟩ (.slice A (bs.length + s.size) c)) := by
    refine .inr ⟨a1, _, by simpa using blk_set hb2 1 (.slice A (bs.length + s.size) c), ?_, hne2⟩
    have := own_blk' (w' := w2.setCell ⟨b, 1, none⟩ (.slice A (bs.length + s.size) c)) hown' fun k hv => Below.heap_setCell _ _ _ _ (fun e => hne2 (by rw [hv]; simpa using e))
    rw [List.length_append, show (Lib.strCells s).length = s.size from by rw [Lib.strCells_eq, Lib.byteCells_length, ← Lib.size_eq]]
    exact this
  have HF := Lib.hid hfin
  have K2 := Lib.hid (K1.out.trans hk2)
  clear hfin hk2 hown' hgrow hb2 hne2 a3 hne
  go_wp2
  go_ret2
  exact ⟨⟨_, rfl⟩, HF.out, K2.out⟩
set_option maxHeartbeats 2000000 in
set_option maxRecDepth 100000 in
theorem qbyte_any (B b : Nat) (bs : List Value) (c : Int) (w : World) (h : Lib.IsBuilder 54 5 B b bs w) (hlen : bs.length + 1 ≤ 140737488355328) (_hBw : B ≤ w.heap.size) :
    Calls Tryd.prog 107 #[.pointer (some ⟨b, 0, none⟩), .int .u8 c] w fun e w' => (∃ v, e = .returned v) ∧ Lib.IsBuilder 54 5 B b (bs ++ [.int .u8 c]) w' ∧ Below B w w' := by
  obtain ⟨i0, hi, hz0, hz1, hz2⟩ := info_parts qw_byte
  have hc := qw_check h
  clear h
  go_enter Tryd.func107, Tryd.ntmps107
  go_wp2_with fail
  refine hc.mono ?_
  rintro e w1 ⟨rfl, ⟨hB, v, hbk, hown, hne⟩, hb1⟩
  have c0 : w1.cell? ⟨b, 0, none⟩ = some (.pointer (some ⟨b, 0, none⟩)) := blk_cell hbk 0
  have c1 : w1.cell? ⟨b, 1, none⟩ = some v := blk_cell hbk 1
  have hlt := blk_in' hbk
  have hbw : B ≤ w1.heap.size := by omega
  go_wp2_with (at_builtin; refine wpList_append_own _ rfl _ _ 52 rfl B 5 i0 (.int .u8 0) 1 1 Tryd.underlying52 hi hz0 hz1 hz2 rfl (by decide) _ _ _ rfl (hown.alloc _) ⟨w1.heap.size, 0, none⟩ 1 1 [.int .u8 c] rfl rfl ?c1 ?c2 ?c3 ?c4 ?c5 ?_)
  case c1 =>
    intro j u hj
    match j, hj with
    | 0, hj => simp at hj; subst hj; simp [Addr.add]
  case c2 => intro u hu; simp at hu; subst hu; rfl
  case c3 => unfold maxLen; omega
  case c4 => omega
  case c5 => simp; omega
  intro v' w2 hown' hgrow _
  have hb2 : w2.heap[b]? = some (.cells #[.pointer (some ⟨b, 0, none⟩), v] 54 (0, 0)) := by
    rw [hgrow.block b (by simp; omega) (fun e => hne e.symm), Lib.alloc_old w1 _ b hlt]
    exact hbk
  have d0 : w2.cell? ⟨b, 0, none⟩ = some (.pointer (some ⟨b, 0, none⟩)) := blk_cell hb2 0
  have d1 : w2.cell? ⟨b, 1, none⟩ = some v := blk_cell hb2 1
  have f1 := blk_free hb2 1
  obtain ⟨g, cap, rfl⟩ : ∃ g cap, v' = .slice (some ⟨g, 0, none⟩) (bs.length + 1) cap := by
    rcases hown'.2 with ⟨_, h0⟩ | ⟨g, cap, cur, hv, _⟩
    · omega
    · exact ⟨g, cap, hv⟩
  have hfin : Lib.IsBuilder 54 5 B b (bs ++ [.int .u8 c]) (w2.setCell ⟨b, 1, none⟩ (.slice (some ⟨g, 0, none⟩) (bs.length + 1) cap)) :=
    .inr (Lib.BuilderAt.put (T := 54) (e := 5) hB hb2 (bs' := bs ++ [.int .u8 c]) (by simpa using hown') (by decide))
  have HF := Lib.hid hfin
  have HK := Lib.hid (((hb1.alloc (by omega) _).grown hgrow (by simp; omega) (fun k hk => (hown.lt k hk).1)).setCell (p := ⟨b, 1, none⟩) hB (.slice (some ⟨g, 0, none⟩) (bs.length + 1) cap))
  clear hfin hown' hgrow hown hc
  go_wp2
  go_ret
  exact ⟨⟨_, rfl⟩, HF.out, HK.out⟩
end Go.Proofs.YtblongcnmpdihaaDoor
namespace Wb
open Go
def CutOut (o : Option (List UInt8 × List UInt8)) (e : Ending) : Prop :=
  match o with
  | some (v, r) => e = .returned (.tuple #[.string ⟨v.toArray⟩, .string ⟨r.toArray⟩, .bool true])
  | none => ∃ a b : ByteArray, e = .returned (.tuple #[.string a, .string b, .bool false])
def prepO (a : List UInt8) (o : Option (List UInt8 × List UInt8)) : Option (List UInt8 × List UInt8) := o.map fun p => (a ++ p.1, p.2)
theorem prepO_nil (o : Option (List UInt8 × List UInt8)) : prepO [] o = o := by cases o <;> rfl
theorem prepO_app (a b : List UInt8) (o : Option (List UInt8 × List UInt8)) : prepO a (prepO b o) = prepO (a ++ b) o := by
  cases o with
  | none => rfl
  | some p => simp [prepO]
theorem dropW_stop (p : UInt8 → Bool) (l : List UInt8) : ((l.dropWhile p).head?.map p).getD false = false := by
  induction l with
  | nil => rfl
  | cons c l ih =>
    rw [List.dropWhile_cons]
    cases hc : p c
    · simp [hc]
    · simpa using ih
theorem q_split (L : List UInt8) : quotedF L = prepO (L.takeWhile inqC) (quotedF (L.dropWhile inqC)) := by
  conv => lhs; rw [← List.takeWhile_append_dropWhile (p := inqC) (l := L)]
  rw [quoted_run _ _ (all_takeWhile inqC L)]
  unfold prepO
  cases quotedF (L.dropWhile inqC) <;> rfl
theorem q_end (L : List UInt8) (h : preQ 34 (L.dropWhile inqC) = true) : quotedF L = some (L.takeWhile inqC, preR 34 (L.dropWhile inqC)) := by
  rw [q_split]
  unfold preQ at h
  rw [decide_eq_true_eq] at h
  unfold preR
  rw [if_pos h]
  cases hd : L.dropWhile inqC with
  | nil => rw [hd] at h; cases h
  | cons c r =>
    rw [hd] at h
    simp only [List.head?_cons, Option.some.injEq] at h
    subst h
    rw [quoted_end]
    simp [prepO]
theorem q_esc (L l2 : List UInt8) (d : UInt8) (hd : d = 34 ∨ d = 92) (h : L.dropWhile inqC = 92 :: d :: l2) : quotedF L = prepO (L.takeWhile inqC ++ [d]) (quotedF l2) := by
  rw [q_split, h, ← prepO_app]
  congr 1
  rw [quoted_stop _ (by rfl)]
  simp only
  rw [if_neg (by decide), if_pos trivial, if_pos hd]
  cases quotedF l2 <;> rfl
theorem q_none (L : List UInt8) (h1 : preQ 34 (L.dropWhile inqC) = false) (h2 : Lib.hasPrefix (L.dropWhile inqC) [92, 92] = false) (h3 : Lib.hasPrefix (L.dropWhile inqC) [92, 34] = false) : quotedF L = none := by
  have hs := dropW_stop inqC L
  rw [q_split]
  generalize L.dropWhile inqC = t at *
  rw [quoted_stop t hs]
  unfold preQ at h1
  rw [decide_eq_false_iff_not] at h1
  unfold Lib.hasPrefix at h2 h3
  cases t with
  | nil => rfl
  | cons c r =>
    simp only [List.head?_cons, Option.some.injEq] at h1
    simp only
    rw [if_neg h1]
    by_cases hc : c = 92
    · subst hc
      rw [if_pos rfl]
      cases r with
      | nil => rfl
      | cons d l2 =>
        simp only [List.isPrefixOf, Bool.and_true, beq_self_eq_true, Bool.true_and, beq_eq_false_iff_ne] at h2 h3
        simp only
        rw [if_neg (by rintro (rfl | rfl) <;> simp at h2 h3)]
        rfl
    · rw [if_neg hc]; rfl
theorem pre2_list (r : List UInt8) (d : UInt8) (h : Lib.hasPrefix r [92, d] = true) : ∃ l2, r = 92 :: d :: l2 := by
  unfold Lib.hasPrefix at h
  match r, h with
  | [], h => cases h
  | [c], h => simp [List.isPrefixOf] at h
  | c :: e :: l2, h =>
    simp only [List.isPrefixOf, Bool.and_true, Bool.and_eq_true, beq_iff_eq] at h
    exact ⟨l2, by rw [h.1, h.2]⟩
theorem ba_at1 (r : ByteArray) (c d : UInt8) (l2 : List UInt8) (h : r.data.toList = c :: d :: l2) : 1 < r.size ∧ (∀ h1 : 1 < r.size, r[1]'h1 = d) ∧ (r.extract 2 r.size).data.toList = l2 ∧ r.size = l2.length + 2 := by
  have hl : r.data.toList.length = r.size := by simp
  rw [h, List.length_cons, List.length_cons] at hl
  refine ⟨by omega, fun h1 => ?_, ?_, hl.symm⟩
  · have : r.data.toList[1]? = some d := by rw [h]; rfl
    rw [List.getElem?_eq_getElem (by rw [h]; simp), Option.some.injEq] at this
    exact this
  · rw [Lib.extract_data, h, ← hl]
    simp
end Wb
namespace Go.Proofs.YtblongcnmpdihaaDoor
open Go.RowKit Wb
set_option maxRecDepth 100000 in
set_option maxHeartbeats 2000000 in
theorem unquoted_any (s : ByteArray) (w : World) (hs : s.size ≤ 1000000000) :
    Calls Tryd.prog 96 #[.string s] w fun e w' => CutOut (quotedF s.data.toList) e ∧ Below w.heap.size w w' := by
  have HF := Lib.hid (Lib.fresh_isBuilder 54 5 w)
  have HB1 := Lib.hid ((Below.refl w.heap.size w).alloc (Nat.le_refl _) (.cells #[.pointer none, .slice none 0 0] 54))
  obtain ⟨o, ho⟩ : ∃ o, quotedF s.data.toList = o := ⟨_, rfl⟩
  rw [ho]
  have HO := Lib.hid ho
  clear ho
  go_enter Tryd.func96, Tryd.ntmps96
  go_wp2_with fail
  go_loopw [0] (fun v0 wr => ∃ (u : ByteArray) (acc : List UInt8), v0 = .string u ∧ acc.length + u.size ≤ s.size ∧ Hid (o = prepO acc (quotedF u.data.toList)) ∧ Hid (Lib.IsBuilder 54 5 w.heap.size w.heap.size (Lib.byteCells acc) wr) ∧ Hid (Below w.heap.size w wr) ∧ w.heap.size ≤ wr.heap.size) (fun v0 _ => Lib.strSize v0)
  case atStart => exact ⟨s, [], rfl, by simp, Lib.hid (by rw [prepO_nil, HO.out]), HF, HB1, by simp⟩
  case round =>
    obtain ⟨u, acc, rfl, hsz, HQ, HB, HW, hws⟩ := hrel
    have hus : u.size ≤ 1000000000 := by omega
    have h1 := span_any inqC 106 #[] u wr hus (inq_tells wr)
    have hra := spanA_size inqC u
    have hrl : (spanR inqC u).data.toList = u.data.toList.dropWhile inqC := rfl
    have hal : (spanA inqC u).data.toList = u.data.toList.takeWhile inqC := rfl
    have hsum : (spanA inqC u).size + (spanR inqC u).size = u.size := by
      rw [ba_size, ba_size (spanR inqC u), ba_size u, hrl, hal, ← List.length_append, List.takeWhile_append_dropWhile]
    generalize hA : spanA inqC u = a at *
    generalize hR : spanR inqC u = r at *
    clear hA hR
    have h2 := fun (v : World) (k : Lib.IsBuilder 54 5 w.heap.size w.heap.size (Lib.byteCells acc) v) (k2 : w.heap.size ≤ v.heap.size) => qwrite_any w.heap.size w.heap.size (Lib.byteCells acc) a v k (by rw [Lib.byteCells_length]; omega) k2
    have h3 := fun v => cutPre_any 34 r v (by omega)
    rw [hrl] at h3
    have HRL := Lib.hid hrl
    have HAL := Lib.hid hal
    clear hrl hal
    by_cases q1 : preQ 34 (u.data.toList.dropWhile inqC) = true
    · have HE : Hid (o = some (acc ++ u.data.toList.takeWhile inqC, preR 34 (u.data.toList.dropWhile inqC))) := Lib.hid (by rw [HQ.out, q_end _ q1]; rfl)
      rw [q1] at h3
      have HX : Hid ((preX 34 r) = ⟨(preR 34 (u.data.toList.dropWhile inqC)).toArray⟩) := Lib.hid (by unfold preX; rw [HRL.out])
      clear q1
      go_wp2_with fail
      refine h1.mono ?_
      rintro e w3 ⟨rfl, hb3⟩
      have HW3 := Lib.hid (HW.out.trans (hb3.mono HW.out.size))
      have k3 := h2 w3 (isb_below' HB.out hb3) (Nat.le_trans hws hb3.size)
      have hws3 : w.heap.size ≤ w3.heap.size := Nat.le_trans hws hb3.size
      clear hb3 h1 h2
      go_wp2_with fail
      refine k3.mono ?_
      rintro e w4 ⟨⟨v, rfl⟩, hB4, hb4⟩
      have HW4 := Lib.hid (HW3.out.trans hb4)
      have hws4 : w.heap.size ≤ w4.heap.size := Nat.le_trans hws3 hb4.size
      rw [Lib.strCells_eq, ← Lib.byteCells_append, HAL.out] at hB4
      have HB4 := Lib.hid hB4
      clear hB4 hb4 k3 HB
      go_wp2_with fail
      refine (h3 w4).mono ?_
      rintro e w5 ⟨rfl, hb5⟩
      have HW5 := Lib.hid (HW4.out.trans (hb5.mono HW4.out.size))
      have hws5 : w.heap.size ≤ w5.heap.size := Nat.le_trans hws4 hb5.size
      have k5 := Tryd.Builder_String_any w.heap.size w.heap.size _ w5 (isb_below' HB4.out hb5) hws5
      clear hb5 h3
      go_wp2_with fail
      refine k5.mono ?_
      rintro e w6 ⟨rfl, hb6⟩
      have HW6 := Lib.hid (HW5.out.trans hb6)
      clear hb6 k5
      go_wp2
      go_ret3
      rw [HE.out, HX.out]
      exact ⟨rfl, HW6.out⟩
    · have q1 : preQ 34 (u.data.toList.dropWhile inqC) = false := by simpa using q1
      rw [q1] at h3
      have h4 := fun v => Tryd.strings_HasPrefix r ⟨#[92, 92]⟩ v
      have h5 := fun v => Tryd.strings_HasPrefix r ⟨#[92, 34]⟩ v
      rw [HRL.out] at h4 h5
      by_cases p1 : Lib.hasPrefix (u.data.toList.dropWhile inqC) [92, 92] = true
      · obtain ⟨l2, hl2⟩ := pre2_list _ _ p1
        have HE : Hid (o = prepO (acc ++ (u.data.toList.takeWhile inqC ++ [92])) (quotedF l2)) := Lib.hid (by rw [HQ.out, q_esc _ l2 92 (.inr rfl) hl2, prepO_app])
        obtain ⟨j1, j2, j3, j4⟩ := ba_at1 r 92 92 l2 (by rw [HRL.out, hl2])
        have J2 := Lib.hid j2
        have J3 := Lib.hid j3
        have J4 := Lib.hid j4
        have h4 : ∀ v, Calls Tryd.prog 34 #[.string r, .string ⟨#[92, 92]⟩] v fun e w' => e = .returned (.bool true) ∧ w' = v := fun v => by have := h4 v; rwa [p1] at this
        clear q1 p1 hl2 j2 j3 j4 h5
        go_wp2_with fail
        refine h1.mono ?_
        rintro e w3 ⟨rfl, hb3⟩
        have HW3 := Lib.hid (HW.out.trans (hb3.mono HW.out.size))
        have k3 := h2 w3 (isb_below' HB.out hb3) (Nat.le_trans hws hb3.size)
        have hws3 : w.heap.size ≤ w3.heap.size := Nat.le_trans hws hb3.size
        clear hb3 h1 h2
        go_wp2_with fail
        refine k3.mono ?_
        rintro e w4 ⟨⟨v, rfl⟩, hB4, hb4⟩
        have HW4 := Lib.hid (HW3.out.trans hb4)
        have hws4 : w.heap.size ≤ w4.heap.size := Nat.le_trans hws3 hb4.size
        rw [Lib.strCells_eq, ← Lib.byteCells_append, HAL.out] at hB4
        have HB4 := Lib.hid hB4
        clear hB4 hb4 k3 HB
        go_wp2_with fail
        refine (h3 w4).mono ?_
        rintro e w5 ⟨rfl, hb5⟩
        have HW5 := Lib.hid (HW4.out.trans (hb5.mono HW4.out.size))
        have hws5 : w.heap.size ≤ w5.heap.size := Nat.le_trans hws4 hb5.size
        have HB5 := Lib.hid (isb_below' HB4.out hb5)
        clear hb5 h3 HB4
        go_wp2_with fail
        refine (h4 w5).mono ?_
        rintro e w6 ⟨rfl, rfl⟩
        clear h4
        have k6 := qbyte_any w.heap.size w.heap.size _ (92 : Int) w6 HB5.out (by rw [Lib.byteCells_length, List.length_append]; have := takeW_le inqC u.data.toList; rw [← ba_size] at this; omega) hws5
        go_wp2_with fail
        rw [J2.out]
        refine k6.mono ?_
        rintro e w7 ⟨⟨v2, rfl⟩, hB7, hb7⟩
        have HW7 := Lib.hid (HW5.out.trans hb7)
        have hws7 : w.heap.size ≤ w7.heap.size := Nat.le_trans hws5 hb7.size
        have HB7 := Lib.hid hB7
        clear hb7 hB7 k6
        go_wp2
        go_roundw
        case rel => exact ⟨r.extract 2 r.size, acc ++ (u.data.toList.takeWhile inqC ++ [92]), rfl, by
          rw [ba_size (r.extract 2 r.size), J3.out, List.length_append, List.length_append]
          have hr4 := J4.out
          have : (u.data.toList.takeWhile inqC).length = a.size := by rw [← HAL.out, ← ba_size]
          simp only [List.length_cons, List.length_nil]
          omega, Lib.hid (by rw [HE.out, J3.out]), Lib.hid (by
            have := HB7.out
            rw [← List.append_assoc, Lib.byteCells_append _ [92]]
            exact this), HW7, hws7⟩
        case measure =>
          show (r.extract 2 r.size).size < u.size
          rw [ba_size (r.extract 2 r.size), J3.out]
          have hr4 := J4.out
          omega
      · have p1 : Lib.hasPrefix (u.data.toList.dropWhile inqC) [92, 92] = false := by simpa using p1
        have h4 : ∀ v, Calls Tryd.prog 34 #[.string r, .string ⟨#[92, 92]⟩] v fun e w' => e = .returned (.bool false) ∧ w' = v := fun v => by have := h4 v; rwa [p1] at this
        by_cases p2 : Lib.hasPrefix (u.data.toList.dropWhile inqC) [92, 34] = true
        · obtain ⟨l2, hl2⟩ := pre2_list _ _ p2
          have HE : Hid (o = prepO (acc ++ (u.data.toList.takeWhile inqC ++ [34])) (quotedF l2)) := Lib.hid (by rw [HQ.out, q_esc _ l2 34 (.inl rfl) hl2, prepO_app])
          obtain ⟨j1, j2, j3, j4⟩ := ba_at1 r 92 34 l2 (by rw [HRL.out, hl2])
          have J2 := Lib.hid j2
          have J3 := Lib.hid j3
          have J4 := Lib.hid j4
          have h5 : ∀ v, Calls Tryd.prog 34 #[.string r, .string ⟨#[92, 34]⟩] v fun e w' => e = .returned (.bool true) ∧ w' = v := fun v => by have := h5 v; rwa [p2] at this
          clear q1 p1 p2 hl2 j2 j3 j4
          go_wp2_with fail
          refine h1.mono ?_
          rintro e w3 ⟨rfl, hb3⟩
          have HW3 := Lib.hid (HW.out.trans (hb3.mono HW.out.size))
          have k3 := h2 w3 (isb_below' HB.out hb3) (Nat.le_trans hws hb3.size)
          have hws3 : w.heap.size ≤ w3.heap.size := Nat.le_trans hws hb3.size
          clear hb3 h1 h2
          go_wp2_with fail
          refine k3.mono ?_
          rintro e w4 ⟨⟨v, rfl⟩, hB4, hb4⟩
          have HW4 := Lib.hid (HW3.out.trans hb4)
          have hws4 : w.heap.size ≤ w4.heap.size := Nat.le_trans hws3 hb4.size
          rw [Lib.strCells_eq, ← Lib.byteCells_append, HAL.out] at hB4
          have HB4 := Lib.hid hB4
          clear hB4 hb4 k3 HB
          go_wp2_with fail
          refine (h3 w4).mono ?_
          rintro e w5 ⟨rfl, hb5⟩
          have HW5 := Lib.hid (HW4.out.trans (hb5.mono HW4.out.size))
          have hws5 : w.heap.size ≤ w5.heap.size := Nat.le_trans hws4 hb5.size
          have HB5 := Lib.hid (isb_below' HB4.out hb5)
          clear hb5 h3 HB4
          go_wp2_with fail
          refine (h4 w5).mono ?_
          rintro e w6 ⟨rfl, rfl⟩
          clear h4
          go_wp2_with fail
          refine (h5 w6).mono ?_
          rintro e w6b ⟨rfl, rfl⟩
          clear h5
          have k6 := qbyte_any w.heap.size w.heap.size _ (34 : Int) w6b HB5.out (by rw [Lib.byteCells_length, List.length_append]; have := takeW_le inqC u.data.toList; rw [← ba_size] at this; omega) hws5
          go_wp2_with fail
          rw [J2.out]
          refine k6.mono ?_
          rintro e w7 ⟨⟨v2, rfl⟩, hB7, hb7⟩
          have HW7 := Lib.hid (HW5.out.trans hb7)
          have hws7 : w.heap.size ≤ w7.heap.size := Nat.le_trans hws5 hb7.size
          have HB7 := Lib.hid hB7
          clear hb7 hB7 k6
          go_wp2
          go_roundw
          case rel => exact ⟨r.extract 2 r.size, acc ++ (u.data.toList.takeWhile inqC ++ [34]), rfl, by
            rw [ba_size (r.extract 2 r.size), J3.out, List.length_append, List.length_append]
            have hr4 := J4.out
            have : (u.data.toList.takeWhile inqC).length = a.size := by rw [← HAL.out, ← ba_size]
            simp only [List.length_cons, List.length_nil]
            omega, Lib.hid (by rw [HE.out, J3.out]), Lib.hid (by
              have := HB7.out
              rw [← List.append_assoc, Lib.byteCells_append _ [34]]
              exact this), HW7, hws7⟩
          case measure =>
            show (r.extract 2 r.size).size < u.size
            rw [ba_size (r.extract 2 r.size), J3.out]
            have hr4 := J4.out
            omega
        · have p2 : Lib.hasPrefix (u.data.toList.dropWhile inqC) [92, 34] = false := by simpa using p2
          have HE : Hid (o = none) := Lib.hid (by rw [HQ.out, q_none _ q1 p1 p2]; rfl)
          have h5 : ∀ v, Calls Tryd.prog 34 #[.string r, .string ⟨#[92, 34]⟩] v fun e w' => e = .returned (.bool false) ∧ w' = v := fun v => by have := h5 v; rwa [p2] at this
          clear q1 p1 p2
          go_wp2_with fail
          refine h1.mono ?_
          rintro e w3 ⟨rfl, hb3⟩
          have HW3 := Lib.hid (HW.out.trans (hb3.mono HW.out.size))
          have k3 := h2 w3 (isb_below' HB.out hb3) (Nat.le_trans hws hb3.size)
          clear hb3 h1 h2
          go_wp2_with fail
          refine k3.mono ?_
          rintro e w4 ⟨⟨v, rfl⟩, hB4, hb4⟩
          have HW4 := Lib.hid (HW3.out.trans hb4)
          clear hB4 hb4 k3 HB
          go_wp2_with fail
          refine (h3 w4).mono ?_
          rintro e w5 ⟨rfl, hb5⟩
          have HW5 := Lib.hid (HW4.out.trans (hb5.mono HW4.out.size))
          clear hb5 h3
          go_wp2_with fail
          refine (h4 w5).mono ?_
          rintro e w6 ⟨rfl, rfl⟩
          clear h4
          go_wp2_with fail
          refine (h5 w6).mono ?_
          rintro e w6b ⟨rfl, rfl⟩
          clear h5
          go_wp2
          go_ret3
          rw [HE.out]
          exact ⟨⟨_, _, rfl⟩, HW5.out⟩
end Go.Proofs.YtblongcnmpdihaaDoor
