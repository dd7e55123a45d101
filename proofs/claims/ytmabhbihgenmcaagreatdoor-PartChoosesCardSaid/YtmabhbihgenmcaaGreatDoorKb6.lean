/- Bld FeG FeH FeJ. -/
import Derived.Deep.AppendSrc
import Derived.Lib.Builder
import Derived.Lib.AppendStr
import Derived.Lib.UnsafeStr
import Derived.Lib.ConvBytes
import Derived.Lib.SmallJoins
import Derived.Laws.BytesString
import Derived.Laws.BytesArg
import Derived.Maps.OwnSet
import Derived.StringKeys
import Derived.Lib.LaidTab
import Derived.Shelf.Strings.Fields
import Derived.Test.YtmabhbihgenmcaaGreatDoorKb3
import Derived.Test.YtmabhbihgenmcaaGreatDoorKb4
import Derived.Test.YtmabhbihgenmcaaGreatDoorKb5
namespace Wb
open Go Go.RowKit
theorem own_blk' {w w' : World} {base sz n : Nat} {e : TypeId} {v : Value} {xs : List Value} (h : w.ownsRow base e sz v n xs) (hb : ∀ k, v.ownBlock = some k → w'.heap[k]? = w.heap[k]?) : w'.ownsRow base e sz v n xs := by
  refine ⟨h.1, ?_⟩
  rcases h.2 with h2 | ⟨g, cap, cur, rfl, hbg, hg, rest⟩
  · exact .inl h2
  · exact .inr ⟨g, cap, cur, rfl, hbg, (hb g rfl).trans hg, rest⟩
theorem own_in' {w : World} {base sz n g : Nat} {e : TypeId} {v : Value} {xs : List Value} (h : w.ownsRow base e sz v n xs) (hv : v.ownBlock = some g) : base ≤ g ∧ g < w.heap.size := h.lt g hv
theorem blk_in' {w : World} {g : Nat} {o : Obj} (h : w.heap[g]? = some o) : g < w.heap.size := (Array.getElem?_eq_some_iff.1 h).1
theorem isb_below' {T e : TypeId} {B b : Nat} {bs : List Value} {w w' : World} (h : Lib.IsBuilder T e B b bs w) (hb : Below w.heap.size w w') : Lib.IsBuilder T e B b bs w' := by
  have k : ∀ p, Lib.BuilderAt T e B b p bs w → Lib.BuilderAt T e B b p bs w' := by
    rintro p ⟨h1, v, h2, h3, h4⟩
    exact ⟨h1, v, still_block h2 hb, own_below h3 hb, h4⟩
  exact h.imp (k _) (k _)
end Wb
namespace Go.Proofs.YtmabhbihgenmcaaGreatDoor
open Go.RowKit Wb
theorem qw_lies : liesAt Tryz.prog Tryz.prog.depth 51 (2 / Tryz.prog.cellsOf 51) 0 51 1 = true := by kernel_rfl
theorem qw_size : (Tryz.prog.info? 51).map (·.size) = some 2 := by kernel_rfl
theorem qw_byte : (Tryz.prog.info? 5).map (fun i => (i.zero, i.size, i.bytes)) = some (some (.int .u8 0), 1, 1) := by kernel_rfl
theorem qw_esc (x : Value) (w : World) : (callFunc 76 #[x]).run Tryz.prog w = .ok (.value x) w := by
  rw [run_callFunc_extern (P := Tryz.prog) (f := 76) (fn := Tryz.f76) (e := Extern.AbiNoEscape.same) (by kernel_rfl) (by kernel_rfl) (by kernel_rfl) (by kernel_rfl) (by kernel_rfl), Lib.run_noEscape]
  rfl
set_option maxHeartbeats 1000000 in
set_option maxRecDepth 100000 in
theorem qw_check {B b : Nat} {bs : List Value} {w : World} (h : Lib.IsBuilder 51 5 B b bs w) :
    Calls Tryz.prog 46 #[.pointer (some ⟨b, 0, none⟩)] w fun e w' => e = .returned (.tuple #[]) ∧ Lib.BuilderAt 51 5 B b (.pointer (some ⟨b, 0, none⟩)) bs w' ∧ Below B w w' := by
  obtain ⟨j, hj, hjs⟩ := Option.map_eq_some_iff.1 qw_size
  rcases h with ⟨h1, v, h2, h3, h4⟩ | ⟨h1, v, h2, h3, h4⟩
  · have h0 : w.cell? ⟨b, 0, none⟩ = some (.pointer none) := blk_cell h2 0
    have hfz := blk_free h2 0
    have hsh : w.shape? b = some (51, 2) := by simp [World.shape?, h2]
    have e1 : (convert 48 111 (.pointer (some ⟨b, 0, none⟩))).run Tryz.prog w = .ok (.pointer (some ⟨b, 0, none⟩)) w := Lib.run_to_unsafe w ⟨b, 0, none⟩ Tryz.underlying48 Tryz.underlying111 hj (by rw [hjs]; decide) hsh (by show 0 < 2; omega)
    have e2 : (convert 111 48 (.pointer (some ⟨b, 0, none⟩))).run Tryz.prog w = .ok (.pointer (some ⟨b, 0, none⟩)) w := Lib.run_from_unsafe w ⟨b, 0, none⟩ Tryz.underlying111 Tryz.underlying48 hj hsh qw_lies
    have e3 := qw_esc
    have hfin : Lib.BuilderAt 51 5 B b (.pointer (some ⟨b, 0, none⟩)) bs (w.setCell ⟨b, 0, none⟩ (.pointer (some ⟨b, 0, none⟩))) ∧ Below B w (w.setCell ⟨b, 0, none⟩ (.pointer (some ⟨b, 0, none⟩))) := by
      refine ⟨⟨h1, v, by simpa using blk_set h2 0 (.pointer (some ⟨b, 0, none⟩)), own_blk' h3 fun k hv => Below.heap_setCell _ _ _ _ (fun e => h4 (by rw [hv]; simpa using e)), h4⟩, (Below.refl B w).setCell (p := ⟨b, 0, none⟩) h1 _⟩
    have HF := Lib.hid hfin
    clear hfin h3 h4 hsh hj hjs h2
    go_enter Tryz.func46, Tryz.ntmps46
    go_wp2
    go_end0
    exact ⟨rfl, HF.out⟩
  · have h0 : w.cell? ⟨b, 0, none⟩ = some (.pointer (some ⟨b, 0, none⟩)) := blk_cell h2 0
    have hfin : Lib.BuilderAt 51 5 B b (.pointer (some ⟨b, 0, none⟩)) bs w ∧ Below B w w := ⟨⟨h1, v, h2, h3, h4⟩, Below.refl _ _⟩
    have HF := Lib.hid hfin
    have hpe := fun (v : World) => Lib.run_neq_ptr_same (P := Tryz.prog) v ⟨b, 0, none⟩ Tryz.underlying48 hj
    clear hfin h3 h4 hj hjs h2
    go_enter Tryz.func46, Tryz.ntmps46
    go_wp2
    go_end0
    exact ⟨rfl, HF.out⟩
set_option maxHeartbeats 2000000 in
set_option maxRecDepth 100000 in
theorem qwrite_any (B b : Nat) (bs : List Value) (s : ByteArray) (w : World) (h : Lib.IsBuilder 51 5 B b bs w) (hlen : bs.length + s.size ≤ 140737488355328) (_hBw : B ≤ w.heap.size) :
    Calls Tryz.prog 24 #[.pointer (some ⟨b, 0, none⟩), .string s] w fun e w' => (∃ v, e = .returned v) ∧ Lib.IsBuilder 51 5 B b (bs ++ Lib.strCells s) w' ∧ Below B w w' := by
  obtain ⟨i0, hi, hz0, hz1, hz2⟩ := info_parts qw_byte
  have hc := qw_check h
  clear h
  go_enter Tryz.func24, Tryz.ntmps24
  go_wp2_with fail
  refine hc.mono ?_
  rintro e w1 ⟨rfl, ⟨a1, v, a2, a3, a4⟩, hk1⟩
  have c0 : w1.cell? ⟨b, 0, none⟩ = some (.pointer (some ⟨b, 0, none⟩)) := blk_cell a2 0
  have c1 : w1.cell? ⟨b, 1, none⟩ = some v := blk_cell a2 1
  have hb1 := blk_in' a2
  have A2 := Lib.hid a2
  have A4 := Lib.hid a4
  have K1 := Lib.hid hk1
  have hm : bs.length + s.size ≤ maxLen := by unfold maxLen; omega
  have hbw : B ≤ w1.heap.size := by omega
  clear hc hk1 a2 a4
  go_wp2_with (at_builtin; refine Lib.wpList_append_own_string _ rfl _ _ 49 9 rfl B 5 i0 Tryz.underlying49 Tryz.underlying9 hi hz0 hz1 hz2 _ _ _ rfl a3 s rfl hm hlen hbw ?_)
  intro v' w2 hown' hgrow _
  obtain ⟨A, c, rfl⟩ := own_shape hown'
  have hne : some b ≠ v.ownBlock := fun e => A4.out e.symm
  have hb2 := grown_block A2.out hgrow hne
  have d0 : w2.cell? ⟨b, 0, none⟩ = some (.pointer (some ⟨b, 0, none⟩)) := blk_cell hb2 0
  have d1 : w2.cell? ⟨b, 1, none⟩ = some v := blk_cell hb2 1
  have f1 := blk_free hb2 1
  have hk2 : Below B w1 (w2.setCell ⟨b, 1, none⟩ (.slice A (bs.length + s.size) c)) :=
    ((Below.refl B w1).grown hgrow hbw (fun k hv => (own_in' a3 hv).1)).setCell (p := ⟨b, 1, none⟩) a1 _
  have hne2 : (Value.slice A (bs.length + s.size) c).ownBlock ≠ some b := by
    intro e
    rcases hown'.2 with ⟨h0, _⟩ | ⟨g, cap, cur, hv, _, hg, _⟩
    · rw [h0] at e; simp [Value.ownBlock] at e
    · rw [hv] at e
      simp only [Value.ownBlock, Option.some.injEq] at e
      subst e
      rw [hb2] at hg
      injection hg with hg
      injection hg with _ hg
      exact absurd hg (by decide)
  have hfin : Lib.IsBuilder 51 5 B b (bs ++ Lib.strCells s) (w2.setCell ⟨b, 1, none⟩ (.slice A (bs.length + s.size) c)) := by
    refine .inr ⟨a1, _, by simpa using blk_set hb2 1 (.slice A (bs.length + s.size) c), ?_, hne2⟩
    have := own_blk' (w' := w2.setCell ⟨b, 1, none⟩ (.slice A (bs.length + s.size) c)) hown' fun k hv => Below.heap_setCell _ _ _ _ (fun e => hne2 (by rw [hv]; simpa using e))
    rw [List.length_append, show (Lib.strCells s).length = s.size from by rw [Lib.strCells_eq, Lib.byteCells_length, ← Lib.size_eq]]
    exact this
  have HF := Lib.hid hfin
  have K2 := Lib.hid (K1.out.trans hk2)
  clear hfin hk2 hown' hgrow hb2 hne2 a3 hne
  go_wp2
  go_ret2
  exact ⟨⟨_, rfl⟩, HF.out, K2.out⟩
end Go.Proofs.YtmabhbihgenmcaaGreatDoor
namespace Wb
open Go Go.RowKit
theorem ba_mk (x : ByteArray) : (⟨x.data.toList.toArray⟩ : ByteArray) = x := by simp
end Wb
namespace Go.Proofs.YtmabhbihgenmcaaGreatDoor
open Go.RowKit Wb
end Go.Proofs.YtmabhbihgenmcaaGreatDoor
namespace Wb
open Go
def toPr (x : List UInt8 × List UInt8) : Pr := (⟨x.1.toArray⟩, ⟨x.2.toArray⟩)
def toPrs (l : List (List UInt8 × List UInt8)) : List Pr := l.map toPr
end Wb
namespace Go.Proofs.YtmabhbihgenmcaaGreatDoor
open Go.RowKit Wb Go.Maps
end Go.Proofs.YtmabhbihgenmcaaGreatDoor
namespace Wb
open Go
def mkB (l : List UInt8) : ByteArray := ⟨l.toArray⟩
theorem mkB_size (l : List UInt8) : (mkB l).size = l.length := Lib.size_mk l
theorem mkB_list (l : List UInt8) : (mkB l).data.toList = l := rfl
theorem eq_of_lists {a b : ByteArray} (h : a.data.toList = b.data.toList) : a = b := by
  rw [← ba_mk a, ← ba_mk b, h]
theorem trim_eq (s : ByteArray) : (((⟨(Lib.trimB s.data.toList 32).toArray⟩ : ByteArray).toList == s.toList) : Bool) = decide (Lib.trimB s.data.toList 32 = s.data.toList) := by
  rw [Lib.toList_data, Lib.toList_data, Bool.eq_iff_iff, beq_iff_eq, decide_eq_true_eq]
def idxS (p : ByteArray → Bool) : List ByteArray → Int
  | [] => -1
  | a :: l => if p a = true then 0 else if idxS p l < 0 then -1 else idxS p l + 1
theorem idxS_ge (p : ByteArray → Bool) : ∀ l, -1 ≤ idxS p l
  | [] => by simp [idxS]
  | a :: l => by
    have := idxS_ge p l
    unfold idxS
    split
    · omega
    · split <;> omega
theorem idxS_any (p : ByteArray → Bool) : ∀ l, decide (0 ≤ idxS p l) = l.any p
  | [] => rfl
  | a :: l => by
    have ih := idxS_any p l
    have := idxS_ge p l
    unfold idxS
    rw [List.any_cons]
    cases h : p a
    · rw [if_neg (by simp), Bool.false_or, ← ih]
      by_cases hn : idxS p l < 0
      · rw [if_pos hn, decide_eq_false (by omega), decide_eq_false (by omega)]
      · rw [if_neg hn, decide_eq_true (by omega), decide_eq_true (by omega)]
    · rw [if_pos rfl]; rfl
theorem idxS_drop {p : ByteArray → Bool} {l : List ByteArray} {i : Nat} {a : ByteArray} (h : l[i]? = some a) : idxS p (l.drop i) = if p a = true then 0 else if idxS p (l.drop (i + 1)) < 0 then -1 else idxS p (l.drop (i + 1)) + 1 := by
  obtain ⟨hi, e⟩ := List.getElem?_eq_some_iff.1 h
  rw [List.drop_eq_getElem_cons hi, e]
  rfl
def longS (l : List ByteArray) : Bool := l.any fun x => decide (998 < x.size)
theorem longS_B (ls : List (List UInt8)) : longS (ls.map mkB) = longB ls := by
  unfold longS longB
  rw [List.any_map]
  exact congrArg (fun q => ls.any q) (funext fun x => show decide (998 < (mkB x).size) = _ by rw [mkB_size])
theorem foldG_step (line : List UInt8) (first : Bool) (w : List UInt8) (ws : List (List UInt8)) : foldG line first (w :: ws) = if (!first && decide (76 < line.length + 1 + w.length)) = true then line :: foldG (32 :: w) false ws else foldG (line ++ 32 :: w) false ws := rfl
theorem flatW_drop {ws : List (List UInt8)} {i : Nat} {w : List UInt8} (h : ws[i]? = some w) : (flatW (ws.drop i)).length = 1 + w.length + (flatW (ws.drop (i + 1))).length := by
  obtain ⟨hi, e⟩ := List.getElem?_eq_some_iff.1 h
  rw [List.drop_eq_getElem_cons hi, e, flatW, List.length_cons, List.length_append]
  omega
theorem mkB_app (a b : List UInt8) : mkB a ++ mkB b = mkB (a ++ b) := by
  refine eq_of_lists ?_
  rw [ByteArray.data_append, Array.toList_append, mkB_list, mkB_list, mkB_list]
end Wb
namespace Go.Proofs.YtmabhbihgenmcaaGreatDoor
open Go.RowKit Wb
def GvF (w : World) : Prop := (∃ m, w.cell? ⟨1, 0, none⟩ = some (.int .i64 m)) ∧ Lib.TabIs Tryz.prog w "strings.asciiSpace" .u8 Lib.asciiSpaceTab
theorem GvF.next {w w' : World} (h : GvF w) (hb : Below w.heap.size w w') : GvF w' := by
  obtain ⟨⟨m, hm⟩, ht⟩ := h
  refine ⟨⟨m, ?_⟩, Go.Joins.tab_stays (g := 2) (by kernel_rfl) ht hb (Nat.le_refl _)⟩
  rw [hb.cell (World.block_lt_of_cell? w _ hm)]
  exact hm
set_option maxRecDepth 100000 in
set_option maxHeartbeats 1000000 in
theorem printable_any (s : ByteArray) (w : World) (hs : s.size ≤ 1000000000) (hG : GvF w) :
    Calls Tryz.prog 74 #[.string s] w fun e w' => e = .returned (.bool (printableF s.data.toList)) ∧ Below w.heap.size w w' := by
  obtain ⟨⟨m, hm⟩, _⟩ := hG
  have h1 := Tryz.strings_Contains s ⟨#[32, 32]⟩ m w (by omega) hm
  have h2 := fun v => Tryz.strings_Trim_one s 32 (by decide) v (by omega)
  have h3 := fun v => all_any (fun c => c != 9 && plainC c) 100 #[] s v hs (rng_tells v)
  have ht := trim_eq s
  have e1 : (⟨#[32, 32]⟩ : ByteArray).data.toList = [32, 32] := rfl
  rw [e1] at h1
  rw [← prog_printable]
  unfold progV
  have HB0 := Lib.hid (Below.refl w.heap.size w)
  clear hm e1
  generalize (⟨(Lib.trimB s.data.toList 32).toArray⟩ : ByteArray) = tr at *
  generalize decide (Lib.trimB s.data.toList 32 = s.data.toList) = b2 at *
  generalize s.data.toList.all (fun c => c != 9 && plainC c) = b3 at *
  cases hc : Lib.contains s.data.toList [32, 32]
  · rw [hc] at h1
    clear hc
    cases b2
    · go_enter Tryz.func74, Tryz.ntmps74
      go_wp2_with fail
      refine h1.mono ?_
      rintro e w1 ⟨rfl, rfl⟩
      clear h1
      go_wp2_with fail
      refine (h2 _).mono ?_
      rintro e w2 ⟨rfl, hb⟩
      have HB2 : Hid (Below w1.heap.size w1 w2) := Lib.hid (by rcases hb with rfl | rfl; exact Below.refl _ _; exact (Below.refl _ _).drew)
      clear hb h2
      go_wp2
      go_ret
      exact ⟨rfl, HB2.out⟩
    · go_enter Tryz.func74, Tryz.ntmps74
      go_wp2_with fail
      refine h1.mono ?_
      rintro e w1 ⟨rfl, rfl⟩
      clear h1
      go_wp2_with fail
      refine (h2 _).mono ?_
      rintro e w2 ⟨rfl, hb⟩
      have HB2 : Hid (Below w1.heap.size w1 w2) := Lib.hid (by rcases hb with rfl | rfl; exact Below.refl _ _; exact (Below.refl _ _).drew)
      clear hb h2
      go_wp2_with fail
      refine (h3 _).mono ?_
      rintro e w3 ⟨rfl, hb⟩
      have HB3 := Lib.hid (HB2.out.trans (hb.mono HB2.out.size))
      clear hb h3
      go_wp2
      go_ret
      exact ⟨rfl, HB3.out⟩
  · rw [hc] at h1
    clear hc ht
    go_enter Tryz.func74, Tryz.ntmps74
    go_wp2_with fail
    refine h1.mono ?_
    rintro e w1 ⟨rfl, rfl⟩
    clear h1
    go_wp2
    go_ret
    exact ⟨rfl, HB0.out⟩
theorem long_clos (x : ByteArray) (w : World) (hx : x.size ≤ 4000000000) : Calls Tryz.prog 90 #[.string x] w fun e w' => e = .returned (.bool (decide (998 < x.size))) ∧ Below w.heap.size w w' := by
  have HB0 := Lib.hid (Below.refl w.heap.size w)
  go_enter Tryz.func90, Tryz.ntmps90
  go_wp2
  go_ret
  exact ⟨ret_b (by simp <;> omega), HB0.out⟩
set_option maxRecDepth 100000 in
set_option maxHeartbeats 1000000 in
theorem idxStr_any (A : Option Addr) (l : List ByteArray) (c : Nat) (w : World) (hA : Sl1 w A l) (hl : l.length ≤ 1000000001) (hsz : ∀ x ∈ l, x.size ≤ 4000000000) :
    Calls Tryz.prog 116 #[.slice A l.length c, .func (.func 90) #[] #[]] w fun e w' => e = .returned (.int .i64 (idxS (fun x => decide (998 < x.size)) l)) ∧ Below w.heap.size w w' := by
  obtain ⟨R, hR⟩ : ∃ R, idxS (fun x => decide (998 < x.size)) l = R := ⟨_, rfl⟩
  rw [hR]
  have HR := Lib.hid hR
  have HA := Lib.hid hA
  have HS := Lib.hid hsz
  clear hR hA hsz
  go_enter Tryz.func116, Tryz.ntmps116
  go_wp2
  go_loopw [8] (fun vi wr => ∃ i : Nat, i ≤ l.length ∧ vi = .int .i64 i ∧ Hid (R = if idxS (fun x => decide (998 < x.size)) (l.drop i) < 0 then -1 else idxS (fun x => decide (998 < x.size)) (l.drop i) + i) ∧ Hid (Below w.heap.size w wr)) (fun vi _ => ((l.length : Int) - intOf vi).toNat)
  case atStart => exact ⟨0, by omega, rfl, Lib.hid (by
    rw [List.drop_zero, HR.out]
    have := idxS_ge (fun x => decide (998 < x.size)) l
    rw [HR.out] at this
    split <;> omega), Lib.hid (Below.refl _ _)⟩
  case round =>
    obtain ⟨i, hi, rfl, HQ, HB⟩ := hrel
    by_cases h0 : i < l.length
    · obtain ⟨a, ha⟩ : ∃ a, l[i]? = some a := ⟨l[i], List.getElem?_eq_getElem h0⟩
      obtain ⟨ad, rfl, had, d0⟩ := (HA.out.below HB.out).at_ ha
      have hc := long_clos a wr (HS.out a (List.mem_of_getElem? ha))
      by_cases hq : 998 < a.size
      · rw [decide_eq_true hq] at hc
        have HST : Hid (R = i) := Lib.hid (by
          have hx0 : idxS (fun x => decide (998 < x.size)) (l.drop i) = 0 := by rw [idxS_drop ha, if_pos (decide_eq_true hq)]
          rw [HQ.out, hx0]
          simp)
        clear hq ha
        go_wp2_with fail
        refine hc.mono ?_
        rintro e w3 ⟨rfl, hb3⟩
        have HB3 := Lib.hid (HB.out.trans (hb3.mono HB.out.size))
        clear hb3 hc
        go_wp2
        go_ret
        exact ⟨by rw [HST.out]; rfl, HB3.out⟩
      · rw [decide_eq_false hq] at hc
        have HST : Hid (R = if (if idxS (fun x => decide (998 < x.size)) (l.drop (i + 1)) < 0 then -1 else idxS (fun x => decide (998 < x.size)) (l.drop (i + 1)) + 1) < 0 then -1 else (if idxS (fun x => decide (998 < x.size)) (l.drop (i + 1)) < 0 then -1 else idxS (fun x => decide (998 < x.size)) (l.drop (i + 1)) + 1) + i) := Lib.hid (by
          have hx0 : idxS (fun x => decide (998 < x.size)) (l.drop i) = if idxS (fun x => decide (998 < x.size)) (l.drop (i + 1)) < 0 then -1 else idxS (fun x => decide (998 < x.size)) (l.drop (i + 1)) + 1 := by rw [idxS_drop ha, if_neg (by simpa using hq)]
          rw [HQ.out, hx0])
        clear hq ha
        go_wp2_with fail
        refine hc.mono ?_
        rintro e w3 ⟨rfl, hb3⟩
        have HB3 := Lib.hid (HB.out.trans (hb3.mono HB.out.size))
        clear hb3 hc
        go_wp2
        go_roundw
        case rel => exact ⟨i + 1, by omega, by go_num, Lib.hid (by
          rw [HST.out]
          have := idxS_ge (fun x => decide (998 < x.size)) (l.drop (i + 1))
          by_cases hn : idxS (fun x => decide (998 < x.size)) (l.drop (i + 1)) < 0
          · rw [if_pos hn, if_pos hn]; rfl
          · rw [if_neg hn, if_neg hn, if_neg (by omega)]; omega), HB3⟩
        case measure => simp [intOf]; omega
    · have HT : Hid (R = -1) := Lib.hid (by rw [HQ.out, List.drop_eq_nil_of_le (by omega)]; rfl)
      go_wp2
      go_ret
      exact ⟨by rw [HT.out]; rfl, HB.out⟩
set_option maxRecDepth 100000 in
theorem tooLong_any (A : Option Addr) (l : List ByteArray) (c : Nat) (w : World) (hA : Sl1 w A l) (hl : l.length ≤ 1000000001) (hsz : ∀ x ∈ l, x.size ≤ 4000000000) :
    Calls Tryz.prog 59 #[.slice A l.length c] w fun e w' => e = .returned (.bool (longS l)) ∧ Below w.heap.size w w' := by
  have h1 := idxStr_any A l c w hA hl hsz
  have hx := idxS_any (fun x => decide (998 < x.size)) l
  unfold longS
  rw [← hx]
  clear hx hA hsz
  generalize idxS (fun x => decide (998 < x.size)) l = n at *
  go_enter Tryz.func59, Tryz.ntmps59
  go_wp2_with (first
    | (go_at_call 116; refine h1.mono ?_; rintro e w1 ⟨rfl, hb⟩)
    | go_in)
  go_ret
  exact ⟨rfl, hb⟩
end Go.Proofs.YtmabhbihgenmcaaGreatDoor
