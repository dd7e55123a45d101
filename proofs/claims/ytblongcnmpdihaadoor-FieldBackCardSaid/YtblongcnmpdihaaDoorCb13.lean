/- Open GvF FfB. -/
import Derived.Deep.SlicePairs
import Derived.Carry
import Derived.Shelf.Vars
import Derived.Lib.LaidU8
import Derived.Lib.LaidTab
import Derived.MakeChecks
import Derived.WideShapes
import Derived.WalkKit
import Derived.ProofKit
import Derived.OpenShut
import Derived.ShutString
import Derived.Lay
import Derived.LaidMore
import Derived.Stop.Joined
import Derived.SevenTiedAt
import Derived.Test.YtblongcnmpdihaaDoorRows
import Derived.Test.YtblongcnmpdihaaDoorCb3
import Derived.Test.YtblongcnmpdihaaDoorCb12
namespace Wb
open Go Go.RowKit Go.Deep Go.ChangeShapes Go.WideShapes
def strOf : Value → ByteArray
  | .string s => s
  | _ => ⟨#[]⟩
section
variable {H : Type} {enc : TypeId × Value → H} {P : Program} {W : World} {base : Nat} {spare : Nat → Bool} {held : Bool}
theorem sl2_of_trod {t e : TypeId} {f0 f1 : Field} {A : Option Addr} {len cap : Nat} {d : DataW H} {p : List MemPlace} (ht : P.underlying t = some (.slice e)) (he : P.underlying e = some (.struct #[f0, f1]))
    (ce : P.cellsOf e = 2) (o0 : f0.offset = 0) (o1 : f1.offset = 1) (c0 : P.cellsOf f0.type = 1) (c1 : P.cellsOf f1.type = 1) (s0 : P.underlying f0.type = some .string) (s1 : P.underlying f1.type = some .string)
    (h : DataW.Trod enc P W base spare held t (.slice A len cap) d p) : ∃ l : List Pr, len = l.length ∧ Sl2 W A l := by
  obtain ⟨fuel, hf⟩ := h
  rcases open_slice_pairs ht he ce o0 o1 c0 c1 hf with ⟨hcs, _⟩ | ⟨a, ln, cp, m, n, V0, V1, D0, D1, P0, P1, hcs, _, hlc, _, hm, _, hi⟩
  · simp [Value.cells] at hcs
    obtain ⟨rfl, rfl, rfl⟩ := hcs
    exact ⟨[], rfl, Sl2.nil _ _⟩
  · simp [Value.cells] at hcs
    obtain ⟨rfl, rfl, rfl⟩ := hcs
    have hlm : len ≤ m := by rw [hm]; split <;> omega
    have hs : ∀ i, i < len → W.cell? (a.add (i * 2)) = some (.string (strOf (V0 i))) ∧ W.cell? (a.add (i * 2 + 1)) = some (.string (strOf (V1 i))) := by
      intro i hil
      obtain ⟨h1, h2, h3, h4⟩ := hi i (by omega)
      obtain ⟨x, hx, _⟩ := DataW.trod_string s0 h3
      obtain ⟨y, hy, _⟩ := DataW.trod_string s1 h4
      simp only [List.cons.injEq, and_true] at hx hy
      rw [h1, h2, hx, hy]
      exact ⟨rfl, rfl⟩
    refine ⟨(List.range len).map fun i => (strOf (V0 i), strOf (V1 i)), by simp, cells2_length _, fun hn => ?_⟩
    simp only [List.length_map, List.length_range] at hn
    have hb : a.block < W.heap.size := by
      have := World.block_lt_of_cell? W _ (hs 0 hn).1
      rw [add_block] at this
      exact this
    refine ⟨a, rfl, hb, fun j u hu => ?_⟩
    have hj : j < len * 2 := by
      have := (List.getElem?_eq_some_iff.1 hu).1
      rw [cells2_length] at this
      simpa using this
    have hx : ((List.range len).map fun i => (strOf (V0 i), strOf (V1 i)))[j / 2]? = some (strOf (V0 (j / 2)), strOf (V1 (j / 2))) := by
      rw [List.getElem?_map, List.getElem?_range (by omega)]; rfl
    obtain ⟨g1, g2⟩ := cells2_at _ _ _ hx
    obtain ⟨h1, h2⟩ := hs (j / 2) (by omega)
    rcases (by omega : j = j / 2 * 2 ∨ j = j / 2 * 2 + 1) with e | e
    · rw [e] at hu ⊢
      rw [g1] at hu
      rw [h1, hu]
    · rw [e] at hu ⊢
      rw [g2] at hu
      rw [h2, hu]
end
end Wb
namespace Go.Proofs.YtblongcnmpdihaaDoor
open Go.ChangeShapes Go.WideShapes Go.ChangeAt Go.RowKit Wb
set_option linter.unusedVariables false
theorem space_data : (Rows.laid_strings_asciiSpace : DataW Unit) = Lib.tabData .u8 Lib.asciiSpaceTab := by kernel_rfl
set_option maxRecDepth 1000000 in
theorem gvf_of {W : World} {L : List (String × DataW Unit)} (hmem : ("strings.asciiSpace", Rows.laid_strings_asciiSpace) ∈ L) (hL : laidMetH Tryd.prog L W) (hp : laidMetH Tryd.prog L W = laidMet Tryd.prog L W) (hsh : W.ShapedOpen Tryd.prog) : GvF W := by
  rw [hp] at hL
  have r1 : Lib.VarReads Tryd.prog W "strings.asciiSpace" Rows.laid_strings_asciiSpace := Lib.laidMet.reads hL hmem
  have hml := cell_of_shapedOpen_int (P := Tryd.prog) (g := 2) (t := 3) (zero := #[.int .i64 0]) hsh (of_decide_eq_true (by kernel_rfl)) (by kernel_rfl) rfl (by kernel_rfl) (by kernel_rfl) Tryd.underlying3
  obtain ⟨g1, t1, cs1, f1, p1, hg1, ht1, hv1, hd1⟩ := r1
  obtain rfl := Option.some.inj ((show Tryd.prog.globalNamed "strings.asciiSpace" = some 0 by kernel_rfl).symm.trans hg1)
  obtain rfl := Option.some.inj ((show (Tryd.prog.globals[0]?).map (·.type) = some 112 by kernel_rfl).symm.trans ht1)
  rw [space_data] at hd1
  have hc1 := Lib.cells_of_tab (n := 256) Tryd.underlying112 Tryd.underlying5 (by kernel_rfl) (by kernel_rfl) hd1
  refine ⟨hml, ?_⟩
  unfold Lib.TabIs
  rw [hv1, ← hc1]
theorem handed {H : Type} {enc : TypeId × Value → H} {a : Assume} {C : Checked} {os : Os} {f : FuncId} {fn : Func} {s : ChangeSpec} {conds : List PathCond} {apart fresh handsOn again : Bool} {X : World → Array Value → Prop}
    (hX : ∀ (w w' : World) (args : Array Value), w.heap = w'.heap → X w args → X w' args)
    (own : ownKnob C.prog.godebug = none) (started : os.Started) (noInit : C.prog.inits.idxOf? f = none) (hfn : C.prog.funcs[f]? = some fn)
    (witness : ∃ (w : World) (tape : Tape) (i : Input), w.os = os ∧ (w.forCall tape i).Shaped C.prog ∧ i.vars = [] ∧ Input.okWide C.prog (w.forCall tape i) .any w.heap.size f i ∧
      ((s.pre enc C.prog fn conds apart (w.forCall tape i).memory i.args ∧ X (w.forCall tape i).memory i.args) ∧ sizedMet enc C.prog fn (OpenSpec.ofChange s) apart (w.forCall tape i).memory i.args) ∧ a.holds C.prog (lone (Frame.enter C.prog f i.args .normal) [] (w.forCall tape i)))
    (contract : ∀ (W : World) (base : Nat) (args : Array Value) (ds gs : List (DataW H)) (before : List MemPlace),
      (∀ (j : Nat) t v, fn.params[j]? = some t → args[j]? = some v → Value.okWide C.prog W .any base t v) →
      DataW.Whole enc C.prog fn.params.toList s.vars apart W args.toList ds gs before → X W args → W.ShapedOpen C.prog →
      Calls C.prog f args W fun e W' => ∃ v, e = .returned v ∧ s.post enc C.prog fn apart fresh handsOn again W args v W') :
    ReturnsInHanded a C os f .any (fun w args => (s.pre enc C.prog fn conds apart w args ∧ X w args) ∧ sizedMet enc C.prog fn (OpenSpec.ofChange s) apart w args) (s.post enc C.prog fn apart fresh handsOn again) := by
  refine returnsInHanded_of_calls own started noInit witness ?_
  intro w tape i _ hsh _ hok hpre hholds
  obtain ⟨_, _, _, fn', hfn', _, _, _, _, hval⟩ := hok
  have e : fn' = fn := Option.some.inj (hfn'.symm.trans hfn)
  subst e
  obtain ⟨⟨⟨ds, gs, before, hw, hc⟩, hx⟩, hz⟩ := hpre
  have hw' := DataW.Whole.of_heap (w' := w.forCall tape i) (by rfl) hw
  refine (contract (w.forCall tape i) w.heap.size i.args ds gs before hval hw' (hX _ _ _ (by rfl) hx) hsh).mono fun e W' ⟨v, he, hp⟩ => ?_
  subst he
  exact ChangeSpec.post_blind hp
end Go.Proofs.YtblongcnmpdihaaDoor
namespace Wb
open Go
theorem toPrs_of (l : List Pr) : toPrs (l.map ofPr) = l := by
  unfold toPrs
  rw [List.map_map]
  exact List.map_id _
theorem sizeF_tot (l : List Pr) : sizeF (l.map ofPr) = tot7 l + l.length := by
  induction l with
  | nil => rfl
  | cons x l ih =>
    rw [List.map_cons, sizeF, ih]
    unfold tot7
    rw [List.map_cons, List.sum_cons, List.length_cons]
    show x.1.data.toList.length + x.2.data.toList.length + 1 + _ = _
    rw [← ba_size, ← ba_size]
    omega
theorem printX_ok {l : List Pr} {s : List UInt8} (h : printX l = .ok s) : l.length ≤ 8 ∧ printFs (l.map ofPr) = .ok s := by
  unfold printX at h
  split at h
  · cases h
  · exact ⟨by omega, h⟩
theorem printFs_two : ∀ (l : List (List UInt8 × List UInt8)) (s : List UInt8), printFs l = .ok s → 2 ≤ s.length
  | [], s, h => by simp only [printFs, Except.ok.injEq] at h; rw [← h]; simp
  | x :: l, s, h => by
    rw [printFs_lines] at h
    cases hl : linesOf x with
    | error e => rw [hl] at h; cases h
    | ok ls =>
      rw [hl] at h
      simp only at h
      cases hp : printFs l with
      | error e => rw [hp] at h; cases h
      | ok t =>
        rw [hp] at h
        simp only [Except.ok.injEq] at h
        have := printFs_two l t hp
        rw [← h, List.length_append]
        omega
theorem scan_at {line sp : Nat} {L : List UInt8} {i : Nat} {c : UInt8} (h : L[i]? = some c) : scanB line sp (L.drop i) = if c = 13 ∨ c = 10 then scanB 0 0 (L.drop (i + 1)) else
    if 76 < line + 1 ∧ 1 < (if c = 32 then sp + 1 else sp) then false else scanB (line + 1) (if c = 32 then sp + 1 else sp) (L.drop (i + 1)) := by
  obtain ⟨hi, e⟩ := List.getElem?_eq_some_iff.1 h
  rw [List.drop_eq_getElem_cons hi, e, scanB]
end Wb
namespace Go.Proofs.YtblongcnmpdihaaDoor
open Go.RowKit Wb
theorem ix0 (x y z : Int) (w : World) : (Instr.index 37 (.agg #[.int .i64 x, .int .i64 y, .int .i64 z]) (.int .i64 0)).run Tryd.prog w = .ok (.int .i64 x) w := by kernel_rfl
theorem ix1 (x y z : Int) (w : World) : (Instr.index 37 (.agg #[.int .i64 x, .int .i64 y, .int .i64 z]) (.int .i64 1)).run Tryd.prog w = .ok (.int .i64 y) w := by kernel_rfl
theorem ix2 (x y z : Int) (w : World) : (Instr.index 37 (.agg #[.int .i64 x, .int .i64 y, .int .i64 z]) (.int .i64 2)).run Tryd.prog w = .ok (.int .i64 z) w := by kernel_rfl
set_option maxHeartbeats 1000000 in
theorem fields_same (A B : Option Addr) (l : List Pr) (c d : Nat) (w : World) (hl : l.length ≤ 1000000) (hA : Sl2 w A l) (hB : Sl2 w B l) :
    Calls Tryd.prog 16 #[.slice A l.length c, .slice B l.length d] w fun e w' => e = .returned (.bool true) ∧ Below w.heap.size w w' := by
  go_enter Tryd.func16, Tryd.ntmps16
  go_wp2
  go_loopw [5] (fun i wr => ∃ k : Nat, k ≤ l.length ∧ i = .int .i64 k ∧ Below w.heap.size w wr) (fun i _ => ((l.length : Int) - intOf i).toNat)
  case atStart => exact ⟨0, by omega, rfl, Below.refl _ _⟩
  case round =>
    obtain ⟨k, hk, rfl, hb⟩ := hrel
    by_cases h0 : k < l.length
    · obtain ⟨⟨x1, x2⟩, he⟩ : ∃ x, l[k]? = some x := ⟨l[k], List.getElem?_eq_getElem (by omega)⟩
      obtain ⟨ad, rfl, _, c1, c2⟩ := (hA.below hb).at_ he
      obtain ⟨bd, rfl, _, d1, d2⟩ := (hB.below hb).at_ he
      clear he
      go_wp2
      go_region
      go_wp2
      go_roundw
      case rel => exact ⟨k + 1, by omega, by go_num, hb.drew⟩
      case measure => simp [intOf]; omega
    · go_wp2
      go_ret
      exact ⟨rfl, hb⟩
set_option maxRecDepth 100000 in
set_option maxHeartbeats 8000000 in
theorem back_walk (A : Option Addr) (l : List Pr) (c : Nat) (bh : ByteArray) (w : World) (hA : Sl2 w A l) (hG : GvF w) :
    Calls Tryd.prog 4 #[.slice A l.length c, .string bh] w fun e w' => e = .returned (.bool true) ∧ Below w.heap.size w w' := by
  have HG := Lib.hid hG
  have HA := Lib.hid hA
  clear hG hA
  go_enter Tryd.func4, Tryd.ntmps4
  go_wp2_with fail
  refine (awake7 w HG.out).mono ?_
  rintro e w1 ⟨rfl, hb⟩
  have HB1 := Lib.hid hb
  have hfew := few7_any A l c w1 (HA.out.below hb)
  clear hb
  go_wp2_with fail
  refine hfew.mono ?_
  rintro e w2 ⟨hb, b, rfl, hfb⟩
  have HB2 := Lib.hid (HB1.out.trans (hb.mono HB1.out.size))
  clear hb hfew
  cases b
  · go_wp2
    go_ret
    exact ⟨rfl, HB2.out⟩
  have hfe := hfb rfl
  clear hfb
  by_cases hb2 : (2000 : Int) < bh.size
  · go_wp2
    go_ret
    exact ⟨rfl, HB2.out⟩
  have hl5 : l.length < 5000 := by omega
  have hpr := print_any A l c w2 (HA.out.below HB2.out) (by omega) (fun x hx => by have := tot7_mem hx; omega) (HG.out.next HB2.out)
  cases hpx : printX l with
  | error k =>
    rw [hpx] at hpr
    have hk := printX_err hpx
    clear hpx
    rcases hk with rfl | rfl | rfl
    all_goals
      go_wp2_with fail
      refine hpr.mono ?_
      rintro e w3 ⟨he, hb⟩
      obtain rfl : e = _ := he
      have HB3 := Lib.hid (HB2.out.trans (hb.mono HB2.out.size))
      clear hb hpr
      go_wp2
      go_ret
      exact ⟨rfl, HB3.out⟩
  | ok st =>
    rw [hpx] at hpr
    obtain ⟨h8, hpf⟩ := printX_ok hpx
    have h2 := printFs_two _ _ hpf
    have hsz := printFs_size _ _ hpf
    rw [sizeF_tot] at hsz
    have hst : st.length ≤ 30002 := by omega
    have HPF := Lib.hid hpf
    have hpr : Calls Tryd.prog 9 #[.slice A l.length c] w2 fun e w' => e = .returned (.tuple #[.string (mkB st), .int .i64 0]) ∧ Below w2.heap.size w2 w' := hpr
    have hms : (mkB st).size = st.length := mkB_size st
    have hbhs : bh.size ≤ 2000 := by omega
    have happ : mkB st ++ bh = mkB (st ++ bh.data.toList) := by
      refine eq_of_lists ?_
      rw [ByteArray.data_append, Array.toList_append, mkB_list, mkB_list]
    have hps := fun u (hg : GvF u) => parse_any (mkB st ++ bh) 100000 u (by rw [ByteArray.size_append]; omega) (by rw [ByteArray.size_append]; omega) hg
    have hlst : (mkB st ++ bh).data.toList = st ++ bh.data.toList := by rw [happ]; rfl
    rw [hlst, parse_back _ st bh.data.toList 100000 0 hpf (by rw [List.length_map]; omega) (by rw [List.length_map]; omega)] at hps
    have hps : ∀ u, GvF u → Calls Tryd.prog 15 #[.string (mkB st ++ bh)] u fun e w' => (∃ A c, e = .returned (.tuple #[.slice A l.length c, .string bh, .int .i64 0]) ∧ Sl2 w' A l) ∧ Below u.heap.size u w' := fun u hg => (hps u hg).mono fun e w' h => ⟨by
      obtain ⟨⟨A, c, h1, h2⟩, _⟩ := h
      refine ⟨A, c, ?_, ?_⟩
      · rw [h1, List.length_map]; unfold mkB; rw [ba_mk]
      · rwa [toPrs_of] at h2, h.2⟩
    have HCUT := Lib.hid (fun (n : Nat) (hn : n < st.length) (u : World) (hg : GvF u) => by
      have h := parse_any ((mkB st).extract 0 n) 100000 u (by rw [Lib.extract_upto, Lib.size_mk, List.length_take]; omega) (by rw [Lib.extract_upto, Lib.size_mk, List.length_take]; omega) hg
      rw [show ((mkB st).extract 0 n).data.toList = st.take n from by rw [Lib.extract_upto]; rfl, parse_cut _ st n 100000 0 hpf hn (by rw [List.length_map]; omega) (by rw [List.length_map]; omega)] at h
      exact (show Calls Tryd.prog 15 #[.string ((mkB st).extract 0 n)] u fun e w' => e = .returned (.tuple #[.slice none 0 0, .string ⟨#[]⟩, .int .i64 2]) ∧ Below u.heap.size u w' from h))
    have HSC := Lib.hid (scan_print _ _ hpf)
    have hml : (mkB st).data.toList = st := rfl
    have HML := Lib.hid hml
    have g1 : ¬ 9223372036854775807 < (mkB st).size + bh.size := by omega
    clear hpx happ hlst hsz hpf hml hfe
    generalize mkB st = S at *
    go_wp2_with fail
    refine hpr.mono ?_
    rintro e w3 ⟨rfl, hb⟩
    have HB3 := Lib.hid (HB2.out.trans (hb.mono HB2.out.size))
    have k1 := hps w3 (HG.out.next HB3.out)
    clear hb hpr hps
    go_wp2_with fail
    refine k1.mono ?_
    rintro e w4 ⟨⟨B, d, rfl, hS⟩, hb⟩
    have HB4 := Lib.hid (HB3.out.trans (hb.mono HB3.out.size))
    have k2 := fields_same B A l d c w4 (by omega) hS (HA.out.below HB4.out)
    clear hb k1 hS
    go_wp2_with fail
    refine k2.mono ?_
    rintro e w5 ⟨rfl, hb⟩
    have HB5 := Lib.hid (HB4.out.trans (hb.mono HB4.out.size))
    clear hb k2
    have hx0 := ix0
    have hx1 := ix1
    have hx2 := ix2
    go_wp2
    obtain ⟨m, hm⟩ : ∃ m : Nat, (st.length : Int) / 2 = m := ⟨st.length / 2, by omega⟩
    obtain ⟨q, hq⟩ : ∃ q : Nat, (st.length : Int) - 1 = q := ⟨st.length - 1, by omega⟩
    have hml : m < S.size := by omega
    have hql : q < S.size := by omega
    have h0l : 0 < S.size := by omega
    rw [hm, hq]
    have HMS := Lib.hid hms
    clear hm hq hms h2
    go_loopw [65] (fun vi wr => ∃ i : Nat, i ≤ 3 ∧ vi = .int .i64 i ∧ Hid (Below w.heap.size w wr)) (fun vi _ => 3 - (intOf vi).toNat)
    case atStart => exact ⟨0, by omega, rfl, HB5⟩
    case round =>
      obtain ⟨i, hi, rfl, HB⟩ := hrel
      have hcc : i = 0 ∨ i = 1 ∨ i = 2 ∨ i = 3 := by omega
      rcases hcc with rfl | rfl | rfl | rfl
      · have k6 := HCUT.out 0 (by have := HMS.out; omega) _ (HG.out.next HB.out)
        rw [show S.extract 0 0 = ByteArray.empty from eq_of_lists (by rw [Lib.extract_data]; rfl)] at k6
        go_wp2_with fail
        refine k6.mono ?_
        rintro e w6 ⟨rfl, hb⟩
        have HB6 := Lib.hid (HB.out.trans (hb.mono HB.out.size))
        clear hb k6
        go_wp2
        go_roundw
        case rel => exact ⟨0 + 1, by omega, by go_num, HB6⟩
        case measure => simp [intOf] <;> omega
      · have k6 := HCUT.out m (by have := HMS.out; omega) _ (HG.out.next HB.out)
        go_wp2_with fail
        refine k6.mono ?_
        rintro e w6 ⟨rfl, hb⟩
        have HB6 := Lib.hid (HB.out.trans (hb.mono HB.out.size))
        clear hb k6
        go_wp2
        go_roundw
        case rel => exact ⟨1 + 1, by omega, by go_num, HB6⟩
        case measure => simp [intOf] <;> omega
      · have k6 := HCUT.out q (by have := HMS.out; omega) _ (HG.out.next HB.out)
        go_wp2_with fail
        refine k6.mono ?_
        rintro e w6 ⟨rfl, hb⟩
        have HB6 := Lib.hid (HB.out.trans (hb.mono HB.out.size))
        clear hb k6
        go_wp2
        go_roundw
        case rel => exact ⟨2 + 1, by omega, by go_num, HB6⟩
        case measure => simp [intOf] <;> omega
      · clear hx0 hx1 hx2 hml hql h0l
        have hms := HMS.out
        go_wp2
        go_loop [15, 16, 17] (fun vl vs vi => ∃ i line sp : Nat, i ≤ st.length ∧ vi = .int .i64 i ∧ vl = .int .i64 line ∧ vs = .int .i64 sp ∧ line ≤ i ∧ sp ≤ i ∧ Hid (scanB line sp (st.drop i) = true)) (fun _ _ vi => st.length - (intOf vi).toNat)
        case atStart => exact ⟨0, 0, 0, by omega, rfl, rfl, rfl, by omega, by omega, by rw [List.drop_zero]; exact HSC⟩
        case round =>
          obtain ⟨i, line, sp, hi, rfl, rfl, rfl, hli, hsi, HS⟩ := hrel
          by_cases h0 : i < st.length
          · have h0s : i < S.size := by omega
            obtain ⟨ch, hch⟩ : ∃ ch, S[i] = ch := ⟨_, rfl⟩
            have hc : st[i]? = some ch := by
              rw [← HML.out, List.getElem?_eq_getElem (by rw [← ba_size]; exact h0s), ← hch]
              rfl
            have hs := HS.out
            rw [scan_at hc] at hs
            have e0 : ∀ k : UInt8, ((S[i].toNat : Int) == (k.toNat : Int)) = decide (ch = k) := fun k => by
              rw [hch, Bool.eq_iff_iff, beq_iff_eq, decide_eq_true_eq]
              exact ⟨fun h => UInt8.toNat.inj (by omega), fun h => by rw [h]⟩
            have e13 : ((S[i].toNat : Int) == 13) = decide (ch = 13) := e0 13
            have e10 : ((S[i].toNat : Int) == 10) = decide (ch = 10) := e0 10
            have e32 : ((S[i].toNat : Int) == 32) = decide (ch = 32) := e0 32
            clear e0 hc hch HS
            by_cases h13 : ch = 13
            · rw [if_pos (.inl h13)] at hs
              rw [decide_eq_true h13] at e13
              have HS2 := Lib.hid hs
              clear hs h13 e10 e32
              go_wp2
              go_round
              case rel => exact ⟨i + 1, 0, 0, by omega, by go_num, rfl, rfl, by omega, by omega, HS2⟩
              case measure => simp [intOf] <;> omega
            · by_cases h10 : ch = 10
              · rw [if_pos (.inr h10)] at hs
                rw [decide_eq_false h13] at e13
                rw [decide_eq_true h10] at e10
                have HS2 := Lib.hid hs
                clear hs h13 h10 e32
                go_wp2
                go_round
                case rel => exact ⟨i + 1, 0, 0, by omega, by go_num, rfl, rfl, by omega, by omega, HS2⟩
                case measure => simp [intOf] <;> omega
              · rw [if_neg (show ¬ (ch = 13 ∨ ch = 10) from fun h => h.elim h13 h10)] at hs
                rw [decide_eq_false h13] at e13
                rw [decide_eq_false h10] at e10
                by_cases h32 : ch = 32
                · rw [decide_eq_true h32] at e32
                  rw [if_pos h32] at hs
                  by_cases hbad : 76 < line + 1 ∧ 1 < sp + 1
                  · rw [if_pos hbad] at hs; cases hs
                  · rw [if_neg hbad] at hs
                    have HS2 := Lib.hid hs
                    have hgd : ¬ (76 : Int) < (line : Int) + 1 ∨ (76 : Int) < (line : Int) + 1 ∧ ¬ (1 : Int) < (sp : Int) + 1 := by omega
                    clear hs h13 h10 h32 hbad
                    rcases hgd with hg | ⟨hg, hg2⟩
                    all_goals
                      go_wp2
                      go_round
                      case rel => exact ⟨i + 1, line + 1, sp + 1, by omega, by go_num, by go_num, by go_num, by omega, by omega, HS2⟩
                      case measure => simp [intOf] <;> omega
                · rw [decide_eq_false h32] at e32
                  rw [if_neg h32] at hs
                  by_cases hbad : 76 < line + 1 ∧ 1 < sp
                  · rw [if_pos hbad] at hs; cases hs
                  · rw [if_neg hbad] at hs
                    have HS2 := Lib.hid hs
                    have hgd : ¬ (76 : Int) < (line : Int) + 1 ∨ (76 : Int) < (line : Int) + 1 ∧ ¬ (1 : Int) < (sp : Int) := by omega
                    clear hs h13 h10 h32 hbad
                    rcases hgd with hg | ⟨hg, hg2⟩
                    all_goals
                      go_wp2
                      go_round
                      case rel => exact ⟨i + 1, line + 1, sp, by omega, by go_num, by go_num, rfl, by omega, by omega, HS2⟩
                      case measure => simp [intOf] <;> omega
          · go_wp2
            go_ret
            exact ⟨rfl, HB.out⟩
end Go.Proofs.YtblongcnmpdihaaDoor
