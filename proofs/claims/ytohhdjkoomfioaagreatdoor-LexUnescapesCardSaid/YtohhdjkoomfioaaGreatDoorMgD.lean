
/- awake. -/
import Derived.Test.YtohhdjkoomfioaaGreatDoorMgC
import Derived.KernelRfl
import Derived.Test.YtohhdjkoomfioaaGreatDoorLxF
import Derived.Test.YtohhdjkoomfioaaGreatDoorRows
import Derived.Shelf.Vars
import Derived.Lib.LaidU8
import Derived.Lib.LaidTab
import Derived.MakeChecks
import Derived.WideShapes
namespace Wb
theorem awake1 : tokensU [60, 97, 32, 98, 61, 39, 49, 39, 62, 120, 38, 108, 116, 59, 60, 47, 97, 62] = .ok [(0, (1, [97], [([98], [49])], [])), (9, (4, [], [], [120, 60])), (14, (2, [97], [], []))] := by kernel_rfl
theorem awake2 : tokensU [60, 97, 32, 98, 62] = .error (4, 4) := by kernel_rfl
end Wb
namespace Go.Proofs.YtohhdjkoomfioaaGreatDoor
open Go.RowKit Wb

set_option maxRecDepth 100000 in
set_option maxHeartbeats 2000000 in
theorem awake_any (w : World) (hG : Gv w) : Calls Tryz.prog 8 #[] w fun e w' => e = .returned (.bool true) ∧ Below w.heap.size w w' := by
  have h1 := Tokens_any ⟨#[60, 97, 32, 98, 61, 39, 49, 39, 62, 120, 38, 108, 116, 59, 60, 47, 97, 62]⟩ w hG (by decide)
  have H2 := Lib.hid fun w2 (hg : Gv w2) => Tokens_any ⟨#[60, 97, 32, 98, 62]⟩ w2 hg (by decide)
  change Calls _ _ _ _ (fun e w' => TksOut (tokensU [60, 97, 32, 98, 61, 39, 49, 39, 62, 120, 38, 108, 116, 59, 60, 47, 97, 62]) e w' ∧ _) at h1
  rw [awake1] at h1
  go_enter Tryz.func8, Tryz.ntmps8
  go_wp2_with fail
  refine h1.mono ?_
  rintro e w1 ⟨⟨A, c, rfl, hT⟩, hb1⟩
  have hG1 := hG.next hb1
  have h2 := H2.out w1 hG1
  change Calls _ _ _ _ (fun e w' => TksOut (tokensU [60, 97, 32, 98, 62]) e w' ∧ _) at h2
  rw [awake2] at h2
  have HT := Lib.hid hT
  have HB := Lib.hid hb1
  clear h1 H2 hT hb1
  go_wp2_with fail
  refine h2.mono ?_
  rintro e w2 ⟨rfl, hb2⟩
  have hT := HT.out.below hb2
  have HB2 := Lib.hid (HB.out.trans (hb2.mono HB.out.size))
  obtain ⟨ad, B0, d0, rfl, _, p0, p1, p2, p3, p4, hS0⟩ := hT.at_ (k := 0) (t := tv (0, (1, [97], [([98], [49])], []))) rfl
  obtain ⟨ad1, B1, d1, e1, _, a0, a1, a2, a3, a4, hS1⟩ := hT.at_ (k := 1) (t := tv (9, (4, [], [], [120, 60]))) rfl
  obtain ⟨ad2, B2, d2, e2, _, b0, b1, b2, b3, b4, hS2⟩ := hT.at_ (k := 2) (t := tv (14, (2, [97], [], []))) rfl
  injection e1 with e1
  injection e2 with e2
  subst e1 e2
  obtain ⟨ae, rfl, _, c1, c2⟩ := Sl2.at_ hS0 (k := 0) (x := (⟨#[98]⟩, ⟨#[49]⟩)) rfl
  have l1 : (tv (0, (1, [97], [([98], [49])], []))).attrs.length = 1 := rfl
  clear h2 HT HB hb2 hT hS0 hS1 hS2 hG1
  simp only [tv] at p2 p3 a1 a4 b1
  rw [show (prs [([98], [49])]).length = 1 from rfl] at p3
  simp [Addr.add] at p2 p3 a1 a4 b1 c2
  clear p0 p1 p4 a0 a2 a3 b0 b2 b3 b4 c1 l1
  go_wp2
  go_ret
  exact ⟨rfl, HB2.out⟩
end Go.Proofs.YtohhdjkoomfioaaGreatDoor

namespace Go.Proofs.YtohhdjkoomfioaaGreatDoor
open Go.RowKit Wb

set_option maxHeartbeats 2000000 in
theorem unescapes_all (s : ByteArray) (attr : Bool) (w : World) (hG : Gv w) :
    Calls Tryz.prog 3 #[.string s, .bool attr] w fun e w' => e = .returned (.bool true) ∧ Below w.heap.size w w' := by
  have HA := Lib.hid (awake_any w hG)
  have HG := Lib.hid hG
  clear hG
  by_cases hl : (20000 : Int) < s.size
  · go_enter Tryz.func3, Tryz.ntmps3
    go_wp2_with fail
    refine HA.out.mono ?_
    rintro e w1 ⟨rfl, hb⟩
    go_wp2
    go_ret
    exact ⟨rfl, hb⟩
  · obtain ⟨x, p, c, hx⟩ : ∃ x p c, unB s attr = (x, p, c) := ⟨_, _, _, rfl⟩
    have HX := Lib.hid hx
    clear hx
    go_enter Tryz.func3, Tryz.ntmps3
    go_wp2_with fail
    refine HA.out.mono ?_
    rintro e w1 ⟨rfl, hb⟩
    go_wp2_with fail
    refine (Unescape_any s attr _ (HG.out.next hb) (by omega)).mono ?_
    rw [HX.out]
    rintro e w2 ⟨rfl, hb2⟩
    replace hb := hb.trans (hb2.mono hb.size)
    clear hb2
    go_wp2_with fail
    refine (runescape_any s attr _ (by omega)).mono ?_
    rw [HX.out]
    rintro e w3 ⟨rfl, hb2⟩
    replace hb := hb.trans (hb2.mono hb.size)
    clear hb2
    go_wp2
    go_ret
    exact ⟨rfl, hb⟩
end Go.Proofs.YtohhdjkoomfioaaGreatDoor

namespace Go.Proofs.YtohhdjkoomfioaaGreatDoor
open Go.RowKit Wb

theorem fold_data : (Rows.laid_unicode_asciiFold : DataW Unit) = Lib.tabData .u16 foldZ := by kernel_rfl

set_option maxRecDepth 1000000 in
theorem gv_of {W : World} (hL : laidMetH Tryz.prog Rows.lexUnescapesRow.laid W) (hsh : W.ShapedOpen Tryz.prog) : Gv W := by
  rw [MakeChecks.laidMetH_plain _ _ _ (by kernel_rfl)] at hL
  have r1 : Lib.VarReads Tryz.prog W "unicode.asciiFold" Rows.laid_unicode_asciiFold := Lib.laidMet.reads hL (by simp [Rows.lexUnescapesRow])
  have r2 : Lib.VarReads Tryz.prog W "strconv.ErrRange" Rows.laid_strconv_ErrRange := Lib.laidMet.reads hL (by simp [Rows.lexUnescapesRow])
  have r3 : Lib.VarReads Tryz.prog W "strconv.ErrSyntax" Rows.laid_strconv_ErrSyntax := Lib.laidMet.reads hL (by simp [Rows.lexUnescapesRow])
  have hml := cell_of_shapedOpen_int (P := Tryz.prog) (g := 4) (t := 3) (zero := #[.int .i64 0]) hsh (of_decide_eq_true (by kernel_rfl)) (by kernel_rfl) rfl (by kernel_rfl) (by kernel_rfl) Tryz.underlying3
  obtain ⟨g1, t1, cs1, f1, p1, hg1, ht1, hv1, hd1⟩ := r1
  obtain rfl := Option.some.inj ((show Tryz.prog.globalNamed "unicode.asciiFold" = some 1 by kernel_rfl).symm.trans hg1)
  obtain rfl := Option.some.inj ((show (Tryz.prog.globals[1]?).map (·.type) = some 132 by kernel_rfl).symm.trans ht1)
  rw [fold_data] at hd1
  have hc1 := Lib.cells_of_tab (n := 128) Tryz.underlying132 Tryz.underlying131 (by kernel_rfl) (by kernel_rfl) hd1
  have iface : ∀ (cs : Array Value) (f : Nat) (nm : String) (x : DataW Unit) (p : List MemPlace), DataW.trod (fun _ => ()) Tryz.prog W 0 (fun _ => true) false f 75 cs.toList = some (.iface nm x, p) → ∃ v, cs[0]? = some v ∧ (v = .nilIface ∨ ∃ t p, v = .iface t p) := by
    intro cs f nm x p h
    cases f with
    | zero => simp [DataW.trod] at h
    | succ f =>
      rw [← Array.getElem?_toList]
      generalize cs.toList = l at h
      simp only [DataW.trod, Tryz.underlying75] at h
      split at h
      all_goals first
        | (cases ‹some (TypeDesc.interface _) = some _›; done)
        | (cases h; done)
        | exact ⟨_, rfl, .inl rfl⟩
        | exact ⟨_, rfl, .inr ⟨_, _, rfl⟩⟩
  obtain ⟨g2, t2, cs2, f2, p2, hg2, ht2, hv2, hd2⟩ := r2
  obtain rfl := Option.some.inj ((show Tryz.prog.globalNamed "strconv.ErrRange" = some 10 by kernel_rfl).symm.trans hg2)
  obtain rfl := Option.some.inj ((show (Tryz.prog.globals[10]?).map (·.type) = some 75 by kernel_rfl).symm.trans ht2)
  obtain ⟨v2, hc2, hi2⟩ := iface cs2 f2 _ _ _ hd2
  obtain ⟨g3, t3, cs3, f3, p3, hg3, ht3, hv3, hd3⟩ := r3
  obtain rfl := Option.some.inj ((show Tryz.prog.globalNamed "strconv.ErrSyntax" = some 9 by kernel_rfl).symm.trans hg3)
  obtain rfl := Option.some.inj ((show (Tryz.prog.globals[9]?).map (·.type) = some 75 by kernel_rfl).symm.trans ht3)
  obtain ⟨v3, hc3, hi3⟩ := iface cs3 f3 _ _ _ hd3
  have k2 := (World.var?_cell hg2 hv2 0).trans hc2
  have k3 := (World.var?_cell hg3 hv3 0).trans hc3
  refine ⟨?_, hml, ⟨v3, k3, hi3⟩, ⟨v2, k2, hi2⟩, ?_⟩
  · rcases Nat.lt_or_ge 10 W.heap.size with h | h
    · exact h
    · simp [World.cell?, Array.getElem?_eq_none h] at k2
  · intro i hi
    rw [World.var?_cell hg1 hv1 i, ← Array.getElem?_toList, hc1]
    have hl : foldZ.length = 128 := by kernel_rfl
    rw [List.getElem?_map, List.getElem?_eq_getElem (by omega), List.getD, List.getElem?_eq_getElem (by omega)]
    rfl
end Go.Proofs.YtohhdjkoomfioaaGreatDoor

