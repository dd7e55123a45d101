/- UfD. -/
import Derived.Deep.Cut
import Derived.Deep.CutRange
import Derived.Test.YtbdamneophbnnaaGreatDoorCU37
namespace Wb
def WhS (x : WhV) : Prop := SzOK x.steps ∧ x.user.size ≤ 1000000 ∧ x.doc.size ≤ 1000000
def WhR (i : Nat) (text : ByteArray) (x : WhV) : Prop := i = 1 → uri11 text.data.toList = .ok x
end Wb
namespace Go.Proofs.YtbdamneophbnnaaGreatDoor
open Go.RowKit Wb
def whC (x : WhV) (A : Option Addr) (ca : Nat) (C : Option Addr) (cc : Nat) : Array Value := #[.string x.usage, .string x.user, .string x.doc, .bool x.node, .slice A x.steps.length ca, .string x.raw, .slice C x.binds.length cc]
theorem whC_no (x : WhV) (A : Option Addr) (ca : Nat) (C : Option Addr) (cc : Nat) : ∀ (i : Nat) (k : IntKind) (v : Int), (whC x A ca C cc)[i]? ≠ some (Value.int k v) := noint7 _ _ _ _ _ _ _ (by simp) (by simp) (by simp) (by simp) (by simp) (by simp) (by simp)
set_option maxRecDepth 100000 in
set_option maxHeartbeats 16000000 in
theorem uriback_walk (x : WhV) (A : Option Addr) (ca : Nat) (C : Option Addr) (cc : Nat) (text : ByteArray) (w : World) (hA : Sl9 w A x.steps) (hG : GvS w) :
    Calls Tryz.prog 5 #[whV x A ca C cc, .string text] w fun e w' => e = .returned (.bool true) ∧ Below w.heap.size w w' := by
  have HAW := Lib.hid (fun v (hb : Below w.heap.size w v) => awake11 v (hG.next hb))
  have HUR := Lib.hid (fun x A ca C cc v (hb : Below w.heap.size w v) (hA : Sl9 v A x.steps) (hs : WhS x) => urc_of hG x A ca C cc v hb hA hs.1 hs.2.1 hs.2.2)
  have HUP := Lib.hid (fun s v (hb : Below w.heap.size w v) hs => upc_of hG s v hb hs)
  have HFW := Lib.hid (fun v (hb : Below w.heap.size w v) => few10_any A x.steps ca v (hA.below hb))
  have hx0 := OwnB.new0 w #[.string x.usage, .string x.user, .string x.doc, .bool x.node, .slice A x.steps.length ca, .string x.raw, .slice C x.binds.length cc] 26
  have hb0 := (Below.refl w.heap.size w).alloc (Nat.le_refl _) (.cells #[.string x.usage, .string x.user, .string x.doc, .bool x.node, .slice A x.steps.length ca, .string x.raw, .slice C x.binds.length cc] 26)
  have HA := Lib.hid (fun v (hb : Below w.heap.size w v) => hA.below hb)
  clear hA hG
  unfold whV
  unfold whV at HUR
  go_enter Tryz.func5, Tryz.ntmps5
  go_upto_region 1 with fail
  generalize w.alloc (.cells #[.string x.usage, .string x.user, .string x.doc, .bool x.node, .slice A x.steps.length ca, .string x.raw, .slice C x.binds.length cc] 26) = w0 at *
  go_wp2_with fail
  refine (HAW.out _ hb0).mono ?_
  rintro e w1 ⟨rfl, hbx⟩
  have hx1 := hx0.next hbx
  have hb1 := hb0.trans (hbx.mono hb0.size)
  clear hx0 hb0 hbx HAW
  have c0 := hx1.cell 0
  have c1 := hx1.cell 1
  have c2 := hx1.cell 2
  have c3 := hx1.cell 3
  have c4 := hx1.cell 4
  have c5 := hx1.cell 5
  have c6 := hx1.cell 6
  simp only [List.getElem?_toArray, List.getElem?_cons_zero, List.getElem?_cons_succ] at c0 c1 c2 c3 c4 c5 c6
  go_wp2_with fail
  refine (HFW.out _ hb1).mono ?_
  rintro e w2 ⟨hbx, f1, rfl, hfb⟩
  have hx2 := hx1.next hbx
  have hb2 := hb1.trans (hbx.mono hb1.size)
  clear hx1 hb1 hbx HFW c0 c1 c2 c3 c4 c5 c6
  cases f1 with
  | false =>
    clear hfb HUR HUP HA hx2
    go_wp2
    go_ret
    exact ⟨rfl, hb2⟩
  | true =>
    have HSL := Lib.hid (SzOK.of_few (hfb rfl))
    clear hfb
    have c0 := hx2.cell 0
    have c1 := hx2.cell 1
    have c2 := hx2.cell 2
    have c3 := hx2.cell 3
    have c4 := hx2.cell 4
    have c5 := hx2.cell 5
    have c6 := hx2.cell 6
    simp only [List.getElem?_toArray, List.getElem?_cons_zero, List.getElem?_cons_succ] at c0 c1 c2 c3 c4 c5 c6
    by_cases h1 : 3000 < x.user.size
    · have i1 : (3000 : Int) < x.user.size := by omega
      clear HUR HUP HA hx2 HSL
      go_wp2
      go_ret
      exact ⟨rfl, hb2⟩
    have i1 : ¬ (3000 : Int) < x.user.size := by omega
    by_cases h2 : 3000 < x.doc.size
    · have i2 : (3000 : Int) < x.doc.size := by omega
      clear HUR HUP HA hx2 HSL
      go_wp2
      go_ret
      exact ⟨rfl, hb2⟩
    have i2 : ¬ (3000 : Int) < x.doc.size := by omega
    by_cases h3 : 2000 < text.size
    · have i3 : (2000 : Int) < text.size := by omega
      clear HUR HUP HA hx2 HSL
      go_wp2
      go_ret
      exact ⟨rfl, hb2⟩
    have i3 : ¬ (2000 : Int) < text.size := by omega
    have HWS : Hid (WhS x) := Lib.hid ⟨HSL.out, by omega, by omega⟩
    have HTX := Lib.hid (fun v (hb : Below w.heap.size w v) => HUP.out text v hb (by omega))
    have HX2 : Hid (OwnB w.heap.size w w2 (whC x A ca C cc) 26) := Lib.hid hx2
    have HA2 := Lib.hid (HA.out w2 hb2)
    have HB2 := Lib.hid hb2
    clear HSL HA hx2 hb2
    go_wp2
    clear c0 c1 c2 c3 c4 c5 c6 h1 h2 i1 i2 h3 i3
    go_loopw [5, 6, 7, 8, 9, 10, 11, 12, 13] (fun v5 _ _ _ _ _ _ _ _ wr => ∃ (i : Nat) (x' : WhV) (A' : Option Addr) (ca' : Nat) (C' : Option Addr) (cc' : Nat), i ≤ 2 ∧ v5 = .int .i64 i ∧ Hid (WhS x') ∧ Hid (OwnB w.heap.size w wr (whC x' A' ca' C' cc') 26) ∧ Hid (Sl9 wr A' x'.steps) ∧ Hid (Below w.heap.size w wr)) (fun v5 _ _ _ _ _ _ _ _ _ => 2 - (intOf v5).toNat)
    case atStart => exact ⟨0, x, A, ca, C, cc, by omega, rfl, HWS, HX2, HA2, HB2⟩
    case round =>
      obtain ⟨i, x', A', ca', C', cc', hi, rfl, HS', HX', HA', HB'⟩ := hrel
      by_cases h2 : i < 2
      · have h2b : (i : Int) < 2 := by omega
        have hi01 : i = 0 ∨ i = 1 := by omega
        have hwr : IntKind.i64.wrap ((i : Int) + 1) = (i : Int) + 1 := by rw [IntKind.wrap_i64]; omega
        go_upto_if 42 with fail
        go_cut [] from 37 to 131 (fun wx => ∃ (x2 : WhV) (A2 : Option Addr) (ca2 : Nat) (C2 : Option Addr) (cc2 : Nat), Hid (WhS x2) ∧ Hid (WhR i text x2) ∧ Hid (OwnB w.heap.size w wx (whC x2 A2 ca2 C2 cc2) 26) ∧ Hid (Sl9 wx A2 x2.steps) ∧ Hid (Below w.heap.size w wx))
        case first =>
          rcases hi01 with rfl | rfl
          · have hr0 : Hid (WhR 0 text x') := Lib.hid (fun h => by cases h)
            clear HUR HUP HTX
            go_wp2
            go_meet
            case rel => exact ⟨x', A', ca', C', cc', HS', hr0, HX', HA', HB'⟩
          · have hnz := fun k (h : uri11 text.data.toList = .error k) => uri_nz h
            have hok := fun v (h : uri11 text.data.toList = .ok v) => uri_size h
            have hrr : ∀ v, uri11 text.data.toList = .ok v → WhR 1 text v := fun v h _ => h
            have HOK := Lib.hid hok
            have HRR := Lib.hid hrr
            have HNZ := Lib.hid hnz
            generalize uri11 text.data.toList = o at *
            clear HUR HUP hnz hok hrr
            go_wp2_with fail
            refine (HTX.out _ HB'.out).mono ?_
            intro e w3 huo
            obtain ⟨v, A3, ca3, C3, cc3, k, rfl, hA3, hC3, hbx, hv0, hv1⟩ := huo.form HNZ.out
            have hx3 := HX'.out.next hbx
            have hb3 := HB'.out.trans (hbx.mono HB'.out.size)
            have HA3 := Lib.hid hA3
            have HV0 := Lib.hid hv0
            clear huo hA3 hC3 hbx hv0 hv1 HX' HB' HA' HTX HNZ
            unfold whV
            have hy4 := OwnB.new #[.string v.usage, .string v.user, .string v.doc, .bool v.node, .slice A3 v.steps.length ca3, .string v.raw, .slice C3 v.binds.length cc3] 26 hb3
            have hx4 := hx3.alloc (.cells #[.string v.usage, .string v.user, .string v.doc, .bool v.node, .slice A3 v.steps.length ca3, .string v.raw, .slice C3 v.binds.length cc3] 26)
            have hb4 := hb3.alloc hb3.size (.cells #[.string v.usage, .string v.user, .string v.doc, .bool v.node, .slice A3 v.steps.length ca3, .string v.raw, .slice C3 v.binds.length cc3] 26)
            have HA4 := Lib.hid (Sl9.below HA3.out ((Below.refl w3.heap.size w3).alloc (Nat.le_refl _) (.cells #[.string v.usage, .string v.user, .string v.doc, .bool v.node, .slice A3 v.steps.length ca3, .string v.raw, .slice C3 v.binds.length cc3] 26)))
            clear hx3 hb3 HA3
            go_upto_region 10 with fail
            generalize w3.alloc (.cells #[.string v.usage, .string v.user, .string v.doc, .bool v.node, .slice A3 v.steps.length ca3, .string v.raw, .slice C3 v.binds.length cc3] 26) = w4 at *
            generalize w3.heap.size = gv at *
            by_cases hk : k = 0
            · subst hk
              have hov := HV0.out rfl
              obtain ⟨z1, z2, z3, z4, z5⟩ := HOK.out v hov
              have HWV : Hid (WhS v) := Lib.hid ⟨z4, by omega, by omega⟩
              have HRV := Lib.hid (HRR.out v hov)
              have ha1 := sl9_ne HA4.out hx4 (whC_no _ _ _ _ _)
              have HA5 := Lib.hid (Sl9.aw7 (A := A3) (l := v.steps) HA4.out ha1 (.string v.usage) (.string v.user) (.string v.doc) (.bool v.node) (.slice A3 v.steps.length ca3) (.string v.raw) (.slice C3 v.binds.length cc3))
              unfold whC at hx4
              have hx5 := hx4.all7 (.string v.usage) (.string v.user) (.string v.doc) (.bool v.node) (.slice A3 v.steps.length ca3) (.string v.raw) (.slice C3 v.binds.length cc3)
              have hb5 := (Below.setCell (p := ⟨w.heap.size, 6, none⟩) (Below.setCell (p := ⟨w.heap.size, 5, none⟩) (Below.setCell (p := ⟨w.heap.size, 4, none⟩) (Below.setCell (p := ⟨w.heap.size, 3, none⟩) (Below.setCell (p := ⟨w.heap.size, 2, none⟩) (Below.setCell (p := ⟨w.heap.size, 1, none⟩) (Below.setCell (p := ⟨w.heap.size, 0, none⟩) hb4 (Nat.le_refl _) (.string v.usage)) (Nat.le_refl _) (.string v.user)) (Nat.le_refl _) (.string v.doc)) (Nat.le_refl _) (.bool v.node)) (Nat.le_refl _) (.slice A3 v.steps.length ca3)) (Nat.le_refl _) (.string v.raw)) (Nat.le_refl _) (.slice C3 v.binds.length cc3))
              have y0 := hy4.cell 0
              have y1 := hy4.cell 1
              have y2 := hy4.cell 2
              have y3 := hy4.cell 3
              have y4 := hy4.cell 4
              have y5 := hy4.cell 5
              have y6 := hy4.cell 6
              simp only [List.getElem?_toArray, List.getElem?_cons_zero, List.getElem?_cons_succ] at y0 y1 y2 y3 y4 y5 y6
              have z0c := hx4.cell 0
              have z0f := hx4.free 0
              have z1c := hx4.cell 1
              have z1f := hx4.free 1
              have z2c := hx4.cell 2
              have z2f := hx4.free 2
              have z3c := hx4.cell 3
              have z3f := hx4.free 3
              have z4c := hx4.cell 4
              have z4f := hx4.free 4
              have z5c := hx4.cell 5
              have z5f := hx4.free 5
              have z6c := hx4.cell 6
              have z6f := hx4.free 6
              simp only [List.getElem?_toArray, List.getElem?_cons_zero, List.getElem?_cons_succ] at z0c z1c z2c z3c z4c z5c z6c
              clear z1 z2 z3 z4 z5 hov HV0 HOK HRR HA4 ha1 hb4 hx4 hy4
              go_wp2
              go_meet
              case rel => exact ⟨v, A3, ca3, C3, cc3, HWV, HRV, Lib.hid hx5, HA5, Lib.hid hb5⟩
            · have hkb : (k == 0) = false := by simpa using hk
              clear HV0 HOK HRR HA4 hx4 hy4 hk
              go_wp2
              go_ret
              exact ⟨rfl, hb4⟩
        case rest =>
          obtain ⟨x2, A2, ca2, C2, cc2, HS2, HR2, HXc, HAc, HBc⟩ := hcut
          rename World => w5
          have hx5 := HXc.out
          have hb5 := HBc.out
          have hur := HUR.out x2 A2 ca2 C2 cc2 w5 hb5 HAc.out HS2.out
          have HNZ := Lib.hid (fun k (h : prt11 x2 = .error k) => prt_nz h)
          have HBK := Lib.hid (fun s (h : prt11 x2 = .ok s) => uri_back h)
          have HLN := Lib.hid (fun s (h : prt11 x2 = .ok s) => prt_len h)
          have HPL := Lib.hid (fun (h : i = 1) (hn : x2.node = false) k (he : prt11 x2 = .error k) => uri_plain (HR2.out h) hn he)
          obtain ⟨u, us, d, nd, l, r, m⟩ := x2
          unfold whC at hx5
          simp only at hx5 hur
          generalize prt11 ⟨u, us, d, nd, l, r, m⟩ = o at *
          clear HS' HX' HA' HB' HXc HBc HR2 HTX
          have HUR5 := Lib.hid hur
          clear hur
          have c0 := hx5.cell 0
          have c1 := hx5.cell 1
          have c2 := hx5.cell 2
          have c3 := hx5.cell 3
          have c4 := hx5.cell 4
          have c5 := hx5.cell 5
          have c6 := hx5.cell 6
          simp only [List.getElem?_toArray, List.getElem?_cons_zero, List.getElem?_cons_succ] at c0 c1 c2 c3 c4 c5 c6
          go_wp2_with fail
          refine HUR5.out.mono ?_
          intro e w6 hpo
          obtain ⟨S, k, rfl, -, hbx, hk0, hk1⟩ := hpo.form HNZ.out
          have hx6 := hx5.next hbx
          have hb6 := hb5.trans (hbx.mono hb5.size)
          have HA6 := Lib.hid (HAc.out.below hbx)
          have HK0 := Lib.hid hk0
          have HK1 := Lib.hid hk1
          clear hpo hbx hx5 hb5 HAc HUR5 HNZ hk0 hk1 c0 c1 c2 c3 c4 c5 c6
          by_cases hk : k = 0
          · subst hk
            have hok := HK0.out rfl
            obtain ⟨v, hv, e1, e2, e3, e4, e5, e6⟩ := HBK.out _ hok
            have hsl := HLN.out _ hok
            have hSz : S.size ≤ 1000000 := by
              have : S.data.toList.length = S.size := by simp
              omega
            obtain ⟨z1, z2, z3, z4, z5⟩ := uri_size hv
            have HWV : Hid (WhS v) := Lib.hid ⟨z4, by omega, by omega⟩
            have hup := fun v hb => HUP.out S v hb hSz
            rw [hv] at hup
            have hur := fun A ca C cc u hb hA => HUR.out v A ca C cc u hb hA HWV.out
            rw [e6] at hur
            obtain ⟨vu, vus, vd, vn, vl, vr, vm⟩ := v
            simp only at e1 e2 e3 e4 e5
            subst e1 e2 e3 e4
            unfold P11Out P11V at hur
            simp only [show (⟨S.data.toList.toArray⟩ : ByteArray) = S from to_list S] at hur
            have HUP2 := Lib.hid hup
            have HUR2 := Lib.hid hur
            have HE5 := Lib.hid e5
            have HSZ := Lib.hid z4.2.1
            simp only at HUR2 HWV HSZ
            clear HK0 HK1 HBK HLN HPL hok hv hsl hSz z1 z2 z3 z4 z5 hup hur e5 e6
            go_wp2_with fail
            refine (HUP2.out _ hb6).mono ?_
            rintro e w7 ⟨hbx, -, he⟩
            obtain ⟨A7, ca7, C7, cc7, rfl, hA7, hC7⟩ := he _ rfl
            simp only at hA7
            have hx7 := (hx6.next hbx).alloc (.cells #[.string vu, .string vus, .string vd, .bool vn, .slice A7 vl.length ca7, .string vr, .slice C7 vm.length cc7] 26)
            have hb7a := hb6.trans (hbx.mono hb6.size)
            have hy7 := OwnB.new #[.string vu, .string vus, .string vd, .bool vn, .slice A7 vl.length ca7, .string vr, .slice C7 vm.length cc7] 26 hb7a
            have hb7 := hb7a.alloc hb7a.size (.cells #[.string vu, .string vus, .string vd, .bool vn, .slice A7 vl.length ca7, .string vr, .slice C7 vm.length cc7] 26)
            have hbw := (Below.refl w7.heap.size w7).alloc (Nat.le_refl _) (.cells #[.string vu, .string vus, .string vd, .bool vn, .slice A7 vl.length ca7, .string vr, .slice C7 vm.length cc7] 26)
            have HA7 := Lib.hid (Sl9.below hA7 hbw)
            have HA6b := Lib.hid (Sl9.below (HA6.out.below hbx) hbw)
            clear hA7 hC7 hbx he hx6 hb6 hb7a hbw HA6 HUP2
            unfold whV
            simp only
            go_upto_region 18 with fail
            generalize w7.alloc (.cells #[.string vu, .string vus, .string vd, .bool vn, .slice A7 vl.length ca7, .string vr, .slice C7 vm.length cc7] 26) = w8 at *
            generalize w7.heap.size = g8 at *
            have c0 := hx7.cell 0
            have c1 := hx7.cell 1
            have c2 := hx7.cell 2
            have c3 := hx7.cell 3
            have c4 := hx7.cell 4
            have c5 := hx7.cell 5
            have c6 := hx7.cell 6
            simp only [List.getElem?_toArray, List.getElem?_cons_zero, List.getElem?_cons_succ] at c0 c1 c2 c3 c4 c5 c6
            have y0 := hy7.cell 0
            have y1 := hy7.cell 1
            have y2 := hy7.cell 2
            have y3 := hy7.cell 3
            have y4 := hy7.cell 4
            have y5 := hy7.cell 5
            have y6 := hy7.cell 6
            simp only [List.getElem?_toArray, List.getElem?_cons_zero, List.getElem?_cons_succ] at y0 y1 y2 y3 y4 y5 y6
            cases vn with
            | false =>
              clear HE5 HSZ
              go_wp2_with fail
              refine (HUR2.out _ _ _ _ _ hb7 HA7.out).mono ?_
              rintro e w9 ⟨rfl, hbx⟩
              have hx9 := hx7.next hbx
              have hb9 := hb7.trans (hbx.mono hb7.size)
              clear hx7 hy7 hb7 HUR2 c0 c1 c2 c3 c4 c5 c6 y0 y1 y2 y3 y4 y5 y6 HA7
              have hx9' : Hid (OwnB w.heap.size w w9 (whC ⟨vu, vus, vd, false, l, r, m⟩ A2 ca2 C2 cc2) 26) := Lib.hid hx9
              have HA9 := Lib.hid (HA6b.out.below hbx)
              have HB9 := Lib.hid hb9
              clear hx9 hb9 hbx HA6b
              go_wp2
              go_roundw
              case rel => exact ⟨i + 1, ⟨vu, vus, vd, false, l, r, m⟩, A2, ca2, C2, cc2, by omega, by go_num, HS2, hx9', HA9, HB9⟩
              case measure => simp [intOf]; omega
            | true =>
              obtain rfl := HE5.out rfl
              have hsm := rssame_eq A7 A2 vl ca7 ca2 w8 HA7.out HA6b.out (by have := HSZ.out; omega)
              have HSM := Lib.hid hsm
              clear hsm HE5 HSZ
              go_wp2_with fail
              refine HSM.out.mono ?_
              rintro e w9 ⟨rfl, hbx⟩
              have hx9 := hx7.next hbx
              have hy9 := hy7.next hbx
              have hb9 := hb7.trans (hbx.mono hb7.size)
              have HA9 := Lib.hid (HA7.out.below hbx)
              have HA9b := Lib.hid (HA6b.out.below hbx)
              clear hx7 hy7 hb7 HSM c0 c1 c2 c3 c4 c5 c6 y0 y1 y2 y3 y4 y5 y6 HA7 HA6b hbx
              have y0 := hy9.cell 0
              have y1 := hy9.cell 1
              have y2 := hy9.cell 2
              have y3 := hy9.cell 3
              have y4 := hy9.cell 4
              have y5 := hy9.cell 5
              have y6 := hy9.cell 6
              simp only [List.getElem?_toArray, List.getElem?_cons_zero, List.getElem?_cons_succ] at y0 y1 y2 y3 y4 y5 y6
              go_wp2_with fail
              refine (HUR2.out _ _ _ _ _ hb9 HA9.out).mono ?_
              rintro e w10 ⟨rfl, hbx⟩
              have hx10 : Hid (OwnB w.heap.size w w10 (whC ⟨vu, vus, vd, true, vl, r, m⟩ A2 ca2 C2 cc2) 26) := Lib.hid (hx9.next hbx)
              have HB10 := Lib.hid (hb9.trans (hbx.mono hb9.size))
              have HA10 := Lib.hid (HA9b.out.below hbx)
              clear hx9 hy9 hb9 HUR2 y0 y1 y2 y3 y4 y5 y6 HA9 HA9b hbx
              go_wp2
              go_roundw
              case rel => exact ⟨i + 1, ⟨vu, vus, vd, true, vl, r, m⟩, A2, ca2, C2, cc2, by omega, by go_num, HS2, hx10, HA10, HB10⟩
              case measure => simp [intOf]; omega
          · have hkb : (k == 0) = false := by simpa using hk
            obtain ⟨hoe, rfl⟩ := HK1.out hk
            have hpl := fun h hn => HPL.out h hn k hoe
            clear HK0 HK1 HBK HLN HPL HUR HUP
            have c0 := hx6.cell 0
            have c1 := hx6.cell 1
            have c2 := hx6.cell 2
            have c3 := hx6.cell 3
            have c4 := hx6.cell 4
            have c5 := hx6.cell 5
            have c6 := hx6.cell 6
            simp only [List.getElem?_toArray, List.getElem?_cons_zero, List.getElem?_cons_succ] at c0 c1 c2 c3 c4 c5 c6
            have HXF : Hid (OwnB w.heap.size w w6 (whC ⟨u, us, d, nd, l, r, m⟩ A2 ca2 C2 cc2) 26) := Lib.hid hx6
            have HBF := Lib.hid hb6
            clear hx6 hb6
            have hc : i = 0 ∨ (i = 1 ∧ nd = true) ∨ (i = 1 ∧ nd = false ∧ k = 3) := by
              rcases hi01 with h | h
              · exact .inl h
              · cases nd with
                | true => exact .inr (.inl ⟨h, rfl⟩)
                | false => exact .inr (.inr ⟨h, rfl, hpl h rfl⟩)
            clear hpl hi01
            rcases hc with rfl | ⟨rfl, rfl⟩ | ⟨rfl, rfl, rfl⟩
            all_goals
              go_wp2
              go_roundw
              case rel => first
                | exact ⟨1, ⟨u, us, d, _, l, r, m⟩, A2, ca2, C2, cc2, by decide, by go_num, HS2, HXF, HA6, HBF⟩
                | exact ⟨2, ⟨u, us, d, _, l, r, m⟩, A2, ca2, C2, cc2, by decide, by go_num, HS2, HXF, HA6, HBF⟩
              case measure => simp [intOf]
      · have h2b : ¬ (i : Int) < 2 := by omega
        go_wp2
        go_ret
        exact ⟨rfl, HB'.out⟩
end Go.Proofs.YtbdamneophbnnaaGreatDoor
