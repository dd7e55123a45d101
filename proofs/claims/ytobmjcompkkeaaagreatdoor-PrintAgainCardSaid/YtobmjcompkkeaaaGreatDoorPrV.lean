import Derived.Test.YtobmjcompkkeaaaGreatDoorPrT
import Derived.Test.YtobmjcompkkeaaaGreatDoorMgE
import Derived.Test.YtobmjcompkkeaaaGreatDoorSmD
import Derived.Test.YtobmjcompkkeaaaGreatDoorTrZb
import Derived.Test.YtobmjcompkkeaaaGreatDoorMgV
import Derived.Deep.Cut
namespace Go.Proofs.YtobmjcompkkeaaaGreatDoor
open Go.RowKit Wb
set_option maxRecDepth 100000 in
set_option maxHeartbeats 4000000 in
theorem again_walk (s : ByteArray) (w : World) (hG : Gv w) : Calls Tryz.prog 7 #[.string s] w fun e w' => e = .returned (.bool true) ∧ Below w.heap.size w w' := by
  have h1 := awake5 w
  have H2 := Lib.hid (fun (w2 : World) (hg : Gv w2) (t : ByteArray) (hs : t.size ≤ 900000) => Parse_any t w2 hg hs)
  have HG := Lib.hid hG
  clear hG
  go_enter Tryz.func7, Tryz.ntmps7
  go_wp2_with fail
  refine h1.mono ?_
  rintro e w1 ⟨rfl, hb1⟩
  have HB1 := Lib.hid hb1
  have hg1 := HG.out.next hb1
  have HG1 := Lib.hid hg1
  clear h1 hb1 HG
  by_cases hs : s.size ≤ 40000
  · have h2 := H2.out w1 hg1 s (by omega)
    clear hg1
    have hns : ¬ ((40000 : Int) < (s.size : Int)) := by omega
    cases hp : parseX s with
    | error pc =>
      obtain ⟨p, c⟩ := pc
      rw [hp] at h2
      go_wp2_with fail
      refine h2.mono ?_
      rintro e w2 ⟨⟨hc, rfl⟩, hb2⟩
      have hB2 := (HB1.out.trans (hb2.mono HB1.out.size)).alloc (Nat.le_trans HB1.out.size hb2.size) (.cells #[.int .i64 0, .string sE, .string sE, .slice none 0 0, .slice none 0 0, .string sE] 37)
      have HB2 := Lib.hid hB2
      have hce : (c == 0) = false := by simpa using hc
      unfold ndZV
      clear h2 hb2 hB2 hc
      go_wp2
      go_ret
      exact ⟨rfl, HB2.out⟩
    | ok n =>
      obtain ⟨q1, q2, q3, q4⟩ := parse_right hp
      have hgd := parse_gd hp
      have hgs := gd_small n hgd (by omega)
      have hgz := gd_sz (by decide) n hgd
      rw [hp] at h2
      go_wp2_with fail
      refine h2.mono ?_
      rintro e w2 ⟨⟨A, ca, K, ck, rfl, hV⟩, hb2⟩
      have hbw : Below w1.heap.size w1 (w2.alloc (.cells (ndCells n.kind n.name A n.attrs.length ca K n.kids.length ck n.text).toArray 37)) := hb2.alloc hb2.size _
      have HBW := Lib.hid hbw
      have hN := heap_alloc_new w2 (.cells (ndCells n.kind n.name A n.attrs.length ca K n.kids.length ck n.text).toArray 37)
      have HN := Lib.hid hN
      have hV2 : NodeV (w2.alloc (.cells (ndCells n.kind n.name A n.attrs.length ca K n.kids.length ck n.text).toArray 37)) n A K := NodeV.below hV ((Below.refl _ w2).alloc (Nat.le_refl _) _)
      have HV := Lib.hid hV2
      have HP := Lib.hid (fun (v : World) (hv : NodeV v n A K) => Print_ok n A K ca ck v q1 q2 hgz q3 hgs hv)
      have HPX : Hid (printX n = if 32768 < (nodeT n sE).length then ([], 3) else (nodeT n sE, 0)) := Lib.hid rfl
      have Q2 := Lib.hid q2
      clear h2 hV hb2 hbw hN hV2 hgd q4 q2
      unfold ndV
      unfold ndCells at *
      go_upto_region 8 with fail
      revert HBW HN HV
      generalize (w2.alloc (.cells [Value.int .i64 n.kind, .string n.name.1, .string n.name.2, .slice A n.attrs.length ca, .slice K n.kids.length ck, .string n.text].toArray 37)) = wa
      intro HBW HN HV
      generalize w2.heap.size = N at *
      obtain ⟨n0, n1, n2, n3, n4, n5⟩ := cells_of_nd HN.out
      have hpr := HP.out wa HV.out
      unfold ndV ndCells at hpr
      by_cases hlong : 32768 < (nodeT n sE).length
      · rw [show printX n = ([], 3) from HPX.out.trans (if_pos hlong)] at hpr
        go_wp2_with fail
        refine hpr.mono ?_
        rintro e w3 ⟨rfl, hb3⟩
        have HB3 := Lib.hid (HB1.out.trans ((HBW.out.trans (hb3.mono HBW.out.size)).mono HB1.out.size))
        clear hpr hb3 n0 n1 n2 n3 n4 n5
        go_wp2
        go_ret
        exact ⟨rfl, HB3.out⟩
      · rw [show printX n = (nodeT n sE, 0) from HPX.out.trans (if_neg hlong)] at hpr
        have hpp := parse_printed q1 Q2.out q3 (by omega)
        obtain ⟨r1, r2, r3, r4⟩ := parse_right hpp
        have hgd2 := parse_gd hpp
        have hgs2 := gd_small _ hgd2 (by omega)
        have hgz2 := gd_sz (by decide) _ hgd2
        have hno := nodeT_ord n 1 sE q1
        have hpo : printX (ordN n) = (nodeT n sE, 0) := by unfold printX; rw [hno]; exact if_neg hlong
        have hso : sameN (ordN n) n = true := sameN_symm _ _ (sameN_ord n)
        have htz : (ByteArray.mk (nodeT n sE).toArray).size ≤ 900000 := by
          show (nodeT n sE).toArray.size ≤ 900000
          rw [List.size_toArray]; omega
        have HSM := Lib.hid (fun (B L : Option Addr) (cb cl : Nat) (v : World) (hm : NodeV v (ordN n) B L) (hn : NodeV v n A K) => Same_any (ordN n) n B L A K cb cl ca ck v hgz2 hgz hgs2 hgs hm hn)
        have HPO := Lib.hid (fun (B L : Option Addr) (cb cl : Nat) (v : World) (hm : NodeV v (ordN n) B L) => Print_ok (ordN n) B L cb cl v r1 r2 hgz2 r3 hgs2 hm)
        have HPAR := Lib.hid (fun (v : World) (hg : Gv v) => H2.out v hg _ htz)
        rw [hpp] at HPAR
        rw [hpo] at HPO
        rw [hso] at HSM
        have hss : ((ByteArray.mk (nodeT n sE).toArray).toList == (ByteArray.mk (nodeT n sE).toArray).toList) = true := beq_self_eq_true _
        clear hpp hgd2 hgs2 hgz2 hno hpo hso htz hgs hgz q1 q3 r1 r2 r3 r4 hlong H2 HP HPX
        generalize (ByteArray.mk (nodeT n sE).toArray) = t at *
        generalize hM : ordN n = m at *
        clear hM
        go_wp2_with fail
        refine hpr.mono ?_
        rintro e w3 ⟨rfl, hb3⟩
        have HB3 := Lib.hid (HBW.out.trans (hb3.mono HBW.out.size))
        have HN3 := Lib.hid (still_block HN.out hb3)
        have HV3 := Lib.hid (NodeV.below HV.out hb3)
        have hpa := HPAR.out w3 (HG1.out.next HB3.out)
        clear hpr hb3 n0 n1 n2 n3 n4 n5 HBW HN HV HPAR
        go_wp2_with fail
        refine hpa.mono ?_
        rintro e w4 ⟨⟨B, cb, L, cl, rfl, hV4⟩, hb4⟩
        have hb5 : Below w3.heap.size w3 (w4.alloc (.cells (ndCells m.kind m.name B m.attrs.length cb L m.kids.length cl m.text).toArray 37)) := hb4.alloc hb4.size _
        have HB5 := Lib.hid (HB3.out.trans (hb5.mono HB3.out.size))
        have HN5 := Lib.hid (still_block HN3.out hb5)
        have HV5 := Lib.hid (NodeV.below HV3.out hb5)
        have HM5 := Lib.hid (heap_alloc_new w4 (.cells (ndCells m.kind m.name B m.attrs.length cb L m.kids.length cl m.text).toArray 37))
        have HW5 : Hid (NodeV (w4.alloc (.cells (ndCells m.kind m.name B m.attrs.length cb L m.kids.length cl m.text).toArray 37)) m B L) := Lib.hid (NodeV.below hV4 ((Below.refl _ w4).alloc (Nat.le_refl _) _))
        clear hpa hb4 hb5 hV4 HN3 HV3 HB3
        unfold ndV
        unfold ndCells at *
        go_upto_region 12 with fail
        revert HB5 HN5 HV5 HM5 HW5
        generalize (w4.alloc (.cells [Value.int .i64 m.kind, .string m.name.1, .string m.name.2, .slice B m.attrs.length cb, .slice L m.kids.length cl, .string m.text].toArray 37)) = wb
        intro HB5 HN5 HV5 HM5 HW5
        generalize w4.heap.size = M at *
        obtain ⟨m0, m1, m2, m3, m4, m5⟩ := cells_of_nd HM5.out
        have hpm := HPO.out B L cb cl wb HW5.out
        unfold ndV ndCells at hpm
        clear HPO
        go_wp2_with fail
        refine hpm.mono ?_
        rintro e w6 ⟨rfl, hb6⟩
        have HB6 := Lib.hid (HB5.out.trans (hb6.mono HB5.out.size))
        have hsm := HSM.out B L cb cl w6 (NodeV.below HW5.out hb6) (NodeV.below HV5.out hb6)
        unfold ndV ndCells at hsm
        have hN6 := still_block HN5.out hb6
        have hM6 := still_block HM5.out hb6
        clear hpm hb6 m0 m1 m2 m3 m4 m5 HN5 HM5 HV5 HW5 HSM HB5
        obtain ⟨n0, n1, n2, n3, n4, n5⟩ := cells_of_nd hN6
        obtain ⟨m0, m1, m2, m3, m4, m5⟩ := cells_of_nd hM6
        clear hN6 hM6
        go_wp2_with fail
        refine hsm.mono ?_
        rintro e w7 ⟨rfl, hb7⟩
        have HB7 := Lib.hid (HB1.out.trans ((HB6.out.trans (hb7.mono HB6.out.size)).mono HB1.out.size))
        clear hsm hb7 n0 n1 n2 n3 n4 n5 m0 m1 m2 m3 m4 m5
        go_wp2
        go_ret
        exact ⟨rfl, HB7.out⟩
  · have hns : (40000 : Int) < (s.size : Int) := by omega
    clear hg1 H2
    go_wp2
    go_ret
    exact ⟨rfl, HB1.out⟩
end Go.Proofs.YtobmjcompkkeaaaGreatDoor
