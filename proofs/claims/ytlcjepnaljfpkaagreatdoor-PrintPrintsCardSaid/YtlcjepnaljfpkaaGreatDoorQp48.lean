/- TrTf. -/
import Derived.Test.YtlcjepnaljfpkaaGreatDoorQp47
namespace Go.Proofs.YtlcjepnaljfpkaaGreatDoor
open Go.RowKit Wb
theorem drop_atN {l : List Nd} {k : Nat} {x : Nd} (h : l[k]? = some x) : l.drop k = x :: l.drop (k + 1) := by
  obtain ⟨hk, e⟩ := List.getElem?_eq_some_iff.1 h
  rw [List.drop_eq_getElem_cons hk, e]
set_option maxRecDepth 100000 in
set_option maxHeartbeats 8000000 in
theorem right_b (W0 : World) (Cb : Nat) (hCb : W0.heap.size ≤ Cb) (n : Nd) : ∀ (d c : Nat) (A K : Option Addr) (ca ck : Nat) (w : World), szN n → smallN n → c ≤ 2000 → d ≤ 1000 → NodeV W0 n A K → Below W0.heap.size W0 w → w.heap[Cb]? = some (.cells #[.int .i64 (c : Int)] 98 (0, 0)) →
    Calls Tryz.prog 50 #[.pointer (some ⟨Cb, 0, none⟩), ndV n A ca K ck, .int .i64 (d : Int)] w fun e w' => e = .returned (.bool (rgN n d c).1) ∧ w'.heap[Cb]? = some (.cells #[.int .i64 ((rgN n d c).2 : Int)] 98 (0, 0)) ∧ Below W0.heap.size W0 w' ∧ Keep (fun k => k = Cb) w w' := by
  induction n using Nd.induct with
  | h n ih =>
    intro d c A K ca ck w hsz hsm hc hd hV hB0 hC
    have hCl : Cb < w.heap.size := blk_in hC
    obtain ⟨r1, r2, hr⟩ : ∃ r1 r2, rgN n d c = (r1, r2) := ⟨_, _, rfl⟩
    rw [hr]
    obtain ⟨kd, ⟨sp, lo⟩, al, ks, tx⟩ := n
    have hrg : rgN (.mk kd (sp, lo) al ks tx) d c = if 2000 < c + 1 then (false, c + 1) else if kd ≠ 1 then (txB (.mk kd (sp, lo) al ks tx), c + 1) else if elB (sp, lo) al tx d = false then (false, c + 1) else rgKs ks 0 (d + 1) (c + 1) := by rw [rgN]
    rw [hr] at hrg
    have HRG := Lib.hid hrg
    clear hrg hr
    have hsk := ((smallN_is _).1 hsm).2.2
    have hskl : ks.length ≤ 1000000 := ((smallN_is _).1 hsm).2.1
    have hsal : al.length ≤ 1000000 := ((smallN_is _).1 hsm).1
    unfold ndV ndCells
    simp only [Nd.kind, Nd.name, Nd.attrs, Nd.kids, Nd.text] at *
    have hca : (w.alloc (.cells #[.int .i64 kd, .string sp, .string lo, .slice A al.length ca, .slice K ks.length ck, .string tx] 37)).heap[Cb]? = _ := (Below.heap_alloc w _ _ hCl).trans hC
    have hNb := heap_alloc_new w (.cells #[.int .i64 kd, .string sp, .string lo, .slice A al.length ca, .slice K ks.length ck, .string tx] 37)
    have hka : Keep (fun k => k = Cb) w (w.alloc (.cells #[.int .i64 kd, .string sp, .string lo, .slice A al.length ca, .slice K ks.length ck, .string tx] 37)) := Keep.of_below _ ((Below.refl _ w).alloc (Nat.le_refl _) _)
    have hb0 := hB0.alloc hB0.size (.cells #[.int .i64 kd, .string sp, .string lo, .slice A al.length ca, .slice K ks.length ck, .string tx] 37)
    have HCA := Lib.hid hca
    have HNB := Lib.hid hNb
    have HKA := Lib.hid hka
    have HBA := Lib.hid hb0
    have IH := Lib.hid ih
    have HV := Lib.hid hV
    have HSK := Lib.hid hsk
    have hcb : (0 : Int) ≤ (c : Int) := by omega
    have hcb2 : (c : Int) ≤ 2000 := by omega
    have hdb : (0 : Int) ≤ (d : Int) := by omega
    have hdb2 : (d : Int) ≤ 1000 := by omega
    clear hka hb0 hca hNb hC hB0 ih hV hsk hsm
    go_enter Tryz.func50, Tryz.ntmps50
    go_upto_region 1 with fail
    revert HBA; revert HKA; revert HNB; revert HCA
    generalize (w.alloc (.cells #[.int .i64 kd, .string sp, .string lo, .slice A al.length ca, .slice K ks.length ck, .string tx] 37)) = wa
    intro HCA HNB HKA HBA
    generalize hN : w.heap.size = N at *
    have hNC : N ≠ Cb := by omega
    have e0 : wa.cell? ⟨Cb, 0, none⟩ = some (.int .i64 (c : Int)) := blk_cell HCA.out 0
    have f0 : wa.frozen? ⟨Cb, 0, none⟩ = false := blk_free HCA.out 0
    go_upto_region 2 with fail
    have HC1 : Hid ((wa.setCell ⟨Cb, 0, none⟩ (.int .i64 ((c : Int) + 1))).heap[Cb]? = some (.cells #[.int .i64 ((c : Int) + 1)] 98 (0, 0))) := Lib.hid (blk_set HCA.out 0 _)
    have HN1 : Hid ((wa.setCell ⟨Cb, 0, none⟩ (.int .i64 ((c : Int) + 1))).heap[N]? = _) := Lib.hid ((Below.heap_setCell _ _ _ _ hNC).trans HNB.out)
    have HK1 : Hid (Keep (fun k => k = Cb) w (wa.setCell ⟨Cb, 0, none⟩ (.int .i64 ((c : Int) + 1)))) := Lib.hid (HKA.out.setCell (p := ⟨Cb, 0, none⟩) rfl _)
    have HB1 : Hid (Below W0.heap.size W0 (wa.setCell ⟨Cb, 0, none⟩ (.int .i64 ((c : Int) + 1)))) := Lib.hid (HBA.out.setCell (p := ⟨Cb, 0, none⟩) hCb _)
    clear e0 f0 HCA HNB HKA HBA
    revert HB1; revert HK1; revert HN1; revert HC1
    generalize (wa.setCell ⟨Cb, 0, none⟩ (.int .i64 ((c : Int) + 1))) = wb
    intro HC1 HN1 HK1 HB1
    have e0 : wb.cell? ⟨Cb, 0, none⟩ = some (.int .i64 ((c : Int) + 1)) := blk_cell HC1.out 0
    have t0 := blk_cell HN1.out 0
    have t1 := blk_cell HN1.out 1
    have t2 := blk_cell HN1.out 2
    have t3 := blk_cell HN1.out 3
    have t4 := blk_cell HN1.out 4
    have t5 := blk_cell HN1.out 5
    simp only [List.getElem?_toArray, List.getElem?_cons_zero, List.getElem?_cons_succ] at t0 t1 t2 t3 t4 t5
    have hwl : Cb < wb.heap.size := blk_in HC1.out
    have hcast : ((c + 1 : Nat) : Int) = (c : Int) + 1 := by omega
    by_cases h20 : 2000 < c + 1
    · have hR := HRG.out.trans (if_pos h20)
      obtain ⟨rfl, rfl⟩ := Prod.mk.inj hR
      have hcb3 : (2000 : Int) < (c : Int) + 1 := by omega
      clear hR HRG t0 t1 t2 t3 t4 t5
      go_wp2
      go_ret
      exact ⟨rfl, by (try rw [hcast]); exact HC1.out, HB1.out, HK1.out⟩
    · have hR := HRG.out.trans (if_neg h20)
      have hcb3 : ¬ (2000 : Int) < (c : Int) + 1 := by omega
      by_cases hkd : kd = 1
      · subst hkd
        replace hR := hR.trans (if_neg (show ¬ ((1 : Int) ≠ 1) from fun h => h rfl))
        obtain ⟨hsz1, hsz2, hsz3, _, hsz5⟩ := hsz
        have hszk := (szKs_iff ks).1 hsz5
        have hse : tx.toList.isEmpty = eqT tx sE := empty_eq tx
        have hel : elB (sp, lo) al tx d = (decide (d ≤ 24) && (eqT tx sE && (nmB (sp, lo) && attrsB al))) := rfl
        rw [hel] at hR
        have hrn := rname_b (sp, lo) wb hsz1 hsz2
        have HRA := Lib.hid (fun (w2 : World) (h : Below W0.heap.size W0 w2) => rats_b A al ca w2 hsal hsz3 (HV.out.1.below h))
        generalize eqT tx sE = b2 at *
        generalize nmB (sp, lo) = b3 at *
        generalize attrsB al = b4 at *
        have HR := Lib.hid hR
        clear hR hel HRG
        by_cases hd24 : d ≤ 24
        · have hd24' : ¬ (24 : Int) < (d : Int) := by omega
          rw [decide_eq_true hd24, Bool.true_and] at HR
          cases b2
          · obtain ⟨rfl, rfl⟩ := Prod.mk.inj HR.out
            clear HR hrn HRA
            go_wp2
            go_ret
            exact ⟨rfl, by (try rw [hcast]); exact HC1.out, HB1.out, HK1.out⟩
          · go_wp2_with fail
            refine hrn.mono ?_
            rintro e w2 ⟨rfl, hb2⟩
            have hB2 := Lib.hid (HB1.out.trans (hb2.mono HB1.out.size))
            have hN2 := Lib.hid (still_block HN1.out hb2)
            have hC2 := Lib.hid (still_block HC1.out hb2)
            have hK2 := Lib.hid (HK1.out.trans (Keep.of_below _ hb2))
            have a3 := blk_cell hN2.out 3
            simp only [List.getElem?_toArray, List.getElem?_cons_zero, List.getElem?_cons_succ] at a3
            clear t0 t1 t2 t3 t4 t5 e0 hb2 hrn HN1 HC1 HK1 HB1
            cases b3
            · obtain ⟨rfl, rfl⟩ := Prod.mk.inj HR.out
              clear HR HRA
              go_wp2
              go_ret
              exact ⟨rfl, by (try rw [hcast]); exact hC2.out, hB2.out, hK2.out⟩
            · go_wp2_with fail
              refine (HRA.out _ hB2.out).mono ?_
              rintro e w3 ⟨rfl, hb3⟩
              have hB3 := Lib.hid (hB2.out.trans (hb3.mono hB2.out.size))
              have hN3 := Lib.hid (still_block hN2.out hb3)
              have hC3 := Lib.hid (still_block hC2.out hb3)
              have hK3 := Lib.hid (hK2.out.trans (Keep.of_below _ hb3))
              have b4' := blk_cell hN3.out 4
              simp only [List.getElem?_toArray, List.getElem?_cons_zero, List.getElem?_cons_succ] at b4'
              clear a3 hb3 hN2 hC2 hK2 hB2 HRA
              cases b4
              · obtain ⟨rfl, rfl⟩ := Prod.mk.inj HR.out
                clear HR
                go_wp2
                go_ret
                exact ⟨rfl, by (try rw [hcast]); exact hC3.out, hB3.out, hK3.out⟩
              · have HRK : Hid ((r1, r2) = rgKs ks 0 (d + 1) (c + 1)) := Lib.hid (HR.out.trans (if_neg (by simp)))
                have HSZ := Lib.hid hszk
                have HVK := Lib.hid HV.out.2
                clear HR hszk hsz1 hsz2 hsz3 hsz5 HV hse
                go_wp2
                go_loopw [7, 46] (fun va vi wr => ∃ (i : Nat) (la : Int) (ci : Nat), i ≤ ks.length ∧ vi = .int .i64 i ∧ va = .int .i64 la ∧ ci ≤ 2000 ∧ Hid ((r1, r2) = rgKs (ks.drop i) la (d + 1) ci) ∧ Hid (wr.heap[Cb]? = some (.cells #[.int .i64 (ci : Int)] 98 (0, 0))) ∧ Hid (Below W0.heap.size W0 wr) ∧ Hid (Keep (fun k => k = Cb) w wr)) (fun _ vi _ => ((ks.length : Int) - intOf vi).toNat)
                case atStart => exact ⟨0, 0, c + 1, by omega, rfl, rfl, by omega, HRK, Lib.hid (by rw [hC3.out, hcast]), hB3, hK3⟩
                case round =>
                  obtain ⟨i, la, ci, hi, rfl, rfl, hci, HRr, HCr, HBr, HKr⟩ := hrel
                  by_cases h0 : i < ks.length
                  · obtain ⟨x, he⟩ : ∃ x, ks[i]? = some x := ⟨ks[i], List.getElem?_eq_getElem h0⟩
                    obtain ⟨ad, A1, ca1, K1, ck1, rfl, had, d0, d1, d2, d3, d4, d5, hA1, hK1⟩ := HVK.out.at_ he
                    have cell : ∀ j o, W0.cell? ⟨(ad.add (i * 6)).block, o, none⟩ = j → wr.cell? ⟨(ad.add (i * 6)).block, o, none⟩ = j := fun j o h => (HBr.out.cell (by rw [add_block]; exact had)).trans h
                    have d0' : wr.cell? (ad.add (i * 6)) = _ := (HBr.out.cell (by rw [add_block]; exact had)).trans d0
                    have d1' := cell _ _ d1
                    have d2' := cell _ _ d2
                    have d3' := cell _ _ d3
                    have d4' := cell _ _ d4
                    have d5' := cell _ _ d5
                    have hmem := List.mem_of_getElem? he
                    have hCrl : Cb < wr.heap.size := blk_in HCr.out
                    have hIH := IH.out x hmem (d + 1) ci A1 K1 ca1 ck1 (wr.alloc (.cells (ndCells x.kind x.name A1 x.attrs.length ca1 K1 x.kids.length ck1 x.text).toArray 37)) (HSZ.out x hmem) (HSK.out x hmem) hci (by omega) ⟨hA1, hK1⟩ (HBr.out.alloc HBr.out.size _) ((Below.heap_alloc wr _ _ hCrl).trans HCr.out)
                    have hgi := rg_iff x (d + 1) ci
                    have hst := HRr.out
                    rw [drop_atN he, rgKs_cons] at hst
                    have HST := Lib.hid hst
                    have HCa := Lib.hid ((Below.heap_alloc wr (.cells (ndCells x.kind x.name A1 x.attrs.length ca1 K1 x.kids.length ck1 x.text).toArray 37) _ hCrl).trans HCr.out)
                    have HBa := Lib.hid (HBr.out.alloc HBr.out.size (.cells (ndCells x.kind x.name A1 x.attrs.length ca1 K1 x.kids.length ck1 x.text).toArray 37))
                    have HKa : Hid (Keep (fun k => k = Cb) w (wr.alloc (.cells (ndCells x.kind x.name A1 x.attrs.length ca1 K1 x.kids.length ck1 x.text).toArray 37))) := Lib.hid (HKr.out.trans (Keep.of_below _ ((Below.refl _ wr).alloc (Nat.le_refl _) _)))
                    have HW := Lib.hid (heap_alloc_new wr (.cells (ndCells x.kind x.name A1 x.attrs.length ca1 K1 x.kids.length ck1 x.text).toArray 37))
                    unfold ndV ndCells at hIH
                    unfold ndCells at HW HCa HBa HKa
                    have hNk : wr.heap.size ≠ Cb := by omega
                    obtain ⟨g1, g2, hg⟩ : ∃ g1 g2, rgN x (d + 1) ci = (g1, g2) := ⟨_, _, rfl⟩
                    rw [hg] at hIH hgi HST
                    simp only at hIH hgi
                    have HGI := Lib.hid (fun h : g1 = true => (⟨hgi.2 h, (hgi.1.1 h).2⟩ : g2 = ci + costN x ∧ ci + costN x ≤ 2000))
                    clear d0 d1 d2 d3 d4 d5 cell had hA1 hK1 he hst hmem hg hgi HRr
                    by_cases hl2 : la = 2
                    · subst hl2
                      by_cases hx2 : x.kind = 2
                      · rw [if_pos ⟨rfl, hx2⟩] at HST
                        obtain ⟨rfl, rfl⟩ := Prod.mk.inj HST.out
                        rw [hx2] at d0'
                        rw [hx2] at HCa HBa HKa
                        clear hIH HST HGI HW
                        go_wp2
                        go_ret
                        exact ⟨rfl, HCa.out, HBa.out, HKa.out⟩
                      · rw [if_neg (fun h => hx2 h.2)] at HST
                        have hkx : (x.kind == 2) = false := by simpa using hx2
                        cases g1
                        · rw [if_neg (by simp)] at HST
                          obtain ⟨rfl, rfl⟩ := Prod.mk.inj HST.out
                          clear HST HGI
                          go_wp2_with fail
                          refine hIH.mono ?_
                          rintro e w4 ⟨rfl, hc4, hb4, hk4⟩
                          have HK4 := Lib.hid (HKa.out.trans hk4)
                          have HC4 := Lib.hid hc4
                          have HB4 := Lib.hid hb4
                          clear hIH hc4 hb4 hk4 d0' d1' d2' d3' d4' d5'
                          go_wp2
                          go_ret
                          exact ⟨rfl, HC4.out, HB4.out, HK4.out⟩
                        · rw [if_pos rfl] at HST
                          go_wp2_with fail
                          refine hIH.mono ?_
                          rintro e w4 ⟨rfl, hc4, hb4, hk4⟩
                          have hw4 := (hk4.block _ (blk_in HW.out) hNk).trans HW.out
                          have g0 := blk_cell hw4 0
                          simp only [List.getElem?_toArray, List.getElem?_cons_zero] at g0
                          have HC4 := Lib.hid hc4
                          have HB4 := Lib.hid hb4
                          have HK4 := Lib.hid (HKa.out.trans hk4)
                          have HG2 : Hid (g2 ≤ 2000) := Lib.hid (by obtain ⟨q1, q2⟩ := HGI.out (by trivial); omega)
                          clear hc4 hb4 hk4 hw4 hIH d0' d1' d2' d3' d4' d5' HGI
                          go_wp2
                          go_roundw
                          case rel => exact ⟨i + 1, x.kind, g2, by omega, by go_num, rfl, HG2.out, HST, HC4, HB4, HK4⟩
                          case measure => simp [intOf]; omega
                    · have hlf : (la == 2) = false := by simpa using hl2
                      rw [if_neg (fun h => hl2 h.1)] at HST
                      cases g1
                      · rw [if_neg (by simp)] at HST
                        obtain ⟨rfl, rfl⟩ := Prod.mk.inj HST.out
                        clear HST HGI
                        go_wp2_with fail
                        refine hIH.mono ?_
                        rintro e w4 ⟨rfl, hc4, hb4, hk4⟩
                        have HK4 := Lib.hid (HKa.out.trans hk4)
                        have HC4 := Lib.hid hc4
                        have HB4 := Lib.hid hb4
                        clear hIH hc4 hb4 hk4 d0' d1' d2' d3' d4' d5'
                        go_wp2
                        go_ret
                        exact ⟨rfl, HC4.out, HB4.out, HK4.out⟩
                      · rw [if_pos rfl] at HST
                        go_wp2_with fail
                        refine hIH.mono ?_
                        rintro e w4 ⟨rfl, hc4, hb4, hk4⟩
                        have hw4 := (hk4.block _ (blk_in HW.out) hNk).trans HW.out
                        have g0 := blk_cell hw4 0
                        simp only [List.getElem?_toArray, List.getElem?_cons_zero] at g0
                        have HC4 := Lib.hid hc4
                        have HB4 := Lib.hid hb4
                        have HK4 := Lib.hid (HKa.out.trans hk4)
                        have HG2 : Hid (g2 ≤ 2000) := Lib.hid (by obtain ⟨q1, q2⟩ := HGI.out (by trivial); omega)
                        clear hc4 hb4 hk4 hw4 hIH d0' d1' d2' d3' d4' d5' HGI
                        go_wp2
                        go_roundw
                        case rel => exact ⟨i + 1, x.kind, g2, by omega, by go_num, rfl, HG2.out, HST, HC4, HB4, HK4⟩
                        case measure => simp [intOf]; omega
                  · have : i = ks.length := by omega
                    subst this
                    have hfin := HRr.out
                    rw [List.drop_length] at hfin
                    rw [show rgKs [] la (d + 1) ci = (true, ci) from rfl] at hfin
                    obtain ⟨rfl, rfl⟩ := Prod.mk.inj hfin
                    clear hfin HRr
                    go_wp2
                    go_ret
                    exact ⟨rfl, HCr.out, HBr.out, HKr.out⟩
        · have hd24' : (24 : Int) < (d : Int) := by omega
          rw [decide_eq_false hd24, Bool.false_and, if_pos rfl] at HR
          obtain ⟨rfl, rfl⟩ := Prod.mk.inj HR.out
          clear HR hrn HRA
          go_wp2
          go_ret
          exact ⟨rfl, by (try rw [hcast]); exact HC1.out, HB1.out, HK1.out⟩
      · have hkf : (kd == 1) = false := by simpa using hkd
        replace hR := hR.trans (if_pos hkd)
        obtain ⟨rfl, rfl⟩ := Prod.mk.inj hR
        have htx := rtext_b (.mk kd (sp, lo) al ks tx) A K ca ck wb hsz.2.2.2.1 hsal hskl
        unfold ndV ndCells at htx
        simp only [Nd.kind, Nd.name, Nd.attrs, Nd.kids, Nd.text] at htx
        obtain ⟨bt, hbt⟩ : ∃ bt, txB (.mk kd (sp, lo) al ks tx) = bt := ⟨_, rfl⟩
        rw [hbt] at htx
        have HBT := Lib.hid hbt
        clear hbt
        clear hsz IH HV HRG hR
        go_wp2_with fail
        refine htx.mono ?_
        rintro e w3 ⟨rfl, hb3⟩
        go_wp2
        go_ret
        refine ⟨by rw [HBT.out]; rfl, ?_, HB1.out.trans (hb3.mono HB1.out.size), HK1.out.trans (Keep.of_below _ hb3)⟩
        (try rw [hcast])
        exact (hb3.block _ hwl).trans HC1.out
theorem Right_b (n : Nd) (A K : Option Addr) (ca ck : Nat) (w : World) (hsz : szN n) (hsm : smallN n) (hV : NodeV w n A K) :
    Calls Tryz.prog 29 #[ndV n A ca K ck] w fun e w' => e = .returned (.bool (rightB n)) ∧ Below w.heap.size w w' := by
  by_cases hk : n.kind = 1
  · have hb2 : Below w.heap.size w ((w.alloc (.cells (ndCells n.kind n.name A n.attrs.length ca K n.kids.length ck n.text).toArray 37)).alloc (.cells #[.int .i64 0] 98)) := ((Below.refl _ w).alloc (Nat.le_refl _) _).alloc (by simp) _
    have hcb : ((w.alloc (.cells (ndCells n.kind n.name A n.attrs.length ca K n.kids.length ck n.text).toArray 37)).alloc (.cells #[.int .i64 0] 98)).heap[w.heap.size + 1]? = some (.cells #[.int .i64 ((0 : Nat) : Int)] 98 (0, 0)) := by
      have := heap_alloc_new (w.alloc (.cells (ndCells n.kind n.name A n.attrs.length ca K n.kids.length ck n.text).toArray 37)) (.cells #[.int .i64 0] 98)
      simpa using this
    have hr := right_b w (w.heap.size + 1) (by omega) n 1 0 A K ca ck _ hsz hsm (by omega) (by omega) hV hb2 hcb
    have hrb : rightB n = (rgN n 1 0).1 := by unfold rightB; rw [decide_eq_true hk, Bool.true_and]
    rw [hrb]
    generalize (rgN n 1 0).1 = b at *
    generalize (rgN n 1 0).2 = c2 at *
    obtain ⟨kd, ⟨sp, lo⟩, al, ks, tx⟩ := n
    simp only [Nd.kind] at hk
    subst hk
    unfold ndV ndCells at hr ⊢
    simp only [Nd.kind, Nd.name, Nd.attrs, Nd.kids, Nd.text] at hr ⊢
    clear hb2 hcb hV hsz hsm hrb
    go_enter Tryz.func29, Tryz.ntmps29
    go_wp2_with fail
    refine hr.mono ?_
    rintro e w3 ⟨rfl, _, hb3, _⟩
    go_wp2
    go_ret
    exact ⟨rfl, hb3⟩
  · have hrb : rightB n = false := by unfold rightB; rw [decide_eq_false hk, Bool.false_and]
    rw [hrb]
    obtain ⟨kd, ⟨sp, lo⟩, al, ks, tx⟩ := n
    simp only [Nd.kind] at hk
    have hkf : (kd == 1) = false := by simpa using hk
    unfold ndV ndCells
    simp only [Nd.kind, Nd.name, Nd.attrs, Nd.kids, Nd.text]
    clear hV hsz hsm hrb hk
    go_enter Tryz.func29, Tryz.ntmps29
    go_wp2
    go_ret
    exact ⟨rfl, ((Below.refl _ w).alloc (Nat.le_refl _) _).alloc (by simp) _⟩
end Go.Proofs.YtlcjepnaljfpkaaGreatDoor
