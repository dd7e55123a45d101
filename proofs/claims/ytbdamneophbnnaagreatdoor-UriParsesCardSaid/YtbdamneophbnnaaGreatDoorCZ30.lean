/- UeF. -/
import Derived.Test.YtbdamneophbnnaaGreatDoorCZ29
namespace Go.Proofs.YtbdamneophbnnaaGreatDoor
open Go.RowKit Wb
set_option maxHeartbeats 16000000 in
set_option maxRecDepth 100000 in
theorem nodeOf_any (u us d r : ByteArray) (nd : Bool) (A C : Option Addr) (l : List StV) (n ca cc : Nat) (w : World) (hA : Sl9 w A l) (hl : SzOK l) (hu : u.data.toList ∈ usg11) (hG : GvS w) :
    Calls Tryz.prog 29 #[.agg #[.string u, .string us, .string d, .bool nd, .slice A l.length ca, .string r, .slice C n cc]] w (P11Out (nodP u.data.toList l) w) := by
  obtain ⟨S, hS⟩ : ∃ S : ByteArray, ⟨(spc11 u.data.toList).toArray⟩ = S := ⟨_, rfl⟩
  obtain ⟨T, Q, pk, hPV, hbad, hgood, hTz, hQz⟩ := nod_form hS hl
  obtain ⟨o, ho⟩ : ∃ o, nodP u.data.toList l = o := ⟨_, rfl⟩
  rw [ho] at hbad hgood ⊢
  clear ho
  have hss := (spc_len hu).1
  have hsp := fun v => space_any u v
  have hSz : S.size ≤ 1000000 := by
    rw [← hS]
    show _root_.Array.size _ ≤ _
    rw [List.size_toArray]
    omega
  rw [hS] at hsp
  have hpr := fun v (hb : Below w.heap.size w v) => sprint_any S A l ca v (hA.below hb) (by have := hl.2.1; omega) (hG.next hb) hl.all
  rw [hPV] at hpr
  have hk0 := OwnB.new0 w #[.string u, .string us, .string d, .bool nd, .slice A l.length ca, .string r, .slice C n cc] 26
  have hb0 := (Below.refl w.heap.size w).alloc (Nat.le_refl _) (.cells #[.string u, .string us, .string d, .bool nd, .slice A l.length ca, .string r, .slice C n cc] 26)
  have HSP := Lib.hid hsp
  have HPR := Lib.hid hpr
  have HBAD := Lib.hid hbad
  have HGOOD := Lib.hid hgood
  clear hsp hpr hbad hgood hPV hS hss hSz hA hl hu hG
  go_enter Tryz.func29, Tryz.ntmps29
  go_upto_region 1 with fail
  generalize w.alloc (.cells #[.string u, .string us, .string d, .bool nd, .slice A l.length ca, .string r, .slice C n cc] 26) = w0 at *
  have HQ : Hid (w0.drew.cell? ⟨w.heap.size, 0, none⟩ = some (.string u) ∧ w0.drew.cell? ⟨w.heap.size, 4, none⟩ = some (.slice A l.length ca)) := Lib.hid ⟨hk0.cell 0, hk0.cell 4⟩
  have HK := Lib.hid hk0
  have HB := Lib.hid hb0
  clear hk0 hb0
  go_wp2_with fail
  (try simp only [List.append])
  refine wp_region_held_drew (S := (fun v => v.cell? ⟨w.heap.size, 0, none⟩ = some (.string u) ∧ v.cell? ⟨w.heap.size, 4, none⟩ = some (.slice A l.length ca))) (by kernel_rfl) (HQ.out) (fun hHeld => ?_)
  refine takeW 0 ?_
  refine takeW 1 ?_
  refine takeW 3 ?_
  refine takeW 4 ?_
  (try simp only [Act.put, List.setIfInBounds_toArray, List.set_cons_zero, List.set_cons_succ])
  refine wpAnyH_ready (rs := [2]) (by kernel_rfl) (by simp) ?_
  refine AllReadyH.cons rfl (fun K2 hK2 => ?_) AllReadyH.nil
  go_simp
  refine (HSP.out _).mono ?_
  rintro e w1 ⟨rfl, rfl⟩
  clear HSP
  refine hK2.out _ _ HQ.out (fun hHeld2 => ?_)
  (try simp only [Act.put, List.setIfInBounds_toArray, List.set_cons_zero, List.set_cons_succ])
  refine wpAnyH_ready (rs := [5]) (by kernel_rfl) (by simp) ?_
  refine AllReadyH.cons rfl (fun K2 hK2 => ?_) AllReadyH.nil
  go_simp
  have hbd : Below w.heap.size w w0.drew := HB.out.drew
  refine (HPR.out _ hbd).mono ?_
  rintro e w2 ⟨rfl, hbx⟩
  have hk2 : OwnB w.heap.size w w2 #[.string u, .string us, .string d, .bool nd, .slice A l.length ca, .string r, .slice C n cc] 26 := OwnB.next (w1 := w0.drew) ⟨HK.out.blk, HK.out.low⟩ hbx
  have HB2 := Lib.hid (hbd.trans (hbx.mono hbd.size))
  clear HPR hbx hbd
  refine hK2.out _ _ ⟨hk2.cell 0, hk2.cell 4⟩ (fun hHeld2 => ?_)
  (try simp only [Act.put, List.setIfInBounds_toArray, List.set_cons_zero, List.set_cons_succ])
  refine takeW 6 ?_
  refine takeW 7 ?_
  refine takeW 8 ?_
  refine takeW 9 ?_
  (try simp only [Act.put, List.setIfInBounds_toArray, List.set_cons_zero, List.set_cons_succ])
  refine takeW 10 ?_
  refine takeW 11 ?_
  refine takeW 12 ?_
  (try simp only [Act.put, List.setIfInBounds_toArray, List.set_cons_zero, List.set_cons_succ])
  refine wpAnyH_done (by kernel_rfl) ?_ _
  by_cases hpk : pk = 0
  · subst hpk
    have hgo := HGOOD.out rfl
    clear HGOOD HBAD HQ HK HB
    by_cases hq : Q = ⟨#[]⟩
    · subst hq
      rw [if_pos rfl] at hgo
      have HGO := Lib.hid hgo
      have g1 : ¬ 9223372036854775807 < 4 + T.size := by omega
      clear hgo
      go_wp2
      go_ret2
      refine P11Out.good ?_ HB2.out
      rw [HGO.out]
      simp [ssl11]
    · have e0 := emp_false hq
      have n0 : ¬ Q.data.toList = [] := fun e => hq ((lst_nil Q).1 e)
      rw [if_neg n0] at hgo
      have HGO := Lib.hid hgo
      have g1 : ¬ 9223372036854775807 < 4 + T.size := by omega
      have g2 : ¬ 9223372036854775807 < 1 + Q.size := by omega
      have g3 : ¬ 9223372036854775807 < 4 + T.size + (1 + Q.size) := by omega
      clear hgo n0
      go_wp2
      go_ret2
      refine P11Out.good ?_ HB2.out
      rw [HGO.out]
      simp [ssl11]
  · have hpk2 : (pk == 0) = false := by simpa using hpk
    have HGO := Lib.hid (HBAD.out hpk)
    clear HGOOD HBAD HQ HK HB
    go_wp2
    go_ret2
    exact P11Out.bad HGO.out HB2.out
set_option maxHeartbeats 16000000 in
set_option maxRecDepth 100000 in
theorem uprint_any (u us d r : ByteArray) (nd : Bool) (A C : Option Addr) (l : List StV) (m : List Pr) (ca cc : Nat) (w : World) (hA : Sl9 w A l) (hl : SzOK l) (hus : us.size ≤ 1000000) (hd : d.size ≤ 1000000) (hG : GvS w) :
    Calls Tryz.prog 13 #[.agg #[.string u, .string us, .string d, .bool nd, .slice A l.length ca, .string r, .slice C m.length cc]] w (P11Out (prt11 ⟨u, us, d, nd, l, r, m⟩) w) := by
  obtain ⟨o, ho⟩ : ∃ o, prt11 ⟨u, us, d, nd, l, r, m⟩ = o := ⟨_, rfl⟩
  rw [ho]
  have husg := fun v => isUsage_any u v
  have hk0 := OwnB.new0 w #[.string u, .string us, .string d, .bool nd, .slice A l.length ca, .string r, .slice C m.length cc] 26
  have hb0 := (Below.refl w.heap.size w).alloc (Nat.le_refl _) (.cells #[.string u, .string us, .string d, .bool nd, .slice A l.length ca, .string r, .slice C m.length cc] 26)
  by_cases hu : u.data.toList ∈ usg11
  · rw [decide_eq_true hu] at husg
    have HUS := Lib.hid husg
    have hp1 := fun v => isPrintable_any us v hus
    have hp2 := fun v => isPrintable_any d v hd
    clear husg
    have hbp := bad_pr us.data.toList d.data.toList
    obtain ⟨b1, hb1⟩ : ∃ b, (nmU us.data.toList && decide (chk us.data.toList < 0)) = b := ⟨_, rfl⟩
    obtain ⟨b2, hb2⟩ : ∃ b, (nmU d.data.toList && decide (chk d.data.toList < 0)) = b := ⟨_, rfl⟩
    rw [hb1] at hp1 hbp
    rw [hb2] at hp2 hbp
    have HP1 := Lib.hid hp1
    have HP2 := Lib.hid hp2
    clear hp1 hp2 hb1 hb2
    by_cases hem : us = ⟨#[]⟩
    · subst hem
      rw [show ((⟨#[]⟩ : ByteArray).data.toList) = [] from rfl] at hbp
      clear HP1
      cases b2 with
      | false =>
        obtain rfl : .error 4 = o := by rw [← ho, prt_bad hu (by rw [show ((⟨#[]⟩ : ByteArray).data.toList) = [] from rfl, hbp]; rfl)]
        clear ho hbp hG hA hl hu
        go_enter Tryz.func13, Tryz.ntmps13
        go_upto_region 1 with fail
        generalize w.alloc (.cells #[.string u, .string ⟨#[]⟩, .string d, .bool nd, .slice A l.length ca, .string r, .slice C m.length cc] 26) = w0 at *
        have q0 : w0.cell? ⟨w.heap.size, 0, none⟩ = some (.string u) := hk0.cell 0
        go_wp2_with fail
        refine (HUS.out _).mono ?_
        rintro e w1 ⟨rfl, rfl⟩
        clear HUS
        have q1 : w0.cell? ⟨w.heap.size, 1, none⟩ = some (.string ⟨#[]⟩) := hk0.cell 1
        have q2 : w0.cell? ⟨w.heap.size, 2, none⟩ = some (.string d) := hk0.cell 2
        go_wp2_with fail
        refine (HP2.out _).mono ?_
        rintro e w1 ⟨rfl, hbx⟩
        have hk1 := hk0.next hbx
        have hb1 := hb0.trans (hbx.mono hb0.size)
        clear hk0 hb0 hbx HP2
        go_wp2
        go_ret2
        exact P11Out.bad rfl hb1
      | true =>
        have hbf : bad11 (⟨#[]⟩ : ByteArray).data.toList d.data.toList = false := by rw [show ((⟨#[]⟩ : ByteArray).data.toList) = [] from rfl, hbp]; rfl
        have hbfa := bad_facts hbf
        have hdl : d.data.toList.length = d.size := by simp
        have hul := (spc_len hu).2
        have huz : u.data.toList.length = u.size := by simp
        have hE := pctE_len [] d.data.toList
        have hEU := pctE_len [] (⟨#[]⟩ : ByteArray).data.toList
        have hof := owner_any ⟨#[]⟩
        obtain ⟨hl3, hl5⟩ : (⟨#[]⟩ : ByteArray).data.toList.length ≤ 64 ∧ d.data.toList.length ≤ 64 := ⟨hbfa.2.2.1, hbfa.2.2.2.2.1⟩
        have how := fun v => owner_any ⟨#[]⟩ v (by decide) (by decide)
        have hen := fun v => encode_any d ⟨#[]⟩ v hd (by decide)
        rw [show ((⟨#[]⟩ : ByteArray).data.toList) = [] from rfl] at hen
        have hj := own_join u.data.toList (⟨#[]⟩ : ByteArray).data.toList d.data.toList
        have hoz : (mkT (ownP (⟨#[]⟩ : ByteArray).data.toList)).size ≤ 200 := by
          rw [mkT_size]
          decide
        obtain ⟨O, hO⟩ : ∃ O, mkT (ownP (⟨#[]⟩ : ByteArray).data.toList) = O := ⟨_, rfl⟩
        obtain ⟨E, hEE⟩ : ∃ E, mkT (pctE [] d.data.toList) = E := ⟨_, rfl⟩
        have hOl : O.data.toList = ownP (⟨#[]⟩ : ByteArray).data.toList := by rw [← hO, mkT_list]
        have hEl : E.data.toList = pctE [] d.data.toList := by rw [← hEE, mkT_list]
        have hEz : E.size ≤ 200 := by rw [← hEE, mkT_size]; omega
        rw [hO] at how hoz
        rw [show (⟨(pctE [] d.data.toList).toArray⟩ : ByteArray) = E from hEE] at hen
        rw [← hOl, ← hEl] at hj
        have hno := nodeOf_any u ⟨#[]⟩ d r true A C l m.length ca cc
        have HNO := Lib.hid (fun v (hb : Below w.heap.size w v) => hno v (hA.below hb) hl hu (hG.next hb))
        have HOW := Lib.hid how
        have HEN := Lib.hid hen
        have hrest : nd = false → prt11 ⟨u, ⟨#[]⟩, d, nd, l, r, m⟩ = fin11 (joinB 47 (pcs11 u.data.toList (⟨#[]⟩ : ByteArray).data.toList d.data.toList)) := fun h => prt_bare hu hbf h
        have hrese : ∀ k, nd = true → nodP u.data.toList l = .error k → prt11 ⟨u, ⟨#[]⟩, d, nd, l, r, m⟩ = .error k := fun k h hk => prt_err hu hbf h (nod_err hk)
        have hresn : ∀ t, nd = true → nodP u.data.toList l = .ok t → prt11 ⟨u, ⟨#[]⟩, d, nd, l, r, m⟩ = fin11 (joinB 47 (pcs11 u.data.toList (⟨#[]⟩ : ByteArray).data.toList d.data.toList) ++ t) := fun t h ht => prt_nod hu hbf h ht
        rw [ho, hj] at hrest hresn
        rw [ho] at hrese
        have HRS := Lib.hid hrest
        have HRE := Lib.hid hrese
        have HRN := Lib.hid hresn
        have HNN := Lib.hid (fun (t : List UInt8) (ht : nodP u.data.toList l = .ok t) => nod_len hl ht)
        have HNZ := Lib.hid (fun (k : Int) (hk : nodP u.data.toList l = .error k) => nod_nz hk)
        have huz2 : u.size ≤ 64 := by omega
        clear hbfa hdl hul huz hE hEU hof hl3 hl5 how hen hj hO hEE hOl hEl hno hrest hrese hresn ho hbp hG hA hl hu hbf
        go_enter Tryz.func13, Tryz.ntmps13
        go_upto_region 1 with fail
        generalize w.alloc (.cells #[.string u, .string ⟨#[]⟩, .string d, .bool nd, .slice A l.length ca, .string r, .slice C m.length cc] 26) = w0 at *
        have q0 : w0.cell? ⟨w.heap.size, 0, none⟩ = some (.string u) := hk0.cell 0
        go_wp2_with fail
        refine (HUS.out _).mono ?_
        rintro e w1 ⟨rfl, rfl⟩
        clear HUS
        have q1 : w0.cell? ⟨w.heap.size, 1, none⟩ = some (.string ⟨#[]⟩) := hk0.cell 1
        have q2 : w0.cell? ⟨w.heap.size, 2, none⟩ = some (.string d) := hk0.cell 2
        go_wp2_with fail
        refine (HP2.out _).mono ?_
        rintro e w1 ⟨rfl, hbx⟩
        have hk1 := hk0.next hbx
        have hb1 := hb0.trans (hbx.mono hb0.size)
        clear hk0 hb0 hbx HP2
        clear q0 q1 q2
        obtain ⟨P1, p1⟩ : ∃ P, (⟨#[47]⟩ : ByteArray) ++ u = P := ⟨_, rfl⟩
        obtain ⟨P2, p2⟩ : ∃ P, P1 ++ (⟨#[47]⟩ : ByteArray) = P := ⟨_, rfl⟩
        obtain ⟨P3, p3⟩ : ∃ P, P2 ++ O = P := ⟨_, rfl⟩
        obtain ⟨P4, p4⟩ : ∃ P, P3 ++ (⟨#[47]⟩ : ByteArray) = P := ⟨_, rfl⟩
        obtain ⟨P5, p5⟩ : ∃ P, P4 ++ E = P := ⟨_, rfl⟩
        have z1 : P1.size = 1 + u.size := by rw [← p1, ByteArray.size_append]; rfl
        have z2 : P2.size = P1.size + 1 := by rw [← p2, ByteArray.size_append]; rfl
        have z3 : P3.size = P2.size + O.size := by rw [← p3, ByteArray.size_append]
        have z4 : P4.size = P3.size + 1 := by rw [← p4, ByteArray.size_append]; rfl
        have z5 : P5.size = P4.size + E.size := by rw [← p5, ByteArray.size_append]
        have hP : P5.data.toList = 47 :: u.data.toList ++ 47 :: (O.data.toList ++ 47 :: E.data.toList) := by
          rw [← p5, ← p4, ← p3, ← p2, ← p1]
          simp
        have g1 : ¬ 9223372036854775807 < 1 + u.size := by omega
        have g2 : ¬ 9223372036854775807 < P1.size + 1 := by omega
        have g3 : ¬ 9223372036854775807 < P2.size + O.size := by omega
        have g4 : ¬ 9223372036854775807 < P3.size + 1 := by omega
        have g5 : ¬ 9223372036854775807 < P4.size + E.size := by omega
        have hPz : P5.size ≤ 1000 := by omega
        have HP := Lib.hid hP
        clear z1 z2 z3 z4 z5 hP
        rw [← HP.out] at HRS HRN
        go_upto_region 5 with fail
        obtain ⟨uc, huc⟩ : ∃ uc, w1.drew = uc := ⟨_, rfl⟩
        have HKu : Hid (OwnB w.heap.size w uc #[.string u, .string ⟨#[]⟩, .string d, .bool nd, .slice A l.length ca, .string r, .slice C m.length cc] 26) := Lib.hid (by rw [← huc]; exact ⟨hk1.blk, hk1.low⟩)
        have HBu : Hid (Below w.heap.size w uc) := Lib.hid (by rw [← huc]; exact hb1.drew)
        clear hk1 hb1
        (try simp only [List.append])
        refine wp_region_held_drew (S := (fun v => v.cell? ⟨w.heap.size, 0, none⟩ = some (.string u) ∧ v.cell? ⟨w.heap.size, 1, none⟩ = some (.string ⟨#[]⟩) ∧ v.cell? ⟨w.heap.size, 2, none⟩ = some (.string d))) (by kernel_rfl) ((by first | (rw [huc]; exact ⟨HKu.out.cell 0, HKu.out.cell 1, HKu.out.cell 2⟩) | exact ⟨HKu.out.cell 0, HKu.out.cell 1, HKu.out.cell 2⟩)) (fun hHeld => ?_)
        refine takeW 0 ?_
        refine takeW 1 ?_
        refine takeW 2 ?_
        refine takeW 3 ?_
        (try simp only [Act.put, List.setIfInBounds_toArray, List.set_cons_zero, List.set_cons_succ])
        refine takeW 4 ?_
        refine takeW 5 ?_
        refine takeW 9 ?_
        refine takeW 10 ?_
        (try simp only [Act.put, List.setIfInBounds_toArray, List.set_cons_zero, List.set_cons_succ])
        refine wpAnyH_ready (rs := [6]) (by kernel_rfl) (by simp) ?_
        refine AllReadyH.cons rfl (fun K2 hK2 => ?_) AllReadyH.nil
        go_simp
        (try rw [huc])
        refine (HOW.out _).mono ?_
        rintro e ud ⟨rfl, hbx⟩
        replace HKu := Lib.hid (HKu.out.next hbx)
        replace HBu := Lib.hid (HBu.out.trans (hbx.mono HBu.out.size))
        clear hbx
        (try clear huc)
        (try clear uc)
        rename World => uc
        refine hK2.out _ _ ⟨HKu.out.cell 0, HKu.out.cell 1, HKu.out.cell 2⟩ (fun hHeld2 => ?_)
        (try simp only [Act.put, List.setIfInBounds_toArray, List.set_cons_zero, List.set_cons_succ])
        refine takeW 7 ?_
        refine takeW 8 ?_
        (try simp only [Act.put, List.setIfInBounds_toArray, List.set_cons_zero, List.set_cons_succ])
        refine wpAnyH_ready (rs := [11]) (by kernel_rfl) (by simp) ?_
        refine AllReadyH.cons rfl (fun K2 hK2 => ?_) AllReadyH.nil
        go_simp
        (try rw [huc])
        refine (HEN.out _).mono ?_
        rintro e ud ⟨rfl, hbx⟩
        replace HKu := Lib.hid (HKu.out.next hbx)
        replace HBu := Lib.hid (HBu.out.trans (hbx.mono HBu.out.size))
        clear hbx
        (try clear huc)
        (try clear uc)
        rename World => uc
        refine hK2.out _ _ ⟨HKu.out.cell 0, HKu.out.cell 1, HKu.out.cell 2⟩ (fun hHeld2 => ?_)
        refine takeW 12 ?_
        refine takeW 13 ?_
        (try simp only [Act.put, List.setIfInBounds_toArray, List.set_cons_zero, List.set_cons_succ])
        refine wpAnyH_done (by kernel_rfl) ?_ _
        (try simp only [p1, p2, p3, p4, p5])
        have c3 : uc.cell? ⟨w.heap.size, 3, none⟩ = some (.bool nd) := HKu.out.cell 3
        clear HOW HEN p1 p2 p3 p4 p5 g1 g2 g3 g4 g5
        cases nd with
        | false =>
          have hr := HRS.out rfl
          clear HRE HRN HNO HNN HP HNZ
          by_cases hx : P5.size ≤ 512
          · have i9 : ¬ (512 : Int) < P5.size := by omega
            have HO : Hid (o = .ok P5.data.toList) := Lib.hid (hr.trans (fin_at rfl hx))
            clear hr HRS
            go_wp2
            go_ret2
            exact P11Out.good HO.out HBu.out
          · have i9 : (512 : Int) < P5.size := by omega
            have HO : Hid (o = .error 3) := Lib.hid (hr.trans (fin_no rfl (by omega)))
            clear hr HRS
            go_wp2
            go_ret2
            exact P11Out.bad HO.out HBu.out
        | true =>
          have HRE2 := Lib.hid (fun k => HRE.out k rfl)
          have HRN2 := Lib.hid (fun t => HRN.out t rfl)
          clear HRE HRN
          have c0 : uc.cell? ⟨w.heap.size, 0, none⟩ = some (.string u) := HKu.out.cell 0
          have c1 : uc.cell? ⟨w.heap.size, 1, none⟩ = some (.string ⟨#[]⟩) := HKu.out.cell 1
          have c2 : uc.cell? ⟨w.heap.size, 2, none⟩ = some (.string d) := HKu.out.cell 2
          have c4 : uc.cell? ⟨w.heap.size, 4, none⟩ = some (.slice A l.length ca) := HKu.out.cell 4
          have c5 : uc.cell? ⟨w.heap.size, 5, none⟩ = some (.string r) := HKu.out.cell 5
          have c6 : uc.cell? ⟨w.heap.size, 6, none⟩ = some (.slice C m.length cc) := HKu.out.cell 6
          have hno := HNO.out uc HBu.out
          obtain ⟨on, hon⟩ : ∃ on, nodP u.data.toList l = on := ⟨_, rfl⟩
          rw [hon] at hno HRE2 HRN2 HNN HNZ
          clear HRS HNO HKu hon
          go_wp2_with fail
          refine hno.mono ?_
          rintro e w5 ⟨rfl, hbx⟩
          have HB5 := Lib.hid (HBu.out.trans (hbx.mono HBu.out.size))
          clear hno hbx HBu c0 c1 c2 c3 c4 c5 c6
          cases on with
          | error k =>
            have hke := HRE2.out k rfl
            have hk0 : k ≠ 0 := HNZ.out k rfl
            have hkb : (k == 0) = false := by simpa using hk0
            have HO := Lib.hid hke
            unfold P11V
            simp only
            clear hke hk0 HRE2 HRN2 HNN HP HNZ
            go_wp2
            go_ret2
            exact P11Out.bad HO.out HB5.out
          | ok t =>
            have htz := HNN.out t rfl
            have hr := HRN2.out t rfl
            unfold P11V
            simp only
            obtain ⟨TT, hTT⟩ : ∃ TT : ByteArray, ⟨t.toArray⟩ = TT := ⟨_, rfl⟩
            have hTl : TT.data.toList = t := by rw [← hTT]
            have hTz : TT.size = t.length := by rw [← hTl]; simp
            obtain ⟨X, hX⟩ : ∃ X, P5 ++ TT = X := ⟨_, rfl⟩
            have hXl : X.data.toList = P5.data.toList ++ t := by rw [← hX, app_l, hTl]
            have g1 : ¬ 9223372036854775807 < P5.size + TT.size := by omega
            rw [hTT]
            clear hTT hTl HRE2 HRN2 HNN HP HNZ
            by_cases hx : X.size ≤ 512
            · have i9 : ¬ (512 : Int) < X.size := by omega
              have HO : Hid (o = .ok X.data.toList) := Lib.hid (hr.trans (fin_at hXl hx))
              clear hr hXl hTz htz
              go_wp2
              go_ret2
              exact P11Out.good HO.out HB5.out
            · have i9 : (512 : Int) < X.size := by omega
              have HO : Hid (o = .error 3) := Lib.hid (hr.trans (fin_no hXl (by omega)))
              clear hr hXl hTz htz
              go_wp2
              go_ret2
              exact P11Out.bad HO.out HB5.out
    · have e0 := emp_false hem
      have n0 : ¬ us.data.toList = [] := fun e => hem ((lst_nil us).1 e)
      rw [decide_eq_false n0] at hbp
      cases b1 with
      | false =>
        obtain rfl : .error 4 = o := by rw [← ho, prt_bad hu (by rw [hbp]; rfl)]
        clear ho hbp hG hA hl hu HP2
        go_enter Tryz.func13, Tryz.ntmps13
        go_upto_region 1 with fail
        generalize w.alloc (.cells #[.string u, .string us, .string d, .bool nd, .slice A l.length ca, .string r, .slice C m.length cc] 26) = w0 at *
        have q0 : w0.cell? ⟨w.heap.size, 0, none⟩ = some (.string u) := hk0.cell 0
        go_wp2_with fail
        refine (HUS.out _).mono ?_
        rintro e w1 ⟨rfl, rfl⟩
        clear HUS
        have q1 : w0.cell? ⟨w.heap.size, 1, none⟩ = some (.string us) := hk0.cell 1
        go_wp2_with fail
        refine (HP1.out _).mono ?_
        rintro e w1 ⟨rfl, hbx⟩
        have hk1 := hk0.next hbx
        have hb1 := hb0.trans (hbx.mono hb0.size)
        clear hk0 hb0 hbx HP1
        go_wp2
        go_ret2
        exact P11Out.bad rfl hb1
      | true =>
        cases b2 with
        | false =>
          obtain rfl : .error 4 = o := by rw [← ho, prt_bad hu (by rw [hbp]; rfl)]
          clear ho hbp hG hA hl hu
          go_enter Tryz.func13, Tryz.ntmps13
          go_upto_region 1 with fail
          generalize w.alloc (.cells #[.string u, .string us, .string d, .bool nd, .slice A l.length ca, .string r, .slice C m.length cc] 26) = w0 at *
          have q0 : w0.cell? ⟨w.heap.size, 0, none⟩ = some (.string u) := hk0.cell 0
          go_wp2_with fail
          refine (HUS.out _).mono ?_
          rintro e w1 ⟨rfl, rfl⟩
          clear HUS
          have q1 : w0.cell? ⟨w.heap.size, 1, none⟩ = some (.string us) := hk0.cell 1
          go_wp2_with fail
          refine (HP1.out _).mono ?_
          rintro e w1 ⟨rfl, hbx⟩
          have hk1 := hk0.next hbx
          have hb1 := hb0.trans (hbx.mono hb0.size)
          clear hk0 hb0 hbx HP1
          have q2 : w1.cell? ⟨w.heap.size, 2, none⟩ = some (.string d) := hk1.cell 2
          go_wp2_with fail
          refine (HP2.out _).mono ?_
          rintro e w2 ⟨rfl, hbx⟩
          have hk2 := hk1.next hbx
          have hb2 := hb1.trans (hbx.mono hb1.size)
          clear hk1 hb1 hbx HP2
          go_wp2
          go_ret2
          exact P11Out.bad rfl hb2
        | true =>
          have hbf : bad11 us.data.toList d.data.toList = false := by rw [hbp]; rfl
          have hbfa := bad_facts hbf
          have hdl : d.data.toList.length = d.size := by simp
          have hul := (spc_len hu).2
          have huz : u.data.toList.length = u.size := by simp
          have hE := pctE_len [] d.data.toList
          have hEU := pctE_len [] (us : ByteArray).data.toList
          have hof := owner_any us
          obtain ⟨hl3, hl5⟩ : (us : ByteArray).data.toList.length ≤ 64 ∧ d.data.toList.length ≤ 64 := ⟨hbfa.2.2.1, hbfa.2.2.2.2.1⟩
          have how := fun v => owner_any us v (hus) (by omega)
          have hen := fun v => encode_any d ⟨#[]⟩ v hd (by decide)
          rw [show ((⟨#[]⟩ : ByteArray).data.toList) = [] from rfl] at hen
          have hj := own_join u.data.toList (us : ByteArray).data.toList d.data.toList
          have hoz : (mkT (ownP (us : ByteArray).data.toList)).size ≤ 200 := by
            rw [mkT_size]
            unfold ownP
            split
            · decide
            · simp only [List.length_append, List.length_cons, List.length_nil]
              omega
          obtain ⟨O, hO⟩ : ∃ O, mkT (ownP (us : ByteArray).data.toList) = O := ⟨_, rfl⟩
          obtain ⟨E, hEE⟩ : ∃ E, mkT (pctE [] d.data.toList) = E := ⟨_, rfl⟩
          have hOl : O.data.toList = ownP (us : ByteArray).data.toList := by rw [← hO, mkT_list]
          have hEl : E.data.toList = pctE [] d.data.toList := by rw [← hEE, mkT_list]
          have hEz : E.size ≤ 200 := by rw [← hEE, mkT_size]; omega
          rw [hO] at how hoz
          rw [show (⟨(pctE [] d.data.toList).toArray⟩ : ByteArray) = E from hEE] at hen
          rw [← hOl, ← hEl] at hj
          have hno := nodeOf_any u us d r true A C l m.length ca cc
          have HNO := Lib.hid (fun v (hb : Below w.heap.size w v) => hno v (hA.below hb) hl hu (hG.next hb))
          have HOW := Lib.hid how
          have HEN := Lib.hid hen
          have hrest : nd = false → prt11 ⟨u, us, d, nd, l, r, m⟩ = fin11 (joinB 47 (pcs11 u.data.toList (us : ByteArray).data.toList d.data.toList)) := fun h => prt_bare hu hbf h
          have hrese : ∀ k, nd = true → nodP u.data.toList l = .error k → prt11 ⟨u, us, d, nd, l, r, m⟩ = .error k := fun k h hk => prt_err hu hbf h (nod_err hk)
          have hresn : ∀ t, nd = true → nodP u.data.toList l = .ok t → prt11 ⟨u, us, d, nd, l, r, m⟩ = fin11 (joinB 47 (pcs11 u.data.toList (us : ByteArray).data.toList d.data.toList) ++ t) := fun t h ht => prt_nod hu hbf h ht
          rw [ho, hj] at hrest hresn
          rw [ho] at hrese
          have HRS := Lib.hid hrest
          have HRE := Lib.hid hrese
          have HRN := Lib.hid hresn
          have HNN := Lib.hid (fun (t : List UInt8) (ht : nodP u.data.toList l = .ok t) => nod_len hl ht)
          have HNZ := Lib.hid (fun (k : Int) (hk : nodP u.data.toList l = .error k) => nod_nz hk)
          have huz2 : u.size ≤ 64 := by omega
          clear hbfa hdl hul huz hE hEU hof hl3 hl5 how hen hj hO hEE hOl hEl hno hrest hrese hresn ho hbp hG hA hl hu hbf
          go_enter Tryz.func13, Tryz.ntmps13
          go_upto_region 1 with fail
          generalize w.alloc (.cells #[.string u, .string us, .string d, .bool nd, .slice A l.length ca, .string r, .slice C m.length cc] 26) = w0 at *
          have q0 : w0.cell? ⟨w.heap.size, 0, none⟩ = some (.string u) := hk0.cell 0
          go_wp2_with fail
          refine (HUS.out _).mono ?_
          rintro e w1 ⟨rfl, rfl⟩
          clear HUS
          have q1 : w0.cell? ⟨w.heap.size, 1, none⟩ = some (.string us) := hk0.cell 1
          go_wp2_with fail
          refine (HP1.out _).mono ?_
          rintro e w1 ⟨rfl, hbx⟩
          have hk1 := hk0.next hbx
          have hb1 := hb0.trans (hbx.mono hb0.size)
          clear hk0 hb0 hbx HP1
          have q2 : w1.cell? ⟨w.heap.size, 2, none⟩ = some (.string d) := hk1.cell 2
          go_wp2_with fail
          refine (HP2.out _).mono ?_
          rintro e w2 ⟨rfl, hbx⟩
          have hk2 := hk1.next hbx
          have hb2 := hb1.trans (hbx.mono hb1.size)
          clear hk1 hb1 hbx HP2
          clear q0 q1 q2
          obtain ⟨P1, p1⟩ : ∃ P, (⟨#[47]⟩ : ByteArray) ++ u = P := ⟨_, rfl⟩
          obtain ⟨P2, p2⟩ : ∃ P, P1 ++ (⟨#[47]⟩ : ByteArray) = P := ⟨_, rfl⟩
          obtain ⟨P3, p3⟩ : ∃ P, P2 ++ O = P := ⟨_, rfl⟩
          obtain ⟨P4, p4⟩ : ∃ P, P3 ++ (⟨#[47]⟩ : ByteArray) = P := ⟨_, rfl⟩
          obtain ⟨P5, p5⟩ : ∃ P, P4 ++ E = P := ⟨_, rfl⟩
          have z1 : P1.size = 1 + u.size := by rw [← p1, ByteArray.size_append]; rfl
          have z2 : P2.size = P1.size + 1 := by rw [← p2, ByteArray.size_append]; rfl
          have z3 : P3.size = P2.size + O.size := by rw [← p3, ByteArray.size_append]
          have z4 : P4.size = P3.size + 1 := by rw [← p4, ByteArray.size_append]; rfl
          have z5 : P5.size = P4.size + E.size := by rw [← p5, ByteArray.size_append]
          have hP : P5.data.toList = 47 :: u.data.toList ++ 47 :: (O.data.toList ++ 47 :: E.data.toList) := by
            rw [← p5, ← p4, ← p3, ← p2, ← p1]
            simp
          have g1 : ¬ 9223372036854775807 < 1 + u.size := by omega
          have g2 : ¬ 9223372036854775807 < P1.size + 1 := by omega
          have g3 : ¬ 9223372036854775807 < P2.size + O.size := by omega
          have g4 : ¬ 9223372036854775807 < P3.size + 1 := by omega
          have g5 : ¬ 9223372036854775807 < P4.size + E.size := by omega
          have hPz : P5.size ≤ 1000 := by omega
          have HP := Lib.hid hP
          clear z1 z2 z3 z4 z5 hP
          rw [← HP.out] at HRS HRN
          go_upto_region 5 with fail
          obtain ⟨uc, huc⟩ : ∃ uc, w2.drew = uc := ⟨_, rfl⟩
          have HKu : Hid (OwnB w.heap.size w uc #[.string u, .string us, .string d, .bool nd, .slice A l.length ca, .string r, .slice C m.length cc] 26) := Lib.hid (by rw [← huc]; exact ⟨hk2.blk, hk2.low⟩)
          have HBu : Hid (Below w.heap.size w uc) := Lib.hid (by rw [← huc]; exact hb2.drew)
          clear hk2 hb2
          (try simp only [List.append])
          refine wp_region_held_drew (S := (fun v => v.cell? ⟨w.heap.size, 0, none⟩ = some (.string u) ∧ v.cell? ⟨w.heap.size, 1, none⟩ = some (.string us) ∧ v.cell? ⟨w.heap.size, 2, none⟩ = some (.string d))) (by kernel_rfl) ((by first | (rw [huc]; exact ⟨HKu.out.cell 0, HKu.out.cell 1, HKu.out.cell 2⟩) | exact ⟨HKu.out.cell 0, HKu.out.cell 1, HKu.out.cell 2⟩)) (fun hHeld => ?_)
          refine takeW 0 ?_
          refine takeW 1 ?_
          refine takeW 2 ?_
          refine takeW 3 ?_
          (try simp only [Act.put, List.setIfInBounds_toArray, List.set_cons_zero, List.set_cons_succ])
          refine takeW 4 ?_
          refine takeW 5 ?_
          refine takeW 9 ?_
          refine takeW 10 ?_
          (try simp only [Act.put, List.setIfInBounds_toArray, List.set_cons_zero, List.set_cons_succ])
          refine wpAnyH_ready (rs := [6]) (by kernel_rfl) (by simp) ?_
          refine AllReadyH.cons rfl (fun K2 hK2 => ?_) AllReadyH.nil
          go_simp
          (try rw [huc])
          refine (HOW.out _).mono ?_
          rintro e ud ⟨rfl, hbx⟩
          replace HKu := Lib.hid (HKu.out.next hbx)
          replace HBu := Lib.hid (HBu.out.trans (hbx.mono HBu.out.size))
          clear hbx
          (try clear huc)
          (try clear uc)
          rename World => uc
          refine hK2.out _ _ ⟨HKu.out.cell 0, HKu.out.cell 1, HKu.out.cell 2⟩ (fun hHeld2 => ?_)
          (try simp only [Act.put, List.setIfInBounds_toArray, List.set_cons_zero, List.set_cons_succ])
          refine takeW 7 ?_
          refine takeW 8 ?_
          (try simp only [Act.put, List.setIfInBounds_toArray, List.set_cons_zero, List.set_cons_succ])
          refine wpAnyH_ready (rs := [11]) (by kernel_rfl) (by simp) ?_
          refine AllReadyH.cons rfl (fun K2 hK2 => ?_) AllReadyH.nil
          go_simp
          (try rw [huc])
          refine (HEN.out _).mono ?_
          rintro e ud ⟨rfl, hbx⟩
          replace HKu := Lib.hid (HKu.out.next hbx)
          replace HBu := Lib.hid (HBu.out.trans (hbx.mono HBu.out.size))
          clear hbx
          (try clear huc)
          (try clear uc)
          rename World => uc
          refine hK2.out _ _ ⟨HKu.out.cell 0, HKu.out.cell 1, HKu.out.cell 2⟩ (fun hHeld2 => ?_)
          refine takeW 12 ?_
          refine takeW 13 ?_
          (try simp only [Act.put, List.setIfInBounds_toArray, List.set_cons_zero, List.set_cons_succ])
          refine wpAnyH_done (by kernel_rfl) ?_ _
          (try simp only [p1, p2, p3, p4, p5])
          have c3 : uc.cell? ⟨w.heap.size, 3, none⟩ = some (.bool nd) := HKu.out.cell 3
          clear HOW HEN p1 p2 p3 p4 p5 g1 g2 g3 g4 g5
          cases nd with
          | false =>
            have hr := HRS.out rfl
            clear HRE HRN HNO HNN HP HNZ
            by_cases hx : P5.size ≤ 512
            · have i9 : ¬ (512 : Int) < P5.size := by omega
              have HO : Hid (o = .ok P5.data.toList) := Lib.hid (hr.trans (fin_at rfl hx))
              clear hr HRS
              go_wp2
              go_ret2
              exact P11Out.good HO.out HBu.out
            · have i9 : (512 : Int) < P5.size := by omega
              have HO : Hid (o = .error 3) := Lib.hid (hr.trans (fin_no rfl (by omega)))
              clear hr HRS
              go_wp2
              go_ret2
              exact P11Out.bad HO.out HBu.out
          | true =>
            have HRE2 := Lib.hid (fun k => HRE.out k rfl)
            have HRN2 := Lib.hid (fun t => HRN.out t rfl)
            clear HRE HRN
            have c0 : uc.cell? ⟨w.heap.size, 0, none⟩ = some (.string u) := HKu.out.cell 0
            have c1 : uc.cell? ⟨w.heap.size, 1, none⟩ = some (.string us) := HKu.out.cell 1
            have c2 : uc.cell? ⟨w.heap.size, 2, none⟩ = some (.string d) := HKu.out.cell 2
            have c4 : uc.cell? ⟨w.heap.size, 4, none⟩ = some (.slice A l.length ca) := HKu.out.cell 4
            have c5 : uc.cell? ⟨w.heap.size, 5, none⟩ = some (.string r) := HKu.out.cell 5
            have c6 : uc.cell? ⟨w.heap.size, 6, none⟩ = some (.slice C m.length cc) := HKu.out.cell 6
            have hno := HNO.out uc HBu.out
            obtain ⟨on, hon⟩ : ∃ on, nodP u.data.toList l = on := ⟨_, rfl⟩
            rw [hon] at hno HRE2 HRN2 HNN HNZ
            clear HRS HNO HKu hon
            go_wp2_with fail
            refine hno.mono ?_
            rintro e w5 ⟨rfl, hbx⟩
            have HB5 := Lib.hid (HBu.out.trans (hbx.mono HBu.out.size))
            clear hno hbx HBu c0 c1 c2 c3 c4 c5 c6
            cases on with
            | error k =>
              have hke := HRE2.out k rfl
              have hk0 : k ≠ 0 := HNZ.out k rfl
              have hkb : (k == 0) = false := by simpa using hk0
              have HO := Lib.hid hke
              unfold P11V
              simp only
              clear hke hk0 HRE2 HRN2 HNN HP HNZ
              go_wp2
              go_ret2
              exact P11Out.bad HO.out HB5.out
            | ok t =>
              have htz := HNN.out t rfl
              have hr := HRN2.out t rfl
              unfold P11V
              simp only
              obtain ⟨TT, hTT⟩ : ∃ TT : ByteArray, ⟨t.toArray⟩ = TT := ⟨_, rfl⟩
              have hTl : TT.data.toList = t := by rw [← hTT]
              have hTz : TT.size = t.length := by rw [← hTl]; simp
              obtain ⟨X, hX⟩ : ∃ X, P5 ++ TT = X := ⟨_, rfl⟩
              have hXl : X.data.toList = P5.data.toList ++ t := by rw [← hX, app_l, hTl]
              have g1 : ¬ 9223372036854775807 < P5.size + TT.size := by omega
              rw [hTT]
              clear hTT hTl HRE2 HRN2 HNN HP HNZ
              by_cases hx : X.size ≤ 512
              · have i9 : ¬ (512 : Int) < X.size := by omega
                have HO : Hid (o = .ok X.data.toList) := Lib.hid (hr.trans (fin_at hXl hx))
                clear hr hXl hTz htz
                go_wp2
                go_ret2
                exact P11Out.good HO.out HB5.out
              · have i9 : (512 : Int) < X.size := by omega
                have HO : Hid (o = .error 3) := Lib.hid (hr.trans (fin_no hXl (by omega)))
                clear hr hXl hTz htz
                go_wp2
                go_ret2
                exact P11Out.bad HO.out HB5.out
  · rw [decide_eq_false hu] at husg
    obtain rfl : .error 34 = o := by rw [← ho, prt_usage hu]
    have HUS := Lib.hid husg
    clear ho husg hu hG hA hl
    go_enter Tryz.func13, Tryz.ntmps13
    go_upto_region 1 with fail
    generalize w.alloc (.cells #[.string u, .string us, .string d, .bool nd, .slice A l.length ca, .string r, .slice C m.length cc] 26) = w0 at *
    have q0 : w0.cell? ⟨w.heap.size, 0, none⟩ = some (.string u) := hk0.cell 0
    go_wp2_with fail
    refine (HUS.out _).mono ?_
    rintro e w1 ⟨rfl, rfl⟩
    clear HUS
    go_wp2
    go_ret2
    exact P11Out.bad rfl hb0
end Go.Proofs.YtbdamneophbnnaaGreatDoor
