/- UcE UfA UfC. -/
import Derived.Deep.Cut
import Derived.Test.YtbdamneophbnnaaGreatDoorCU10
import Derived.Test.YtbdamneophbnnaaGreatDoorCU19
import Derived.Test.YtbdamneophbnnaaGreatDoorCU29
import Derived.Test.YtbdamneophbnnaaGreatDoorCU31
import Derived.Test.YtbdamneophbnnaaGreatDoorCU36
namespace Go.Proofs.YtbdamneophbnnaaGreatDoor
open Go.RowKit Wb
set_option maxHeartbeats 16000000 in
set_option maxRecDepth 100000 in
theorem rprint11_good (u us d r : ByteArray) (nd : Bool) (A C : Option Addr) (l : List StV) (m : List Pr) (ca cc : Nat) (w : World)
    (hus : us.size ≤ 1000000) (hd : d.size ≤ 1000000) (h1 : u.data.toList ∈ usg11) (hb : bad11 us.data.toList d.data.toList = false) (hA : Sl9 w A l) (hl : SzOK l)
    (hsm : ∀ x ∈ l, x.name.1.size ≤ 50000 ∧ x.name.2.size ≤ 50000 ∧ x.attr.1.size ≤ 50000 ∧ x.attr.2.size ≤ 50000 ∧ x.val.size ≤ 50000) :
    Calls Tryz.prog 14 #[.agg #[.string u, .string us, .string d, .bool nd, .slice A l.length ca, .string r, .slice C m.length cc]] w (P11Out (prt11 ⟨u, us, d, nd, l, r, m⟩) w) := by
  obtain ⟨o, ho⟩ : ∃ o, prt11 ⟨u, us, d, nd, l, r, m⟩ = o := ⟨_, rfl⟩
  rw [ho]
  have hbfa := bad_facts hb
  have hul := spc_len h1
  have huz : u.data.toList.length = u.size := by simp
  have hsp := fun v => rspace_any u v (by omega)
  have hne : spc11 u.data.toList ≠ [] := fun e => (spc_nil.1 e) h1
  obtain ⟨S, hS⟩ : ∃ S : ByteArray, ⟨(spc11 u.data.toList).toArray⟩ = S := ⟨_, rfl⟩
  obtain ⟨T, Q, pk, hPV, hbad, hgood, hTz, hQz⟩ := nod_form hS hl
  have hSn : ¬ S = ⟨#[]⟩ := fun e => by
    rw [e] at hS
    apply hne
    have := congrArg (fun b : ByteArray => b.data.toList) hS
    simpa using this
  have hSe : S.toList.isEmpty = false := emp_false hSn
  rw [hS] at hsp
  have hpr := fun v (hv : Below w.heap.size w v) => rsprint_any S A l ca v (hA.below hv) (by have := hl.2.1; omega) hsm
  rw [hPV] at hpr
  have HSP := Lib.hid hsp
  have HPR := Lib.hid hpr
  have hck1 := Lib.hid (fun v => rcheck_any us v (by omega))
  have hck2 := Lib.hid (fun v => rcheck_any d v (by omega))
  have hen1 := fun v => rencode_any us ⟨#[]⟩ v hus (by decide)
  have hen2 := fun v => rencode_any d ⟨#[]⟩ v hd (by decide)
  rw [show ((⟨#[]⟩ : ByteArray).data.toList) = [] from rfl] at hen1 hen2
  have hE1 := pctE_len [] us.data.toList
  have hE2 := pctE_len [] d.data.toList
  have hcs : ¬ (us = ⟨#[126, 126]⟩ ∨ d = ⟨#[126, 126]⟩ ∨ 64 < us.size ∨ d.size < 1 ∨ 64 < d.size ∨ 0 ≤ chk us.data.toList ∨ 0 ≤ chk d.data.toList) := fun x => by
    have := (bad_iff us d).2 x
    rw [hb] at this
    cases this
  simp only [not_or] at hcs
  obtain ⟨q1, q2, q3, q4, q5, q6, q7⟩ := hcs
  have e1 : (us.toList == [126, 126]) = false := (lit_of us _ _ rfl).trans (eqT_false.2 q1)
  have e2 : (d.toList == [126, 126]) = false := (lit_of d _ _ rfl).trans (eqT_false.2 q2)
  have i3 : ¬ (64 : Int) < us.size := by omega
  have i4 : ¬ (d.size : Int) < 1 := by omega
  have i5 : ¬ (64 : Int) < d.size := by omega
  have i6 : ¬ (0 : Int) ≤ chk us.data.toList := q6
  have i7 : ¬ (0 : Int) ≤ chk d.data.toList := q7
  have hul2 : us.data.toList.length = us.size := by simp
  have hdl2 : d.data.toList.length = d.size := by simp
  obtain ⟨E1, hE1e⟩ : ∃ E : ByteArray, mkT (pctE [] us.data.toList) = E := ⟨_, rfl⟩
  obtain ⟨E2, hE2e⟩ : ∃ E : ByteArray, mkT (pctE [] d.data.toList) = E := ⟨_, rfl⟩
  have hE1l : E1.data.toList = pctE [] us.data.toList := by rw [← hE1e, mkT_list]
  have hE2l : E2.data.toList = pctE [] d.data.toList := by rw [← hE2e, mkT_list]
  have hE1z : E1.size ≤ 200 := by rw [← hE1e, mkT_size]; omega
  have hE2z : E2.size ≤ 200 := by rw [← hE2e, mkT_size]; omega
  rw [show (⟨(pctE [] us.data.toList).toArray⟩ : ByteArray) = E1 from hE1e] at hen1
  rw [show (⟨(pctE [] d.data.toList).toArray⟩ : ByteArray) = E2 from hE2e] at hen2
  have HEN1 := Lib.hid hen1
  have HEN2 := Lib.hid hen2
  have huz2 : u.size ≤ 64 := by omega
  have hj := own_join u.data.toList us.data.toList d.data.toList
  have hrest : nd = false → o = fin11 (joinB 47 (pcs11 u.data.toList us.data.toList d.data.toList)) := fun h => ho.symm.trans (prt_bare h1 hb h)
  have hrese : ∀ k, nd = true → nodP u.data.toList l = .error k → o = .error k := fun k h hk => ho.symm.trans (prt_err h1 hb h (nod_err hk))
  have hresn : ∀ t, nd = true → nodP u.data.toList l = .ok t → o = fin11 (joinB 47 (pcs11 u.data.toList us.data.toList d.data.toList) ++ t) := fun t h ht => ho.symm.trans (prt_nod h1 hb h ht)
  rw [hj] at hrest hresn
  have HRS := Lib.hid hrest
  have HRE := Lib.hid fun h0 hn => hrese pk hn (hbad h0)
  have HRN := Lib.hid fun h0 hn => hresn _ hn (hgood h0)
  have HOW : Hid ((us = ⟨#[]⟩ → ownP us.data.toList = sGlob) ∧ (¬ us = ⟨#[]⟩ → ownP us.data.toList = [117, 115, 101, 114, 115, 47] ++ E1.data.toList)) := Lib.hid ⟨fun h => (by rw [h]; rfl), fun h => by
    unfold ownP
    rw [if_neg (fun e => h ((lst_nil us).1 e)), hE1l]⟩
  have HE2L := Lib.hid hE2l
  have hk0 := OwnB.new0 w #[.string u, .string us, .string d, .bool nd, .slice A l.length ca, .string r, .slice C m.length cc] 26
  have hb0 := (Below.refl w.heap.size w).alloc (Nat.le_refl _) (.cells #[.string u, .string us, .string d, .bool nd, .slice A l.length ca, .string r, .slice C m.length cc] 26)
  clear hsp hne hS hb h1 hE1e hE2e hE1l hE2l q1 q2 q3 q4 q5 q6 q7 hbfa hul hpr hPV hbad hgood hen1 hen2 huz hE1 hE2 hul2 hdl2 hj hrest hrese hresn ho hsm hA hl
  go_enter Tryz.func14, Tryz.ntmps14
  go_upto_region 1 with fail
  generalize w.alloc (.cells #[.string u, .string us, .string d, .bool nd, .slice A l.length ca, .string r, .slice C m.length cc] 26) = w0 at *
  have k0 : w0.cell? ⟨w.heap.size, 0, none⟩ = some (.string u) := hk0.cell 0
  go_wp2_with fail
  refine (HSP.out _).mono ?_
  rintro e w1 ⟨rfl, rfl⟩
  have k1 : w0.cell? ⟨w.heap.size, 1, none⟩ = some (.string us) := hk0.cell 1
  have k2 : w0.cell? ⟨w.heap.size, 2, none⟩ = some (.string d) := hk0.cell 2
  go_wp2_with fail
  refine (hck1.out _).mono ?_
  rintro e w2 ⟨rfl, hbx⟩
  have hk2 := hk0.next hbx
  have hb2 := hb0.trans (hbx.mono hb0.size)
  clear hk0 hb0 hbx hck1 k0 k1 k2
  have k2 : w2.cell? ⟨w.heap.size, 2, none⟩ = some (.string d) := hk2.cell 2
  go_wp2_with fail
  refine (hck2.out _).mono ?_
  rintro e w3 ⟨rfl, hbx⟩
  have hk3 := hk2.next hbx
  have hb3 := hb2.trans (hbx.mono hb2.size)
  clear hk2 hb2 hbx hck2 k2 
  have k0 : w3.cell? ⟨w.heap.size, 0, none⟩ = some (.string u) := hk3.cell 0
  have k1 : w3.cell? ⟨w.heap.size, 1, none⟩ = some (.string us) := hk3.cell 1
  obtain ⟨P1, p1⟩ : ∃ P, (⟨#[47]⟩ : ByteArray) ++ u = P := ⟨_, rfl⟩
  have z1 : P1.size = 1 + u.size := by rw [← p1, ByteArray.size_append]; rfl
  have g1 : ¬ 9223372036854775807 < 1 + u.size := by omega
  have hP1 := Lib.hid p1
  have hz1 : P1.size ≤ 100 := by omega
  clear z1
  go_upto_region 6 with fail
  clear p1
  go_upto_if 55 with fail
  go_cut [4] (fun v4 wx => ∃ X : ByteArray, v4 = .string X ∧ X.size ≤ 400 ∧ Hid (X.data.toList = 47 :: u.data.toList ++ 47 :: (ownP us.data.toList ++ [47])) ∧ Hid (OwnB w.heap.size w wx #[.string u, .string us, .string d, .bool nd, .slice A l.length ca, .string r, .slice C m.length cc] 26) ∧ Hid (Below w.heap.size w wx))
  case first =>
    by_cases hem : us = ⟨#[]⟩
    · have hs : us.data.toList = [] := by rw [hem]
      have ho1 := HOW.out.1 hem
      have em : us.toList.isEmpty = true := by rw [hem, ByteArray.toList_eq]; rfl
      have em2 : us.toList = [] := by rw [ByteArray.toList_eq]; exact hs
      obtain ⟨X, hX⟩ : ∃ X, P1 ++ (⟨#[47, 103, 108, 111, 98, 97, 108, 47]⟩ : ByteArray) = X := ⟨_, rfl⟩
      have hXz : X.size = P1.size + 8 := by rw [← hX, ByteArray.size_append]; rfl
      have g2 : ¬ 9223372036854775807 < P1.size + 8 := by omega
      have hXl : Hid (X.data.toList = 47 :: u.data.toList ++ 47 :: (ownP us.data.toList ++ [47])) := Lib.hid (by
        rw [← hX, ← hP1.out, ho1]
        simp [sGlob])
      have hXz2 : X.size ≤ 400 := by omega
      clear HRS HRE HRN HOW hXz HSP HPR HEN1 HEN2 ho1 hs hem k0
      (try simp only [em])
      go_wp2
      go_meet
      case rel => exact ⟨X, (by first | rfl | rw [hX]), hXz2, hXl, Lib.hid hk3, Lib.hid hb3⟩
    · have e0 := emp_false hem
      have ho1 := HOW.out.2 hem
      obtain ⟨X1, hX1⟩ : ∃ X, P1 ++ (⟨#[47, 117, 115, 101, 114, 115, 47]⟩ : ByteArray) = X := ⟨_, rfl⟩
      obtain ⟨X2, hX2⟩ : ∃ X, X1 ++ E1 = X := ⟨_, rfl⟩
      obtain ⟨X, hX⟩ : ∃ X, X2 ++ (⟨#[47]⟩ : ByteArray) = X := ⟨_, rfl⟩
      have hXz1 : X1.size = P1.size + 7 := by rw [← hX1, ByteArray.size_append]; rfl
      have hXz2 : X2.size = X1.size + E1.size := by rw [← hX2, ByteArray.size_append]
      have hXz3 : X.size = X2.size + 1 := by rw [← hX, ByteArray.size_append]; rfl
      have g2 : ¬ 9223372036854775807 < P1.size + 7 := by omega
      have g3 : ¬ 9223372036854775807 < X1.size + E1.size := by omega
      have g4 : ¬ 9223372036854775807 < X2.size + 1 := by omega
      have hXl : Hid (X.data.toList = 47 :: u.data.toList ++ 47 :: (ownP us.data.toList ++ [47])) := Lib.hid (by
        rw [← hX, ← hX2, ← hX1, ← hP1.out, ho1]
        simp)
      have hXz : X.size ≤ 400 := by omega
      clear HRS HRE HRN HOW hXz1 hXz2 hXz3 HSP HPR HEN2 ho1 k0
      (try simp only [e0])
      go_wp2_with fail
      refine (HEN1.out _).mono ?_
      rintro e w4 ⟨rfl, hbx⟩
      have hk4 := hk3.next hbx
      have hb4 := hb3.trans (hbx.mono hb3.size)
      clear hbx hk3 hb3 HEN1 hem
      go_wp2
      go_meet
      case rel => exact ⟨X, (by first | rfl | rw [hX]), hXz, hXl, Lib.hid hk4, Lib.hid hb4⟩
  case rest =>
    obtain ⟨X, rfl, hXz, HXL, HK, HB⟩ := hcut
    rename World => w4
    have hk4 := HK.out
    have hb4 := HB.out
    have HXJ : Hid (X.data.toList ++ E2.data.toList = 47 :: u.data.toList ++ 47 :: (ownP us.data.toList ++ 47 :: pctE [] d.data.toList)) := Lib.hid (by
      rw [HXL.out, HE2L.out]
      simp)
    rw [← HXJ.out] at HRS HRN
    clear hk3 hb3 HK HB k0 k1 HOW HEN1 HXL HXJ hP1 HE2L
    have k2 : w4.cell? ⟨w.heap.size, 2, none⟩ = some (.string d) := hk4.cell 2
    obtain ⟨Y, hY⟩ : ∃ Y, X ++ E2 = Y := ⟨_, rfl⟩
    have hYz : Y.size = X.size + E2.size := by rw [← hY, ByteArray.size_append]
    have g1 : ¬ 9223372036854775807 < X.size + E2.size := by omega
    have HYL : Hid (X.data.toList ++ E2.data.toList = Y.data.toList) := Lib.hid (by rw [← hY, app_l])
    rw [HYL.out] at HRS HRN
    have hYz2 : Y.size ≤ 700 := by omega
    clear hYz HYL
    go_wp2_with fail
    refine (HEN2.out _).mono ?_
    rintro e w5 ⟨rfl, hbx⟩
    have hk5 := hk4.next hbx
    have hb5 := hb4.trans (hbx.mono hb4.size)
    clear hbx hk4 hb4 HEN2 k2
    go_upto_region 10 with fail
    (try simp only [hY])
    clear hY
    have k3 : w5.cell? ⟨w.heap.size, 3, none⟩ = some (.bool nd) := hk5.cell 3
    cases nd with
    | false =>
      have hr := HRS.out rfl
      clear HRE HRN HSP HPR
      by_cases hx : Y.size ≤ 512
      · have i9 : ¬ (512 : Int) < Y.size := by omega
        have HO : Hid (o = .ok Y.data.toList) := Lib.hid (hr.trans (fin_at rfl hx))
        clear hr HRS
        go_wp2
        go_ret2
        exact P11Out.good HO.out hb5
      · have i9 : (512 : Int) < Y.size := by omega
        have HO : Hid (o = .error 3) := Lib.hid (hr.trans (fin_no rfl (by omega)))
        clear hr HRS
        go_wp2
        go_ret2
        exact P11Out.bad HO.out hb5
    | true =>
      have HRN2 := Lib.hid (fun h0 => HRN.out h0 rfl)
      have HRE2 := Lib.hid (fun h0 => HRE.out h0 rfl)
      clear HRN HRE
      have HQ : Hid (w5.drew.cell? ⟨w.heap.size, 0, none⟩ = some (.string u) ∧ w5.drew.cell? ⟨w.heap.size, 4, none⟩ = some (.slice A l.length ca)) := Lib.hid ⟨hk5.cell 0, hk5.cell 4⟩
      have HB := Lib.hid hb5
      clear hk5 hb5 HRS
      go_wp2_with fail
      clear k3
      (try simp only [List.append])
      refine wp_region_held_drew (S := (fun v => v.cell? ⟨w.heap.size, 0, none⟩ = some (.string u) ∧ v.cell? ⟨w.heap.size, 4, none⟩ = some (.slice A l.length ca))) (by kernel_rfl) (HQ.out) (fun hHeld => ?_)
      refine takeW 0 ?_
      refine takeW 1 ?_
      refine takeW 3 ?_
      refine takeW 4 ?_
      (try simp only [Act.put, List.setIfInBounds_toArray, List.set_cons_zero, List.set_cons_succ])
      refine wpAnyH_ready (rs := [2]) (by kernel_rfl) (by simp) ?_
      refine AllReadyH.cons rfl (fun K2 hK2 => ?_) AllReadyH.nil
      go_simp
      refine (HSP.out _).mono ?_
      rintro e w6 ⟨rfl, rfl⟩
      clear HSP
      refine hK2.out _ _ HQ.out (fun hHeld2 => ?_)
      (try simp only [Act.put, List.setIfInBounds_toArray, List.set_cons_zero, List.set_cons_succ])
      refine wpAnyH_ready (rs := [5]) (by kernel_rfl) (by simp) ?_
      refine AllReadyH.cons rfl (fun K2 hK2 => ?_) AllReadyH.nil
      go_simp
      have hbd : Below w.heap.size w w5.drew := HB.out.drew
      refine (HPR.out _ hbd).mono ?_
      rintro e w7 ⟨rfl, hbx⟩
      have HB7 := Lib.hid (hbd.trans (hbx.mono hbd.size))
      have hq7 : w7.cell? ⟨w.heap.size, 0, none⟩ = some (.string u) ∧ w7.cell? ⟨w.heap.size, 4, none⟩ = some (.slice A l.length ca) := ⟨(hbx.cell (p := ⟨w.heap.size, 0, none⟩) (World.block_lt_of_cell? w5.drew _ HQ.out.1)).trans HQ.out.1, (hbx.cell (p := ⟨w.heap.size, 4, none⟩) (World.block_lt_of_cell? w5.drew _ HQ.out.2)).trans HQ.out.2⟩
      clear HPR hbx hbd
      refine hK2.out _ _ hq7 (fun hHeld2 => ?_)
      (try simp only [Act.put, List.setIfInBounds_toArray, List.set_cons_zero, List.set_cons_succ])
      refine takeW 6 ?_
      refine takeW 7 ?_
      refine takeW 8 ?_
      refine takeW 9 ?_
      (try simp only [Act.put, List.setIfInBounds_toArray, List.set_cons_zero, List.set_cons_succ])
      refine takeW 10 ?_
      refine takeW 11 ?_
      refine takeW 12 ?_
      (try simp only [Act.put, List.setIfInBounds_toArray, List.set_cons_zero, List.set_cons_succ])
      refine wpAnyH_done (by kernel_rfl) ?_ _
      by_cases hpk : pk = 0
      · subst hpk
        have hr := HRN2.out rfl
        clear HRE2 HRN2 HQ HB
        obtain ⟨Y1, hY1⟩ : ∃ X, Y ++ (⟨#[47, 126, 126, 47]⟩ : ByteArray) = X := ⟨_, rfl⟩
        obtain ⟨Y2, hY2⟩ : ∃ X, Y1 ++ T = X := ⟨_, rfl⟩
        have y1 : Y1.size = Y.size + 4 := by rw [← hY1, ByteArray.size_append]; rfl
        have y2 : Y2.size = Y1.size + T.size := by rw [← hY2, ByteArray.size_append]
        have g2 : ¬ 9223372036854775807 < Y.size + 4 := by omega
        have g3 : ¬ 9223372036854775807 < Y1.size + T.size := by omega
        have l2 : Y2.data.toList = Y.data.toList ++ (ssl11 ++ T.data.toList) := by
          rw [← hY2, ← hY1]
          simp [ssl11]
        by_cases hq : Q = ⟨#[]⟩
        · subst hq
          rw [if_pos rfl, List.append_nil, ← l2] at hr
          clear l2 y1
          by_cases hx : Y2.size ≤ 512
          · have i9 : ¬ (512 : Int) < Y2.size := by omega
            have HO : Hid (o = .ok Y2.data.toList) := Lib.hid (hr.trans (fin_at rfl hx))
            clear hr y2
            go_wp2
            go_ret2
            exact P11Out.good HO.out HB7.out
          · have i9 : (512 : Int) < Y2.size := by omega
            have HO : Hid (o = .error 3) := Lib.hid (hr.trans (fin_no rfl (by omega)))
            clear hr y2
            go_wp2
            go_ret2
            exact P11Out.bad HO.out HB7.out
        · have e0 := emp_false hq
          have n0 : ¬ Q.data.toList = [] := fun e => hq ((lst_nil Q).1 e)
          rw [if_neg n0] at hr
          obtain ⟨Y3, hY3⟩ : ∃ X, Y2 ++ (⟨#[63]⟩ : ByteArray) = X := ⟨_, rfl⟩
          obtain ⟨Y4, hY4⟩ : ∃ X, Y3 ++ Q = X := ⟨_, rfl⟩
          have y3 : Y3.size = Y2.size + 1 := by rw [← hY3, ByteArray.size_append]; rfl
          have y4 : Y4.size = Y3.size + Q.size := by rw [← hY4, ByteArray.size_append]
          have g4 : ¬ 9223372036854775807 < Y2.size + 1 := by omega
          have g5 : ¬ 9223372036854775807 < Y3.size + Q.size := by omega
          have l4 : Y4.data.toList = Y.data.toList ++ (ssl11 ++ T.data.toList ++ 63 :: Q.data.toList) := by
            rw [← hY4, ← hY3, app_l, app_l, l2]
            simp
          rw [← l4] at hr
          clear l2 l4 y1 n0 hq
          by_cases hx : Y4.size ≤ 512
          · have i9 : ¬ (512 : Int) < Y4.size := by omega
            have HO : Hid (o = .ok Y4.data.toList) := Lib.hid (hr.trans (fin_at rfl hx))
            clear hr y2 y3 y4
            go_wp2
            go_ret2
            exact P11Out.good HO.out HB7.out
          · have i9 : (512 : Int) < Y4.size := by omega
            have HO : Hid (o = .error 3) := Lib.hid (hr.trans (fin_no rfl (by omega)))
            clear hr y2 y3 y4
            go_wp2
            go_ret2
            exact P11Out.bad HO.out HB7.out
      · have hpk2 : (pk == 0) = false := by simpa using hpk
        have HGO := Lib.hid (HRE2.out hpk)
        clear HRE2 HRN2 HQ HB
        go_wp2
        go_ret2
        exact P11Out.bad HGO.out HB7.out
end Go.Proofs.YtbdamneophbnnaaGreatDoor
namespace Go.Proofs.YtbdamneophbnnaaGreatDoor
open Go.RowKit Wb
theorem upc_of {w : World} (hG : GvS w) (s : ByteArray) (v : World) (hv : Below w.heap.size w v) (hs : s.size ≤ 1000000) : Calls Tryz.prog 7 #[.string s] v (UriOut (uri11 s.data.toList) v) := uparse_any s v hs (hG.next hv)
theorem urc_of {w : World} (hG : GvS w) (x : WhV) (A : Option Addr) (ca : Nat) (C : Option Addr) (cc : Nat) (v : World) (hv : Below w.heap.size w v) (hA : Sl9 v A x.steps) (hl : SzOK x.steps) (hu : x.user.size ≤ 1000000) (hd : x.doc.size ≤ 1000000) :
    Calls Tryz.prog 13 #[whV x A ca C cc] v (P11Out (prt11 x) v) := by
  obtain ⟨u, us, d, nd, l, r, m⟩ := x
  exact uprint_any u us d r nd A C l m ca cc v hA hl hu hd (hG.next hv)
set_option maxHeartbeats 4000000 in
set_option maxRecDepth 100000 in
theorem rspace2_any (u : ByteArray) (w : World) :
    Calls Tryz.prog 11 #[.string u] w fun e w' => e = .returned (.string ⟨(spc11 u.data.toList).toArray⟩) ∧ w = w' := by
  by_cases h : u.data.toList ∈ usg11
  · have := (spc_len h).2
    exact rspace_any u w (by have e : u.data.toList.length = u.size := (by simp); omega)
  · obtain ⟨o, ho⟩ : ∃ o : ByteArray, ⟨(spc11 u.data.toList).toArray⟩ = o := ⟨_, rfl⟩
    rw [ho]
    unfold spc11 at ho
    rw [if_neg h] at ho
    subst ho
    rw [usg_in] at h
    have h1 : ¬ u = ⟨#[114, 101, 115, 111, 117, 114, 99, 101, 45, 108, 105, 115, 116, 115]⟩ := fun e => h (.inl e)
    have b1 : (u.toList == [114, 101, 115, 111, 117, 114, 99, 101, 45, 108, 105, 115, 116, 115]) = false := (lit_of u _ _ rfl).trans (eqT_false.2 h1)
    have h2 : ¬ u = ⟨#[114, 108, 115, 45, 115, 101, 114, 118, 105, 99, 101, 115]⟩ := fun e => h (.inr (.inl e))
    have b2 : (u.toList == [114, 108, 115, 45, 115, 101, 114, 118, 105, 99, 101, 115]) = false := (lit_of u _ _ rfl).trans (eqT_false.2 h2)
    have h3 : ¬ u = ⟨#[112, 114, 101, 115, 45, 114, 117, 108, 101, 115]⟩ := fun e => h (.inr (.inr (.inl e)))
    have b3 : (u.toList == [112, 114, 101, 115, 45, 114, 117, 108, 101, 115]) = false := (lit_of u _ _ rfl).trans (eqT_false.2 h3)
    have h4 : ¬ u = ⟨#[120, 99, 97, 112, 45, 99, 97, 112, 115]⟩ := fun e => h (.inr (.inr (.inr e)))
    have b4 : (u.toList == [120, 99, 97, 112, 45, 99, 97, 112, 115]) = false := (lit_of u _ _ rfl).trans (eqT_false.2 h4)
    clear h
    go_enter Tryz.func11, Tryz.ntmps11
    go_wp2
    go_ret
    exact ⟨rfl, rfl⟩
set_option maxHeartbeats 8000000 in
set_option maxRecDepth 100000 in
theorem rprint11_any (x : WhV) (A C : Option Addr) (ca cc : Nat) (w : World) (hA : Sl9 w A x.steps) (hl : SzOK x.steps) (hus : x.user.size ≤ 1000000) (hd : x.doc.size ≤ 1000000)
    (hsm : ∀ y ∈ x.steps, y.name.1.size ≤ 50000 ∧ y.name.2.size ≤ 50000 ∧ y.attr.1.size ≤ 50000 ∧ y.attr.2.size ≤ 50000 ∧ y.val.size ≤ 50000) :
    Calls Tryz.prog 14 #[whV x A ca C cc] w (P11Out (prt11 x) w) := by
  obtain ⟨u, us, d, nd, l, r, m⟩ := x
  unfold whV
  simp only at hA hl hus hd hsm ⊢
  by_cases h1 : u.data.toList ∈ usg11
  · cases hb : bad11 us.data.toList d.data.toList with
    | true =>
      have := (spc_len h1).2
      exact rprint11_bad u us d r nd A C l m ca cc w (by have e : u.data.toList.length = u.size := (by simp); omega) hus hd (fun _ => hb)
    | false => exact rprint11_good u us d r nd A C l m ca cc w hus hd h1 hb hA hl hsm
  · have HE := Lib.hid (prt_usage (w := ⟨u, us, d, nd, l, r, m⟩) h1)
    obtain ⟨o, ho⟩ : ∃ o, prt11 ⟨u, us, d, nd, l, r, m⟩ = o := ⟨_, rfl⟩
    rw [ho] at HE ⊢
    have hsp := fun v => rspace2_any u v
    have hnil : spc11 u.data.toList = [] := spc_nil.2 h1
    rw [hnil] at hsp
    clear h1 hnil hA hl hsm ho
    go_enter Tryz.func14, Tryz.ntmps14
    go_wp2_with fail
    refine (hsp _).mono ?_
    rintro e w2 ⟨rfl, rfl⟩
    go_wp2
    go_ret2
    exact .bad HE.out ((Below.refl _ _).alloc (Nat.le_refl _) _)
def awB1 : ByteArray := ⟨(List.append [47, 114, 101, 115, 111, 117, 114, 99, 101, 45, 108, 105, 115, 116, 115, 47, 117, 115, 101, 114, 115, 47, 115, 105, 112, 58, 97, 64, 120, 47, 105, 110] [100, 101, 120, 47, 126, 126, 47, 114, 101, 115, 111, 117, 114, 99, 101, 45, 108, 105, 115, 116, 115, 47, 108, 105, 115, 116, 37, 53, 98, 49, 37, 53, 100]).toArray⟩
theorem awB1_is : awB1.data.toList = awS1 := by kernel_rfl
set_option maxRecDepth 100000 in
set_option maxHeartbeats 8000000 in
theorem awake11 (w : World) (hG : GvS w) : Calls Tryz.prog 6 #[] w fun e w' => e = .returned (.bool true) ∧ Below w.heap.size w w' := by
  have h1 := upc_of hG awB1 w (Below.refl _ _) (by decide +kernel)
  rw [awB1_is, awU1] at h1
  have h2 := fun (v : World) (hb : Below w.heap.size w v) => upc_of hG (⟨#[47, 120, 47, 117, 115, 101, 114, 115, 47, 97, 47, 98]⟩ : ByteArray) v hb (by decide)
  rw [show (⟨#[47, 120, 47, 117, 115, 101, 114, 115, 47, 97, 47, 98]⟩ : ByteArray).data.toList = [47, 120, 47, 117, 115, 101, 114, 115, 47, 97, 47, 98] from rfl, awU2] at h2
  have h3 := fun (v : World) (hb : Below w.heap.size w v) => urc_of hG ⟨⟨#[112, 114, 101, 115, 45, 114, 117, 108, 101, 115]⟩, ⟨#[]⟩, ⟨#[105, 110, 100, 101, 120]⟩, false, [], ⟨#[]⟩, []⟩ none 0 none 0 v hb (Sl.nil _ 9 _) SzOK.nil (by decide) (by decide)
  rw [awU3] at h3
  unfold whV P11Out P11V at h3
  simp only [List.length_nil] at h3
  have H2 := Lib.hid h2
  have H3 := Lib.hid h3
  clear h2 h3 hG
  unfold awB1 at h1
  go_enter Tryz.func6, Tryz.ntmps6
  go_wp2_with fail
  refine h1.mono ?_
  rintro e w1 ⟨hb1, -, he⟩
  obtain ⟨A, ca, C, cc, rfl, hA, hC⟩ := he _ rfl
  have HA1 := Lib.hid hA
  clear he hA hC h1
  unfold whV
  have hx2 := OwnB.new #[.string awW1.usage, .string awW1.user, .string awW1.doc, .bool awW1.node, .slice A awW1.steps.length ca, .string awW1.raw, .slice C awW1.binds.length cc] 26 hb1
  have hb2 := hb1.alloc hb1.size (.cells #[.string awW1.usage, .string awW1.user, .string awW1.doc, .bool awW1.node, .slice A awW1.steps.length ca, .string awW1.raw, .slice C awW1.binds.length cc] 26)
  have HA2 := Lib.hid (Sl9.below HA1.out ((Below.refl w1.heap.size w1).alloc (Nat.le_refl _) (.cells #[.string awW1.usage, .string awW1.user, .string awW1.doc, .bool awW1.node, .slice A awW1.steps.length ca, .string awW1.raw, .slice C awW1.binds.length cc] 26)))
  clear HA1 hb1
  go_upto_region 2 with fail
  generalize w1.alloc (.cells #[.string awW1.usage, .string awW1.user, .string awW1.doc, .bool awW1.node, .slice A awW1.steps.length ca, .string awW1.raw, .slice C awW1.binds.length cc] 26) = w2 at *
  generalize w1.heap.size = g1 at *
  go_wp2_with fail
  refine (H2.out _ hb2).mono ?_
  rintro e w3 ⟨hbx, he, -⟩
  obtain rfl := he _ rfl
  have hx3 := (hx2.next hbx).alloc (.cells #[.string ⟨#[]⟩, .string ⟨#[]⟩, .string ⟨#[]⟩, .bool false, .slice none 0 0, .string ⟨#[]⟩, .slice none 0 0] 26)
  have hb3a := hb2.trans (hbx.mono hb2.size)
  have hb3 := hb3a.alloc hb3a.size (.cells #[.string ⟨#[]⟩, .string ⟨#[]⟩, .string ⟨#[]⟩, .bool false, .slice none 0 0, .string ⟨#[]⟩, .slice none 0 0] 26)
  have HA3 := Lib.hid (Sl9.below (Sl9.below HA2.out hbx) ((Below.refl w3.heap.size w3).alloc (Nat.le_refl _) (.cells #[.string ⟨#[]⟩, .string ⟨#[]⟩, .string ⟨#[]⟩, .bool false, .slice none 0 0, .string ⟨#[]⟩, .slice none 0 0] 26)))
  clear HA2 hb2 hx2 hbx he hb3a H2
  go_upto_region 3 with fail
  generalize w3.alloc (.cells #[.string ⟨#[]⟩, .string ⟨#[]⟩, .string ⟨#[]⟩, .bool false, .slice none 0 0, .string ⟨#[]⟩, .slice none 0 0] 26) = w4 at *
  go_wp2_with fail
  refine (H3.out _ hb3).mono ?_
  rintro e w5 ⟨rfl, hbx⟩
  have hx5 := hx3.next hbx
  have HB5 := Lib.hid (hb3.trans (hbx.mono hb3.size))
  have hA5 := HA3.out.below hbx
  obtain ⟨ad, rfl, -, c10, c1j⟩ := Sl9.at_ hA5 (k := 1) (x := ⟨1, false, (awSp, ⟨#[108, 105, 115, 116]⟩), 1, false, nE, sE⟩) rfl
  have x1 : w5.cell? ⟨g1, 1, none⟩ = some (.string ⟨#[115, 105, 112, 58, 97, 64, 120]⟩) := hx5.cell 1
  have x2 : w5.cell? ⟨g1, 2, none⟩ = some (.string ⟨#[105, 110, 100, 101, 120]⟩) := hx5.cell 2
  have x4 : w5.cell? ⟨g1, 4, none⟩ = some (.slice (some ad) 2 ca) := hx5.cell 4
  have g4 : w5.cell? ⟨ad.block, ad.off + 9 + 4, none⟩ = some (.int .i64 1) := c1j 4 _ (by omega) rfl
  clear hx5 hA5 HA3 hbx hb3 hx3 H3 c10 c1j
  go_wp2
  go_ret
  exact ⟨rfl, HB5.out⟩
end Go.Proofs.YtbdamneophbnnaaGreatDoor
namespace Wb
theorem few_sm {l : List StV} (h : l.length + tot10 l < 5000) : ∀ y ∈ l, y.name.1.size ≤ 50000 ∧ y.name.2.size ≤ 50000 ∧ y.attr.1.size ≤ 50000 ∧ y.attr.2.size ≤ 50000 ∧ y.val.size ≤ 50000 := fun y hy => by
  have := tot10_mem hy
  unfold siz9 at this
  omega
end Wb
namespace Go.Proofs.YtbdamneophbnnaaGreatDoor
open Go.RowKit Wb
theorem P11Out.form {o : Except Int (List UInt8)} {w w' : World} {e : Ending} (h : P11Out o w e w') (hk : ∀ k, o = .error k → k ≠ 0) :
    ∃ (X : ByteArray) (k : Int), e = .returned (.tuple #[.string X, .int .i64 k]) ∧ P11V o = .tuple #[.string X, .int .i64 k] ∧ Below w.heap.size w w' ∧ (k = 0 → o = .ok X.data.toList) ∧ (k ≠ 0 → o = .error k ∧ X = ⟨#[]⟩) := by
  obtain ⟨h1, h2⟩ := h
  cases o with
  | error k => exact ⟨⟨#[]⟩, k, h1, rfl, h2, fun h0 => absurd h0 (hk k rfl), fun _ => ⟨rfl, rfl⟩⟩
  | ok s => exact ⟨⟨s.toArray⟩, 0, h1, rfl, h2, fun _ => rfl, fun h0 => absurd rfl h0⟩
set_option maxRecDepth 100000 in
set_option maxHeartbeats 8000000 in
theorem uriprints_walk (x : WhV) (A : Option Addr) (ca : Nat) (C : Option Addr) (cc : Nat) (w : World) (hA : Sl9 w A x.steps) (hG : GvS w) :
    Calls Tryz.prog 4 #[whV x A ca C cc] w fun e w' => e = .returned (.bool true) ∧ Below w.heap.size w w' := by
  have ha := fun v (hb : Below w.heap.size w v) => awake11 v (hG.next hb)
  have hur := fun v (hb : Below w.heap.size w v) (hl : SzOK x.steps) h1 h2 => urc_of hG x A ca C cc v hb (hA.below hb) hl h1 h2
  have hrr := fun v (hb : Below w.heap.size w v) (hl : SzOK x.steps) h1 h2 hsm => rprint11_any x A C ca cc v (hA.below hb) hl h1 h2 hsm
  have hfw := fun v (hb : Below w.heap.size w v) => few10_any A x.steps ca v (hA.below hb)
  have hx0 := OwnB.new0 w #[.string x.usage, .string x.user, .string x.doc, .bool x.node, .slice A x.steps.length ca, .string x.raw, .slice C x.binds.length cc] 26
  have hb0 := (Below.refl w.heap.size w).alloc (Nat.le_refl _) (.cells #[.string x.usage, .string x.user, .string x.doc, .bool x.node, .slice A x.steps.length ca, .string x.raw, .slice C x.binds.length cc] 26)
  have HAW := Lib.hid ha
  have HUR := Lib.hid hur
  have HRR := Lib.hid hrr
  have HFW := Lib.hid hfw
  have HNZ := Lib.hid (fun k (h : prt11 x = .error k) => prt_nz h)
  clear ha hur hrr hfw hA hG
  unfold whV
  unfold whV at HUR HRR
  generalize prt11 x = o at *
  go_enter Tryz.func4, Tryz.ntmps4
  go_upto_region 1 with fail
  generalize w.alloc (.cells #[.string x.usage, .string x.user, .string x.doc, .bool x.node, .slice A x.steps.length ca, .string x.raw, .slice C x.binds.length cc] 26) = w0 at *
  go_wp2_with fail
  refine (HAW.out _ hb0).mono ?_
  rintro e w1 ⟨rfl, hbx⟩
  have hx1 := hx0.next hbx
  have hb1 := hb0.trans (hbx.mono hb0.size)
  clear hx0 hb0 hbx HAW
  have c0 := hx1.cell 0
  have c1 := hx1.cell 1
  have c2 := hx1.cell 2
  have c3 := hx1.cell 3
  have c4 := hx1.cell 4
  have c5 := hx1.cell 5
  have c6 := hx1.cell 6
  simp only [List.getElem?_toArray, List.getElem?_cons_zero, List.getElem?_cons_succ] at c0 c1 c2 c3 c4 c5 c6
  go_wp2_with fail
  refine (HFW.out _ hb1).mono ?_
  rintro e w2 ⟨hbx, f1, rfl, hfb⟩
  have hx2 := hx1.next hbx
  have hb2 := hb1.trans (hbx.mono hb1.size)
  clear hx1 hb1 hbx HFW c0 c1 c2 c3 c4 c5 c6
  cases f1 with
  | false =>
    clear hfb HUR HRR HNZ hx2
    go_wp2
    go_ret
    exact ⟨rfl, hb2⟩
  | true =>
    have hfb := hfb rfl
    have HSL := Lib.hid (SzOK.of_few hfb)
    have HSM := Lib.hid (few_sm hfb)
    clear hfb
    have c0 := hx2.cell 0
    have c1 := hx2.cell 1
    have c2 := hx2.cell 2
    have c3 := hx2.cell 3
    have c4 := hx2.cell 4
    have c5 := hx2.cell 5
    have c6 := hx2.cell 6
    simp only [List.getElem?_toArray, List.getElem?_cons_zero, List.getElem?_cons_succ] at c0 c1 c2 c3 c4 c5 c6
    by_cases h1 : 3000 < x.user.size
    · have i1 : (3000 : Int) < x.user.size := by omega
      clear HUR HRR HNZ hx2 HSL HSM
      go_wp2
      go_ret
      exact ⟨rfl, hb2⟩
    have i1 : ¬ (3000 : Int) < x.user.size := by omega
    by_cases h2 : 3000 < x.doc.size
    · have i2 : (3000 : Int) < x.doc.size := by omega
      clear HUR HRR HNZ hx2 HSL HSM
      go_wp2
      go_ret
      exact ⟨rfl, hb2⟩
    have i2 : ¬ (3000 : Int) < x.doc.size := by omega
    have hu := Lib.hid (fun v hb => HUR.out v hb HSL.out (by omega) (by omega))
    have hr := Lib.hid (fun v hb => HRR.out v hb HSL.out (by omega) (by omega) HSM.out)
    clear HUR HRR HSL HSM
    go_wp2_with fail
    refine (hu.out _ hb2).mono ?_
    intro e w3 hpo
    obtain ⟨S, k, rfl, -, hbx, hk0, hk1⟩ := hpo.form HNZ.out
    have hx3 := hx2.next hbx
    have hb3 := hb2.trans (hbx.mono hb2.size)
    have HK0 := Lib.hid hk0
    have HK1 := Lib.hid hk1
    clear hpo hx2 hb2 hbx hu c0 c1 c2 c3 c4 c5 c6 hk0 hk1
    have c0 := hx3.cell 0
    have c1 := hx3.cell 1
    have c2 := hx3.cell 2
    have c3 := hx3.cell 3
    have c4 := hx3.cell 4
    have c5 := hx3.cell 5
    have c6 := hx3.cell 6
    simp only [List.getElem?_toArray, List.getElem?_cons_zero, List.getElem?_cons_succ] at c0 c1 c2 c3 c4 c5 c6
    go_wp2_with fail
    refine (hr.out _ hb3).mono ?_
    intro e w4 hpo
    obtain ⟨S2, k2, rfl, -, hbx, hm0, hm1⟩ := hpo.form HNZ.out
    have hb4 := hb3.trans (hbx.mono hb3.size)
    have heq : S2 = S ∧ k2 = k := by
      by_cases hk : k = 0
      · have e1 := HK0.out hk
        by_cases hk2 : k2 = 0
        · have e2 := hm0 hk2
          rw [e1] at e2
          injection e2 with e2
          refine ⟨?_, by omega⟩
          rw [← to_list S2, ← e2, to_list S]
        · have e2 := (hm1 hk2).1
          rw [e1] at e2
          cases e2
      · obtain ⟨e1, e3⟩ := HK1.out hk
        by_cases hk2 : k2 = 0
        · have e2 := hm0 hk2
          rw [e1] at e2
          cases e2
        · obtain ⟨e2, e4⟩ := hm1 hk2
          rw [e1] at e2
          injection e2 with e2
          exact ⟨by rw [e3, e4], by omega⟩
    obtain ⟨rfl, rfl⟩ := heq
    clear hpo hbx hr c0 c1 c2 c3 c4 c5 c6 hm0 hm1 HK0 HK1 hx3
    go_wp2
    go_ret
    exact ⟨rfl, hb4⟩
end Go.Proofs.YtbdamneophbnnaaGreatDoor
