/- UcK. -/
import Derived.Test.YtbdamneophbnnaaGreatDoorCZ32
namespace Go.Proofs.YtbdamneophbnnaaGreatDoor
open Go.RowKit Wb
set_option maxHeartbeats 16000000 in
set_option maxRecDepth 100000 in
theorem ruparse_user (RP : Hid (∀ (s space : ByteArray) (B : Option Addr) (binds : List Pr) (c : Nat) (w : World), Sl2 w B binds → s.size ≤ 1000000 → space.size ≤ 1000000 → binds.length ≤ 100000 → (∀ b ∈ binds, b.1.size ≤ 1000000 ∧ b.2.size ≤ 1000000) →
    Calls Tryz.prog 23 #[.string s, .string space, .slice B binds.length c] w (StepsOut (parseS s.data.toList space binds) w))) (s : ByteArray) (w : World) (h512 : ¬ 512 < s.size) (h0 q0 dc0 se0 : List UInt8) (as0 nd0 : Bool) (hc1 : Lib.cut s.data.toList [63] = (h0, q0, as0)) (hc2 : Lib.cut h0 ssl11 = (dc0, se0, nd0)) (hbd0 : bdB (pieceF 47 dc0) as0 nd0 = false) (hgl0 : glB (pieceF 47 dc0) = false) :
    Calls Tryz.prog 8 #[.string s] w (UriOut (uri11 s.data.toList) w) := by
  have hsl : s.data.toList.length = s.size := by simp
  obtain ⟨o, ho⟩ : ∃ o, uri11 s.data.toList = o := ⟨_, rfl⟩
  rw [ho]
  have hk0 := OwnB.new0 w #[.string ⟨#[]⟩, .string ⟨#[]⟩, .string ⟨#[]⟩, .bool false, .slice none 0 0, .string ⟨#[]⟩, .slice none 0 0] 26
  have hb0 := (Below.refl w.heap.size w).alloc (Nat.le_refl _) (.cells #[.string ⟨#[]⟩, .string ⟨#[]⟩, .string ⟨#[]⟩, .bool false, .slice none 0 0, .string ⟨#[]⟩, .slice none 0 0] 26)
  have HBD0 := Lib.hid (And.intro hbd0 hgl0)
  clear hbd0 hgl0
  have i1 : ¬ (512 : Int) < s.size := by omega
  have HX1 := Lib.hid (fun v => index_any s ⟨#[63]⟩ 0 v (by omega) (by decide) (by omega))
  have HNE := Lib.hid (fun v (h : o = .ok v) => uri_ne (ho.trans h))
  have HUF := Lib.hid (fun h q doc sel asked node h1 h2 hf => (uri_form (s := s.data.toList) (h := h) (q := q) (doc := doc) (sel := sel) (asked := asked) (node := node) h1 h2 (by omega) hf).symm.trans ho)
  have HFI := Lib.hid (fun h q doc sel asked node u d x h1 h2 hf ha => ho.symm.trans (uri_fin (s := s.data.toList) (h := h) (q := q) (doc := doc) (sel := sel) (asked := asked) (node := node) (u := u) (d := d) (x := x) h1 h2 (by omega) hf ha))
  have hs512 : s.size ≤ 512 := by omega
  clear ho h512 hsl
  go_enter Tryz.func8, Tryz.ntmps8
  go_upto_region 1 with fail
  generalize w.alloc (.cells #[.string ⟨#[]⟩, .string ⟨#[]⟩, .string ⟨#[]⟩, .bool false, .slice none 0 0, .string ⟨#[]⟩, .slice none 0 0] 26) = w0 at *
  go_wp2_with fail
  refine (HX1.out _).mono ?_
  rintro e w1 ⟨re, rfl, hre, rfl⟩
  have HRE := Lib.hid hre
  clear HX1 hre
  go_upto_if 27 with fail
  go_cut [0, 4, 5] (fun v0 v4 v5 wx => ∃ (H Q : ByteArray) (asked : Bool), v0 = .string H ∧ v4 = .string Q ∧ v5 = .bool asked ∧ H.size ≤ 512 ∧ Q.size ≤ 512 ∧ Hid (Lib.cut s.data.toList [63] = (H.data.toList, Q.data.toList, asked)) ∧ Hid (wx = w0))
  case first =>
    by_cases hr : re < 0
    · have hc := cut_idx_no (by decide) HRE.out hr
      have hcx : Hid (Lib.cut s.data.toList [63] = (s.data.toList, (⟨#[]⟩ : ByteArray).data.toList, false)) := Lib.hid hc
      have hr0 : ¬ (0 : Int) ≤ re := by omega
      clear hc HRE HUF HFI HNE hk0 hb0
      go_wp2
      go_meet
      case rel => exact ⟨s, ⟨#[]⟩, false, rfl, rfl, rfl, hs512, by decide, hcx, Lib.hid rfl⟩
    · obtain ⟨k, rfl⟩ : ∃ k : Nat, re = k := ⟨re.toNat, by omega⟩
      obtain ⟨hk1, hc⟩ := cut_idx (t := ⟨#[63]⟩) (by decide) HRE.out
      have hk2 : k + 1 ≤ s.size := hk1
      obtain ⟨H, hH⟩ : ∃ H, s.extract 0 k = H := ⟨_, rfl⟩
      obtain ⟨Q, hQ⟩ : ∃ Q, s.extract (k + 1) s.size = Q := ⟨_, rfl⟩
      have hHz : H.size ≤ 512 := by rw [← hH]; simp; omega
      have hQz : Q.size ≤ 512 := by rw [← hQ]; simp; omega
      have hcx : Hid (Lib.cut s.data.toList [63] = (H.data.toList, Q.data.toList, true)) := Lib.hid (by
        rw [← hH, ← hQ]
        exact hc)
      have w1 : IntKind.i64.wrap ((k : Int) + 1) = ((k + 1 : Nat) : Int) := by rw [IntKind.wrap_i64]; omega
      have b1 : (0 : Int) ≤ (k : Int) := by omega
      have b2 : (k : Int) ≤ (s.size : Int) := by omega
      have b3 : ((k + 1 : Nat) : Int) ≤ (s.size : Int) := by omega
      clear hc HRE HUF HFI HNE hk0 hb0 hr hk1
      go_wp2
      go_meet
      case rel => exact ⟨H, Q, true, rfl, rfl, rfl, hHz, hQz, hcx, Lib.hid rfl⟩
  case rest =>
    obtain ⟨H, Q, asked, rfl, rfl, rfl, hHz, hQz, HC1, hcut⟩ := hcut
    obtain rfl := hcut.out
    rename World => w0
    clear hcut HRE
    have HX2 := Lib.hid (fun v => index_any H ⟨#[47, 126, 126, 47]⟩ 0 v (by omega) (by decide) (by omega))
    go_wp2_with fail
    refine (HX2.out _).mono ?_
    rintro e w1 ⟨re, rfl, hre, rfl⟩
    have HRE := Lib.hid hre
    clear HX2 hre
    go_upto_if 38 with fail
    go_cut [0, 7, 8] (fun v0 v7 v8 wx => ∃ (DC SE : ByteArray) (node : Bool), v0 = .string DC ∧ v7 = .string SE ∧ v8 = .bool node ∧ DC.size ≤ 512 ∧ SE.size ≤ 512 ∧ Hid (node = false → SE = ⟨#[]⟩) ∧ Hid (Lib.cut H.data.toList ssl11 = (DC.data.toList, SE.data.toList, node)) ∧ Hid (wx = w0))
    case first =>
      by_cases hr : re < 0
      · have hc := cut_idx_no (by decide) HRE.out hr
        have hcx : Hid (Lib.cut H.data.toList ssl11 = (H.data.toList, (⟨#[]⟩ : ByteArray).data.toList, false)) := Lib.hid hc
        have hr0 : ¬ (0 : Int) ≤ re := by omega
        clear hc HRE HUF HFI HNE hk0 hb0
        go_wp2
        go_meet
        case rel => exact ⟨H, ⟨#[]⟩, false, rfl, rfl, rfl, hHz, by decide, Lib.hid (fun _ => rfl), hcx, Lib.hid rfl⟩
      · obtain ⟨k, rfl⟩ : ∃ k : Nat, re = k := ⟨re.toNat, by omega⟩
        obtain ⟨hk1, hc⟩ := cut_idx (t := ⟨#[47, 126, 126, 47]⟩) (by decide) HRE.out
        have hk2 : k + 4 ≤ H.size := hk1
        obtain ⟨DC, hDC⟩ : ∃ X, H.extract 0 k = X := ⟨_, rfl⟩
        obtain ⟨SE, hSE⟩ : ∃ X, H.extract (k + 4) H.size = X := ⟨_, rfl⟩
        have hDz : DC.size ≤ 512 := by rw [← hDC]; simp; omega
        have hSz : SE.size ≤ 512 := by rw [← hSE]; simp; omega
        have hcx : Hid (Lib.cut H.data.toList ssl11 = (DC.data.toList, SE.data.toList, true)) := Lib.hid (by
          rw [← hDC, ← hSE]
          exact hc)
        have hnt : Hid (true = false → SE = ⟨#[]⟩) := Lib.hid (fun h => by cases h)
        have w1 : IntKind.i64.wrap ((k : Int) + 4) = ((k + 4 : Nat) : Int) := by rw [IntKind.wrap_i64]; omega
        have b1 : (0 : Int) ≤ (k : Int) := by omega
        have b2 : (k : Int) ≤ (H.size : Int) := by omega
        have b3 : ((k + 4 : Nat) : Int) ≤ (H.size : Int) := by omega
        clear hc HRE HUF HFI HNE hk0 hb0 hr hk1
        go_wp2
        go_meet
        case rel => exact ⟨DC, SE, true, (by first | rfl | rw [hDC]), (by first | rfl | rw [hSE]), rfl, hDz, hSz, hnt, hcx, Lib.hid rfl⟩
    case rest =>
      obtain ⟨DC, SE, node, rfl, rfl, rfl, hDz, hSz, HSE, HC2, hcut⟩ := hcut
      obtain rfl := hcut.out
      rename World => w0
      clear hcut HRE
      have HPP := Lib.hid (rpieces_any DC 47 w0 (by omega))
      have hpm := pcs_map DC
      have HPZ := Lib.hid (pcs_z (s := DC))
      have hpne : 0 < (pcsB 47 DC).length := by
        unfold pcsB
        rw [List.length_map]
        exact List.length_pos_iff.2 (pieceA_ne _ _ _)
      obtain ⟨hl1, hl2, hl3⟩ := cut_link hc1 hc2 HC1.out HC2.out
      have hBD := HBD0.out
      rw [hl1, hl2, hl3, hpm] at hBD
      have HUF2 := Lib.hid (HUF.out _ _ _ _ _ _ HC1.out HC2.out)
      have HFI2 := Lib.hid (fun u d x => HFI.out _ _ _ _ _ _ u d x HC1.out HC2.out)
      rw [hpm] at HUF2 HFI2
      clear HUF HFI HC1 HC2 hpm hl1 hl2 hl3 hc1 hc2 HBD0
      generalize pcsB 47 DC = L at *
      go_wp2_with fail
      refine HPP.out.mono ?_
      rintro e w1 ⟨v1, rfl, hown1, hbx⟩
      obtain ⟨PA, pc, rfl⟩ := own_shape hown1
      have hP1 : Sl1 w1 PA L := Sl.of_own hown1
      have hk1 := hk0.next hbx
      have hb1 := hb0.trans (hbx.mono hb0.size)
      clear HPP hown1 hk0 hb0 hbx
      obtain ⟨ad, rfl, hc0, hck⟩ := pc_at hP1 hpne
      have HP := Lib.hid hP1
      have HK := Lib.hid hck
      clear hP1 hck
      have han : (asked && !node) = false := (bd_false hBD.1).1
      have hanc := an_false han
      have HFI3 := Lib.hid (fun u d x hf => HFI2.out u d x hf han)
      obtain ⟨u, x, d, hL⟩ : ∃ u x d, (L.map fun x => x.data.toList) = [[], u, sUsers, x, d] := by
        rcases (bd_false hBD.1).2 with ⟨h, x⟩ | ⟨h, x⟩
        · rw [hBD.2] at h; cases h
        · exact x
      clear hBD HUF2 HFI2 han
      obtain ⟨l0, U, l2, X3, DD, rfl⟩ : ∃ a b c d e, L = [a, b, c, d, e] := by
        have h5 := congrArg List.length hL
        rw [List.length_map] at h5
        match L, h5 with
        | [a, b, c, d, e], _ => exact ⟨a, b, c, d, e, rfl⟩
      simp only [List.map_cons, List.map_nil, List.cons.injEq, and_true] at hL
      obtain ⟨e0, rfl, e2, rfl, rfl⟩ := hL
      have hO := HFI3.out U.data.toList DD.data.toList (some X3.data.toList) (by simp only [List.map_cons, List.map_nil]; rw [e0, e2]; exact frm_5 _ _ _)
      have hX3z := HPZ.out X3 (by simp)
      have c3 : w1.cell? ⟨ad.block, ad.off + 3, none⟩ = some (.string X3) := HK.out 3 X3 (by decide) rfl
      have c4 : w1.cell? ⟨ad.block, ad.off + 4, none⟩ = some (.string DD) := HK.out 4 DD (by decide) rfl
      obtain rfl := (lst_nil l0).1 e0
      have c0 : w1.cell? ad = some (.string ⟨#[]⟩) := hc0 _ rfl
      have c2 : w1.cell? ⟨ad.block, ad.off + 2, none⟩ = some (.string l2) := HK.out 2 l2 (by decide) rfl
      have q2 : (l2.toList == [117, 115, 101, 114, 115]) = true := by rw [ByteArray.toList_eq, e2]; rfl
      clear e0 e2
      go_upto_region 19 with fail
      go_cut [82] (fun v82 wx => v82 = .bool false ∧ Hid (wx = w1))
      case first =>
        clear HFI3 HNE HP HK hk1 hb1 HPZ hc0 HSE
        rcases hanc with rfl | ⟨rfl, rfl⟩
        all_goals
          go_wp2
          go_meet
          case rel => exact ⟨rfl, Lib.hid rfl⟩
      case rest =>
        obtain ⟨rfl, hcut⟩ := hcut
        obtain rfl := hcut.out
        rename World => w1
        clear hcut hanc q2 c2 c0
        have hUz := HPZ.out U (by simp)
        have hDDz := HPZ.out DD (by simp)
        have c1 : w1.cell? ⟨ad.block, ad.off + 1, none⟩ = some (.string U) := HK.out 1 U (by decide) rfl
        rw [show mkT SE.data.toList = SE from to_list SE, show mkT Q.data.toList = Q from to_list Q] at hO
        clear HFI3 hpne hc0 HK HPZ HP
        have HSP := Lib.hid (fun v => rspace_any U v (by omega))
        by_cases hu : U.data.toList ∈ usg11
        · rw [if_neg (fun h => h hu)] at hO
          have hne : spc11 U.data.toList ≠ [] := fun e => (spc_nil.1 e) hu
          obtain ⟨S, hS⟩ : ∃ S : ByteArray, ⟨(spc11 U.data.toList).toArray⟩ = S := ⟨_, rfl⟩
          have hSn : ¬ S = ⟨#[]⟩ := fun e => by
            rw [e] at hS
            apply hne
            have := congrArg (fun b : ByteArray => b.data.toList) hS
            simpa using this
          have hSe : S.toList.isEmpty = false := emp_false hSn
          have hSpz : S.size ≤ 1000000 := by
            rw [← hS]
            show _root_.Array.size _ ≤ _
            rw [List.size_toArray]
            have := (spc_len hu).1
            omega
          rw [hS] at HSP
          have HSU := Lib.hid hS
          have HU := Lib.hid hu
          clear hne hS hu hSn
          have hde := fun v => rdecode_any X3 v (by omega)
          obtain ⟨us, eu, heu⟩ : ∃ a b, decP X3.data.toList = (a, b) := ⟨_, _, rfl⟩
          rw [heu] at hde
          have husr : usr11 (some X3.data.toList) = (us, eu) := heu
          rw [husr] at hO
          simp only at hO hde
          obtain ⟨US, hUS⟩ : ∃ X, mkT us = X := ⟨_, rfl⟩
          have hUSl : US.data.toList = us := by rw [← hUS, mkT_list]
          rw [show (⟨us.toArray⟩ : ByteArray) = US from hUS] at hde
          have HDE := Lib.hid hde
          have HUSL := Lib.hid hUSl
          clear hde heu husr hUS hUSl
          have hdd := fun v => rdecode_any DD v (by omega)
          obtain ⟨dn, ed, hed⟩ : ∃ a b, decP DD.data.toList = (a, b) := ⟨_, _, rfl⟩
          rw [hed] at hdd hO
          simp only at hdd hO
          obtain ⟨D, hD⟩ : ∃ X, mkT dn = X := ⟨_, rfl⟩
          have hDl : D.data.toList = dn := by rw [← hD, mkT_list]
          rw [show (⟨dn.toArray⟩ : ByteArray) = D from hD] at hdd
          have HDD := Lib.hid hdd
          have HDL := Lib.hid hDl
          have hwl : IntKind.i64.wrap (5 - 1) = 4 := by decide
          have HO0 := Lib.hid hO
          clear hdd hed hD hDl hO hUz hDDz hX3z
          go_wp2_with fail
          refine (HSP.out _).mono ?_
          rintro e w2 ⟨rfl, rfl⟩
          go_wp2_with fail
          refine (HDE.out _).mono ?_
          rintro e w2 ⟨rfl, hbx⟩
          have hk2 := hk1.next hbx
          have hb2 := hb1.trans (hbx.mono hb1.size)
          have c1b : w2.cell? ⟨ad.block, ad.off + 1, none⟩ = some (.string U) := (hbx.cell (p := ⟨ad.block, ad.off + 1, none⟩) (World.block_lt_of_cell? w1 _ c1)).trans c1
          have c4b : w2.cell? ⟨ad.block, ad.off + 4, none⟩ = some (.string DD) := (hbx.cell (p := ⟨ad.block, ad.off + 4, none⟩) (World.block_lt_of_cell? w1 _ c4)).trans c4
          clear hk1 hb1 hbx HDE c1 c3 c4
          by_cases heu : eu = 0
          · subst heu
            go_wp2_with fail
            refine (HDD.out _).mono ?_
            rintro e w3 ⟨rfl, hbx⟩
            have hk3 := hk2.next hbx
            have hb3 := hb2.trans (hbx.mono hb2.size)
            have c1c : w3.cell? ⟨ad.block, ad.off + 1, none⟩ = some (.string U) := (hbx.cell (p := ⟨ad.block, ad.off + 1, none⟩) (World.block_lt_of_cell? w2 _ c1b)).trans c1b
            clear hk2 hb2 hbx HDD c1b c4b
            by_cases hed : ed = 0
            · subst hed
              have hO := HO0.out
              rw [if_neg (fun h => h rfl), if_neg (fun h => h rfl)] at hO
              unfold finE at hO
              obtain ⟨b2, hb2⟩ : ∃ b, (!ok11 (some X3.data.toList) us dn) = b := ⟨_, rfl⟩
              have hb2c : b2 = (decide (D.size < 1) || (decide (64 < D.size) || (decide (64 < US.size) || (decide (US = ⟨#[]⟩) || (decide (D = ⟨#[126, 126]⟩) || decide (US = ⟨#[126, 126]⟩)))))) := by
                rw [← hb2]
                exact ok_some HUSL.out HDL.out
              have HB2 := Lib.hid hb2
              have HBC := Lib.hid hb2c
              have HO := Lib.hid hO
              clear hb2 hb2c hO HO0
              go_upto_region 32 with fail
              go_cut [146] (fun v146 wx => v146 = .bool b2 ∧ Hid (wx = w3))
              case first =>
                have hb := HBC.out
                clear HBC HB2 HO HNE HU HSU HSP hk3 hb3 HSE c1c
                by_cases p0 : D.size < 1
                · obtain rfl : b2 = true := by rw [hb, decide_eq_true p0]; rfl
                  have q : (D.size : Int) < 1 := by omega
                  clear hb p0
                  go_wp2
                  go_meet
                  case rel => exact ⟨rfl, Lib.hid rfl⟩
                · have q1 : ¬ (D.size : Int) < 1 := by omega
                  by_cases p1 : 64 < D.size
                  · obtain rfl : b2 = true := by rw [hb, decide_eq_false p0, decide_eq_true p1]; rfl
                    have q : (64 : Int) < D.size := by omega
                    clear hb p0 p1
                    go_wp2
                    go_meet
                    case rel => exact ⟨rfl, Lib.hid rfl⟩
                  · have q2 : ¬ (64 : Int) < D.size := by omega
                    by_cases p2 : 64 < US.size
                    · obtain rfl : b2 = true := by rw [hb, decide_eq_false p0, decide_eq_false p1, decide_eq_true p2]; rfl
                      have q : (64 : Int) < US.size := by omega
                      clear hb p0 p1 p2
                      go_wp2
                      go_meet
                      case rel => exact ⟨rfl, Lib.hid rfl⟩
                    · have q3 : ¬ (64 : Int) < US.size := by omega
                      by_cases p3 : US = ⟨#[]⟩
                      · obtain rfl : b2 = true := by rw [hb, decide_eq_false p0, decide_eq_false p1, decide_eq_false p2, decide_eq_true p3]; rfl
                        have q : US.toList.isEmpty = true := by rw [p3, ByteArray.toList_eq]; rfl
                        have qq : US.toList = [] := by rw [p3, ByteArray.toList_eq]
                        clear hb p0 p1 p2 p3
                        go_wp2
                        go_meet
                        case rel => exact ⟨rfl, Lib.hid rfl⟩
                      · have q4 := emp_false p3
                        by_cases p4 : D = ⟨#[126, 126]⟩
                        · obtain rfl : b2 = true := by rw [hb, decide_eq_false p0, decide_eq_false p1, decide_eq_false p2, decide_eq_false p3, decide_eq_true p4]; rfl
                          have q : (D.toList == [126, 126]) = true := by rw [p4, ByteArray.toList_eq]; rfl
                          clear hb p0 p1 p2 p3 p4
                          go_wp2
                          go_meet
                          case rel => exact ⟨rfl, Lib.hid rfl⟩
                        · have q5 : (D.toList == [126, 126]) = false := (lit_of D _ _ rfl).trans (eqT_false.2 p4)
                          by_cases p5 : US = ⟨#[126, 126]⟩
                          · obtain rfl : b2 = true := by rw [hb, decide_eq_false p0, decide_eq_false p1, decide_eq_false p2, decide_eq_false p3, decide_eq_false p4, decide_eq_true p5]; rfl
                            have q : (US.toList == [126, 126]) = true := by rw [p5, ByteArray.toList_eq]; rfl
                            clear hb p0 p1 p2 p3 p4 p5
                            go_wp2
                            go_meet
                            case rel => exact ⟨rfl, Lib.hid rfl⟩
                          · have q6 : (US.toList == [126, 126]) = false := (lit_of US _ _ rfl).trans (eqT_false.2 p5)
                            obtain rfl : b2 = false := by rw [hb, decide_eq_false p0, decide_eq_false p1, decide_eq_false p2, decide_eq_false p3, decide_eq_false p4, decide_eq_false p5]; rfl
                            clear hb p0 p1 p2 p3 p4 p5
                            go_wp2
                            go_meet
                            case rel => exact ⟨rfl, Lib.hid rfl⟩
              case rest =>
                obtain ⟨rfl, hcut⟩ := hcut
                obtain rfl := hcut.out
                rename World => w3
                clear hcut HBC
                cases b2 with
                | true =>
                  have hO := HO.out
                  have hok := HB2.out
                  rw [if_pos (by simpa using hok)] at hO
                  subst hO
                  clear HO HB2 HNE HU HSU HSP HSE hok c1c
                  have z0 := hk3.cell 0
                  have zf0 := hk3.free 0
                  have z1 := hk3.cell 1
                  have zf1 := hk3.free 1
                  have z2 := hk3.cell 2
                  have zf2 := hk3.free 2
                  have z3 := hk3.cell 3
                  have zf3 := hk3.free 3
                  have z4 := hk3.cell 4
                  have zf4 := hk3.free 4
                  have z5 := hk3.cell 5
                  have zf5 := hk3.free 5
                  have z6 := hk3.cell 6
                  have zf6 := hk3.free 6
                  simp only [List.getElem?_toArray, List.getElem?_cons_zero, List.getElem?_cons_succ] at z0 z1 z2 z3 z4 z5 z6
                  go_wp2
                  refine bodyPost_ret (results_cell2 rfl _ _ w.heap.size _ _ _ rfl (hk3.all7 _ _ _ _ _ _ _).blk Tryz.underlying26 rfl wh_info) rfl ?_
                  exact UriOut.bad rfl ((((((((hb3.setCell (Nat.le_refl _) _).setCell (Nat.le_refl _) _).setCell (Nat.le_refl _) _).setCell (Nat.le_refl _) _).setCell (Nat.le_refl _) _).setCell (Nat.le_refl _) _).setCell (Nat.le_refl _) _))
                | false =>
                  have hO := HO.out
                  have hok := HB2.out
                  rw [if_neg (by simpa using hok)] at hO
                  have HO2 := Lib.hid hO
                  clear HO HB2 hO hok
                  cases node with
                  | false =>
                    have hO := HO2.out
                    rw [if_pos rfl] at hO
                    obtain rfl := HSE.out rfl
                    have hv : (⟨mkT U.data.toList, mkT us, mkT dn, false, [], sE, []⟩ : WhV) = ⟨U, US, D, false, [], ⟨#[]⟩, []⟩ := by
                      rw [← HDL.out, ← HUSL.out, show mkT U.data.toList = U from to_list U, show mkT D.data.toList = D from to_list D, show mkT US.data.toList = US from to_list US]
                      rfl
                    rw [hv] at hO
                    subst hO
                    clear HO2 HNE HU HSU HSP HSE hv
                    have hw3 := OwnB.new #[.string U, .string US, .string D, .bool false, .slice none 0 0, .string ⟨#[]⟩, .slice none 0 0] 26 hb3
                    have hk3c := hk3.alloc (.cells #[.string U, .string US, .string D, .bool false, .slice none 0 0, .string ⟨#[]⟩, .slice none 0 0] 26)
                    have hb3c := hb3.alloc hb3.size (.cells #[.string U, .string US, .string D, .bool false, .slice none 0 0, .string ⟨#[]⟩, .slice none 0 0] 26)
                    have c1d : (w3.alloc (.cells #[.string U, .string US, .string D, .bool false, .slice none 0 0, .string ⟨#[]⟩, .slice none 0 0] 26)).cell? ⟨ad.block, ad.off + 1, none⟩ = some (.string U) := ((Below.refl w3.heap.size w3).alloc (Nat.le_refl _) (.cells #[.string U, .string US, .string D, .bool false, .slice none 0 0, .string ⟨#[]⟩, .slice none 0 0] 26)).cell (p := ⟨ad.block, ad.off + 1, none⟩) (World.block_lt_of_cell? w3 _ c1c) |>.trans c1c
                    have hneg : w3.heap.size ≠ w.heap.size := by have := hk3.lt; omega
                    go_upto_region 35 with fail
                    generalize w3.alloc (.cells #[.string U, .string US, .string D, .bool false, .slice none 0 0, .string ⟨#[]⟩, .slice none 0 0] 26) = w4 at *
                    generalize w3.heap.size = gw at *
                    have hk4 := hk3c
                    have hb4 := hb3c
                    have hw4 := hw3
                    clear hk3c hb3c hw3 hk3 hb3 c1c
                    have y0 := hw4.cell 0
                    have y1 := hw4.cell 1
                    have y2 := hw4.cell 2
                    have y3 := hw4.cell 3
                    have y4 := hw4.cell 4
                    have y5 := hw4.cell 5
                    have y6 := hw4.cell 6
                    simp only [List.getElem?_toArray, List.getElem?_cons_zero, List.getElem?_cons_succ] at y0 y1 y2 y3 y4 y5 y6
                    have z0 := hk4.cell 0
                    have zf0 := hk4.free 0
                    have z1 := hk4.cell 1
                    have zf1 := hk4.free 1
                    have z2 := hk4.cell 2
                    have zf2 := hk4.free 2
                    have z3 := hk4.cell 3
                    have zf3 := hk4.free 3
                    have z4 := hk4.cell 4
                    have zf4 := hk4.free 4
                    have z5 := hk4.cell 5
                    have zf5 := hk4.free 5
                    have z6 := hk4.cell 6
                    have zf6 := hk4.free 6
                    simp only [List.getElem?_toArray, List.getElem?_cons_zero, List.getElem?_cons_succ] at z0 z1 z2 z3 z4 z5 z6
                    go_wp2
                    refine bodyPost_ret (results_cell2 rfl _ _ w.heap.size _ _ _ rfl (hk4.all7 _ _ _ _ _ _ _).blk Tryz.underlying26 rfl wh_info) rfl ?_
                    exact UriOut.good (v := ⟨U, US, D, false, [], ⟨#[]⟩, []⟩) rfl ((((((((hb4.setCell (Nat.le_refl _) _).setCell (Nat.le_refl _) _).setCell (Nat.le_refl _) _).setCell (Nat.le_refl _) _).setCell (Nat.le_refl _) _).setCell (Nat.le_refl _) _).setCell (Nat.le_refl _) _)) (Sl.nil _ 9 _) (Sl2.nil _ _)
                  | true =>
                    have hO := HO2.out
                    rw [if_neg (by decide)] at hO
                    rw [← HDL.out, ← HUSL.out, show mkT U.data.toList = U from to_list U, show mkT D.data.toList = D from to_list D, show mkT US.data.toList = US from to_list US] at hO
                    unfold witE at hO
                    have HO3 := Lib.hid hO
                    clear HO2 hO
                    have hw3 := OwnB.new #[.string U, .string US, .string D, .bool true, .slice none 0 0, .string SE, .slice none 0 0] 26 hb3
                    have hk3c := hk3.alloc (.cells #[.string U, .string US, .string D, .bool true, .slice none 0 0, .string SE, .slice none 0 0] 26)
                    have hb3c := hb3.alloc hb3.size (.cells #[.string U, .string US, .string D, .bool true, .slice none 0 0, .string SE, .slice none 0 0] 26)
                    have c1d : (w3.alloc (.cells #[.string U, .string US, .string D, .bool true, .slice none 0 0, .string SE, .slice none 0 0] 26)).cell? ⟨ad.block, ad.off + 1, none⟩ = some (.string U) := ((Below.refl w3.heap.size w3).alloc (Nat.le_refl _) (.cells #[.string U, .string US, .string D, .bool true, .slice none 0 0, .string SE, .slice none 0 0] 26)).cell (p := ⟨ad.block, ad.off + 1, none⟩) (World.block_lt_of_cell? w3 _ c1c) |>.trans c1c
                    have hneg : w3.heap.size ≠ w.heap.size := by have := hk3.lt; omega
                    go_upto_region 35 with fail
                    generalize w3.alloc (.cells #[.string U, .string US, .string D, .bool true, .slice none 0 0, .string SE, .slice none 0 0] 26) = w4 at *
                    generalize w3.heap.size = gw at *
                    have hk4 := hk3c
                    have hb4 := hb3c
                    have hw4 := hw3
                    clear hk3c hb3c hw3 hk3 hb3 c1c
                    have hbi := fun v => rbinds_any Q v (by omega)
                    have hbad := bindsP_bad Q.data.toList
                    obtain ⟨m, bk, hmb⟩ : ∃ m k, bindsP Q.data.toList = (m, k) := ⟨_, _, rfl⟩
                    have HBZ := Lib.hid (fun (h : bk = 0) => binds_size (q := Q.data.toList) (m := m) (by rw [hmb, h]))
                    have HBN0 := Lib.hid (fun (h : bk = 0) => binds_ne (q := Q.data.toList) (m := m) (by rw [hmb, h]))
                    rw [hmb] at hbi
                    have HBI := Lib.hid hbi
                    have hO4 := HO3.out
                    rw [hmb, HSU.out] at hO4
                    simp only at hO4
                    have HO4 := Lib.hid hO4
                    clear hbi hbad HO3 hmb HSU hO4
                    go_wp2_with fail
                    refine (HBI.out _).mono ?_
                    rintro e w5 ⟨C, cc, rfl, hC, hbx⟩
                    simp only at hC
                    have hk5 := hk4.next hbx
                    have hw5 := hw4.next hbx
                    have hb5 := hb4.trans (hbx.mono hb4.size)
                    have c1e : w5.cell? ⟨ad.block, ad.off + 1, none⟩ = some (.string U) := (hbx.cell (p := ⟨ad.block, ad.off + 1, none⟩) (World.block_lt_of_cell? w4 _ c1d)).trans c1d
                    clear hk4 hw4 hb4 hbx HBI c1d
                    by_cases hbk : bk = 0
                    · subst hbk
                      obtain ⟨z1, z2⟩ := HBZ.out rfl
                      have HBN := Lib.hid (HBN0.out rfl)
                      have hO5 := HO4.out
                      rw [if_neg (by decide)] at hO5
                      have hql : Q.data.toList.length = Q.size := by simp
                      have hps := fun v (hv : Sl2 v C m) => RP.out SE S C m cc v hv (by omega) hSpz (by omega) (fun b hb => by have := z2 b hb; omega)
                      have HPS := Lib.hid hps
                      have HC := Lib.hid hC
                      have HO5 := Lib.hid hO5
                      clear HBZ HBN0 hps hC HO4 z1 z2 hql hO5
                      go_wp2_with fail
                      refine (HSP.out _).mono ?_
                      rintro e w6 ⟨rfl, rfl⟩
                      go_wp2_with fail
                      refine (HPS.out _ HC.out).mono ?_
                      rintro e w6 hso
                      obtain ⟨E, ee, l, ek, rfl, hE, hbx, hl0, hl1⟩ := so_form hso fun k hk => parse_nz hk
                      have hk6 := hk5.next hbx
                      have hw6 := hw5.next hbx
                      have hb6 := hb5.trans (hbx.mono hb5.size)
                      have hC2 := HC.out.below hbx
                      have HL0 := Lib.hid hl0
                      have HL1 := Lib.hid hl1
                      clear hk5 hw5 hb5 hbx HPS HC hso hl0 hl1 HSP
                      by_cases hek : ek = 0
                      · subst hek
                        have hO := HO5.out
                        rw [HL0.out rfl] at hO
                        simp only at hO
                        have HO6 := Lib.hid hO
                        clear hO HO5 HL0 HL1
                        have y6 := hw6.cell 6
                        have yf6 := hw6.free 6
                        have y4 := hw6.cell 4
                        have yf4 := hw6.free 4
                        simp only [List.getElem?_toArray, List.getElem?_cons_zero, List.getElem?_cons_succ] at y6 y4
                        have ha1 := sl9_ne hE hw6 (noint7 _ _ _ _ _ _ _ (by simp) (by simp) (by simp) (by simp) (by simp) (by simp) (by simp))
                        have hc3 := hC2.nostr y6 (by simp) (.slice C m.length cc)
                        have hE3 := hE.aw ha1 6 (.slice C m.length cc)
                        have hc4 := hc3.nostr ((hw6.put7_6 (.slice C m.length cc)).cell 4) (by simp) (.slice E l.length ee)
                        have hE4 := Sl9.aw hE3 ha1 4 (.slice E l.length ee)
                        have hkS := (hk6.other (Ne.symm hneg) 6 (.slice C m.length cc)).other (Ne.symm hneg) 4 (.slice E l.length ee)
                        have hwS := (hw6.put7_6 (.slice C m.length cc)).put7_4 (.slice E l.length ee)
                        have hbS := (hw6.put7_6 (.slice C m.length cc)).below (hw6.below hb6 6 (.slice C m.length cc)) 4 (.slice E l.length ee)
                        go_upto_region 45 with fail
                        generalize (w6.setCell ⟨gw, 6, none⟩ (.slice C m.length cc)).setCell ⟨gw, 4, none⟩ (.slice E l.length ee) = w7 at *
                        clear hw6 hk6 hb6 hC2 hE hc3 hE3 y6 yf6 y4 yf4 ha1
                        have ha2 := sl9_ne hE4 hkS (noint7 _ _ _ _ _ _ _ (by simp) (by simp) (by simp) (by simp) (by simp) (by simp) (by simp))
                        have hc2 := sl2_ne hc4 hkS (empty7 _ _ _) HBN.out
                        have HE4 := Lib.hid hE4
                        have HC4 := Lib.hid hc4
                        have hk7 := hkS
                        have hb7 := hbS
                        have hw7 := hwS
                        clear hE4 hc4 hkS hbS hwS
                        have y0 := hw7.cell 0
                        have y1 := hw7.cell 1
                        have y2 := hw7.cell 2
                        have y3 := hw7.cell 3
                        have y4 := hw7.cell 4
                        have y5 := hw7.cell 5
                        have y6 := hw7.cell 6
                        simp only [List.getElem?_toArray, List.getElem?_cons_zero, List.getElem?_cons_succ] at y0 y1 y2 y3 y4 y5 y6
                        have z0 := hk7.cell 0
                        have zf0 := hk7.free 0
                        have z1 := hk7.cell 1
                        have zf1 := hk7.free 1
                        have z2 := hk7.cell 2
                        have zf2 := hk7.free 2
                        have z3 := hk7.cell 3
                        have zf3 := hk7.free 3
                        have z4 := hk7.cell 4
                        have zf4 := hk7.free 4
                        have z5 := hk7.cell 5
                        have zf5 := hk7.free 5
                        have z6 := hk7.cell 6
                        have zf6 := hk7.free 6
                        simp only [List.getElem?_toArray, List.getElem?_cons_zero, List.getElem?_cons_succ] at z0 z1 z2 z3 z4 z5 z6
                        go_wp2
                        refine bodyPost_ret (results_cell2 rfl _ _ w.heap.size _ _ _ rfl (hk7.all7 _ _ _ _ _ _ _).blk Tryz.underlying26 rfl wh_info) rfl ?_
                        exact UriOut.good (v := ⟨U, US, D, true, l, SE, m⟩) (HO6.out.trans (by rw [show mkT SE.data.toList = SE from to_list SE])) ((((((((hb7.setCell (Nat.le_refl _) _).setCell (Nat.le_refl _) _).setCell (Nat.le_refl _) _).setCell (Nat.le_refl _) _).setCell (Nat.le_refl _) _).setCell (Nat.le_refl _) _).setCell (Nat.le_refl _) _)) (Sl9.aw7 (A := E) (l := l) HE4.out ha2 _ _ _ _ _ _ _) (Sl2.aw7 (A := C) (l := m) HC4.out hc2 _ _ _ _ _ _ _)
                      · have hekb : (ek == 0) = false := by simpa using hek
                        have hO := HO5.out
                        rw [HL1.out hek] at hO
                        simp only at hO
                        subst hO
                        clear HO5 HL0 HL1 hE hC2 hw6 hek
                        have z0 := hk6.cell 0
                        have zf0 := hk6.free 0
                        have z1 := hk6.cell 1
                        have zf1 := hk6.free 1
                        have z2 := hk6.cell 2
                        have zf2 := hk6.free 2
                        have z3 := hk6.cell 3
                        have zf3 := hk6.free 3
                        have z4 := hk6.cell 4
                        have zf4 := hk6.free 4
                        have z5 := hk6.cell 5
                        have zf5 := hk6.free 5
                        have z6 := hk6.cell 6
                        have zf6 := hk6.free 6
                        simp only [List.getElem?_toArray, List.getElem?_cons_zero, List.getElem?_cons_succ] at z0 z1 z2 z3 z4 z5 z6
                        go_wp2
                        refine bodyPost_ret (results_cell2 rfl _ _ w.heap.size _ _ _ rfl (hk6.all7 _ _ _ _ _ _ _).blk Tryz.underlying26 rfl wh_info) rfl ?_
                        exact UriOut.bad rfl ((((((((hb6.setCell (Nat.le_refl _) _).setCell (Nat.le_refl _) _).setCell (Nat.le_refl _) _).setCell (Nat.le_refl _) _).setCell (Nat.le_refl _) _).setCell (Nat.le_refl _) _).setCell (Nat.le_refl _) _))
                    · have hbkb : (bk == 0) = false := by simpa using hbk
                      have hO5 := HO4.out
                      rw [if_pos hbk] at hO5
                      subst hO5
                      clear HBZ HBN0 HO4 hC hw5 hbk HSP
                      have z0 := hk5.cell 0
                      have zf0 := hk5.free 0
                      have z1 := hk5.cell 1
                      have zf1 := hk5.free 1
                      have z2 := hk5.cell 2
                      have zf2 := hk5.free 2
                      have z3 := hk5.cell 3
                      have zf3 := hk5.free 3
                      have z4 := hk5.cell 4
                      have zf4 := hk5.free 4
                      have z5 := hk5.cell 5
                      have zf5 := hk5.free 5
                      have z6 := hk5.cell 6
                      have zf6 := hk5.free 6
                      simp only [List.getElem?_toArray, List.getElem?_cons_zero, List.getElem?_cons_succ] at z0 z1 z2 z3 z4 z5 z6
                      go_wp2
                      refine bodyPost_ret (results_cell2 rfl _ _ w.heap.size _ _ _ rfl (hk5.all7 _ _ _ _ _ _ _).blk Tryz.underlying26 rfl wh_info) rfl ?_
                      exact UriOut.bad rfl ((((((((hb5.setCell (Nat.le_refl _) _).setCell (Nat.le_refl _) _).setCell (Nat.le_refl _) _).setCell (Nat.le_refl _) _).setCell (Nat.le_refl _) _).setCell (Nat.le_refl _) _).setCell (Nat.le_refl _) _))
            · have hedb : (ed == 0) = false := by simpa using hed
              have hO := HO0.out
              rw [if_neg (fun h => h rfl), if_pos hed] at hO
              subst hO
              clear HO0 HNE HU HSU HSP HSE c1c hed
              have z0 := hk3.cell 0
              have zf0 := hk3.free 0
              have z1 := hk3.cell 1
              have zf1 := hk3.free 1
              have z2 := hk3.cell 2
              have zf2 := hk3.free 2
              have z3 := hk3.cell 3
              have zf3 := hk3.free 3
              have z4 := hk3.cell 4
              have zf4 := hk3.free 4
              have z5 := hk3.cell 5
              have zf5 := hk3.free 5
              have z6 := hk3.cell 6
              have zf6 := hk3.free 6
              simp only [List.getElem?_toArray, List.getElem?_cons_zero, List.getElem?_cons_succ] at z0 z1 z2 z3 z4 z5 z6
              go_wp2
              refine bodyPost_ret (results_cell2 rfl _ _ w.heap.size _ _ _ rfl (hk3.all7 _ _ _ _ _ _ _).blk Tryz.underlying26 rfl wh_info) rfl ?_
              exact UriOut.bad rfl ((((((((hb3.setCell (Nat.le_refl _) _).setCell (Nat.le_refl _) _).setCell (Nat.le_refl _) _).setCell (Nat.le_refl _) _).setCell (Nat.le_refl _) _).setCell (Nat.le_refl _) _).setCell (Nat.le_refl _) _))
          · have heub : (eu == 0) = false := by simpa using heu
            have hO := HO0.out
            rw [if_pos heu] at hO
            subst hO
            clear HO0 HNE HU HSU HSP HSE heu c1b c4b HDD
            have z0 := hk2.cell 0
            have zf0 := hk2.free 0
            have z1 := hk2.cell 1
            have zf1 := hk2.free 1
            have z2 := hk2.cell 2
            have zf2 := hk2.free 2
            have z3 := hk2.cell 3
            have zf3 := hk2.free 3
            have z4 := hk2.cell 4
            have zf4 := hk2.free 4
            have z5 := hk2.cell 5
            have zf5 := hk2.free 5
            have z6 := hk2.cell 6
            have zf6 := hk2.free 6
            simp only [List.getElem?_toArray, List.getElem?_cons_zero, List.getElem?_cons_succ] at z0 z1 z2 z3 z4 z5 z6
            go_wp2
            refine bodyPost_ret (results_cell2 rfl _ _ w.heap.size _ _ _ rfl (hk2.all7 _ _ _ _ _ _ _).blk Tryz.underlying26 rfl wh_info) rfl ?_
            exact UriOut.bad rfl ((((((((hb2.setCell (Nat.le_refl _) _).setCell (Nat.le_refl _) _).setCell (Nat.le_refl _) _).setCell (Nat.le_refl _) _).setCell (Nat.le_refl _) _).setCell (Nat.le_refl _) _).setCell (Nat.le_refl _) _))
        · have hnil : spc11 U.data.toList = [] := spc_nil.2 hu
          rw [if_pos hu] at hO
          subst hO
          rw [hnil] at HSP
          clear hnil hu HNE HSE
          go_wp2_with fail
          refine (HSP.out _).mono ?_
          rintro e w2 ⟨rfl, rfl⟩
          clear HSP
          have z0 := hk1.cell 0
          have zf0 := hk1.free 0
          have z1 := hk1.cell 1
          have zf1 := hk1.free 1
          have z2 := hk1.cell 2
          have zf2 := hk1.free 2
          have z3 := hk1.cell 3
          have zf3 := hk1.free 3
          have z4 := hk1.cell 4
          have zf4 := hk1.free 4
          have z5 := hk1.cell 5
          have zf5 := hk1.free 5
          have z6 := hk1.cell 6
          have zf6 := hk1.free 6
          simp only [List.getElem?_toArray, List.getElem?_cons_zero, List.getElem?_cons_succ] at z0 z1 z2 z3 z4 z5 z6
          go_wp2
          refine bodyPost_ret (results_cell2 rfl _ _ w.heap.size _ _ _ rfl (hk1.all7 _ _ _ _ _ _ _).blk Tryz.underlying26 rfl wh_info) rfl ?_
          exact UriOut.bad rfl ((((((((hb1.setCell (Nat.le_refl _) _).setCell (Nat.le_refl _) _).setCell (Nat.le_refl _) _).setCell (Nat.le_refl _) _).setCell (Nat.le_refl _) _).setCell (Nat.le_refl _) _).setCell (Nat.le_refl _) _))
end Go.Proofs.YtbdamneophbnnaaGreatDoor
