/- UcI. -/
import Derived.Test.YtbdamneophbnnaaGreatDoorCZ32
namespace Go.Proofs.YtbdamneophbnnaaGreatDoor
open Go.RowKit Wb
set_option maxHeartbeats 16000000 in
set_option maxRecDepth 100000 in
theorem ruparse_bad (s : ByteArray) (w : World) (h512 : ¬ 512 < s.size) (h0 q0 dc0 se0 : List UInt8) (as0 nd0 : Bool) (hc1 : Lib.cut s.data.toList [63] = (h0, q0, as0)) (hc2 : Lib.cut h0 ssl11 = (dc0, se0, nd0)) (hbd0 : bdB (pieceF 47 dc0) as0 nd0 = true) :
    Calls Tryz.prog 8 #[.string s] w (UriOut (uri11 s.data.toList) w) := by
  have hsl : s.data.toList.length = s.size := by simp
  obtain ⟨o, ho⟩ : ∃ o, uri11 s.data.toList = o := ⟨_, rfl⟩
  rw [ho]
  have hk0 := OwnB.new0 w #[.string ⟨#[]⟩, .string ⟨#[]⟩, .string ⟨#[]⟩, .bool false, .slice none 0 0, .string ⟨#[]⟩, .slice none 0 0] 26
  have hb0 := (Below.refl w.heap.size w).alloc (Nat.le_refl _) (.cells #[.string ⟨#[]⟩, .string ⟨#[]⟩, .string ⟨#[]⟩, .bool false, .slice none 0 0, .string ⟨#[]⟩, .slice none 0 0] 26)
  have HBD0 := Lib.hid hbd0
  clear hbd0
  have i1 : ¬ (512 : Int) < s.size := by omega
  have HX1 := Lib.hid (fun v => index_any s ⟨#[63]⟩ 0 v (by omega) (by decide) (by omega))
  have HNE := Lib.hid (fun v (h : o = .ok v) => uri_ne (ho.trans h))
  have HUF := Lib.hid (fun h q doc sel asked node h1 h2 hf => (uri_form (s := s.data.toList) (h := h) (q := q) (doc := doc) (sel := sel) (asked := asked) (node := node) h1 h2 (by omega) hf).symm.trans ho)
  have HFI := Lib.hid (fun h q doc sel asked node u d x h1 h2 hf ha => ho.symm.trans (uri_fin (s := s.data.toList) (h := h) (q := q) (doc := doc) (sel := sel) (asked := asked) (node := node) (u := u) (d := d) (x := x) h1 h2 (by omega) hf ha))
  have hs512 : s.size ≤ 512 := by omega
  clear ho h512 hsl
  go_enter Tryz.func8, Tryz.ntmps8
  go_upto_region 1 with fail
  generalize w.alloc (.cells #[.string ⟨#[]⟩, .string ⟨#[]⟩, .string ⟨#[]⟩, .bool false, .slice none 0 0, .string ⟨#[]⟩, .slice none 0 0] 26) = w0 at *
  go_wp2_with fail
  refine (HX1.out _).mono ?_
  rintro e w1 ⟨re, rfl, hre, rfl⟩
  have HRE := Lib.hid hre
  clear HX1 hre
  go_upto_if 27 with fail
  go_cut [0, 4, 5] (fun v0 v4 v5 wx => ∃ (H Q : ByteArray) (asked : Bool), v0 = .string H ∧ v4 = .string Q ∧ v5 = .bool asked ∧ H.size ≤ 512 ∧ Q.size ≤ 512 ∧ Hid (Lib.cut s.data.toList [63] = (H.data.toList, Q.data.toList, asked)) ∧ Hid (wx = w0))
  case first =>
    as_aux_lemma =>
      by_cases hr : re < 0
      · have hc := cut_idx_no (by decide) HRE.out hr
        have hcx : Hid (Lib.cut s.data.toList [63] = (s.data.toList, (⟨#[]⟩ : ByteArray).data.toList, false)) := Lib.hid hc
        have hr0 : ¬ (0 : Int) ≤ re := by omega
        clear hc HRE HUF HFI HNE hk0 hb0
        go_wp2
        go_meet
        case rel => exact ⟨s, ⟨#[]⟩, false, rfl, rfl, rfl, hs512, by decide, hcx, Lib.hid rfl⟩
      · obtain ⟨k, rfl⟩ : ∃ k : Nat, re = k := ⟨re.toNat, by omega⟩
        obtain ⟨hk1, hc⟩ := cut_idx (t := ⟨#[63]⟩) (by decide) HRE.out
        have hk2 : k + 1 ≤ s.size := hk1
        obtain ⟨H, hH⟩ : ∃ H, s.extract 0 k = H := ⟨_, rfl⟩
        obtain ⟨Q, hQ⟩ : ∃ Q, s.extract (k + 1) s.size = Q := ⟨_, rfl⟩
        have hHz : H.size ≤ 512 := by rw [← hH]; simp; omega
        have hQz : Q.size ≤ 512 := by rw [← hQ]; simp; omega
        have hcx : Hid (Lib.cut s.data.toList [63] = (H.data.toList, Q.data.toList, true)) := Lib.hid (by
          rw [← hH, ← hQ]
          exact hc)
        have w1 : IntKind.i64.wrap ((k : Int) + 1) = ((k + 1 : Nat) : Int) := by rw [IntKind.wrap_i64]; omega
        have b1 : (0 : Int) ≤ (k : Int) := by omega
        have b2 : (k : Int) ≤ (s.size : Int) := by omega
        have b3 : ((k + 1 : Nat) : Int) ≤ (s.size : Int) := by omega
        clear hc HRE HUF HFI HNE hk0 hb0 hr hk1
        go_wp2
        go_meet
        case rel => exact ⟨H, Q, true, rfl, rfl, rfl, hHz, hQz, hcx, Lib.hid rfl⟩
  case rest =>
    obtain ⟨H, Q, asked, rfl, rfl, rfl, hHz, hQz, HC1, hcut⟩ := hcut
    obtain rfl := hcut.out
    rename World => w0
    clear hcut HRE
    have HX2 := Lib.hid (fun v => index_any H ⟨#[47, 126, 126, 47]⟩ 0 v (by omega) (by decide) (by omega))
    go_wp2_with fail
    refine (HX2.out _).mono ?_
    rintro e w1 ⟨re, rfl, hre, rfl⟩
    have HRE := Lib.hid hre
    clear HX2 hre
    go_upto_if 38 with fail
    go_cut [0, 7, 8] (fun v0 v7 v8 wx => ∃ (DC SE : ByteArray) (node : Bool), v0 = .string DC ∧ v7 = .string SE ∧ v8 = .bool node ∧ DC.size ≤ 512 ∧ SE.size ≤ 512 ∧ Hid (node = false → SE = ⟨#[]⟩) ∧ Hid (Lib.cut H.data.toList ssl11 = (DC.data.toList, SE.data.toList, node)) ∧ Hid (wx = w0))
    case first =>
      as_aux_lemma =>
        by_cases hr : re < 0
        · have hc := cut_idx_no (by decide) HRE.out hr
          have hcx : Hid (Lib.cut H.data.toList ssl11 = (H.data.toList, (⟨#[]⟩ : ByteArray).data.toList, false)) := Lib.hid hc
          have hr0 : ¬ (0 : Int) ≤ re := by omega
          clear hc HRE HUF HFI HNE hk0 hb0
          go_wp2
          go_meet
          case rel => exact ⟨H, ⟨#[]⟩, false, rfl, rfl, rfl, hHz, by decide, Lib.hid (fun _ => rfl), hcx, Lib.hid rfl⟩
        · obtain ⟨k, rfl⟩ : ∃ k : Nat, re = k := ⟨re.toNat, by omega⟩
          obtain ⟨hk1, hc⟩ := cut_idx (t := ⟨#[47, 126, 126, 47]⟩) (by decide) HRE.out
          have hk2 : k + 4 ≤ H.size := hk1
          obtain ⟨DC, hDC⟩ : ∃ X, H.extract 0 k = X := ⟨_, rfl⟩
          obtain ⟨SE, hSE⟩ : ∃ X, H.extract (k + 4) H.size = X := ⟨_, rfl⟩
          have hDz : DC.size ≤ 512 := by rw [← hDC]; simp; omega
          have hSz : SE.size ≤ 512 := by rw [← hSE]; simp; omega
          have hcx : Hid (Lib.cut H.data.toList ssl11 = (DC.data.toList, SE.data.toList, true)) := Lib.hid (by
            rw [← hDC, ← hSE]
            exact hc)
          have hnt : Hid (true = false → SE = ⟨#[]⟩) := Lib.hid (fun h => by cases h)
          have w1 : IntKind.i64.wrap ((k : Int) + 4) = ((k + 4 : Nat) : Int) := by rw [IntKind.wrap_i64]; omega
          have b1 : (0 : Int) ≤ (k : Int) := by omega
          have b2 : (k : Int) ≤ (H.size : Int) := by omega
          have b3 : ((k + 4 : Nat) : Int) ≤ (H.size : Int) := by omega
          clear hc HRE HUF HFI HNE hk0 hb0 hr hk1
          go_wp2
          go_meet
          case rel => exact ⟨DC, SE, true, (by first | rfl | rw [hDC]), (by first | rfl | rw [hSE]), rfl, hDz, hSz, hnt, hcx, Lib.hid rfl⟩
    case rest =>
      obtain ⟨DC, SE, node, rfl, rfl, rfl, hDz, hSz, HSE, HC2, hcut⟩ := hcut
      obtain rfl := hcut.out
      rename World => w0
      clear hcut HRE
      have HPP := Lib.hid (rpieces_any DC 47 w0 (by omega))
      have hpm := pcs_map DC
      have HPZ := Lib.hid (pcs_z (s := DC))
      have hpne : 0 < (pcsB 47 DC).length := by
        unfold pcsB
        rw [List.length_map]
        exact List.length_pos_iff.2 (pieceA_ne _ _ _)
      obtain ⟨hl1, hl2, hl3⟩ := cut_link hc1 hc2 HC1.out HC2.out
      have hBD := HBD0.out
      rw [hl1, hl2, hl3, hpm] at hBD
      have HUF2 := Lib.hid (HUF.out _ _ _ _ _ _ HC1.out HC2.out)
      have HFI2 := Lib.hid (fun u d x => HFI.out _ _ _ _ _ _ u d x HC1.out HC2.out)
      rw [hpm] at HUF2 HFI2
      clear HUF HFI HC1 HC2 hpm hl1 hl2 hl3 hc1 hc2 HBD0
      generalize pcsB 47 DC = L at *
      go_wp2_with fail
      refine HPP.out.mono ?_
      rintro e w1 ⟨v1, rfl, hown1, hbx⟩
      obtain ⟨PA, pc, rfl⟩ := own_shape hown1
      have hP1 : Sl1 w1 PA L := Sl.of_own hown1
      have hk1 := hk0.next hbx
      have hb1 := hb0.trans (hbx.mono hb0.size)
      clear HPP hown1 hk0 hb0 hbx
      obtain ⟨ad, rfl, hc0, hck⟩ := pc_at hP1 hpne
      have HP := Lib.hid hP1
      have HK := Lib.hid hck
      clear hP1 hck
      obtain ⟨gl, hgl⟩ : ∃ b, glB (L.map fun x => x.data.toList) = b := ⟨_, rfl⟩
      obtain ⟨bd, hbd⟩ : ∃ b, bdB (L.map fun x => x.data.toList) asked node = b := ⟨_, rfl⟩
      have HBT := Lib.hid (hbd.symm.trans hBD)
      clear hBD
      have HGL := Lib.hid hgl
      have HBD := Lib.hid hbd
      clear hgl hbd
      go_upto_region 18 with fail
      go_cut [11] (fun v11 wx => v11 = .bool gl ∧ Hid (wx = w1))
      case first =>
        as_aux_lemma =>
          have hg := HGL.out
          rw [gl_ba] at hg
          by_cases h4 : L.length = 4
          · obtain ⟨a, b, c, d, rfl⟩ : ∃ a b c d, L = [a, b, c, d] := by
              match L, h4 with
              | [a, b, c, d], _ => exact ⟨a, b, c, d, rfl⟩
            have c2 : w1.cell? ⟨ad.block, ad.off + 2, none⟩ = some (.string c) := HK.out 2 c (by decide) rfl
            have hg2 : decide (c.data.toList = sGlob) = gl := by rw [← hg]; simp
            have hcg : (c.toList == [103, 108, 111, 98, 97, 108]) = gl := by
              rw [← hg2, ByteArray.toList_eq, Bool.eq_iff_iff, beq_iff_eq, decide_eq_true_eq]
              exact Iff.rfl
            clear hg2
            clear hg HGL HBD HUF2 HFI2 HNE HP HK hk1 hb1 h4 HPZ hc0
            go_wp2
            go_meet
            case rel => exact ⟨by first | rfl | rw [hcg], Lib.hid rfl⟩
          · obtain rfl : false = gl := by rw [← hg, decide_eq_false h4]; rfl
            have hl4 : ((L.length : Int) == 4) = false := by rw [beq_eq_false_iff_ne]; omega
            clear hg HGL HBD HUF2 HFI2 HNE HP HK hk1 hb1 h4 HPZ hc0
            go_wp2
            go_meet
            case rel => exact ⟨rfl, Lib.hid rfl⟩
      case rest =>
        obtain ⟨rfl, hcut⟩ := hcut
        obtain rfl := hcut.out
        rename World => w1
        clear hcut
        go_upto_region 19 with fail
        go_cut [82] (fun v82 wx => v82 = .bool bd ∧ Hid (wx = w1))
        case first =>
          as_aux_lemma =>
            have hb := HBD.out
            have hg := HGL.out
            unfold bdB at hb
            rw [hg, List.length_map, List.getElem?_map, List.getElem?_map] at hb
            obtain ⟨a, ha0⟩ : ∃ a, L[0]? = some a := ⟨L[0], List.getElem?_eq_getElem hpne⟩
            have c0 : w1.cell? ad = some (.string a) := hc0 a ha0
            have hln : (0 : Int) < (L.length : Int) := by omega
            rw [ha0] at hb
            simp only [Option.map_some, Option.some.injEq] at hb
            clear ha0
            by_cases ha : a = ⟨#[]⟩
            · subst ha
              rw [decide_eq_true (show (⟨#[]⟩ : ByteArray).data.toList = [] from rfl), Bool.not_true, Bool.false_or] at hb
              by_cases han : (asked && !node) = true
              · rw [han, Bool.true_or] at hb
                subst hb
                obtain ⟨rfl, rfl⟩ := an_true han
                clear hg HGL HBD HUF2 HFI2 HNE HP HK hk1 hb1 HPZ hc0 HSE han hpne
                cases gl
                all_goals
                  go_wp2
                  go_meet
                  case rel => exact ⟨rfl, Lib.hid rfl⟩
              · have han : (asked && !node) = false := by simpa using han
                rw [han, Bool.false_or] at hb
                have hanc := an_false han
                have hfin := fin_cs hb
                clear hb
                rcases hfin with ⟨rfl, rfl⟩ | ⟨rfl, h5, rfl⟩ | ⟨rfl, h5, x2, hx2, hq2⟩
                · cases HBT.out
                · have hl5 : ((L.length : Int) == 5) = false := by rw [beq_eq_false_iff_ne]; omega
                  have hl5b : ((L.length : Int) != 5) = true := by rw [bne_iff_ne]; omega
                  clear hg HGL HBD HUF2 HFI2 HNE HP HK hk1 hb1 HPZ hc0 HSE han h5 hpne
                  rcases hanc with rfl | ⟨rfl, rfl⟩
                  all_goals
                    go_wp2
                    go_meet
                    case rel => exact ⟨rfl, Lib.hid rfl⟩
                · have c2 : w1.cell? ⟨ad.block, ad.off + 2, none⟩ = some (.string x2) := HK.out 2 x2 (by decide) hx2
                  have hl5 : ((L.length : Int) == 5) = true := by rw [beq_iff_eq]; omega
                  have hl5b : ((L.length : Int) != 5) = false := by rw [bne, hl5]; rfl
                  have hl2 : (2 : Int) < (L.length : Int) := by omega
                  clear hg HGL HBD HUF2 HFI2 HNE HP HK hk1 hb1 HPZ hc0 HSE han h5 hx2 hpne
                  obtain rfl := HBT.out
                  clear HBT
                  rcases hanc with rfl | ⟨rfl, rfl⟩
                  all_goals
                    go_wp2
                    go_meet
                    case rel => exact ⟨rfl, Lib.hid rfl⟩
            · have hae := emp_false ha
              have hal : ¬ a.data.toList = [] := fun e => ha ((lst_nil a).1 e)
              rw [decide_eq_false hal, Bool.not_false, Bool.true_or] at hb
              subst hb
              clear hg HGL HBD HUF2 HFI2 HNE HP HK hk1 hb1 HPZ hc0 HSE hal hpne ha
              cases gl <;> cases asked <;> cases node
              all_goals
                go_wp2
                go_meet
                case rel => exact ⟨rfl, Lib.hid rfl⟩
        case rest =>
          obtain ⟨rfl, hcut⟩ := hcut
          obtain rfl := hcut.out
          rename World => w1
          clear hcut
          obtain rfl := HBT.out
          have hO := HUF2.out (bd_true HBD.out)
          subst hO
          clear HGL HBD HUF2 HFI2 HNE HP HK HPZ hc0 HSE HBT
          have z0 := hk1.cell 0
          have zf0 := hk1.free 0
          have z1 := hk1.cell 1
          have zf1 := hk1.free 1
          have z2 := hk1.cell 2
          have zf2 := hk1.free 2
          have z3 := hk1.cell 3
          have zf3 := hk1.free 3
          have z4 := hk1.cell 4
          have zf4 := hk1.free 4
          have z5 := hk1.cell 5
          have zf5 := hk1.free 5
          have z6 := hk1.cell 6
          have zf6 := hk1.free 6
          simp only [List.getElem?_toArray, List.getElem?_cons_zero, List.getElem?_cons_succ] at z0 z1 z2 z3 z4 z5 z6
          go_wp2
          refine bodyPost_ret (results_cell2 rfl _ _ w.heap.size _ _ _ rfl (hk1.all7 _ _ _ _ _ _ _).blk Tryz.underlying26 rfl wh_info) rfl ?_
          exact UriOut.bad rfl ((((((((hb1.setCell (Nat.le_refl _) _).setCell (Nat.le_refl _) _).setCell (Nat.le_refl _) _).setCell (Nat.le_refl _) _).setCell (Nat.le_refl _) _).setCell (Nat.le_refl _) _).setCell (Nat.le_refl _) _))
end Go.Proofs.YtbdamneophbnnaaGreatDoor
