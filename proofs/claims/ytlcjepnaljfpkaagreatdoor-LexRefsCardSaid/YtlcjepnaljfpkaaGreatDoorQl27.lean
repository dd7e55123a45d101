/- LdB. -/
import Derived.Test.YtlcjepnaljfpkaaGreatDoorQl26
namespace Go.Proofs.YtlcjepnaljfpkaaGreatDoor
open Go.RowKit Wb
theorem toldX_len (s name other : List UInt8) (ho : other.length ≤ 10) : (toldX s name other).1.length ≤ s.length + 10 ∧ (toldX s name other).2.length ≤ s.length := by
  have hd : ∀ l : List UInt8, (l.dropWhile blkB).length ≤ l.length := fun l => (List.dropWhile_sublist _).length_le
  have h0 := hd s
  have h1 := hd ((s.dropWhile blkB).drop name.length)
  have h2 := hd ((((s.dropWhile blkB).drop name.length).dropWhile blkB).drop 1)
  unfold toldX
  simp only
  repeat' split
  all_goals try (constructor <;> (simp only [List.length_drop] at *; omega))
  rename_i q r3 hq _ _ n v hu
  have hu' := untilR_le hu
  rw [hq] at h2
  simp only [List.length_cons, List.length_drop] at *
  constructor
  · omega
  · omega
theorem told_b (s name other : ByteArray) (w : World) (hG : Gv w) (hs : s.size ≤ 1000000) :
    ∃ (v y : ByteArray), toldX s.data.toList name.data.toList other.data.toList = (v.data.toList, y.data.toList) ∧ Calls Tryz.prog 64 #[.string s, .string name, .string other] w fun e w' => e = .returned (.tuple #[.string v, .string y]) ∧ Below w.heap.size w w' :=
  ⟨⟨(toldX s.data.toList name.data.toList other.data.toList).1.toArray⟩, ⟨(toldX s.data.toList name.data.toList other.data.toList).2.toArray⟩, rfl, told_any s name other w hG hs⟩
set_option maxRecDepth 100000 in
set_option maxHeartbeats 2000000 in
theorem declaration_any (D : Nat) (s : ByteArray) (w : World) (h : DocW w D s 0 0) (hG : Gv w) (hs : s.size ≤ 900000) :
    Calls Tryz.prog 39 #[.pointer (some ⟨D, 0, none⟩)] w fun e w' => UnitOut D s 0 (declX s.data.toList) w e w' := by
  obtain ⟨r, hr⟩ : ∃ r, declX s.data.toList = r := ⟨_, rfl⟩
  rw [hr]
  unfold declX at hr
  simp only at hr
  have c0 := h.c0
  have back : r = .ok 0 → UnitOut D s 0 r w (.returned (.tuple #[])) w := fun e => by subst e; exact ⟨Keeps.refl D w, rfl, h⟩
  have HD := Lib.hid h
  clear h
  by_cases e1 : s.data.toList.take 5 = [60, 63, 120, 109, 108]
  · have hcp := cutpre_any s ⟨#[60, 63, 120, 109, 108]⟩ w true (by rw [pre_dec _ _ 5 rfl, decide_eq_true e1])
    rw [if_pos rfl] at hcp
    obtain ⟨y, hy⟩ : ∃ z : ByteArray, (⟨(s.data.toList.drop 5).toArray⟩ : ByteArray) = z := ⟨_, rfl⟩
    have hyl : y.data.toList = s.data.toList.drop 5 := by rw [← hy]
    rw [show (⟨#[60, 63, 120, 109, 108]⟩ : ByteArray).size = 5 from rfl, hy] at hcp
    rw [← hyl] at hr
    have hys : y.size ≤ 900000 := by
      rw [Lib.size_eq, hyl, List.length_drop, ← Lib.size_eq]; omega
    have hysz : y.size ≤ s.size := by
      rw [Lib.size_eq, Lib.size_eq, hyl, List.length_drop]; omega
    clear hy hyl
    cases hyd : y.data.toList with
    | nil =>
      rw [hyd, if_neg (by simp)] at hr
      have z0 : y.toList = [] := by rw [ByteArray.toList_eq]; exact hyd
      have z1 : y.toList.isEmpty = true := by rw [ByteArray.toList_eq, hyd]; rfl
      have HB := Lib.hid (back hr.symm)
      clear back hr e1 hyd
      go_enter Tryz.func39, Tryz.ntmps39
      go_wp2_with fail
      refine hcp.mono ?_
      rintro e w1 ⟨rfl, rfl⟩
      go_wp2
      go_end0
      exact HB.out
    | cons c q =>
      obtain ⟨h00, y0⟩ := head_ba hyd
      have z0 : ¬ y.toList = [] := by rw [ByteArray.toList_eq, hyd]; simp
      have z1 : y.toList.isEmpty = false := by rw [ByteArray.toList_eq, hyd]; rfl
      have hbl := blankC c w
      cases hbc : blkB c with
      | false =>
        rw [hyd, if_neg (by simp [hbc])] at hr
        have HB := Lib.hid (back hr.symm)
        rw [hbc] at hbl
        clear back hr e1 hyd hbc
        go_enter Tryz.func39, Tryz.ntmps39
        go_wp2_with fail
        refine hcp.mono ?_
        rintro e w1 ⟨rfl, rfl⟩
        go_wp2_with fail
        refine hbl.mono ?_
        rintro e w1 ⟨rfl, rfl⟩
        go_wp2
        go_end0
        exact HB.out
      | true =>
        rw [if_pos ⟨e1, by rw [hyd]; simp [hbc]⟩] at hr
        rw [hbc] at hbl
        obtain ⟨v1, y1, ht1, hc1⟩ := told_b y ⟨#[118, 101, 114, 115, 105, 111, 110]⟩ ⟨#[]⟩ w hG (by omega)
        change toldX y.data.toList sVersion [] = _ at ht1
        have l1 := toldX_len y.data.toList sVersion [] (by simp)
        rw [ht1] at hr l1
        simp only at hr l1
        rw [← Lib.size_eq, ← Lib.size_eq, ← Lib.size_eq] at l1
        have HT2 := Lib.hid fun w2 (hg : Gv w2) => told_b y1 ⟨#[101, 110, 99, 111, 100, 105, 110, 103]⟩ ⟨#[117, 116, 102, 45, 56]⟩ w2 hg (by omega)
        have HR := Lib.hid hr
        clear back hr e1 hyd hbc ht1
        go_enter Tryz.func39, Tryz.ntmps39
        go_wp2_with fail
        refine hcp.mono ?_
        rintro e w1 ⟨rfl, rfl⟩
        go_wp2_with fail
        refine hbl.mono ?_
        rintro e w1 ⟨rfl, rfl⟩
        go_wp2_with fail
        refine hc1.mono ?_
        rintro e w2 ⟨rfl, hb2⟩
        have HK := Lib.hid hb2
        have hG2 := hG.next hb2
        obtain ⟨v2, y2, ht2, hc2⟩ := HT2.out w2 hG2
        change toldX y1.data.toList sEncoding sUtf8 = _ at ht2
        have l2 := toldX_len y1.data.toList sEncoding sUtf8 (by decide)
        have hr := HR.out
        rw [ht2] at hr l2
        simp only at hr l2
        rw [← Lib.size_eq, ← Lib.size_eq, ← Lib.size_eq] at l2
        have HR := Lib.hid hr
        clear hr ht2 HT2 hc1 hbl hcp hb2
        go_wp2_with fail
        refine hc2.mono ?_
        rintro e w3 ⟨rfl, hb3⟩
        have HK := Lib.hid (HK.out.trans (hb3.mono HK.out.size))
        have hG3 := hG2.next hb3
        obtain ⟨v3, y3, ht3, hc3⟩ := told_b y2 ⟨#[115, 116, 97, 110, 100, 97, 108, 111, 110, 101]⟩ ⟨#[110, 111]⟩ w3 hG3 (by omega)
        change toldX y2.data.toList sStandalone sNo = _ at ht3
        have l3 := toldX_len y2.data.toList sStandalone sNo (by decide)
        have hr := HR.out
        rw [ht3] at hr l3
        simp only at hr l3
        rw [← Lib.size_eq, ← Lib.size_eq, ← Lib.size_eq] at l3
        have HR := Lib.hid hr
        clear hr ht3 hc2 hb3
        go_wp2_with fail
        refine hc3.mono ?_
        rintro e w4 ⟨rfl, hb4⟩
        have HK := Lib.hid (HK.out.trans (hb4.mono HK.out.size))
        have hG4 := hG3.next hb4
        have hd4 := HD.out.below HK.out
        have hsk := skip_any y3 w4 (by omega)
        obtain ⟨z, hz⟩ : ∃ z : ByteArray, (⟨(y3.data.toList.dropWhile blkB).toArray⟩ : ByteArray) = z := ⟨_, rfl⟩
        have hzl : z.data.toList = y3.data.toList.dropWhile blkB := by rw [← hz]
        have hr := HR.out
        rw [hz] at hsk
        rw [← hzl] at hr
        have hzs : z.size ≤ y3.size := by
          rw [Lib.size_eq, Lib.size_eq, hzl]
          exact (List.dropWhile_sublist _).length_le
        have bad : r = .error (0, 4) → ∀ w', Keeps D w w' → UnitOut D s 0 r w (.panicked [flt 0 4]) w' := fun e w' hk => by rw [e]; exact ⟨hk, rfl⟩
        have HC := Lib.hid hd4
        have c04 := hd4.c0
        have c24 := hd4.c2
        have f24 := hd4.f 2
        clear hd4 hz hzl HR hc3 hb4 c0
        obtain ⟨bc, hbc⟩ : ∃ b, decide (z.data.toList.take 2 = [63, 62]) = b := ⟨_, rfl⟩
        have hcz := cutpre_any z ⟨#[63, 62]⟩ w4 bc (by rw [pre_dec _ _ 2 rfl, hbc])
        obtain ⟨zz, hzz⟩ : ∃ zz : ByteArray, (⟨(if bc = true then z.data.toList.drop (⟨#[63, 62]⟩ : ByteArray).size else z.data.toList).toArray⟩ : ByteArray) = zz := ⟨_, rfl⟩
        rw [hzz] at hcz
        have HZZ := Lib.hid hzz
        have HBC := Lib.hid hbc
        have HR := Lib.hid hr
        clear hzz hbc hr
        go_wp2_with fail
        refine hsk.mono ?_
        rintro e w5 ⟨rfl, rfl⟩
        go_wp2_with fail
        refine hcz.mono ?_
        rintro e w6 ⟨rfl, rfl⟩
        clear hsk hcz
        by_cases hv : v1.data.toList = sOne
        · have g1 : v1.toList = [49, 46, 48] := by rw [ByteArray.toList_eq]; exact hv
          have hef := eqf_any v2 ⟨#[117, 116, 102, 45, 56]⟩ w4 hG4 (by omega) (by decide) (by decide)
          change Calls _ _ _ _ (fun e w' => e = .returned (.bool (decide (lowL v2.data.toList = sUtf8))) ∧ Below w4.heap.size w4 w') at hef
          by_cases he : lowL v2.data.toList = sUtf8
          · rw [decide_eq_true he] at hef
            go_wp2_with fail
            refine hef.mono ?_
            rintro e w7 ⟨rfl, hb7⟩
            replace HK := Lib.hid (HK.out.trans (hb7.mono HK.out.size))
            replace HC := Lib.hid (HC.out.below hb7)
            clear hb7 hef c04 c24 f24
            have hD7 := HC.out
            have c07 := hD7.c0
            have c27 := hD7.c2
            have f27 := hD7.f 2
            by_cases ha : v3.data.toList = sYes
            · have g2 : v3.toList = [121, 101, 115] := by rw [ByteArray.toList_eq]; exact ha
              cases bc with
              | true =>
                have hr := HR.out
                have h4 := of_decide_eq_true HBC.out
                rw [if_pos ⟨hv, he, .inl ha, h4⟩] at hr
                have hzz := HZZ.out
                rw [if_pos rfl] at hzz
                have hzs2 : zz.size = z.data.toList.length - 2 := by rw [← hzz, ba_len, List.length_drop]; rfl
                have hzl : z.data.toList.length = z.size := (Lib.size_eq z).symm
                have g7 : (zz.size : Int) ≤ 900000 := by omega
                have g8 : (s.size : Int) ≤ 900000 := by omega
                have HW := Lib.hid (show (s.size : Int) - (zz.size : Int) = ((s.data.toList.length - (z.data.toList.length - 2) : Nat) : Int) by rw [← Lib.size_eq s]; omega)
                have HR3 := Lib.hid hr
                clear hr hzz h4 hzs2 hzl bad
                go_wp2
                go_end0
                rw [← HR3.out]
                exact ⟨(Keeps.of_below HK.out).setCell 2 _, rfl, HC.out.set2' HW.out⟩
              | false =>
                have hr := HR.out
                have h4 := of_decide_eq_false HBC.out
                rw [if_neg (fun h => h4 h.2.2.2)] at hr
                clear h4
                have HB := Lib.hid (bad hr.symm)
                clear bad hr
                go_wp2_with fail
                refine (fail_any 0 4 _).mono ?_
                rintro e w8 ⟨rfl, rfl⟩
                exact ⟨rfl, HB.out _ (Keeps.of_below HK.out)⟩
            · have g2 : ¬ v3.toList = [121, 101, 115] := by rw [ByteArray.toList_eq]; exact ha
              by_cases hn : v3.data.toList = sNo
              · have g3 : v3.toList = [110, 111] := by rw [ByteArray.toList_eq]; exact hn
                cases bc with
                | true =>
                  have hr := HR.out
                  have h4 := of_decide_eq_true HBC.out
                  rw [if_pos ⟨hv, he, .inr hn, h4⟩] at hr
                  have hzz := HZZ.out
                  rw [if_pos rfl] at hzz
                  have hzs2 : zz.size = z.data.toList.length - 2 := by rw [← hzz, ba_len, List.length_drop]; rfl
                  have hzl : z.data.toList.length = z.size := (Lib.size_eq z).symm
                  have g7 : (zz.size : Int) ≤ 900000 := by omega
                  have g8 : (s.size : Int) ≤ 900000 := by omega
                  have HW := Lib.hid (show (s.size : Int) - (zz.size : Int) = ((s.data.toList.length - (z.data.toList.length - 2) : Nat) : Int) by rw [← Lib.size_eq s]; omega)
                  have HR3 := Lib.hid hr
                  clear hr hzz h4 hzs2 hzl bad
                  go_wp2
                  go_end0
                  rw [← HR3.out]
                  exact ⟨(Keeps.of_below HK.out).setCell 2 _, rfl, HC.out.set2' HW.out⟩
                | false =>
                  have hr := HR.out
                  have h4 := of_decide_eq_false HBC.out
                  rw [if_neg (fun h => h4 h.2.2.2)] at hr
                  clear h4
                  have HB := Lib.hid (bad hr.symm)
                  clear bad hr
                  go_wp2_with fail
                  refine (fail_any 0 4 _).mono ?_
                  rintro e w8 ⟨rfl, rfl⟩
                  exact ⟨rfl, HB.out _ (Keeps.of_below HK.out)⟩
              · have g3 : ¬ v3.toList = [110, 111] := by rw [ByteArray.toList_eq]; exact hn
                have hr := HR.out
                rw [if_neg (fun h => h.2.2.1.elim ha hn)] at hr
                have HB := Lib.hid (bad hr.symm)
                clear bad hr
                go_wp2_with fail
                refine (fail_any 0 4 _).mono ?_
                rintro e w8 ⟨rfl, rfl⟩
                exact ⟨rfl, HB.out _ (Keeps.of_below HK.out)⟩
          · rw [decide_eq_false he] at hef
            have hr := HR.out
            rw [if_neg (fun h => he h.2.1)] at hr
            have HB := Lib.hid (bad hr.symm)
            clear bad hr he
            go_wp2_with fail
            refine hef.mono ?_
            rintro e w7 ⟨rfl, hb7⟩
            replace HK := Lib.hid (HK.out.trans (hb7.mono HK.out.size))
            clear hb7 hef c04 c24 f24
            go_wp2_with fail
            refine (fail_any 0 4 _).mono ?_
            rintro e w8 ⟨rfl, rfl⟩
            exact ⟨rfl, HB.out _ (Keeps.of_below HK.out)⟩
        · have g1 : ¬ v1.toList = [49, 46, 48] := by rw [ByteArray.toList_eq]; exact hv
          have hr := HR.out
          rw [if_neg (fun h => hv h.1)] at hr
          have HB := Lib.hid (bad hr.symm)
          clear bad hr hv
          go_wp2_with fail
          refine (fail_any 0 4 _).mono ?_
          rintro e w8 ⟨rfl, rfl⟩
          exact ⟨rfl, HB.out _ (Keeps.of_below HK.out)⟩
  · have hcp := cutpre_any s ⟨#[60, 63, 120, 109, 108]⟩ w false (by rw [pre_dec _ _ 5 rfl, decide_eq_false e1])
    rw [if_neg (by decide), ba_eq] at hcp
    rw [if_neg (fun h => e1 h.1)] at hr
    have HB := Lib.hid (back hr.symm)
    clear back hr e1
    go_enter Tryz.func39, Tryz.ntmps39
    go_wp2_with fail
    refine hcp.mono ?_
    rintro e w1 ⟨rfl, rfl⟩
    go_wp2
    go_end0
    exact HB.out
end Go.Proofs.YtlcjepnaljfpkaaGreatDoor
