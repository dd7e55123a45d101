
/- Contract: declaration. -/
import Derived.Test.YtflfnnkdkfcpkaaGreatDoorMgB
import Derived.Test.YtflfnnkdkfcpkaaGreatDoorLxS
namespace Go.Proofs.YtflfnnkdkfcpkaaGreatDoor
open Go.RowKit Wb

theorem toldX_len (s name other : List UInt8) (ho : other.length ≤ 10) : (toldX s name other).1.length ≤ s.length + 10 ∧ (toldX s name other).2.length ≤ s.length := by
  have hd : ∀ l : List UInt8, (l.dropWhile blkB).length ≤ l.length := fun l => (List.dropWhile_sublist _).length_le
  have h0 := hd s
  have h1 := hd ((s.dropWhile blkB).drop name.length)
  have h2 := hd ((((s.dropWhile blkB).drop name.length).dropWhile blkB).drop 1)
  unfold toldX
  simp only
  repeat' split
  all_goals try (constructor <;> (simp only [List.length_drop] at *; omega))
  rename_i q r3 hq _ _ n v hu
  have hu' := untilR_le hu
  rw [hq] at h2
  simp only [List.length_cons, List.length_drop] at *
  constructor
  · omega
  · omega

theorem told_b (s name other : ByteArray) (w : World) (hG : Gv w) (hs : s.size ≤ 1000000) :
    ∃ (v y : ByteArray), toldX s.data.toList name.data.toList other.data.toList = (v.data.toList, y.data.toList) ∧ Calls Tryz.prog 65 #[.string s, .string name, .string other] w fun e w' => e = .returned (.tuple #[.string v, .string y]) ∧ Below w.heap.size w w' :=
  ⟨⟨(toldX s.data.toList name.data.toList other.data.toList).1.toArray⟩, ⟨(toldX s.data.toList name.data.toList other.data.toList).2.toArray⟩, rfl, told_any s name other w hG hs⟩

set_option maxRecDepth 100000 in
set_option maxHeartbeats 2000000 in
theorem declaration_any (D : Nat) (s : ByteArray) (w : World) (h : DocW w D s 0 0) (hG : Gv w) (hs : s.size ≤ 900000) :
    Calls Tryz.prog 38 #[.pointer (some ⟨D, 0, none⟩)] w fun e w' => UnitOut D s 0 (declX s.data.toList) w e w' := by
  obtain ⟨r, hr⟩ : ∃ r, declX s.data.toList = r := ⟨_, rfl⟩
  rw [hr]
  unfold declX at hr
  simp only at hr
  have c0 := h.c0
  have back : r = .ok 0 → UnitOut D s 0 r w (.returned (.tuple #[])) w := fun e => by subst e; exact ⟨Keeps.refl D w, rfl, h⟩
  have HD := Lib.hid h
  clear h
  by_cases e1 : s.data.toList.take 5 = [60, 63, 120, 109, 108]
  · have hcp := cutpre_any s ⟨#[60, 63, 120, 109, 108]⟩ w true (by rw [pre_dec _ _ 5 rfl, decide_eq_true e1])
    rw [if_pos rfl] at hcp
    obtain ⟨y, hy⟩ : ∃ z : ByteArray, (⟨(s.data.toList.drop 5).toArray⟩ : ByteArray) = z := ⟨_, rfl⟩
    have hyl : y.data.toList = s.data.toList.drop 5 := by rw [← hy]
    rw [show (⟨#[60, 63, 120, 109, 108]⟩ : ByteArray).size = 5 from rfl, hy] at hcp
    rw [← hyl] at hr
    have hys : y.size ≤ 900000 := by
      rw [Lib.size_eq, hyl, List.length_drop, ← Lib.size_eq]; omega
    have hysz : y.size ≤ s.size := by
      rw [Lib.size_eq, Lib.size_eq, hyl, List.length_drop]; omega
    clear hy hyl
    cases hyd : y.data.toList with
    | nil =>
      rw [hyd, if_neg (by simp)] at hr
      have z0 : y.toList = [] := by rw [ByteArray.toList_eq]; exact hyd
      have z1 : y.toList.isEmpty = true := by rw [ByteArray.toList_eq, hyd]; rfl
      have HB := Lib.hid (back hr.symm)
      clear back hr e1 hyd
      go_enter Tryz.func38, Tryz.ntmps38
      go_wp2_with fail
      refine hcp.mono ?_
      rintro e w1 ⟨rfl, rfl⟩
      go_wp2
      go_end0
      exact HB.out
    | cons c q =>
      obtain ⟨h00, y0⟩ := head_ba hyd
      have z0 : ¬ y.toList = [] := by rw [ByteArray.toList_eq, hyd]; simp
      have z1 : y.toList.isEmpty = false := by rw [ByteArray.toList_eq, hyd]; rfl
      have hbl := blankC c w
      cases hbc : blkB c with
      | false =>
        rw [hyd, if_neg (by simp [hbc])] at hr
        have HB := Lib.hid (back hr.symm)
        rw [hbc] at hbl
        clear back hr e1 hyd hbc
        go_enter Tryz.func38, Tryz.ntmps38
        go_wp2_with fail
        refine hcp.mono ?_
        rintro e w1 ⟨rfl, rfl⟩
        go_wp2_with fail
        refine hbl.mono ?_
        rintro e w1 ⟨rfl, rfl⟩
        go_wp2
        go_end0
        exact HB.out
      | true =>
        rw [if_pos ⟨e1, by rw [hyd]; simp [hbc]⟩] at hr
        rw [hbc] at hbl
        obtain ⟨v1, y1, ht1, hc1⟩ := told_b y ⟨#[118, 101, 114, 115, 105, 111, 110]⟩ ⟨#[]⟩ w hG (by omega)
        change toldX y.data.toList sVersion [] = _ at ht1
        have l1 := toldX_len y.data.toList sVersion [] (by simp)
        rw [ht1] at hr l1
        simp only at hr l1
        rw [← Lib.size_eq, ← Lib.size_eq, ← Lib.size_eq] at l1
        have HT2 := Lib.hid fun w2 (hg : Gv w2) => told_b y1 ⟨#[101, 110, 99, 111, 100, 105, 110, 103]⟩ ⟨#[117, 116, 102, 45, 56]⟩ w2 hg (by omega)
        have HR := Lib.hid hr
        clear back hr e1 hyd hbc ht1
        go_enter Tryz.func38, Tryz.ntmps38
        go_wp2_with fail
        refine hcp.mono ?_
        rintro e w1 ⟨rfl, rfl⟩
        go_wp2_with fail
        refine hbl.mono ?_
        rintro e w1 ⟨rfl, rfl⟩
        go_wp2_with fail
        refine hc1.mono ?_
        rintro e w2 ⟨rfl, hb2⟩
        have HK := Lib.hid hb2
        have hG2 := hG.next hb2
        obtain ⟨v2, y2, ht2, hc2⟩ := HT2.out w2 hG2
        change toldX y1.data.toList sEncoding sUtf8 = _ at ht2
        have l2 := toldX_len y1.data.toList sEncoding sUtf8 (by decide)
        have hr := HR.out
        rw [ht2] at hr l2
        simp only at hr l2
        rw [← Lib.size_eq, ← Lib.size_eq, ← Lib.size_eq] at l2
        have HR := Lib.hid hr
        clear hr ht2 HT2 hc1 hbl hcp hb2
        go_wp2_with fail
        refine hc2.mono ?_
        rintro e w3 ⟨rfl, hb3⟩
        have HK := Lib.hid (HK.out.trans (hb3.mono HK.out.size))
        have hG3 := hG2.next hb3
        obtain ⟨v3, y3, ht3, hc3⟩ := told_b y2 ⟨#[115, 116, 97, 110, 100, 97, 108, 111, 110, 101]⟩ ⟨#[110, 111]⟩ w3 hG3 (by omega)
        change toldX y2.data.toList sStandalone sNo = _ at ht3
        have l3 := toldX_len y2.data.toList sStandalone sNo (by decide)
        have hr := HR.out
        rw [ht3] at hr l3
        simp only at hr l3
        rw [← Lib.size_eq, ← Lib.size_eq, ← Lib.size_eq] at l3
        have HR := Lib.hid hr
        clear hr ht3 hc2 hb3
        go_wp2_with fail
        refine hc3.mono ?_
        rintro e w4 ⟨rfl, hb4⟩
        have HK := Lib.hid (HK.out.trans (hb4.mono HK.out.size))
        have hG4 := hG3.next hb4
        have hd4 := HD.out.below HK.out
        have hsk := skip_any y3 w4 (by omega)
        obtain ⟨z, hz⟩ : ∃ z : ByteArray, (⟨(y3.data.toList.dropWhile blkB).toArray⟩ : ByteArray) = z := ⟨_, rfl⟩
        have hzl : z.data.toList = y3.data.toList.dropWhile blkB := by rw [← hz]
        have hr := HR.out
        rw [hz] at hsk
        rw [← hzl] at hr
        have hzs : z.size ≤ y3.size := by
          rw [Lib.size_eq, Lib.size_eq, hzl]
          exact (List.dropWhile_sublist _).length_le
        have bad : r = .error (0, 4) → ∀ w', Keeps D w w' → UnitOut D s 0 r w (.panicked [flt 0 4]) w' := fun e w' hk => by rw [e]; exact ⟨hk, rfl⟩
        have HC := Lib.hid hd4
        have c04 := hd4.c0
        have c24 := hd4.c2
        have f24 := hd4.f 2
        clear hd4 hz hzl HR hc3 hb4 c0
        obtain ⟨bc, hbc⟩ : ∃ b, decide (z.data.toList.take 2 = [63, 62]) = b := ⟨_, rfl⟩
        have hcz := cutpre_any z ⟨#[63, 62]⟩ w4 bc (by rw [pre_dec _ _ 2 rfl, hbc])
        obtain ⟨zz, hzz⟩ : ∃ zz : ByteArray, (⟨(if bc = true then z.data.toList.drop (⟨#[63, 62]⟩ : ByteArray).size else z.data.toList).toArray⟩ : ByteArray) = zz := ⟨_, rfl⟩
        rw [hzz] at hcz
        have HZZ := Lib.hid hzz
        have HBC := Lib.hid hbc
        have HR := Lib.hid hr
        clear hzz hbc hr
        go_wp2_with fail
        refine hsk.mono ?_
        rintro e w5 ⟨rfl, rfl⟩
        go_wp2_with fail
        refine hcz.mono ?_
        rintro e w6 ⟨rfl, rfl⟩
        clear hsk hcz
        by_cases hv : v1.data.toList = sOne
        · have g1 : v1.toList = [49, 46, 48] := by rw [ByteArray.toList_eq]; exact hv
          have hef := eqf_any v2 ⟨#[117, 116, 102, 45, 56]⟩ w4 hG4 (by omega) (by decide) (by decide)
          change Calls _ _ _ _ (fun e w' => e = .returned (.bool (decide (lowL v2.data.toList = sUtf8))) ∧ Below w4.heap.size w4 w') at hef
          by_cases he : lowL v2.data.toList = sUtf8
          · rw [decide_eq_true he] at hef
            go_wp2_with fail
            refine hef.mono ?_
            rintro e w7 ⟨rfl, hb7⟩
            replace HK := Lib.hid (HK.out.trans (hb7.mono HK.out.size))
            replace HC := Lib.hid (HC.out.below hb7)
            clear hb7 hef c04 c24 f24
            have hD7 := HC.out
            have c07 := hD7.c0
            have c27 := hD7.c2
            have f27 := hD7.f 2
            by_cases ha : v3.data.toList = sYes
            · have g2 : v3.toList = [121, 101, 115] := by rw [ByteArray.toList_eq]; exact ha
              cases bc with
              | true =>
                have hr := HR.out
                have h4 := of_decide_eq_true HBC.out
                rw [if_pos ⟨hv, he, .inl ha, h4⟩] at hr
                have hzz := HZZ.out
                rw [if_pos rfl] at hzz
                have hzs2 : zz.size = z.data.toList.length - 2 := by rw [← hzz, ba_len, List.length_drop]; rfl
                have hzl : z.data.toList.length = z.size := (Lib.size_eq z).symm
                have g7 : (zz.size : Int) ≤ 900000 := by omega
                have g8 : (s.size : Int) ≤ 900000 := by omega
                have HW := Lib.hid (show (s.size : Int) - (zz.size : Int) = ((s.data.toList.length - (z.data.toList.length - 2) : Nat) : Int) by rw [← Lib.size_eq s]; omega)
                have HR3 := Lib.hid hr
                clear hr hzz h4 hzs2 hzl bad
                go_wp2
                go_end0
                rw [← HR3.out]
                exact ⟨(Keeps.of_below HK.out).setCell 2 _, rfl, HC.out.set2' HW.out⟩
              | false =>
                have hr := HR.out
                have h4 := of_decide_eq_false HBC.out
                rw [if_neg (fun h => h4 h.2.2.2)] at hr
                clear h4
                have HB := Lib.hid (bad hr.symm)
                clear bad hr
                go_wp2_with fail
                refine (fail_any 0 4 _).mono ?_
                rintro e w8 ⟨rfl, rfl⟩
                exact ⟨rfl, HB.out _ (Keeps.of_below HK.out)⟩
            · have g2 : ¬ v3.toList = [121, 101, 115] := by rw [ByteArray.toList_eq]; exact ha
              by_cases hn : v3.data.toList = sNo
              · have g3 : v3.toList = [110, 111] := by rw [ByteArray.toList_eq]; exact hn
                cases bc with
                | true =>
                  have hr := HR.out
                  have h4 := of_decide_eq_true HBC.out
                  rw [if_pos ⟨hv, he, .inr hn, h4⟩] at hr
                  have hzz := HZZ.out
                  rw [if_pos rfl] at hzz
                  have hzs2 : zz.size = z.data.toList.length - 2 := by rw [← hzz, ba_len, List.length_drop]; rfl
                  have hzl : z.data.toList.length = z.size := (Lib.size_eq z).symm
                  have g7 : (zz.size : Int) ≤ 900000 := by omega
                  have g8 : (s.size : Int) ≤ 900000 := by omega
                  have HW := Lib.hid (show (s.size : Int) - (zz.size : Int) = ((s.data.toList.length - (z.data.toList.length - 2) : Nat) : Int) by rw [← Lib.size_eq s]; omega)
                  have HR3 := Lib.hid hr
                  clear hr hzz h4 hzs2 hzl bad
                  go_wp2
                  go_end0
                  rw [← HR3.out]
                  exact ⟨(Keeps.of_below HK.out).setCell 2 _, rfl, HC.out.set2' HW.out⟩
                | false =>
                  have hr := HR.out
                  have h4 := of_decide_eq_false HBC.out
                  rw [if_neg (fun h => h4 h.2.2.2)] at hr
                  clear h4
                  have HB := Lib.hid (bad hr.symm)
                  clear bad hr
                  go_wp2_with fail
                  refine (fail_any 0 4 _).mono ?_
                  rintro e w8 ⟨rfl, rfl⟩
                  exact ⟨rfl, HB.out _ (Keeps.of_below HK.out)⟩
              · have g3 : ¬ v3.toList = [110, 111] := by rw [ByteArray.toList_eq]; exact hn
                have hr := HR.out
                rw [if_neg (fun h => h.2.2.1.elim ha hn)] at hr
                have HB := Lib.hid (bad hr.symm)
                clear bad hr
                go_wp2_with fail
                refine (fail_any 0 4 _).mono ?_
                rintro e w8 ⟨rfl, rfl⟩
                exact ⟨rfl, HB.out _ (Keeps.of_below HK.out)⟩
          · rw [decide_eq_false he] at hef
            have hr := HR.out
            rw [if_neg (fun h => he h.2.1)] at hr
            have HB := Lib.hid (bad hr.symm)
            clear bad hr he
            go_wp2_with fail
            refine hef.mono ?_
            rintro e w7 ⟨rfl, hb7⟩
            replace HK := Lib.hid (HK.out.trans (hb7.mono HK.out.size))
            clear hb7 hef c04 c24 f24
            go_wp2_with fail
            refine (fail_any 0 4 _).mono ?_
            rintro e w8 ⟨rfl, rfl⟩
            exact ⟨rfl, HB.out _ (Keeps.of_below HK.out)⟩
        · have g1 : ¬ v1.toList = [49, 46, 48] := by rw [ByteArray.toList_eq]; exact hv
          have hr := HR.out
          rw [if_neg (fun h => hv h.1)] at hr
          have HB := Lib.hid (bad hr.symm)
          clear bad hr hv
          go_wp2_with fail
          refine (fail_any 0 4 _).mono ?_
          rintro e w8 ⟨rfl, rfl⟩
          exact ⟨rfl, HB.out _ (Keeps.of_below HK.out)⟩
  · have hcp := cutpre_any s ⟨#[60, 63, 120, 109, 108]⟩ w false (by rw [pre_dec _ _ 5 rfl, decide_eq_false e1])
    rw [if_neg (by decide), ba_eq] at hcp
    rw [if_neg (fun h => e1 h.1)] at hr
    have HB := Lib.hid (back hr.symm)
    clear back hr e1
    go_enter Tryz.func38, Tryz.ntmps38
    go_wp2_with fail
    refine hcp.mono ?_
    rintro e w1 ⟨rfl, rfl⟩
    go_wp2
    go_end0
    exact HB.out
end Go.Proofs.YtflfnnkdkfcpkaaGreatDoor

namespace Go.Proofs.YtflfnnkdkfcpkaaGreatDoor
open Go.RowKit Wb

theorem upToX_ge {L : List UInt8} {fr at_ : Nat} {p v : List UInt8} {a : Nat} (hp : p ≠ []) (h : upToX L fr at_ p = .ok (v, a)) : at_ < a ∧ a ≤ L.length := by
  unfold upToX at h
  rcases cut_until p hp (L.drop at_) with ⟨h1, _⟩ | ⟨n, v', h1, _, h3, h4⟩
  · rw [h1] at h; cases h
  · rw [h1] at h
    simp only [Except.ok.injEq, Prod.mk.injEq] at h
    have := List.length_pos_iff.2 hp
    rw [List.length_drop] at h4
    omega
theorem takeX_ge {L : List UInt8} {fr at_ : Nat} {c : UInt8} {a : Nat} (h : takeX L fr at_ c = .ok a) : at_ < a ∧ a ≤ L.length := by
  unfold takeX at h
  split at h
  · cases h
  · rename_i hl
    have := drop_cons_len hl
    split at h
    · simp only [Except.ok.injEq] at h; omega
    · cases h
theorem valueX_ge {L : List UInt8} {fr at_ : Nat} {v : List UInt8} {a : Nat} (h : valueX L fr at_ = .ok (v, a)) : at_ < a := by
  unfold valueX at h
  repeat' split at h
  all_goals first | (cases h; done) | (simp only [Except.ok.injEq, Prod.mk.injEq] at h; omega)
theorem attributeX_ge {L : List UInt8} {fr at_ o : Nat} {ap : Bool} {nv : List UInt8 × List UInt8} {a : Nat} (h : attributeX L fr at_ o ap = .ok (nv, a)) : at_ < a := by
  unfold attributeX at h
  split at h
  · cases h
  · split at h
    · cases h
    · split at h
      · cases h
      · split at h
        · cases h
        · rename_i ht
          split at h
          · cases h
          · rename_i hv
            simp only [Except.ok.injEq, Prod.mk.injEq] at h
            have := valueX_ge hv
            have := (takeX_ge ht).1
            omega
theorem namedX_ge {L : List UInt8} {fr at_ : Nat} {x : List UInt8} {a : Nat} (h : namedX L fr at_ = .ok (x, a)) : at_ ≤ a := by
  unfold namedX at h
  split at h
  · cases h
  · split at h
    · cases h
    · simp only [Except.ok.injEq, Prod.mk.injEq] at h; omega
theorem attrsX_ge {L : List UInt8} {fr : Nat} : ∀ (f at_ : Nat) (acc : AL) (kl : Int × AL) (b : Nat), attrsX L fr f at_ acc = .ok (kl, b) → at_ < b ∧ b ≤ L.length
  | 0, at_, acc, kl, b, h => by cases h
  | f + 1, at_, acc, kl, b, h => by
    rw [attrsX_step] at h
    split at h
    · cases h
    · rename_i hl
      have hlen := drop_cons_len hl
      split at h
      · split at h
        · cases h
        · rename_i ht
          have := takeX_ge ht
          simp only [Except.ok.injEq, Prod.mk.injEq] at h
          omega
      · split at h
        · simp only [Except.ok.injEq, Prod.mk.injEq] at h
          omega
        · split at h
          · cases h
          · rename_i ha
            have := attributeX_ge ha
            have := attrsX_ge f _ _ _ _ h
            omega
theorem tokenU_ge {L : List UInt8} {fr : Nat} (hf : fr < L.length) {t : Option Tk} {a : Nat} (h : tokenU L fr = .ok (t, a)) : fr < a ∧ a ≤ L.length := by
  unfold tokenU at h
  simp only at h
  split at h
  · rename_i h60
    unfold someX at h
    split at h
    · cases h
    · rename_i t' a' ht
      simp only [Except.ok.injEq, Prod.mk.injEq] at h
      unfold textX at ht
      simp only at ht
      have hlen : 0 < ((L.drop fr).takeWhile (· != 60)).length := by
        cases hd : L.drop fr with
        | nil =>
          have := congrArg List.length hd
          rw [List.length_drop] at this
          simp at this
          omega
        | cons c q =>
          rw [hd] at h60
          rw [List.takeWhile_cons_of_pos (by simpa using h60)]
          simp
      have hle := tw_le (· != 60) (L.drop fr)
      rw [List.length_drop] at hle
      split at ht
      · split at ht <;> cases ht
      · split at ht
        · cases ht
        · simp only [Except.ok.injEq, Prod.mk.injEq] at ht
          omega
  · split at h
    · unfold noneX at h
      split at h
      · cases h
      · rename_i a' ht
        simp only [Except.ok.injEq, Prod.mk.injEq] at h
        unfold instructionU at ht
        simp only at ht
        split at ht
        · cases ht
        · split at ht
          · cases ht
          · split at ht
            · cases ht
            · rename_i hu
              have := upToX_ge (by simp) hu
              simp only [Except.ok.injEq] at ht
              omega
    · split at h
      · unfold noneX at h
        split at h
        · cases h
        · rename_i a' ht
          simp only [Except.ok.injEq, Prod.mk.injEq] at h
          unfold commentX at ht
          split at ht
          · cases ht
          · rename_i hu
            have := upToX_ge (by simp) hu
            split at ht
            · rename_i h62
              have h63 := congrArg List.length h62
              rw [List.length_take, List.length_drop] at h63
              simp only [List.length_cons, List.length_nil] at h63
              simp only [Except.ok.injEq] at ht
              omega
            · cases ht
      · split at h
        · unfold someX at h
          split at h
          · cases h
          · rename_i t' a' ht
            simp only [Except.ok.injEq, Prod.mk.injEq] at h
            unfold sectionX at ht
            split at ht
            · cases ht
            · rename_i hu
              have := upToX_ge (by simp) hu
              simp only [Except.ok.injEq, Prod.mk.injEq] at ht
              omega
        · split at h
          · cases h
          · split at h
            · cases h
            · split at h
              · unfold someX at h
                split at h
                · cases h
                · rename_i t' a' ht
                  simp only [Except.ok.injEq, Prod.mk.injEq] at h
                  unfold endTagX at ht
                  split at ht
                  · cases ht
                  · rename_i hn
                    have := namedX_ge hn
                    split at ht
                    · cases ht
                    · rename_i hk
                      have := takeX_ge hk
                      simp only [Except.ok.injEq, Prod.mk.injEq] at ht
                      omega
              · unfold someX at h
                split at h
                · cases h
                · rename_i t' a' ht
                  simp only [Except.ok.injEq, Prod.mk.injEq] at h
                  unfold startTagX at ht
                  split at ht
                  · cases ht
                  · rename_i hn
                    have := namedX_ge hn
                    split at ht
                    · cases ht
                    · rename_i hk
                      have := attrsX_ge _ _ _ _ _ hk
                      simp only [Except.ok.injEq, Prod.mk.injEq] at ht
                      omega
end Go.Proofs.YtflfnnkdkfcpkaaGreatDoor

namespace Go.Proofs.YtflfnnkdkfcpkaaGreatDoor
open Go.RowKit Wb

def tv (p : Nat × Tk) : TokV := ⟨p.2.1, p.1, ⟨p.2.2.1.toArray⟩, prs p.2.2.2.1, ⟨p.2.2.2.2.toArray⟩⟩

/-- What Tokens answers. -/
def TksOut (r : Er (List (Nat × Tk))) (e : Ending) (w' : World) : Prop :=
  match r with
  | .ok ts => ∃ A c, e = .returned (.tuple #[.slice A ts.length c, .int .i64 0, .int .i64 0]) ∧ TokS w' A (ts.map tv)
  | .error (p, c) => e = .returned (.tuple #[.slice none 0 0, .int .i64 p, .int .i64 c])

theorem tok_info : (Tryz.prog.info? 38).map (fun i => (i.zero, i.size, i.bytes)) = some (some (.agg (tokZ 0 0 ⟨#[]⟩ ⟨#[]⟩)), 5, 72) := by kernel_rfl

def joinE (acc : List (Nat × Tk)) (m : Er (List (Nat × Tk))) : Er (List (Nat × Tk)) :=
  match m with
  | .error e => .error e
  | .ok ts => .ok (acc ++ ts)
theorem declX_le {L : List UInt8} {a : Nat} (h : declX L = .ok a) : a ≤ L.length := by
  unfold declX at h
  simp only at h
  split at h
  · split at h
    · simp only [Except.ok.injEq] at h; omega
    · cases h
  · simp only [Except.ok.injEq] at h; omega

/-- The tokens so far. -/
structure TksW (w : World) (D : Nat) (s : ByteArray) (at_ : Nat) (acc : List (Nat × Tk)) (ads : List (Option Addr × Nat)) (v : Value) (wr : World) : Prop where
  below : Below w.heap.size w wr
  hD : w.heap.size + 2 < D
  doc : ∃ fr, DocW wr D s fr at_
  r0 : wr.heap[w.heap.size]? = some (.cells #[v] 33 (0, 0))
  r1 : wr.heap[w.heap.size + 1]? = some (.cells #[.int .i64 0] 3 (0, 0))
  r2 : wr.heap[w.heap.size + 1 + 1]? = some (.cells #[.int .i64 0] 26 (0, 0))
  own : wr.ownsRow (D + 1) 38 5 v acc.length (cells5 (acc.map tv) ads)
  len : ads.length = acc.length
  each : ∀ (j : Nat) (t : TokV) (a : Option Addr × Nat), (acc.map tv)[j]? = some t → ads[j]? = some a → Sl2 wr a.1 t.attrs ∧ (t.attrs ≠ [] → ∀ ad, a.1 = some ad → D + 1 ≤ ad.block ∧ v.ownBlock ≠ some ad.block)

theorem Sl.to {w w' : World} {k n : Nat} {A : Option Addr} {cs : List Value} (h : Sl w k A n cs) (hs : w.heap.size ≤ w'.heap.size) (hb : 0 < n → ∀ ad, A = some ad → ad.block < w.heap.size → w'.heap[ad.block]? = w.heap[ad.block]?) : Sl w' k A n cs := by
  refine ⟨h.1, fun h0 => ?_⟩
  obtain ⟨ad, e, hl, hc⟩ := h.2 h0
  refine ⟨ad, e, Nat.lt_of_lt_of_le hl hs, fun i v' hv => ?_⟩
  rw [← hc i v' hv]
  have hb2 : (ad.add i).block = ad.block := by unfold Addr.add; split <;> rfl
  exact World.cell?_of_block (w := w) (by rw [hb2]; exact hb h0 ad e hl)

theorem TksW.keeps {w : World} {D : Nat} {s : ByteArray} {at_ : Nat} {acc : List (Nat × Tk)} {ads : List (Option Addr × Nat)} {v : Value} {wr wr' : World} (h : TksW w D s at_ acc ads v wr) {a : Nat} (hk : Keeps D wr wr') (hd : ∃ fr, DocW wr' D s fr a) : TksW w D s a acc ads v wr' := by
  obtain ⟨fr, hdoc⟩ := h.doc
  have hDl := hdoc.lt
  have hDD := h.hD
  have old : ∀ g, g < wr.heap.size → g ≠ D → wr'.heap[g]? = wr.heap[g]? := fun g h1 h2 => hk.block g h1 h2
  refine ⟨h.below.trans ((hk.below hDl).mono (by omega)), h.hD, hd, (old _ (blk_lt h.r0) (by omega)).trans h.r0, (old _ (blk_lt h.r1) (by omega)).trans h.r1, (old _ (blk_lt h.r2) (by omega)).trans h.r2, own_keeps h.own hk (by omega), h.len, fun j t b hj hb => ?_⟩
  obtain ⟨h1, h2⟩ := h.each j t b hj hb
  refine ⟨Sl.to h1 hk.size (fun h0 ad ha hl => old _ hl ?_), h2⟩
  have := (h2 (fun e => by rw [e] at h0; simp at h0) ad ha).1
  omega
theorem TksW.alloc {w : World} {D : Nat} {s : ByteArray} {at_ : Nat} {acc : List (Nat × Tk)} {ads : List (Option Addr × Nat)} {v : Value} {wr : World} (h : TksW w D s at_ acc ads v wr) (o : Obj) : TksW w D s at_ acc ads v (wr.alloc o) :=
  h.keeps ((Keeps.refl D wr).alloc o) (h.doc.elim fun fr hd => ⟨fr, hd.alloc o⟩)
theorem TksW.drew {w : World} {D : Nat} {s : ByteArray} {at_ : Nat} {acc : List (Nat × Tk)} {ads : List (Option Addr × Nat)} {v : Value} {wr : World} (h : TksW w D s at_ acc ads v wr) : TksW w D s at_ acc ads v wr.drew :=
  h.keeps (Keeps.refl D wr).drew h.doc
theorem own_lt {w : World} {base sz n g : Nat} {e : TypeId} {v : Value} {xs : List Value} (h : w.ownsRow base e sz v n xs) (hv : v.ownBlock = some g) : base ≤ g ∧ g < w.heap.size := by
  rcases h.2 with ⟨rfl, _⟩ | ⟨q, cap, cur, rfl, hbq, hq, _⟩
  · simp [Value.ownBlock] at hv
  · simp [Value.ownBlock] at hv
    subst hv
    exact ⟨hbq, blk_lt hq⟩

theorem TksW.app {w : World} {D : Nat} {s : ByteArray} {at_ : Nat} {acc : List (Nat × Tk)} {ads : List (Option Addr × Nat)} {v : Value} {wb w4 : World} (h : TksW w D s at_ acc ads v wb) (p : Nat × Tk) (A : Option Addr) (cp : Nat) {v4 : Value} {xs : List Value}
    (hS : Sl2 wb A (prs p.2.2.2.1)) (hF : prs p.2.2.2.1 ≠ [] → ∀ ad, A = some ad → D + 1 ≤ ad.block ∧ v.ownBlock ≠ some ad.block) (hx : xs = tokC (tv p) (A, cp))
    (h4 : w4.ownsRow (D + 1) 38 5 v4 (acc.length + 1) (cells5 (acc.map tv) ads ++ xs)) (hg : wb.grownBy w4 v.ownBlock) (hat4 : v4.ownBlock = v.ownBlock ∨ v4.ownBlock = some wb.heap.size) :
    TksW w D s at_ (acc ++ [p]) (ads ++ [(A, cp)]) v4 (w4.setCell ⟨w.heap.size, 0, none⟩ v4) := by
  obtain ⟨fr, hdoc⟩ := h.doc
  have hDl := hdoc.lt
  have hDD := h.hD
  have hvb : ∀ g, v.ownBlock = some g → D + 1 ≤ g := fun g hv => (own_lt h.own hv).1
  have old : ∀ g, g < wb.heap.size → v.ownBlock ≠ some g → w4.heap[g]? = wb.heap[g]? := fun g h1 h2 => hg.block g h1 (fun e => h2 e.symm)
  have low : ∀ g, g ≤ D → w4.heap[g]? = wb.heap[g]? := fun g hgD => old g (by omega) (fun e => by have := hvb g e; omega)
  have setO : ∀ g, g ≠ w.heap.size → (w4.setCell ⟨w.heap.size, 0, none⟩ v4).heap[g]? = w4.heap[g]? := fun g hgn => Below.heap_setCell _ _ _ _ (by simpa using hgn)
  have hsz : wb.heap.size ≤ (w4.setCell ⟨w.heap.size, 0, none⟩ v4).heap.size := by simpa [World.setCell] using hg.size
  have h4R : v4.ownBlock ≠ some w.heap.size := by
    intro e
    rcases hat4 with h1 | h1
    · rw [h1] at e; have := hvb _ e; omega
    · rw [h1] at e
      injection e with e
      omega
  have keepS : ∀ (B : Option Addr) (l : List Pr), Sl2 wb B l → (l ≠ [] → ∀ ad, B = some ad → D + 1 ≤ ad.block ∧ v.ownBlock ≠ some ad.block) → Sl2 (w4.setCell ⟨w.heap.size, 0, none⟩ v4) B l ∧ (l ≠ [] → ∀ ad, B = some ad → D + 1 ≤ ad.block ∧ v4.ownBlock ≠ some ad.block) := by
    intro B l h1 h2
    refine ⟨Sl.to h1 hsz (fun h0 ad ha hl => ?_), fun hn ad ha => ?_⟩
    · have h3 := h2 (fun e => by rw [e] at h0; simp at h0) ad ha
      rw [setO _ (by omega)]
      exact old _ hl h3.2
    · have h3 := h2 hn ad ha
      refine ⟨h3.1, fun e => ?_⟩
      rcases hat4 with h5 | h5
      · exact h3.2 (h5.symm.trans e)
      · rw [h5] at e
        injection e with e
        obtain ⟨ad', e', hl, _⟩ := h1.2 (List.length_pos_iff.2 hn)
        rw [ha] at e'
        injection e' with e'
        subst e'
        omega
  have hb4 : Below w.heap.size w w4 := h.below.grown hg h.below.size (fun g hv => by have := hvb g hv; omega)
  refine ⟨hb4.setCell (Nat.le_refl _) _, h.hD, ⟨fr, (setO D (by omega)).trans ((low D (Nat.le_refl _)).trans hdoc)⟩, ?_, ?_, ?_, ?_, by simp [h.len], fun j t b hj hb => ?_⟩
  · exact blk_set ((low _ (by omega)).trans h.r0) 0 _
  · exact (setO _ (by omega)).trans ((low _ (by omega)).trans h.r1)
  · exact (setO _ (by omega)).trans ((low _ (by omega)).trans h.r2)
  · have := own_set h4 h4R 0 v4
    rw [List.length_append, List.map_append, cells5_app _ _ _ _ (by rw [List.length_map]; exact h.len)]
    subst hx
    have e : cells5 (List.map tv [p]) [(A, cp)] = tokC (tv p) (A, cp) := by simp [cells5]
    rw [e]
    exact this
  · have hl := h.len
    by_cases hj0 : j < acc.length
    · rw [List.map_append, List.getElem?_append_left (by rw [List.length_map]; exact hj0)] at hj
      rw [List.getElem?_append_left (by omega)] at hb
      obtain ⟨h1, h2⟩ := h.each j t b hj hb
      exact keepS _ _ h1 h2
    · rw [List.map_append, List.getElem?_append_right (by rw [List.length_map]; omega)] at hj
      rw [List.getElem?_append_right (by omega)] at hb
      rw [List.length_map] at hj
      rw [hl] at hb
      by_cases hj1 : j - acc.length = 0
      · rw [hj1] at hj hb
        simp only [List.map_cons, List.map_nil, List.getElem?_cons_zero, Option.some.injEq] at hj hb
        subst hj hb
        exact keepS _ _ hS hF
      · rw [List.getElem?_eq_none (by simp; omega)] at hb
        cases hb

theorem TksW.low {w : World} {D : Nat} {s : ByteArray} {at_ : Nat} {acc : List (Nat × Tk)} {ads : List (Option Addr × Nat)} {v : Value} {wb w4 : World} (h : TksW w D s at_ acc ads v wb) (hg : wb.grownBy w4 v.ownBlock) :
    w4.heap[w.heap.size]? = some (.cells #[v] 33 (0, 0)) :=
  (hg.block _ (blk_lt h.r0) (fun e => by have := (own_lt h.own e.symm).1; have := h.hD; omega)).trans h.r0

set_option maxRecDepth 100000 in
set_option maxHeartbeats 4000000 in
theorem Tokens_any (s : ByteArray) (w : World) (hG : Gv w) (hs : s.size ≤ 900000) :
    Calls Tryz.prog 16 #[.string s] w fun e w' => TksOut (tokensU s.data.toList) e w' ∧ Below w.heap.size w w' := by
  have hmf : ∀ (fn : Fn) (first cap : Array Value) (w : World), (Instr.makeFunc fn first cap).run Tryz.prog w = .ok (.func fn first cap) w := fun _ _ _ _ => rfl
  obtain ⟨g0, g1, g2, gs⟩ := heap3 w (.cells #[.slice none 0 0] 33) (.cells #[.int .i64 0] 3) (.cells #[.int .i64 0] 26)
  have hG3 : Gv (((w.alloc (.cells #[.slice none 0 0] 33)).alloc (.cells #[.int .i64 0] 3)).alloc (.cells #[.int .i64 0] 26)) := ((hG.alloc _).alloc _).alloc _
  have hB3 : Below w.heap.size w (((w.alloc (.cells #[.slice none 0 0] 33)).alloc (.cells #[.int .i64 0] 3)).alloc (.cells #[.int .i64 0] 26)) :=
    (((Below.refl _ w).alloc (Nat.le_refl _) _).alloc (by simp) _).alloc (by simp; omega) _
  have hck := dcheck_any s (((w.alloc (.cells #[.slice none 0 0] 33)).alloc (.cells #[.int .i64 0] 3)).alloc (.cells #[.int .i64 0] 26)) (by omega)
  obtain ⟨r, hr⟩ : ∃ r, tokensU s.data.toList = r := ⟨_, rfl⟩
  rw [hr]
  unfold tokensU at hr
  cases hc : checkU s.data.toList with
  | error pe =>
    obtain ⟨p, c⟩ := pe
    rw [hc] at hr hck
    simp only at hr
    have HR := Lib.hid hr
    have G0 := Lib.hid (And.intro g0 (And.intro g1 (And.intro g2 gs)))
    clear hr hc g0 g1 g2 gs
    go_enter_defers Tryz.func16, Tryz.ntmps16
    go_wp2_with fail
    refine hck.mono ?_
    rintro e w1 ⟨h1, hb1⟩
    obtain rfl := h1
    obtain ⟨g0, g1, g2, gs⟩ := G0.out
    have h0 := (hb1.block _ (by omega)).trans g0
    have h1 := (hb1.block _ (by omega)).trans g1
    have h2 := (hb1.block _ (by omega)).trans g2
    have hB := hB3.trans (hb1.mono (by omega))
    refine leaves_cons (f := 36) (args := #[.pointer (some ⟨w.heap.size, 0, none⟩), .pointer (some ⟨w.heap.size + 1, 0, none⟩), .pointer (some ⟨w.heap.size + 1 + 1, 0, none⟩)]) (by simp) (by simp [go_sem]) ?_
    refine (tcatch_up _ _ _ _ _ _ _ _ _ p c [] w1 h0 h1 h2 (by omega) (by omega) (by omega)).mono ?_
    rintro e u' w2 ⟨rfl, rfl, rfl⟩
    refine ⟨_, results3 Tryz.results16 _ _ w.heap.size (w.heap.size + 1) (w.heap.size + 1 + 1) 33 3 26 (.slice none 0 0) (.int .i64 p) (.int .i64 c) rfl rfl rfl ?_ ?_ ?_ Tryz.isAgg33 Tryz.isAgg3 Tryz.isAgg26, ?_⟩
    · exact set_other (set_other (blk_set h0 0 _) (by omega) _) (by omega) _
    · exact set_other (blk_set (set_other h1 (by omega) _) 0 _) (by omega) _
    · exact blk_set (set_other (set_other h2 (by omega) _) (by omega) _) 0 _
    · exact ⟨by rw [← HR.out]; exact rfl, (((hB.setCell (Nat.le_refl _) _).setCell (by simp) _).setCell (by simp; omega) _).drew⟩
  | ok u =>
    rw [hc] at hr hck
    simp only at hr
    have HR := Lib.hid hr
    have G0 := Lib.hid (And.intro g0 (And.intro g1 (And.intro g2 gs)))
    clear hr hc g0 g1 g2 gs
    go_enter_defers Tryz.func16, Tryz.ntmps16
    go_wp2_with fail
    refine hck.mono ?_
    rintro e w1 ⟨h1, hb1⟩
    obtain rfl := h1
    obtain ⟨g0, g1, g2, gs⟩ := G0.out
    have h0 := Lib.hid ((hb1.block _ (by omega)).trans g0)
    have h1 := Lib.hid ((hb1.block _ (by omega)).trans g1)
    have h2 := Lib.hid ((hb1.block _ (by omega)).trans g2)
    have hB := Lib.hid (hB3.trans (hb1.mono (by omega)))
    have hG1 := hG3.next hb1
    have hsz : w.heap.size + 3 ≤ w1.heap.size := by have := hb1.size; omega
    clear g0 g1 g2 gs G0 hb1 hck hG3 hB3
    obtain ⟨D, hD⟩ : ∃ D, D = w1.heap.size := ⟨_, rfl⟩
    have hdoc : DocW (w1.alloc (.cells #[.string s, .int .i64 0, .int .i64 0] 75)) D s ((0 : Nat)) ((0 : Nat)) := by rw [hD]; exact first_block _ _
    have hdc := declaration_any D s (w1.alloc (.cells #[.string s, .int .i64 0, .int .i64 0] 75)) hdoc (hG1.alloc _) hs
    have hBd := Lib.hid ((hB.out.alloc (by omega) (.cells #[.string s, .int .i64 0, .int .i64 0] 75)))
    have hDl : Hid (D < (w1.alloc (.cells #[.string s, .int .i64 0, .int .i64 0] 75)).heap.size) := Lib.hid hdoc.lt
    replace h0 := Lib.hid ((Below.heap_alloc w1 (.cells #[.string s, .int .i64 0, .int .i64 0] 75) _ (by omega)).trans h0.out)
    replace h1 := Lib.hid ((Below.heap_alloc w1 (.cells #[.string s, .int .i64 0, .int .i64 0] 75) _ (by omega)).trans h1.out)
    replace h2 := Lib.hid ((Below.heap_alloc w1 (.cells #[.string s, .int .i64 0, .int .i64 0] 75) _ (by omega)).trans h2.out)
    rw [hD] at hdc
    go_wp2_with fail
    refine hdc.mono ?_
    rintro e w2 hu
    rw [← hD] at hu
    have hw2 : w.heap.size + 2 < D := by omega
    rcases unit_two hu with ⟨q, c, hm, rfl, hk⟩ | ⟨a, hm, rfl, hd, hk⟩
    · have k0 := (hk.block _ (by have := hDl.out; omega) (by omega)).trans h0.out
      have k1 := (hk.block _ (by have := hDl.out; omega) (by omega)).trans h1.out
      have k2 := (hk.block _ (by have := hDl.out; omega) (by omega)).trans h2.out
      have hB2 := hBd.out.trans ((hk.below hDl.out).mono (by omega))
      have hr : r = .error (q, c) := by rw [← HR.out, hm]
      refine leaves_cons (f := 36) (args := #[.pointer (some ⟨w.heap.size, 0, none⟩), .pointer (some ⟨w.heap.size + 1, 0, none⟩), .pointer (some ⟨w.heap.size + 1 + 1, 0, none⟩)]) (by simp) (by simp [go_sem]) ?_
      refine (tcatch_up _ _ _ _ _ _ _ _ _ q c [] w2 k0 k1 k2 (by omega) (by omega) (by omega)).mono ?_
      rintro e u' wz ⟨rfl, rfl, rfl⟩
      refine ⟨_, results3 Tryz.results16 _ _ w.heap.size (w.heap.size + 1) (w.heap.size + 1 + 1) 33 3 26 (.slice none 0 0) (.int .i64 q) (.int .i64 c) rfl rfl rfl ?_ ?_ ?_ Tryz.isAgg33 Tryz.isAgg3 Tryz.isAgg26, ?_⟩
      · exact set_other (set_other (blk_set k0 0 _) (by omega) _) (by omega) _
      · exact set_other (blk_set (set_other k1 (by omega) _) 0 _) (by omega) _
      · exact blk_set (set_other (set_other k2 (by omega) _) (by omega) _) 0 _
      · exact ⟨by rw [hr]; exact rfl, (((hB2.setCell (Nat.le_refl _) _).setCell (by simp) _).setCell (by simp; omega) _).drew⟩
    · have k0 := Lib.hid ((hk.block _ (by have := hDl.out; omega) (by omega)).trans h0.out)
      have k1 := Lib.hid ((hk.block _ (by have := hDl.out; omega) (by omega)).trans h1.out)
      have k2 := Lib.hid ((hk.block _ (by have := hDl.out; omega) (by omega)).trans h2.out)
      have hB2 := Lib.hid (hBd.out.trans ((hk.below hDl.out).mono (by omega)))
      have hr : tokLU s.data.toList (s.data.toList.length + 1) a = r := by rw [← HR.out, hm]
      have ha := declX_le hm
      rw [← Lib.size_eq] at hr ha
      have HTK : Hid (TksW w D s a [] [] (.slice none 0 0) w2) := Lib.hid ⟨hB2.out, by omega, ⟨0, hd⟩, k0.out, k1.out, k2.out, World.ownsRow_nil _ _ _ _, rfl, fun j t a h => (by simp at h)⟩
      have HJ : Hid (joinE [] (tokLU s.data.toList (s.size + 1) a) = r) := Lib.hid (by rw [hr]; cases r <;> rfl)
      have HG := Lib.hid hG
      clear HR h0 h1 h2 hB hG1 hsz hdoc hdc hBd hDl k0 k1 k2 hB2 hr hd hk hm hu
      rw [← hD]
      clear hD
      go_wp2
      go_loopg [] (s.size + 1) (fun g wx => ∃ (at_ : Nat) (acc : List (Nat × Tk)) (ads : List (Option Addr × Nat)) (v : Value), Hid (TksW w D s at_ acc ads v wx) ∧ at_ ≤ s.size ∧ s.size < at_ + g ∧ acc.length ≤ at_ ∧ Hid (joinE acc (tokLU s.data.toList g at_) = r))
      case atStart => exact ⟨a, [], [], _, HTK, ha, by omega, Nat.zero_le _, HJ⟩
      case round =>
        obtain ⟨at_, acc, ads, v, HT, hat, hfl, hal, HJ⟩ := hrel
        obtain ⟨fr0, hdoc⟩ := HT.out.doc
        have c1 := hdoc.c1
        have c2 := hdoc.c2
        have f1 := hdoc.f 1
        by_cases hlt : at_ < s.size
        · have glt : (at_ : Int) < (s.size : Int) := by omega
          obtain ⟨g, rfl⟩ : ∃ g, gk = g + 1 := ⟨gk - 1, by omega⟩
          have HTF := Lib.hid (HT.out.keeps ((Keeps.refl D wr).setCell 1 (.int .i64 at_)) ⟨_, hdoc.set1 at_⟩)
          have hGf : Gv (wr.setCell ⟨D, 1, none⟩ (.int .i64 at_)) := HG.out.next HTF.out.below
          have htk := token_any D s at_ (wr.setCell ⟨D, 1, none⟩ (.int .i64 at_)) (hdoc.set1 at_) hGf (by have := HG.out.sz; omega) hlt (by omega)
          have HDF := Lib.hid (hdoc.set1 at_)
          clear HT hdoc hGf
          go_wp2_with fail
          refine htk.mono ?_
          rintro e wt ⟨hk, he⟩
          have hstep : joinE acc (match tokenU s.data.toList at_ with | .error e => .error e | .ok (t, a) => match tokLU s.data.toList g a with | .error e => .error e | .ok ts => .ok (consT at_ t ts)) = r := by
            have h := HJ.out
            rw [show tokLU s.data.toList (g + 1) at_ = if s.data.toList.length ≤ at_ then .ok [] else match tokenU s.data.toList at_ with | .error e => .error e | .ok (t, a) => match tokLU s.data.toList g a with | .error e => .error e | .ok ts => .ok (consT at_ t ts) from rfl, if_neg (by rw [← Lib.size_eq]; omega)] at h
            exact h
          cases hm : tokenU s.data.toList at_ with
          | error pe =>
            obtain ⟨q, c⟩ := pe
            rw [hm] at he hstep
            obtain rfl := he
            have hr : r = .error (q, c) := hstep.symm
            have hDw := HDF.out.lt
            have k0 := (hk.block _ (blk_lt HTF.out.r0) (by omega)).trans HTF.out.r0
            have k1 := (hk.block _ (blk_lt HTF.out.r1) (by omega)).trans HTF.out.r1
            have k2 := (hk.block _ (blk_lt HTF.out.r2) (by omega)).trans HTF.out.r2
            have hB2 := HTF.out.below.trans ((hk.below hDw).mono (by omega))
            refine leaves_cons (f := 36) (args := #[.pointer (some ⟨w.heap.size, 0, none⟩), .pointer (some ⟨w.heap.size + 1, 0, none⟩), .pointer (some ⟨w.heap.size + 1 + 1, 0, none⟩)]) (by simp) (by simp [go_sem]) ?_
            refine (tcatch_up _ _ _ _ _ _ _ _ _ q c [] wt k0 k1 k2 (by omega) (by omega) (by omega)).mono ?_
            rintro e u' wz ⟨rfl, rfl, rfl⟩
            refine ⟨_, results3 Tryz.results16 _ _ w.heap.size (w.heap.size + 1) (w.heap.size + 1 + 1) 33 3 26 (.slice none 0 0) (.int .i64 q) (.int .i64 c) rfl rfl rfl ?_ ?_ ?_ Tryz.isAgg33 Tryz.isAgg3 Tryz.isAgg26, ?_⟩
            · exact set_other (set_other (blk_set k0 0 _) (by omega) _) (by omega) _
            · exact set_other (blk_set (set_other k1 (by omega) _) 0 _) (by omega) _
            · exact blk_set (set_other (set_other k2 (by omega) _) (by omega) _) 0 _
            · exact ⟨by rw [hr]; exact rfl, (((hB2.setCell (Nat.le_refl _) _).setCell (by simp) _).setCell (by simp; omega) _).drew⟩
          | ok ta =>
            obtain ⟨t, a⟩ := ta
            have hge := tokenU_ge (by rw [← Lib.size_eq]; exact hlt) hm
            rw [← Lib.size_eq] at hge
            rw [hm] at he hstep
            simp only at hstep
            cases t with
            | none =>
              obtain ⟨rfl, hd⟩ := he
              have HT2 := Lib.hid ((HTF.out.keeps hk ⟨_, hd⟩).alloc (.cells (tokZ 0 0 ⟨#[]⟩ ⟨#[]⟩) 38))
              have HJ2 : Hid (joinE acc (tokLU s.data.toList g a) = r) := Lib.hid (by
                rw [← hstep]
                cases tokLU s.data.toList g a <;> rfl)
              clear hstep hm HJ HTF htk hk hd HDF
              unfold tokZ
              go_wp2
              go_roundg g
              case measure => omega
              case rel => exact ⟨a, acc, ads, v, HT2, hge.2, by omega, by omega, HJ2⟩
            | some tk =>
              obtain ⟨k, n, l, x⟩ := tk
              obtain ⟨⟨A, cp, rfl, hS, hF, hl⟩, hd⟩ := he
              obtain ⟨n', hn'⟩ : ∃ b : ByteArray, (⟨n.toArray⟩ : ByteArray) = b := ⟨_, rfl⟩
              obtain ⟨x', hx'⟩ : ∃ b : ByteArray, (⟨x.toArray⟩ : ByteArray) = b := ⟨_, rfl⟩
              rw [hn', hx']
              have HJ2 : Hid (joinE (acc ++ [(at_, (k, n, l, x))]) (tokLU s.data.toList g a) = r) := Lib.hid (by
                rw [← hstep]
                cases tokLU s.data.toList g a with
                | error e => rfl
                | ok ts => simp [joinE, consT])
              have HTT := HTF.out.keeps hk ⟨_, hd⟩
              have HWL := Lib.hid (show ∀ g, v.ownBlock = some g → g < wt.heap.size ∧ g < (wr.setCell ⟨D, 1, none⟩ (.int .i64 at_)).heap.size from fun g hg => ⟨(own_lt HTT.own hg).2, (own_lt HTF.out.own hg).2⟩)
              have HDl := Lib.hid (HTT.doc.elim fun _ h => h.lt)
              have HDr := Lib.hid HDF.out.lt
              have hTl : w.heap.size < wt.heap.size := blk_lt HTT.r0
              have HT2 := Lib.hid (HTT.alloc (.cells #[.int .i64 k, .int .i64 at_, .string n', .slice A l.length cp, .string x'] 38))
              obtain ⟨A0, c0, hv0⟩ := own_shape HTT.own
              subst hv0
              have cR := blk_cell HT2.out.r0 0
              have fR := blk_free HT2.out.r0 0
              obtain ⟨q0, q1, q2, q3, q4, f0, f1, f2, f3, f4⟩ := five_cells (first_block wt (.cells #[.int .i64 k, .int .i64 at_, .string n', .slice A l.length cp, .string x'] 38))
              have HS := Lib.hid (And.intro hS hF)
              have HN := Lib.hid (And.intro hn' hx')
              obtain ⟨i0, hi, hz0, hz1, hz2⟩ := info_parts tok_info
              clear hstep hm HJ HTF htk hk hd HDF HTT hS hF hn' hx'
              have cell_one : ∀ u ∈ [Value.int .i64 k, .int .i64 (at_ : Int), .string n', .slice A l.length cp, .string x'], u.oneCell' = true := by
                intro u hu
                simp only [List.mem_cons, List.mem_nil_iff, or_false] at hu
                rcases hu with rfl | rfl | rfl | rfl | rfl <;> rfl
              have hbs : (wt.alloc (.cells #[.int .i64 k, .int .i64 at_, .string n', .slice A l.length cp, .string x'] 38)).heap.size = wt.heap.size + 1 := by simp
              have HLIT := Lib.hid (Sl.lit (wt.alloc (.cells #[.int .i64 k, .int .i64 at_, .string n', .slice A l.length cp, .string x'] 38)) 5 [.int .i64 k, .int .i64 (at_ : Int), .string n', .slice A l.length cp, .string x'] 38 1 rfl)
              rw [hbs] at HLIT
              have HF := Lib.hid (show prs l ≠ [] → ∀ ad, A = some ad → D + 1 ≤ ad.block ∧ (Value.slice A0 acc.length c0).ownBlock ≠ some ad.block from fun _ ad ha => by
                have h1 := HS.out.2 ad ha
                have h2 := HDr.out
                refine ⟨by omega, fun e => ?_⟩
                have := (HWL.out _ e).2
                omega)
              have HS2 := Lib.hid (Sl2.alloc (Sl2.alloc HS.out.1 (.cells #[.int .i64 k, .int .i64 at_, .string n', .slice A l.length cp, .string x'] 38)) (.cells #[.int .i64 k, .int .i64 at_, .string n', .slice A l.length cp, .string x'] 38))
              have HX := Lib.hid (show [Value.int .i64 k, .int .i64 (at_ : Int), .string n', .slice A l.length cp, .string x'] = tokC (tv (at_, (k, n, l, x))) (A, cp) by simp [tokC, tv, prs_len, HN.out.1, HN.out.2])
              have HT3 := Lib.hid (HT2.out.alloc (.cells #[.int .i64 k, .int .i64 at_, .string n', .slice A l.length cp, .string x'] 38))
              clear hbs
              go_wp2_with (at_builtin; refine wpList_append_sl _ rfl (.tmp 27) (.tmp 29) _ rfl (D + 1) 38 i0 _ 5 72 Tryz.underlying33 hi hz0 hz1 hz2 rfl (by omega) _ acc.length (cells5 (acc.map tv) ads) rfl HT3.out.own (some ⟨wt.heap.size + 1, 0, none⟩) 1 1 [.int .i64 k, .int .i64 (at_ : Int), .string n', .slice A l.length cp, .string x'] rfl HLIT.out cell_one (by simp only [maxLen]; omega) (by omega) (by have := HDl.out; simp; omega) ?_; intro v4 w4 hown4 hg4 hat4; obtain ⟨A4, c4, hsh⟩ := own_shape hown4; subst hsh; have HT4 := Lib.hid (HT3.out.app (at_, (k, n, l, x)) A cp HS2.out HF.out HX.out hown4 hg4 hat4); have c34 : w4.cell? ⟨w.heap.size, 0, none⟩ = some (.slice A0 acc.length c0) := blk_cell (HT3.out.low hg4) 0; have f34 : w4.frozen? ⟨w.heap.size, 0, none⟩ = false := blk_free (HT3.out.low hg4) 0; clear hown4 hg4 hat4)
              go_roundg g
              case measure => omega
              case rel => exact ⟨a, acc ++ [(at_, (k, n, l, x))], ads ++ [(A, cp)], _, HT4, hge.2, by omega, by simp; omega, HJ2⟩
        · have glt : ¬ ((at_ : Int) < (s.size : Int)) := by omega
          obtain ⟨g, rfl⟩ : ∃ g, gk = g + 1 := ⟨gk - 1, by omega⟩
          have hr : r = .ok acc := by
            have h := HJ.out
            rw [show tokLU s.data.toList (g + 1) at_ = if s.data.toList.length ≤ at_ then .ok [] else match tokenU s.data.toList at_ with | .error e => .error e | .ok (t, a) => match tokLU s.data.toList g a with | .error e => .error e | .ok ts => .ok (consT at_ t ts) from rfl, if_pos (by rw [← Lib.size_eq]; omega)] at h
            rw [← h]
            simp [joinE]
          have HR := Lib.hid hr
          obtain ⟨A0, k0, hv0⟩ := own_shape HT.out.own
          subst hv0
          have cR0 := blk_cell HT.out.r0 0
          have fR0 := blk_free HT.out.r0 0
          have cR1 := blk_cell HT.out.r1 0
          have fR1 := blk_free HT.out.r1 0
          have cR2 := blk_cell HT.out.r2 0
          have fR2 := blk_free HT.out.r2 0
          clear hdoc hr HJ c1 f1
          go_wp2
          refine leaves_cons (f := 36) (args := #[.pointer (some ⟨w.heap.size, 0, none⟩), .pointer (some ⟨w.heap.size + 1, 0, none⟩), .pointer (some ⟨w.heap.size + 1 + 1, 0, none⟩)]) (by simp) (by simp [go_sem]) ?_
          refine (tcatch_idle _ _ _ _).mono ?_
          rintro e u' wz ⟨rfl, rfl, rfl⟩
          refine ⟨_, results3 Tryz.results16 _ _ w.heap.size (w.heap.size + 1) (w.heap.size + 1 + 1) 33 3 26 (.slice A0 acc.length k0) (.int .i64 0) (.int .i64 0) rfl rfl rfl ?_ ?_ ?_ Tryz.isAgg33 Tryz.isAgg3 Tryz.isAgg26, ?_⟩
          · exact set_other (set_other (blk_set HT.out.r0 0 _) (by omega) _) (by omega) _
          · exact set_other (blk_set (set_other HT.out.r1 (by omega) _) 0 _) (by omega) _
          · exact blk_set (set_other (set_other HT.out.r2 (by omega) _) (by omega) _) 0 _
          · have hfin : ∀ g, D + 1 ≤ g → ((((wr.setCell ⟨w.heap.size, 0, none⟩ (.slice A0 acc.length k0)).setCell ⟨w.heap.size + 1, 0, none⟩ (.int .i64 0)).setCell ⟨w.heap.size + 1 + 1, 0, none⟩ (.int .i64 0)).heap[g]? = wr.heap[g]?) := fun g hg => by
              rw [Below.heap_setCell _ _ _ _ (by simp; omega), Below.heap_setCell _ _ _ _ (by simp; omega), Below.heap_setCell _ _ _ _ (by simp; omega)]
            have hsz : wr.heap.size ≤ (((wr.setCell ⟨w.heap.size, 0, none⟩ (.slice A0 acc.length k0)).setCell ⟨w.heap.size + 1, 0, none⟩ (.int .i64 0)).setCell ⟨w.heap.size + 1 + 1, 0, none⟩ (.int .i64 0)).heap.size := by simp [World.setCell]
            refine ⟨?_, ((HT.out.below.setCell (Nat.le_refl _) _).setCell (by simp) _).setCell (by simp; omega) _⟩
            rw [HR.out]
            refine ⟨A0, k0, rfl, ads, by rw [List.length_map]; exact HT.out.len, ?_, ?_⟩
            · have h1 := HT.out.own
              rw [List.length_map]
              exact Sl.to (Sl.of_own h1) hsz (fun _ ad ha _ => hfin _ (own_fresh h1 ad ha))
            · intro j t a hj hb
              obtain ⟨h1, h2⟩ := HT.out.each j t a hj hb
              exact Sl.to h1 hsz (fun h0 ad ha _ => hfin _ (h2 (fun e => by rw [e] at h0; simp at h0) ad ha).1)
end Go.Proofs.YtflfnnkdkfcpkaaGreatDoor

