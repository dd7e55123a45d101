/- LdA. -/
import Derived.Test.YtlcjepnaljfpkaaGreatDoorQl25
namespace Go.Proofs.YtlcjepnaljfpkaaGreatDoor
open Go.RowKit Wb
theorem ba_eq (s : ByteArray) : (⟨s.data.toList.toArray⟩ : ByteArray) = s := by cases s; simp
theorem ba_len (l : List UInt8) : (⟨l.toArray⟩ : ByteArray).size = l.length := by rw [Lib.size_eq]
theorem pre_dec (p : List UInt8) (l : List UInt8) (n : Nat) (hn : p.length = n) : Lib.hasPrefix l p = decide (l.take n = p) := by
  subst hn
  rw [show Lib.hasPrefix l p = p.isPrefixOf l from rfl, pre_take]
theorem head_ba {c : UInt8} {q : List UInt8} {z : ByteArray} (hz : z.data.toList = c :: q) : ∃ h : 0 < z.size, z[0] = c := by
  have h0 : 0 < z.size := by rw [Lib.size_eq, hz]; simp
  refine ⟨h0, ?_⟩
  have h := Lib.data_getElem? z 0 h0
  rw [hz] at h
  exact (Option.some.inj h).symm
def ToldOut (r : List UInt8 × List UInt8) (w : World) (e : Ending) (w' : World) : Prop := e = .returned (.tuple #[.string ⟨r.1.toArray⟩, .string ⟨r.2.toArray⟩]) ∧ Below w.heap.size w w'
set_option maxRecDepth 100000 in
set_option maxHeartbeats 2000000 in
theorem told_any (s name other : ByteArray) (w : World) (hG : Gv w) (hs : s.size ≤ 1000000) :
    Calls Tryz.prog 64 #[.string s, .string name, .string other] w fun e w' => ToldOut (toldX s.data.toList name.data.toList other.data.toList) w e w' := by
  obtain ⟨r, hr⟩ : ∃ r, toldX s.data.toList name.data.toList other.data.toList = r := ⟨_, rfl⟩
  rw [hr]
  unfold toldX at hr
  simp only at hr
  have back : r = (other.data.toList, s.data.toList) → ToldOut r w (.returned (.tuple #[.string other, .string s])) w := by
    intro e
    subst e
    exact ⟨by rw [ba_eq, ba_eq], Below.refl _ _⟩
  have hsk := skip_any s w (by omega)
  obtain ⟨z1, hz1⟩ : ∃ z : ByteArray, (⟨(s.data.toList.dropWhile blkB).toArray⟩ : ByteArray) = z := ⟨_, rfl⟩
  have hl1 : z1.data.toList = s.data.toList.dropWhile blkB := by rw [← hz1]
  rw [hz1] at hsk
  rw [← hl1] at hr
  have hz1s : z1.size ≤ s.size := by
    rw [Lib.size_eq, Lib.size_eq, hl1]
    exact (List.dropWhile_sublist _).length_le
  clear hl1 hz1
  by_cases e1 : z1.data.toList.length = s.data.toList.length
  · rw [if_pos e1] at hr
    have g1 : ((z1.size : Int) == (s.size : Int)) = true := beq_iff_eq.2 (by rw [Lib.size_eq, Lib.size_eq]; omega)
    have HB := Lib.hid (back hr.symm)
    clear back hr e1
    go_enter Tryz.func64, Tryz.ntmps64
    go_wp2_with fail
    refine hsk.mono ?_
    rintro e w1 ⟨rfl, rfl⟩
    go_wp2
    go_ret2
    exact HB.out
  · rw [if_neg e1] at hr
    have g1 : ((z1.size : Int) == (s.size : Int)) = false := beq_eq_false_iff_ne.2 (by rw [Lib.size_eq, Lib.size_eq]; omega)
    clear e1
    by_cases e2 : z1.data.toList.take name.data.toList.length = name.data.toList
    · rw [if_neg (fun h => h e2)] at hr
      have hcp := cutpre_any z1 name w true (by rw [pre_dec _ _ _ rfl, decide_eq_true e2])
      rw [if_pos rfl, Lib.size_eq name] at hcp
      obtain ⟨z2, hz2⟩ : ∃ z : ByteArray, (⟨(z1.data.toList.drop name.data.toList.length).toArray⟩ : ByteArray) = z := ⟨_, rfl⟩
      have hl2 : z2.data.toList = z1.data.toList.drop name.data.toList.length := by rw [← hz2]
      rw [hz2] at hcp
      rw [← hl2] at hr
      have hz2s : z2.size ≤ z1.size := by rw [Lib.size_eq, Lib.size_eq, hl2, List.length_drop]; omega
      clear hz2 hl2 e2
      have hsk2 := skip_any z2 w (by omega)
      obtain ⟨z3, hz3⟩ : ∃ z : ByteArray, (⟨(z2.data.toList.dropWhile blkB).toArray⟩ : ByteArray) = z := ⟨_, rfl⟩
      have hl3 : z3.data.toList = z2.data.toList.dropWhile blkB := by rw [← hz3]
      rw [hz3] at hsk2
      rw [← hl3] at hr
      have hz3s : z3.size ≤ z2.size := by
        rw [Lib.size_eq, Lib.size_eq, hl3]
        exact (List.dropWhile_sublist _).length_le
      clear hz3 hl3
      by_cases e3 : z3.data.toList.take 1 = [61]
      · rw [if_neg (fun h => h e3)] at hr
        have hcp3 := cutpre_any z3 ⟨#[61]⟩ w true (by rw [pre_dec _ _ 1 rfl, decide_eq_true e3])
        rw [if_pos rfl] at hcp3
        obtain ⟨z4, hz4⟩ : ∃ z : ByteArray, (⟨(z3.data.toList.drop 1).toArray⟩ : ByteArray) = z := ⟨_, rfl⟩
        have hl4 : z4.data.toList = z3.data.toList.drop 1 := by rw [← hz4]
        rw [show (⟨#[61]⟩ : ByteArray).size = 1 from rfl, hz4] at hcp3
        rw [← hl4] at hr
        have hz4s : z4.size ≤ z3.size := by rw [Lib.size_eq, Lib.size_eq, hl4, List.length_drop]; omega
        clear hz4 hl4 e3
        have hsk4 := skip_any z4 w (by omega)
        obtain ⟨z5, hz5⟩ : ∃ z : ByteArray, (⟨(z4.data.toList.dropWhile blkB).toArray⟩ : ByteArray) = z := ⟨_, rfl⟩
        have hl5 : z5.data.toList = z4.data.toList.dropWhile blkB := by rw [← hz5]
        rw [hz5] at hsk4
        rw [← hl5] at hr
        have hz5s : z5.size ≤ z4.size := by
          rw [Lib.size_eq, Lib.size_eq, hl5]
          exact (List.dropWhile_sublist _).length_le
        clear hz5 hl5
        have HS := Lib.hid (And.intro hsk (And.intro hcp (And.intro hsk2 (And.intro hcp3 hsk4))))
        clear hsk hcp hsk2 hcp3 hsk4
        cases h5 : z5.data.toList with
        | nil =>
          rw [h5] at hr
          have z50 : z5.toList = [] := by rw [ByteArray.toList_eq]; exact h5
          have z51 : z5.toList.isEmpty = true := by rw [ByteArray.toList_eq, h5]; rfl
          have HB := Lib.hid (back hr.symm)
          clear back hr h5
          go_enter Tryz.func64, Tryz.ntmps64
          go_wp2_with fail
          refine HS.out.1.mono ?_
          rintro e w1 ⟨rfl, rfl⟩
          go_wp2_with fail
          refine HS.out.2.1.mono ?_
          rintro e w2 ⟨rfl, rfl⟩
          go_wp2_with fail
          refine HS.out.2.2.1.mono ?_
          rintro e w3 ⟨rfl, rfl⟩
          go_wp2_with fail
          refine HS.out.2.2.2.1.mono ?_
          rintro e w4 ⟨rfl, rfl⟩
          go_wp2_with fail
          refine HS.out.2.2.2.2.mono ?_
          rintro e w5 ⟨rfl, rfl⟩
          go_wp2
          go_ret2
          exact HB.out
        | cons q r3 =>
          rw [h5] at hr
          simp only at hr
          obtain ⟨h50, q0⟩ := head_ba h5
          have z50 : ¬ z5.toList = [] := by rw [ByteArray.toList_eq, h5]; simp
          have z51 : z5.toList.isEmpty = false := by rw [ByteArray.toList_eq, h5]; rfl
          by_cases hq : q = 34 ∨ q = 39
          · rw [if_pos hq] at hr
            rcases hq with rfl | rfl
            · have n34 : (((34 : UInt8).toNat : Int) != 34) = false := by decide
              have hq := True.intro
              have hyl : (z5.extract 1 z5.size).data.toList = r3 := by
                rw [extract_L, h5, List.take_of_length_le (by rw [Lib.size_eq, h5]; simp)]
                rfl
              have hpl : (z5.extract 0 1).data.toList = [34] := by rw [extract_L, h5]; rfl
              have hct := scut_any (z5.extract 1 z5.size) (z5.extract 0 1) w.drew hG.drew (by simp; omega)
              rw [hyl, hpl] at hct
              have y1 : (1 : Int) ≤ (z5.size : Int) := by omega
              rcases cut_until [34] (by simp) r3 with ⟨h1, h2⟩ | ⟨n, v, h1, h2, hnn, hnl⟩
              · rw [h1] at hr
                rw [h2] at hct
                have HB := Lib.hid (back hr.symm)
                clear back hr h5 h1 h2 hyl hpl hq
                go_enter Tryz.func64, Tryz.ntmps64
                go_wp2_with fail
                refine HS.out.1.mono ?_
                rintro e w1 ⟨rfl, rfl⟩
                go_wp2_with fail
                refine HS.out.2.1.mono ?_
                rintro e w2 ⟨rfl, rfl⟩
                go_wp2_with fail
                refine HS.out.2.2.1.mono ?_
                rintro e w3 ⟨rfl, rfl⟩
                go_wp2_with fail
                refine HS.out.2.2.2.1.mono ?_
                rintro e w4 ⟨rfl, rfl⟩
                go_wp2_with fail
                refine HS.out.2.2.2.2.mono ?_
                rintro e w5 ⟨rfl, rfl⟩
                go_wp2_with fail
                go_region_law (first
                  | (go_simp; go_at_call 99; refine hct.mono ?_; rintro e w6 ⟨rfl, m, rfl⟩))
                go_wp2
                go_ret2
                exact ⟨HB.out.1, ⟨rfl, rfl, rfl, Nat.le_refl _, fun _ _ => rfl⟩⟩
              · rw [h1] at hr
                simp only at hr
                rw [h2] at hct
                clear back h5 h1 h2 hyl hpl hq hnn hnl
                have HR := Lib.hid hr
                clear hr
                go_enter Tryz.func64, Tryz.ntmps64
                go_wp2_with fail
                refine HS.out.1.mono ?_
                rintro e w1 ⟨rfl, rfl⟩
                go_wp2_with fail
                refine HS.out.2.1.mono ?_
                rintro e w2 ⟨rfl, rfl⟩
                go_wp2_with fail
                refine HS.out.2.2.1.mono ?_
                rintro e w3 ⟨rfl, rfl⟩
                go_wp2_with fail
                refine HS.out.2.2.2.1.mono ?_
                rintro e w4 ⟨rfl, rfl⟩
                go_wp2_with fail
                refine HS.out.2.2.2.2.mono ?_
                rintro e w5 ⟨rfl, rfl⟩
                go_wp2_with fail
                go_region_law (first
                  | (go_simp; go_at_call 99; refine hct.mono ?_; rintro e w6 ⟨rfl, m, rfl⟩))
                go_wp2
                go_ret2
                refine ⟨?_, ⟨rfl, rfl, rfl, Nat.le_refl _, fun _ _ => rfl⟩⟩
                rw [← HR.out]
                rfl
            · have n34 : (((39 : UInt8).toNat : Int) != 34) = true := by decide
              have n39 : (((39 : UInt8).toNat : Int) != 39) = false := by decide
              have hq := True.intro
              have hyl : (z5.extract 1 z5.size).data.toList = r3 := by
                rw [extract_L, h5, List.take_of_length_le (by rw [Lib.size_eq, h5]; simp)]
                rfl
              have hpl : (z5.extract 0 1).data.toList = [39] := by rw [extract_L, h5]; rfl
              have hct := scut_any (z5.extract 1 z5.size) (z5.extract 0 1) w.drew hG.drew (by simp; omega)
              rw [hyl, hpl] at hct
              have y1 : (1 : Int) ≤ (z5.size : Int) := by omega
              rcases cut_until [39] (by simp) r3 with ⟨h1, h2⟩ | ⟨n, v, h1, h2, hnn, hnl⟩
              · rw [h1] at hr
                rw [h2] at hct
                have HB := Lib.hid (back hr.symm)
                clear back hr h5 h1 h2 hyl hpl hq
                go_enter Tryz.func64, Tryz.ntmps64
                go_wp2_with fail
                refine HS.out.1.mono ?_
                rintro e w1 ⟨rfl, rfl⟩
                go_wp2_with fail
                refine HS.out.2.1.mono ?_
                rintro e w2 ⟨rfl, rfl⟩
                go_wp2_with fail
                refine HS.out.2.2.1.mono ?_
                rintro e w3 ⟨rfl, rfl⟩
                go_wp2_with fail
                refine HS.out.2.2.2.1.mono ?_
                rintro e w4 ⟨rfl, rfl⟩
                go_wp2_with fail
                refine HS.out.2.2.2.2.mono ?_
                rintro e w5 ⟨rfl, rfl⟩
                go_wp2_with fail
                go_region_law (first
                  | (go_simp; go_at_call 99; refine hct.mono ?_; rintro e w6 ⟨rfl, m, rfl⟩))
                go_wp2
                go_ret2
                exact ⟨HB.out.1, ⟨rfl, rfl, rfl, Nat.le_refl _, fun _ _ => rfl⟩⟩
              · rw [h1] at hr
                simp only at hr
                rw [h2] at hct
                clear back h5 h1 h2 hyl hpl hq hnn hnl
                have HR := Lib.hid hr
                clear hr
                go_enter Tryz.func64, Tryz.ntmps64
                go_wp2_with fail
                refine HS.out.1.mono ?_
                rintro e w1 ⟨rfl, rfl⟩
                go_wp2_with fail
                refine HS.out.2.1.mono ?_
                rintro e w2 ⟨rfl, rfl⟩
                go_wp2_with fail
                refine HS.out.2.2.1.mono ?_
                rintro e w3 ⟨rfl, rfl⟩
                go_wp2_with fail
                refine HS.out.2.2.2.1.mono ?_
                rintro e w4 ⟨rfl, rfl⟩
                go_wp2_with fail
                refine HS.out.2.2.2.2.mono ?_
                rintro e w5 ⟨rfl, rfl⟩
                go_wp2_with fail
                go_region_law (first
                  | (go_simp; go_at_call 99; refine hct.mono ?_; rintro e w6 ⟨rfl, m, rfl⟩))
                go_wp2
                go_ret2
                refine ⟨?_, ⟨rfl, rfl, rfl, Nat.le_refl _, fun _ _ => rfl⟩⟩
                rw [← HR.out]
                rfl
          · rw [if_neg hq] at hr
            have n34 : ((q.toNat : Int) != 34) = true := by
              simp only [bne_iff_ne, ne_eq]
              intro e
              exact hq (.inl (UInt8.toNat_inj.1 (by simpa using (by omega : q.toNat = 34))))
            have n39 : ((q.toNat : Int) != 39) = true := by
              simp only [bne_iff_ne, ne_eq]
              intro e
              exact hq (.inr (UInt8.toNat_inj.1 (by simpa using (by omega : q.toNat = 39))))
            have HB := Lib.hid (back hr.symm)
            clear back hr h5 hq
            go_enter Tryz.func64, Tryz.ntmps64
            go_wp2_with fail
            refine HS.out.1.mono ?_
            rintro e w1 ⟨rfl, rfl⟩
            go_wp2_with fail
            refine HS.out.2.1.mono ?_
            rintro e w2 ⟨rfl, rfl⟩
            go_wp2_with fail
            refine HS.out.2.2.1.mono ?_
            rintro e w3 ⟨rfl, rfl⟩
            go_wp2_with fail
            refine HS.out.2.2.2.1.mono ?_
            rintro e w4 ⟨rfl, rfl⟩
            go_wp2_with fail
            refine HS.out.2.2.2.2.mono ?_
            rintro e w5 ⟨rfl, rfl⟩
            go_wp2
            go_ret2
            exact HB.out
      · rw [if_pos e3] at hr
        have hcp3 := cutpre_any z3 ⟨#[61]⟩ w false (by rw [pre_dec _ _ 1 rfl, decide_eq_false e3])
        rw [if_neg (by decide), ba_eq] at hcp3
        have hsk4 := skip_any z3 w (by omega)
        obtain ⟨z5, hz5⟩ : ∃ z : ByteArray, (⟨(z3.data.toList.dropWhile blkB).toArray⟩ : ByteArray) = z := ⟨_, rfl⟩
        rw [hz5] at hsk4
        have HS := Lib.hid (And.intro hsk (And.intro hcp (And.intro hsk2 (And.intro hcp3 hsk4))))
        have HB := Lib.hid (back hr.symm)
        clear hsk hcp hsk2 hcp3 hsk4 back hr e3 hz5
        go_enter Tryz.func64, Tryz.ntmps64
        go_wp2_with fail
        refine HS.out.1.mono ?_
        rintro e w1 ⟨rfl, rfl⟩
        go_wp2_with fail
        refine HS.out.2.1.mono ?_
        rintro e w2 ⟨rfl, rfl⟩
        go_wp2_with fail
        refine HS.out.2.2.1.mono ?_
        rintro e w3 ⟨rfl, rfl⟩
        go_wp2_with fail
        refine HS.out.2.2.2.1.mono ?_
        rintro e w4 ⟨rfl, rfl⟩
        go_wp2_with fail
        refine HS.out.2.2.2.2.mono ?_
        rintro e w5 ⟨rfl, rfl⟩
        go_wp2
        go_ret2
        exact HB.out
    · rw [if_pos e2] at hr
      have hcp := cutpre_any z1 name w false (by rw [pre_dec _ _ _ rfl, decide_eq_false e2])
      rw [if_neg (by decide), ba_eq] at hcp
      have HB := Lib.hid (back hr.symm)
      clear back hr e2
      go_enter Tryz.func64, Tryz.ntmps64
      go_wp2_with fail
      refine hsk.mono ?_
      rintro e w1 ⟨rfl, rfl⟩
      go_wp2_with fail
      refine hcp.mono ?_
      rintro e w2 ⟨rfl, rfl⟩
      go_wp2
      go_ret2
      exact HB.out
end Go.Proofs.YtlcjepnaljfpkaaGreatDoor
