/- SbB. -/
import Derived.Test.YtbdamneophbnnaaGreatDoorCZ8
namespace Wb
theorem ext_to (s : ByteArray) (a b : Nat) : (⟨(s.extract a b).data.toList.toArray⟩ : ByteArray) = s.extract a b := to_list _
end Wb
namespace Go.Proofs.YtbdamneophbnnaaGreatDoor
open Go.RowKit Wb
set_option maxRecDepth 100000 in
set_option maxHeartbeats 8000000 in
theorem rbinds_any (q : ByteArray) (w : World) (hq : q.size ≤ 1000000) :
    Calls Tryz.prog 22 #[.string q] w (BindsOut (bindsP q.data.toList) w) := by
  obtain ⟨o, ho⟩ : ∃ o, bindsP q.data.toList = o := ⟨_, rfl⟩
  rw [ho]
  unfold bindsP at ho
  have hd := fun v => rdecode_any q v hq
  obtain ⟨s, e0, hse⟩ : ∃ s e0, decP q.data.toList = (s, e0) := ⟨_, _, rfl⟩
  have hsl : s.length ≤ q.size := by
    have := decP_len q.data.toList
    rw [hse] at this
    simpa using this
  rw [hse] at ho hd
  simp only at ho hd
  obtain ⟨S, hS⟩ : ∃ S : ByteArray, ⟨s.toArray⟩ = S := ⟨_, rfl⟩
  have hSl : S.data.toList = s := by rw [← hS]
  have hSz : S.size = s.length := by rw [← hS]; show s.toArray.size = _; simp
  rw [hS] at hd
  clear hse hS
  by_cases h0 : e0 = 0
  · subst h0
    rw [if_pos rfl] at ho
    have HO := Lib.hid ho
    have hSq : S.size ≤ 1000000 := by omega
    have HSL := Lib.hid hSl
    have HSZ := Lib.hid hSz
    clear ho hSl hSz hsl
    go_enter Tryz.func22, Tryz.ntmps22
    go_wp2_with fail
    refine (hd _).mono ?_
    rintro e w1 ⟨rfl, hb1⟩
    have HB1 := Lib.hid hb1
    clear hd hb1
    go_wp2
    go_loopw [6, 7] (fun v6 v7 wr => ∃ (f i : Nat) (out : List Pr) (A : Option Addr) (c : Nat), i ≤ S.size ∧ S.size - i < f ∧ v6 = .slice A out.length c ∧ v7 = .int .i64 i ∧ out.length ≤ 16 ∧ Hid (bindsL f (S.data.toList.drop i) out = o) ∧ Hid (Sl2 wr A out) ∧ Hid (Below w.heap.size w wr)) (fun _ v7 _ => ((S.size : Int) - intOf v7).toNat)
    case atStart => exact ⟨s.length + 1, 0, [], none, 0, by omega, by rw [HSZ.out]; omega, rfl, rfl, by simp, Lib.hid (by rw [List.drop_zero, HSL.out]; exact HO.out), Lib.hid (Sl2.nil _ _), HB1⟩
    case round =>
      clear HO HB1
      obtain ⟨f, i, out, A, c, hi, hf, rfl, rfl, hol, HL, HA, HB⟩ := hrel
      obtain ⟨f, rfl⟩ : ∃ g, f = g + 1 := ⟨f - 1, by omega⟩
      go_wp2
      go_loopw [7] (fun v7 wq => ∃ j : Nat, i ≤ j ∧ j ≤ S.size ∧ v7 = .int .i64 j ∧ Hid ((S.data.toList.drop j).dropWhile blkU = (S.data.toList.drop i).dropWhile blkU) ∧ wq = wr) (fun v7 _ => ((S.size : Int) - intOf v7).toNat)
      case atStart => exact ⟨i, by omega, hi, rfl, Lib.hid rfl, rfl⟩
      case round =>
        obtain ⟨j, hij, hj, rfl, HD, rfl⟩ := hrel
        by_cases hjs : j < S.size
        · have hjl : j < S.data.toList.length := by simpa using hjs
          have hdc : S.data.toList.drop j = S[j] :: S.data.toList.drop (j + 1) := List.drop_eq_getElem_cons hjl
          have hbl := fun v => rblank_any (S[j].toNat : Int) v
          have w1 : IntKind.i64.wrap ((j : Int) + 1) = (j : Int) + 1 := by rw [IntKind.wrap_i64]; omega
          cases hb : blk (S[j].toNat : Int) with
          | true =>
            rw [hb] at hbl
            have HD2 : Hid ((S.data.toList.drop (j + 1)).dropWhile blkU = (S.data.toList.drop i).dropWhile blkU) := Lib.hid (by
              rw [← HD.out, hdc, List.dropWhile_cons, if_pos (by exact hb)])
            clear hb hdc HD
            go_wp2_with fail
            refine (hbl _).mono ?_
            rintro e w2 ⟨rfl, rfl⟩
            clear hbl
            go_wp2
            go_roundw
            case rel => exact ⟨j + 1, by omega, by omega, by go_num, HD2, by first | rfl | trivial⟩
            case measure => simp [intOf]; omega
          | false =>
            rw [hb] at hbl
            have hdw : (S.data.toList.drop i).dropWhile blkU = S.data.toList.drop j := by
              rw [← HD.out, hdc, List.dropWhile_cons, if_neg (by show ¬ blk _ = true; rw [hb]; decide)]
            have hne : (S.data.toList.drop i).dropWhile blkU ≠ [] := by rw [hdw, hdc]; simp
            have i1 := fun v => index_any S ⟨#[41]⟩ j v (by omega) (by decide) (by omega)
            have i2 := fun v => index_any S ⟨#[61]⟩ j v (by omega) (by decide) (by omega)
            have i3 := fun v => begins_any S ⟨#[120, 109, 108, 110, 115, 40]⟩ (j : Int) v (by omega) (by decide) (by omega) (by omega)
            have I2 := Lib.hid i2
            have I3 := Lib.hid i3
            clear hb hdc HD i2 i3
            go_wp2_with fail
            refine (hbl _).mono ?_
            rintro e w2 ⟨rfl, rfl⟩
            clear hbl
            go_wp2_with fail
            refine (i1 _).mono ?_
            rintro e w2 ⟨re, rfl, hre, rfl⟩
            have HRE := Lib.hid hre
            clear i1 hre
            go_wp2_with fail
            refine (I2.out _).mono ?_
            rintro e w2 ⟨rq, rfl, hrq, rfl⟩
            have HRQ := Lib.hid hrq
            clear I2 hrq
            go_wp2_with fail
            refine (I3.out _).mono ?_
            rintro e w2 ⟨rfl, rfl⟩
            clear I3
            obtain ⟨b, hb⟩ : ∃ b, begB S j ⟨#[120, 109, 108, 110, 115, 40]⟩ = b := ⟨_, rfl⟩
            have hfa := bind_facts hjs HRE.out HRQ.out hb
            rw [hb]
            rw [← hdw] at hfa
            clear HRE HRQ hb
            rcases hfa with ⟨hb1, hcase⟩ | ⟨k1, k2, rfl, rfl, rfl, h6, hk, hk1, hn, hb1⟩
            · have HE : Hid (o = ([], 4)) := Lib.hid (HL.out.symm.trans (bindsL_none hne hb1))
              clear hb1 hdw hne HL
              rcases hcase with rfl | ⟨rfl, rfl⟩ | ⟨rfl, h1, rfl⟩ | ⟨rfl, h1, h2, h3⟩ | ⟨k1, k2, rfl, rfl, rfl, h6, hk, hk1, hn⟩
              · go_wp2
                go_ret2
                rw [HE.out]
                exact BindsOut.bad HB.out
              · go_wp2
                go_ret2
                rw [HE.out]
                exact BindsOut.bad HB.out
              · have h1' : ¬ re < 0 := by omega
                go_wp2
                go_ret2
                rw [HE.out]
                exact BindsOut.bad HB.out
              · have h1' : ¬ re < 0 := by omega
                have h2' : ¬ rq < 0 := by omega
                go_wp2
                go_ret2
                rw [HE.out]
                exact BindsOut.bad HB.out
              · have hnm := fun v => rname_any (S.extract (j + 6) k2) v (by rw [ByteArray.size_extract]; omega)
                rw [hn] at hnm
                have g1 : ¬ ((k1 : Int) < (k2 : Int)) := by omega
                have g2 : (j : Int) + 6 ≤ (k2 : Int) := by omega
                have g3 : (k2 : Int) ≤ (S.size : Int) := by omega
                have w6 : IntKind.i64.wrap ((j : Int) + 6) = (j : Int) + 6 := by rw [IntKind.wrap_i64]; omega
                go_wp2_with fail
                refine (hnm _).mono ?_
                rintro e w3 ⟨rfl, hb3⟩
                have HB3 := Lib.hid (HB.out.trans (hb3.mono HB.out.size))
                clear hnm hb3
                go_wp2
                go_ret2
                rw [HE.out]
                exact BindsOut.bad HB3.out
            · have HS := Lib.hid (HL.out.symm.trans (bindsL_some hne hb1))
              clear hb1 hdw hne HL
              have hnm := fun v => rname_any (S.extract (j + 6) k2) v (by rw [ByteArray.size_extract]; omega)
              rw [hn] at hnm
              have g1 : ¬ ((k1 : Int) < (k2 : Int)) := by omega
              have g2 : (j : Int) + 6 ≤ (k2 : Int) := by omega
              have g3 : (k2 : Int) ≤ (S.size : Int) := by omega
              have w6 : IntKind.i64.wrap ((j : Int) + 6) = (j : Int) + 6 := by rw [IntKind.wrap_i64]; omega
              by_cases h16 : 16 ≤ out.length
              · rw [if_pos h16] at HS
                have h17 : ((out.length : Int) == 16) = true := by rw [beq_iff_eq]; omega
                go_wp2_with fail
                refine (hnm _).mono ?_
                rintro e w3 ⟨rfl, hb3⟩
                have HB3 := Lib.hid (HB.out.trans (hb3.mono HB.out.size))
                clear hnm hb3
                go_wp2
                go_ret2
                rw [HS.out]
                exact BindsOut.bad HB3.out
              · rw [if_neg h16] at HS
                have h17 : ((out.length : Int) == 16) = false := by rw [beq_eq_false_iff_ne]; omega
                have g4 : (k2 : Int) + 1 ≤ (k1 : Int) := by omega
                have g5 : (k1 : Int) ≤ (S.size : Int) := by omega
                have g6 : (0 : Int) ≤ (k2 : Int) + 1 := by omega
                have w7 : IntKind.i64.wrap ((k2 : Int) + 1) = (k2 : Int) + 1 := by rw [IntKind.wrap_i64]; omega
                have w8 : IntKind.i64.wrap ((k1 : Int) + 1) = (k1 : Int) + 1 := by rw [IntKind.wrap_i64]; omega
                rw [ext_to, ext_to] at HS
                obtain ⟨P, hP⟩ : ∃ P, S.extract (j + 6) k2 = P := ⟨_, rfl⟩
                obtain ⟨X, hX⟩ : ∃ X, S.extract (k2 + 1) k1 = X := ⟨_, rfl⟩
                have hPs : P.size ≤ 1000000 := by rw [← hP, ByteArray.size_extract]; omega
                have hP2 : S.extract ((j : Int) + 6).toNat k2 = P := by
                  rw [show ((j : Int) + 6).toNat = j + 6 by omega]
                  exact hP
                rw [hP, hX] at HS
                rw [hP] at hnm
                obtain ⟨B, hB⟩ : ∃ B, bindB P X = B := ⟨_, rfl⟩
                rw [hB] at HS
                have HBB := Lib.hid hB
                clear hB
                go_wp2_with fail
                (try rw [hP])
                refine (hnm _).mono ?_
                rintro e w3 ⟨rfl, hb3⟩
                have HB3 := Lib.hid (HB.out.trans (hb3.mono HB.out.size))
                have HA3 := Lib.hid (HA.out.below hb3)
                clear hnm hb3 HA HB
                by_cases hB0 : B = 0
                · subst hB0
                  rw [if_pos rfl] at HS
                  go_upto_region 16 with fail
                  (try simp only [List.append])
                  refine wp_region_held_drew (S := (fun _ => True)) (by kernel_rfl) (trivial) (fun hHeld => ?_)
                  refine takeW 0 ?_
                  refine takeW 1 ?_
                  refine takeW 2 ?_
                  refine takeW 3 ?_
                  (try simp only [Act.put, List.setIfInBounds_toArray, List.set_cons_zero, List.set_cons_succ])
                  refine takeW 4 ?_
                  refine takeW 5 ?_
                  refine takeW 6 ?_
                  refine takeW 7 ?_
                  (try simp only [Act.put, List.setIfInBounds_toArray, List.set_cons_zero, List.set_cons_succ])
                  refine takeW 8 ?_
                  refine takeW 9 ?_
                  refine takeW 10 ?_
                  (try simp only [Act.put, List.setIfInBounds_toArray, List.set_cons_zero, List.set_cons_succ])
                  refine wpAnyH_ready (rs := [11]) (by kernel_rfl) (by simp) ?_
                  refine AllReadyH.cons rfl (fun K2 hK2 => ?_) AllReadyH.nil
                  go_simp
                  (try rw [hP])
                  (try rw [hP2])
                  (try rw [hX])
                  refine (radd_any A out c P X _ (by omega) (by omega) (show Sl2 w3.drew A out from HA3.out)).mono ?_
                  rintro e w4 ⟨hb4, hE⟩
                  have hE2 := hE _ HBB.out.symm
                  have HB4 : Hid (Below w.heap.size w w4) := Lib.hid (HB3.out.drew.trans (hb4.mono HB3.out.drew.size))
                  clear hb4 hE HBB HB3
                  rw [if_pos rfl] at hE2
                  obtain ⟨C, kk, rfl, hC, _⟩ := hE2
                  have HC := Lib.hid hC
                  clear hC
                  refine hK2.out _ _ trivial (fun _ => ?_)
                  refine takeW 12 ?_
                  (try simp only [Act.put, List.setIfInBounds_toArray, List.set_cons_zero, List.set_cons_succ])
                  refine takeW 13 ?_
                  refine takeW 14 ?_
                  refine takeW 15 ?_
                  refine takeW 16 ?_
                  (try simp only [Act.put, List.setIfInBounds_toArray, List.set_cons_zero, List.set_cons_succ])
                  refine wpAnyH_done (by kernel_rfl) ?_ _
                  rw [List.length_append, List.length_singleton] at *
                  go_wp2
                  go_roundw
                  case rel => exact ⟨f, k1 + 1, out ++ [(P, X)], C, kk, by omega, by omega, by simp, by go_num, by simp; omega, Lib.hid HS.out.symm, HC, HB4⟩
                  case measure => simp [intOf]; omega
                · rw [if_neg hB0] at HS
                  have h1b : (B != 0) = true := by simpa using hB0
                  go_upto_region 16 with fail
                  (try simp only [List.append])
                  refine wp_region_held_drew (S := (fun _ => True)) (by kernel_rfl) (trivial) (fun hHeld => ?_)
                  refine takeW 0 ?_
                  refine takeW 1 ?_
                  refine takeW 2 ?_
                  refine takeW 3 ?_
                  (try simp only [Act.put, List.setIfInBounds_toArray, List.set_cons_zero, List.set_cons_succ])
                  refine takeW 4 ?_
                  refine takeW 5 ?_
                  refine takeW 6 ?_
                  refine takeW 7 ?_
                  (try simp only [Act.put, List.setIfInBounds_toArray, List.set_cons_zero, List.set_cons_succ])
                  refine takeW 8 ?_
                  refine takeW 9 ?_
                  refine takeW 10 ?_
                  (try simp only [Act.put, List.setIfInBounds_toArray, List.set_cons_zero, List.set_cons_succ])
                  refine wpAnyH_ready (rs := [11]) (by kernel_rfl) (by simp) ?_
                  refine AllReadyH.cons rfl (fun K2 hK2 => ?_) AllReadyH.nil
                  go_simp
                  (try rw [hP])
                  (try rw [hP2])
                  (try rw [hX])
                  refine (radd_any A out c P X _ (by omega) (by omega) (show Sl2 w3.drew A out from HA3.out)).mono ?_
                  rintro e w4 ⟨hb4, hE⟩
                  have hE2 := hE _ HBB.out.symm
                  have HB4 : Hid (Below w.heap.size w w4) := Lib.hid (HB3.out.drew.trans (hb4.mono HB3.out.drew.size))
                  clear hb4 hE HBB HB3
                  rw [if_neg hB0] at hE2
                  subst hE2
                  refine hK2.out _ _ trivial (fun _ => ?_)
                  refine takeW 12 ?_
                  (try simp only [Act.put, List.setIfInBounds_toArray, List.set_cons_zero, List.set_cons_succ])
                  refine takeW 13 ?_
                  refine takeW 14 ?_
                  refine takeW 15 ?_
                  refine takeW 16 ?_
                  (try simp only [Act.put, List.setIfInBounds_toArray, List.set_cons_zero, List.set_cons_succ])
                  refine wpAnyH_done (by kernel_rfl) ?_ _
                  go_wp2
                  go_ret2
                  rw [HS.out]
                  exact BindsOut.bad HB4.out
        · obtain rfl : j = S.size := by omega
          have hnil : (S.data.toList.drop i).dropWhile blkU = [] := by
            rw [← HD.out, List.drop_eq_nil_of_le (by simp)]
            rfl
          have HE := Lib.hid (HL.out.symm.trans (bindsL_end hnil))
          clear hnil HD HL
          go_wp2
          go_ret2
          rw [HE.out]
          exact ⟨A, c, rfl, HA.out, HB.out⟩
  · rw [if_neg h0] at ho
    have HO := Lib.hid ho
    have h1 : (e0 != 0) = true := by simpa using h0
    clear ho
    go_enter Tryz.func22, Tryz.ntmps22
    go_wp2_with fail
    refine (hd _).mono ?_
    rintro e w1 ⟨rfl, hb1⟩
    have HB1 := Lib.hid hb1
    clear hd hb1
    go_wp2
    go_ret2
    rw [← HO.out]
    exact BindsOut.bad HB1.out
end Go.Proofs.YtbdamneophbnnaaGreatDoor
