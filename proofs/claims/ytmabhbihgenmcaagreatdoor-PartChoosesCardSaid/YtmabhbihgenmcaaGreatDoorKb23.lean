/- QcR. -/
import Derived.Test.YtmabhbihgenmcaaGreatDoorKb21
import Derived.Test.YtmabhbihgenmcaaGreatDoorKb22
namespace Wb
open Go Go.RowKit
theorem valD_step {L : List UInt8} {i : Nat} {c : UInt8} (h : L[i]? = some c) : valD (L.take (i + 1)) = valD (L.take i) * 10 + (c.toNat - 48) := by
  rw [List.take_add_one, h]
  unfold valD
  rw [List.foldl_append]
  rfl
theorem valD_room {L : List UInt8} {i : Nat} {c : UInt8} (h : L[i]? = some c) : valD (L.take i) * 10 ≤ valD L := by
  have h1 := valD_step h
  have h2 := valD_app (L.take (i + 1)) (L.drop (i + 1))
  rw [List.take_append_drop] at h2
  omega
theorem wbM_bytes {n : Nat} (h : 1 ≤ n) : 3 ≤ (wbM n).length := by
  unfold wbM
  cases hd : digs n with
  | nil =>
    have := val_digs n
    rw [hd] at this
    have h0 : (0 : Nat) = n := this
    omega
  | cons c l => simp
end Wb
namespace Go.Proofs.YtmabhbihgenmcaaGreatDoor
open Go.RowKit Wb
set_option maxRecDepth 100000 in
set_option maxHeartbeats 8000000 in
theorem chooses_walk (A : Option Addr) (L : List PtV) (c : Nat) (w : World) (hA : SlP w A L) (hG : GvP w) :
    Calls Tryz.prog 6 #[.slice A L.length c] w fun e w' => e = .returned (.bool true) ∧ Below w.heap.size w w' := by
  have HG := Lib.hid hG
  have HA := Lib.hid hA
  clear hG hA
  go_enter Tryz.func6, Tryz.ntmps6
  go_wp2_with fail
  refine (awake8 w HG.out).mono ?_
  rintro e w1 ⟨rfl, hb⟩
  have HB1 := Lib.hid hb
  have hfew := few8_any A L c w1 (HA.out.below hb)
  clear hb
  go_wp2_with fail
  refine hfew.mono ?_
  rintro e w2 ⟨hb, b, rfl, hfb⟩
  have HB2 := Lib.hid (HB1.out.trans (hb.mono HB1.out.size))
  clear hb hfew
  cases b
  · clear hfb
    go_wp2
    go_ret
    exact ⟨rfl, HB2.out⟩
  have hfe := hfb rfl
  clear hfb
  have hl60 := hfe.1
  obtain ⟨ch, hch⟩ := FewL.chose hfe
  have HZ := Lib.hid (FewL.z hfe)
  have h6 := hch.2.1
  have hwl := wbM_len h6
  have hwl3 := wbM_bytes hch.1
  have k1 := choose_any A L c ch w2 (HA.out.below HB2.out) hl60 HZ.out hch (HG.out.next HB2.out)
  have hms : (mkB (wbM ch)).size = (wbM ch).length := mkB_size _
  have k2 := fun (v : World) => rmay_any (mkB (wbM ch)) v (by omega)
  rw [mkB_list, wb_bnd (by omega)] at k2
  have k3 := fun (v : World) (hv : Below w.heap.size w v) => rclashes_any (mkB (wbM ch)) A L c v (by omega) (HA.out.below hv) hl60 HZ.out
  rw [mkB_list, hch.2.2.1] at k3
  have k4 := fun (v : World) (hv : Below w.heap.size w v) => rclashes_any ⟨#[119, 98, 49]⟩ A L c v (by decide) (HA.out.below hv) hl60 HZ.out
  have hcl1 : ch = 1 ∨ (1 < ch ∧ clashL (⟨#[119, 98, 49]⟩ : ByteArray).data.toList (ptsOf L) = true) := by
    by_cases h : ch = 1
    · exact .inl h
    · have h1 := hch.1
      refine .inr ⟨by omega, ?_⟩
      have := hch.2.2.2 1 (Nat.le_refl _) (by omega)
      unfold wbM at this
      rw [digs_one] at this
      exact this
  have hx2 : (mkB (wbM ch)).extract 0 2 = ⟨#[119, 98]⟩ := eq_of_lists (by rw [Lib.extract_upto]; rfl)
  have hch1 := hch.1
  have HBY := Lib.hid (fun (i : Nat) (x : UInt8) (h : (digs ch)[i]? = some x) => digs_byte ch x (List.mem_of_getElem? h))
  have HVS := Lib.hid (fun (i : Nat) (x : UInt8) (h : (digs ch)[i]? = some x) => (show valD ((digs ch).take (i + 1)) = valD ((digs ch).take i) * 10 + (x.toNat - 48) ∧ valD ((digs ch).take i) * 10 ≤ ch ∧ valD ((digs ch).take (i + 1)) ≤ ch from ⟨valD_step h, by have := valD_room h; rwa [val_digs] at this, by
    have := valD_app ((digs ch).take (i + 1)) ((digs ch).drop (i + 1))
    rwa [List.take_append_drop, val_digs] at this⟩))
  have HVE : Hid (valD ((digs ch).take (digs ch).length) = ch) := Lib.hid (by rw [List.take_length]; exact val_digs ch)
  have HAT := Lib.hid (fun (i : Nat) (h : i + 2 < (mkB (wbM ch)).size) => (show (digs ch)[i]? = some (mkB (wbM ch))[i + 2] from by
    have := ba_get h
    rw [mkB_list] at this
    exact this))
  have hdl : (mkB (wbM ch)).size = (digs ch).length + 2 := by rw [hms]; rfl
  have hb3 : ¬ ((mkB (wbM ch)).size : Int) < 3 := by omega
  have hbs : (2 : Int) ≤ ((mkB (wbM ch)).size : Int) := by omega
  have hb8 : (mkB (wbM ch)).size ≤ 8 := by omega
  have HDL := Lib.hid hdl
  clear hch hfe hms hwl hwl3 hdl
  generalize mkB (wbM ch) = bb at *
  have hq2 : ((⟨#[119, 98]⟩ : ByteArray).toList == [119, 98]) = true := by decide +kernel
  generalize hx : bb.extract 0 2 = x2 at *
  have hx3 : (x2.toList == [119, 98]) = true := by rw [hx2]; exact hq2
  go_wp2_with fail
  refine k1.mono ?_
  rintro e w3 ⟨rfl, hb⟩
  have HB3 := Lib.hid (HB2.out.trans (hb.mono HB2.out.size))
  have k5 := k2 w3
  clear hb k1 k2
  go_wp2_with fail
  refine k5.mono ?_
  rintro e w4 ⟨rfl, hb⟩
  have HB4 := Lib.hid (HB3.out.trans (hb.mono HB3.out.size))
  clear hb k5
  go_wp2
  obtain ⟨D, hD⟩ : ∃ D, (digs ch).length = D := ⟨_, rfl⟩
  have HD := Lib.hid hD
  have hDs : bb.size = D + 2 := by have := HDL.out; omega
  have HDs := Lib.hid hDs
  clear hD hDs
  go_loopw [4, 5] (fun v4 v5 wr => ∃ (i m : Nat), i ≤ D ∧ v5 = .int .i64 ((i + 2 : Nat) : Int) ∧ v4 = .int .i64 m ∧ Hid (m = valD ((digs ch).take i)) ∧ m ≤ ch ∧ wr = w4) (fun _ v5 _ => bb.size - (intOf v5).toNat)
  case atStart => exact ⟨0, 0, by omega, rfl, rfl, Lib.hid rfl, by omega, rfl⟩
  case round =>
    obtain ⟨i, m, hi, rfl, rfl, HM, hm, rfl⟩ := hrel
    have hds := HDs.out
    by_cases h0 : i < D
    · have hib : i + 2 < bb.size := by omega
      have hg := HAT.out i hib
      obtain ⟨d1, d2⟩ := HBY.out i _ hg
      obtain ⟨v1, v2, v3⟩ := HVS.out i _ hg
      rw [← HM.out] at v1 v2
      rw [v1] at v3
      have hlt : ((i + 2 : Nat) : Int) < (bb.size : Int) := by omega
      have hm5 : ¬ (100000 : Int) < (m : Int) := by omega
      have HV1 := Lib.hid v1
      clear hg v1 hds
      go_wp2
      go_roundw
      case rel => exact ⟨i + 1, m * 10 + (bb[i + 2].toNat - 48), by omega, by go_num, by congr 1; omega, Lib.hid HV1.out.symm, by omega, by first | rfl | trivial⟩
      case measure =>
        simp [intOf]
        omega
    · obtain rfl : i = D := by omega
      have hmc : m = ch := by
        have h1 := HM.out
        have h2 := HVE.out
        rw [HD.out] at h2
        rw [h1, h2]
      subst hmc
      have hge : ¬ ((i + 2 : Nat) : Int) < (bb.size : Int) := by omega
      have k6 := k3 wr HB4.out
      clear k3 hds HM
      rcases hcl1 with rfl | ⟨hlt, hcl⟩
      · clear k4
        go_wp2_with fail
        refine k6.mono ?_
        rintro e w5 ⟨rfl, hb⟩
        have HB5 := Lib.hid (HB4.out.trans (hb.mono HB4.out.size))
        clear hb k6
        go_wp2
        go_ret
        exact ⟨rfl, HB5.out⟩
      · have h1f : ((m : Int) == 1) = false := by rw [beq_eq_false_iff_ne]; omega
        have h1g : (1 : Int) < (m : Int) := by omega
        rw [hcl] at k4
        clear hcl
        go_wp2_with fail
        refine k6.mono ?_
        rintro e w5 ⟨rfl, hb⟩
        have HB5 := Lib.hid (HB4.out.trans (hb.mono HB4.out.size))
        have k7 := k4 w5 HB5.out
        clear hb k6 k4
        go_wp2_with fail
        refine k7.mono ?_
        rintro e w6 ⟨rfl, hb⟩
        have HB6 := Lib.hid (HB5.out.trans (hb.mono HB5.out.size))
        clear hb k7
        go_wp2
        go_ret
        exact ⟨rfl, HB6.out⟩
end Go.Proofs.YtmabhbihgenmcaaGreatDoor
