import Derived.Test.YtjohfljkhlkjoaaGreatDoorMgSa
import Derived.Test.YtjohfljkhlkjoaaGreatDoorMgKi
import Derived.Deep.RegionHeld
import Derived.Deep.Cut
namespace Go.Proofs.YtjohfljkhlkjoaaGreatDoor
open Go.RowKit Wb
set_option maxRecDepth 100000 in
set_option maxHeartbeats 8000000 in
theorem same_of (n : Nd) : SameOf n := by
  induction n using Nd.induct with
  | h n ih =>
    intro m A K B L ca ck cb cl w hzn hzm hsn hsm hVn hVm
    obtain ⟨hAn, hKn⟩ := hVn
    obtain ⟨hAm, hKm⟩ := hVm
    obtain ⟨s1, s2, s3⟩ := (smallN_is n).1 hsn
    obtain ⟨t1, t2, t3⟩ := (smallN_is m).1 hsm
    clear hsn hsm
    obtain ⟨kd, ⟨a1, a2⟩, al, ks, tx⟩ := n
    obtain ⟨ke, ⟨b1, b2⟩, bl, js, ty⟩ := m
    simp only [Nd.kids, Nd.attrs] at ih hAn hKn hAm hKm s1 s2 s3 t1 t2 t3
    obtain ⟨_, _, z3, _, z5⟩ := hzn
    obtain ⟨_, _, y3, _, y5⟩ := hzm
    have hzk := (szKs_iff ks).1 z5
    have hzj := (szKs_iff js).1 y5
    clear z5 y5
    have hq : sameN (.mk kd (a1, a2) al ks tx) (.mk ke (b1, b2) bl js ty) = (decide (kd = ke) && eqP (a1, a2) (b1, b2) && eqT tx ty && permA al bl && sameKs ks js) := rfl
    rw [hq]
    clear hq
    have hb1 : Below w.heap.size w (w.alloc (.cells #[.int .i64 kd, .string a1, .string a2, .slice A al.length ca, .slice K ks.length ck, .string tx] 37)) := (Below.refl _ w).alloc (Nat.le_refl _) _
    have hb2 : Below w.heap.size w ((w.alloc (.cells #[.int .i64 kd, .string a1, .string a2, .slice A al.length ca, .slice K ks.length ck, .string tx] 37)).alloc (.cells #[.int .i64 ke, .string b1, .string b2, .slice B bl.length cb, .slice L js.length cl, .string ty] 37)) := hb1.alloc (by simp) _
    have hM := heap_alloc_new (w.alloc (.cells #[.int .i64 kd, .string a1, .string a2, .slice A al.length ca, .slice K ks.length ck, .string tx] 37)) (.cells #[.int .i64 ke, .string b1, .string b2, .slice B bl.length cb, .slice L js.length cl, .string ty] 37)
    have hN := (Below.heap_alloc (w.alloc (.cells #[.int .i64 kd, .string a1, .string a2, .slice A al.length ca, .slice K ks.length ck, .string tx] 37)) (.cells #[.int .i64 ke, .string b1, .string b2, .slice B bl.length cb, .slice L js.length cl, .string ty] 37) _ (blk_in (heap_alloc_new w _))).trans (heap_alloc_new w (.cells #[.int .i64 kd, .string a1, .string a2, .slice A al.length ca, .slice K ks.length ck, .string tx] 37))
    have hs1 : (w.alloc (.cells #[.int .i64 kd, .string a1, .string a2, .slice A al.length ca, .slice K ks.length ck, .string tx] 37)).heap.size = w.heap.size + 1 := by simp
    rw [hs1] at hM
    have HA := Lib.hid (hAn.below hb2)
    have HK := Lib.hid (hKn.below hb2)
    have HC := Lib.hid (hAm.below hb2)
    have HL := Lib.hid (hKm.below hb2)
    have HN := Lib.hid hN
    have HM := Lib.hid hM
    have HB := Lib.hid hb2
    have hws := hb2.size
    clear hb1 hb2 hM hN hs1 hAn hKn hAm hKm
    unfold ndV ndCells
    simp only [Nd.kind, Nd.name, Nd.attrs, Nd.kids, Nd.text]
    go_enter Tryz.func15, Tryz.ntmps15
    go_upto_region 1 with fail
    revert HA HK HC HL HN HM HB hws
    generalize ((w.alloc (.cells #[.int .i64 kd, .string a1, .string a2, .slice A al.length ca, .slice K ks.length ck, .string tx] 37)).alloc (.cells #[.int .i64 ke, .string b1, .string b2, .slice B bl.length cb, .slice L js.length cl, .string ty] 37)) = wz
    intro HA HK HC HL HN HM HB hws
    generalize hT : w.heap.size = T at *
    have HS := Lib.hid (fun (v : World) (h : Below wz.heap.size wz v) => (show v.cell? ⟨T, 0, none⟩ = some (.int .i64 kd) ∧ v.cell? ⟨T, 1, none⟩ = some (.string a1) ∧ v.cell? ⟨T, 2, none⟩ = some (.string a2) ∧ v.cell? ⟨T, 3, none⟩ = some (.slice A al.length ca) ∧ v.cell? ⟨T, 4, none⟩ = some (.slice K ks.length ck) ∧ v.cell? ⟨T, 5, none⟩ = some (.string tx) ∧
      v.cell? ⟨T + 1, 0, none⟩ = some (.int .i64 ke) ∧ v.cell? ⟨T + 1, 1, none⟩ = some (.string b1) ∧ v.cell? ⟨T + 1, 2, none⟩ = some (.string b2) ∧ v.cell? ⟨T + 1, 3, none⟩ = some (.slice B bl.length cb) ∧ v.cell? ⟨T + 1, 4, none⟩ = some (.slice L js.length cl) ∧ v.cell? ⟨T + 1, 5, none⟩ = some (.string ty) from
      ⟨blk_cell (still_block HN.out h) 0, blk_cell (still_block HN.out h) 1, blk_cell (still_block HN.out h) 2, blk_cell (still_block HN.out h) 3, blk_cell (still_block HN.out h) 4, blk_cell (still_block HN.out h) 5, blk_cell (still_block HM.out h) 0, blk_cell (still_block HM.out h) 1, blk_cell (still_block HM.out h) 2, blk_cell (still_block HM.out h) 3, blk_cell (still_block HM.out h) 4, blk_cell (still_block HM.out h) 5⟩))
    have HAT := Lib.hid (fun (v : World) (h : Below wz.heap.size wz v) => sattrs_any A B al bl ca cb v s1 t1 z3 y3 (HA.out.below h) (HC.out.below h))
    have HEF := Lib.hid (fun (v : World) (h : Below wz.heap.size wz v) => eqfn_any ks js ih K L ck cl v s2 t2 hzk hzj s3 t3 (HK.out.below h) (HL.out.below h))
    have heq := fun w2 => eq_arr a1 a2 b1 b2 w2
    have hne : (a1.toList == b1.toList && a2.toList == b2.toList) = eqP (a1, a2) (b1, b2) := rfl
    rw [hne] at heq
    have htx : (tx.toList == ty.toList) = eqT tx ty := rfl
    have hkd : (kd == ke) = decide (kd = ke) := rfl
    clear hne HA HK HC HL HN HM ih hzk hzj z3 y3
    obtain ⟨q1, g1⟩ : ∃ q, decide (kd = ke) = q := ⟨_, rfl⟩
    obtain ⟨q2, g2⟩ : ∃ q, eqP (a1, a2) (b1, b2) = q := ⟨_, rfl⟩
    obtain ⟨q3, g3⟩ : ∃ q, eqT tx ty = q := ⟨_, rfl⟩
    obtain ⟨q4, g4⟩ : ∃ q, permA al bl = q := ⟨_, rfl⟩
    obtain ⟨q5, g5⟩ : ∃ q, sameKs ks js = q := ⟨_, rfl⟩
    have HQ : Hid ((decide (kd = ke) && eqP (a1, a2) (b1, b2) && eqT tx ty && permA al bl && sameKs ks js) = (q1 && q2 && q3 && q4 && q5)) := Lib.hid (by rw [g1, g2, g3, g4, g5])
    rw [g1] at hkd
    rw [g2] at heq
    rw [g3] at htx
    rw [g4] at HAT
    rw [g5] at HEF
    have HT := Lib.hid hT
    clear g1 g2 g3 g4 g5 hT
    cases q1 with
    | false =>
      go_wp2_with fail
      (try simp only [List.append])
      refine wp_region_held_drew (S := (fun v => v.cell? ⟨T, 0, none⟩ = some (.int .i64 kd) ∧ v.cell? ⟨T, 1, none⟩ = some (.string a1) ∧ v.cell? ⟨T, 2, none⟩ = some (.string a2) ∧ v.cell? ⟨T, 3, none⟩ = some (.slice A al.length ca) ∧ v.cell? ⟨T, 4, none⟩ = some (.slice K ks.length ck) ∧ v.cell? ⟨T, 5, none⟩ = some (.string tx) ∧ v.cell? ⟨T + 1, 0, none⟩ = some (.int .i64 ke) ∧ v.cell? ⟨T + 1, 1, none⟩ = some (.string b1) ∧ v.cell? ⟨T + 1, 2, none⟩ = some (.string b2) ∧ v.cell? ⟨T + 1, 3, none⟩ = some (.slice B bl.length cb) ∧ v.cell? ⟨T + 1, 4, none⟩ = some (.slice L js.length cl) ∧ v.cell? ⟨T + 1, 5, none⟩ = some (.string ty))) (by kernel_rfl) (HS.out _ (Below.refl _ wz).drew) (fun hHeld => ?_)
      refine takeW 0 ?_
      refine takeW 1 ?_
      refine takeW 2 ?_
      refine takeW 3 ?_
      (try simp only [Act.put, List.setIfInBounds_toArray, List.set_cons_zero, List.set_cons_succ])
      refine takeW 4 ?_
      refine takeW 5 ?_
      refine takeU 6 ?_
      refine takeU 7 ?_
      (try simp only [Act.put, List.setIfInBounds_toArray, List.set_cons_zero, List.set_cons_succ])
      refine takeU 9 ?_
      refine takeU 10 ?_
      (try simp only [Act.put, List.setIfInBounds_toArray, List.set_cons_zero, List.set_cons_succ])
      refine wpAnyH_ready (rs := [8]) (by kernel_rfl) (by simp) ?_
      refine AllReadyH.cons rfl (fun K2 hK2 => ?_) AllReadyH.nil
      go_simp
      refine hK2.out _ _ (by assumption) (fun hHeld2 => ?_)
      (try simp only [Act.put, List.setIfInBounds_toArray, List.set_cons_zero, List.set_cons_succ])
      refine wpAnyH_ready (rs := [11]) (by kernel_rfl) (by simp) ?_
      refine AllReadyH.cons rfl (fun K2 hK2 => ?_) AllReadyH.nil
      go_simp
      refine hK2.out _ _ (by assumption) (fun hHeld2 => ?_)
      refine takeU 12 ?_
      refine takeW 13 ?_
      (try simp only [Act.put, List.setIfInBounds_toArray, List.set_cons_zero, List.set_cons_succ])
      refine takeW 14 ?_
      refine takeU 15 ?_
      refine takeU 16 ?_
      refine takeU 17 ?_
      (try simp only [Act.put, List.setIfInBounds_toArray, List.set_cons_zero, List.set_cons_succ])
      refine takeU 18 ?_
      refine takeU 19 ?_
      refine takeW 20 ?_
      refine takeW 21 ?_
      (try simp only [Act.put, List.setIfInBounds_toArray, List.set_cons_zero, List.set_cons_succ])
      refine takeU 22 ?_
      refine takeU 23 ?_
      refine takeU 24 ?_
      refine takeU 25 ?_
      (try simp only [Act.put, List.setIfInBounds_toArray, List.set_cons_zero, List.set_cons_succ])
      refine wpAnyH_ready (rs := [26]) (by kernel_rfl) (by simp) ?_
      refine AllReadyH.cons rfl (fun K2 hK2 => ?_) AllReadyH.nil
      go_simp
      refine hK2.out _ _ (by assumption) (fun hHeld2 => ?_)
      (try simp only [Act.put, List.setIfInBounds_toArray, List.set_cons_zero, List.set_cons_succ])
      refine takeW 27 ?_
      refine takeW 28 ?_
      refine takeU 29 ?_
      refine takeU 30 ?_
      (try simp only [Act.put, List.setIfInBounds_toArray, List.set_cons_zero, List.set_cons_succ])
      refine takeU 31 ?_
      refine takeU 32 ?_
      (try simp only [Act.put, List.setIfInBounds_toArray, List.set_cons_zero, List.set_cons_succ])
      refine wpAnyH_ready (rs := [33]) (by kernel_rfl) (by simp) ?_
      refine AllReadyH.cons rfl (fun K2 hK2 => ?_) AllReadyH.nil
      go_simp
      refine hK2.out _ _ (by assumption) (fun hHeld2 => ?_)
      refine takeW 34 ?_
      refine takeW 35 ?_
      (try simp only [Act.put, List.setIfInBounds_toArray, List.set_cons_zero, List.set_cons_succ])
      refine wpAnyH_done (by kernel_rfl) ?_ _
      go_wp2
      go_ret
      exact ⟨by rw [HQ.out]; rfl, by rw [HT.out]; exact HB.out.drew⟩
    | true =>
      cases q2 with
      | false =>
        go_wp2_with fail
        (try simp only [List.append])
        refine wp_region_held_drew (S := (fun v => v.cell? ⟨T, 0, none⟩ = some (.int .i64 kd) ∧ v.cell? ⟨T, 1, none⟩ = some (.string a1) ∧ v.cell? ⟨T, 2, none⟩ = some (.string a2) ∧ v.cell? ⟨T, 3, none⟩ = some (.slice A al.length ca) ∧ v.cell? ⟨T, 4, none⟩ = some (.slice K ks.length ck) ∧ v.cell? ⟨T, 5, none⟩ = some (.string tx) ∧ v.cell? ⟨T + 1, 0, none⟩ = some (.int .i64 ke) ∧ v.cell? ⟨T + 1, 1, none⟩ = some (.string b1) ∧ v.cell? ⟨T + 1, 2, none⟩ = some (.string b2) ∧ v.cell? ⟨T + 1, 3, none⟩ = some (.slice B bl.length cb) ∧ v.cell? ⟨T + 1, 4, none⟩ = some (.slice L js.length cl) ∧ v.cell? ⟨T + 1, 5, none⟩ = some (.string ty))) (by kernel_rfl) (HS.out _ (Below.refl _ wz).drew) (fun hHeld => ?_)
        refine takeW 0 ?_
        refine takeW 1 ?_
        refine takeW 2 ?_
        refine takeW 3 ?_
        (try simp only [Act.put, List.setIfInBounds_toArray, List.set_cons_zero, List.set_cons_succ])
        refine takeW 4 ?_
        refine takeW 5 ?_
        refine takeW 6 ?_
        refine takeW 7 ?_
        (try simp only [Act.put, List.setIfInBounds_toArray, List.set_cons_zero, List.set_cons_succ])
        refine takeW 9 ?_
        refine takeW 10 ?_
        (try simp only [Act.put, List.setIfInBounds_toArray, List.set_cons_zero, List.set_cons_succ])
        refine wpAnyH_ready (rs := [8]) (by kernel_rfl) (by simp) ?_
        refine AllReadyH.cons rfl (fun K2 hK2 => ?_) AllReadyH.nil
        go_simp
        refine (key_any a1 a2 _).mono ?_
        rintro e w8 ⟨rfl, hb8⟩
        have HB8 : Hid (Below wz.heap.size wz w8) := Lib.hid (by first | exact of_drew hb8 | exact HB11.out.trans (hb8.mono HB11.out.size))
        clear hb8
        refine hK2.out _ _ (HS.out _ HB8.out) (fun hHeld2 => ?_)
        (try simp only [Act.put, List.setIfInBounds_toArray, List.set_cons_zero, List.set_cons_succ])
        refine wpAnyH_ready (rs := [11]) (by kernel_rfl) (by simp) ?_
        refine AllReadyH.cons rfl (fun K2 hK2 => ?_) AllReadyH.nil
        go_simp
        refine (key_any b1 b2 _).mono ?_
        rintro e w11 ⟨rfl, hb11⟩
        have HB11 : Hid (Below wz.heap.size wz w11) := Lib.hid (by first | exact of_drew hb11 | exact HB8.out.trans (hb11.mono HB8.out.size))
        clear hb11
        refine hK2.out _ _ (HS.out _ HB11.out) (fun hHeld2 => ?_)
        refine takeW 12 ?_
        refine takeW 13 ?_
        (try simp only [Act.put, List.setIfInBounds_toArray, List.set_cons_zero, List.set_cons_succ])
        refine takeW 14 ?_
        refine takeU 15 ?_
        refine takeU 16 ?_
        refine takeU 17 ?_
        (try simp only [Act.put, List.setIfInBounds_toArray, List.set_cons_zero, List.set_cons_succ])
        refine takeU 18 ?_
        refine takeU 19 ?_
        refine takeW 20 ?_
        refine takeW 21 ?_
        (try simp only [Act.put, List.setIfInBounds_toArray, List.set_cons_zero, List.set_cons_succ])
        refine takeU 22 ?_
        refine takeU 23 ?_
        refine takeU 24 ?_
        refine takeU 25 ?_
        (try simp only [Act.put, List.setIfInBounds_toArray, List.set_cons_zero, List.set_cons_succ])
        refine wpAnyH_ready (rs := [26]) (by kernel_rfl) (by simp) ?_
        refine AllReadyH.cons rfl (fun K2 hK2 => ?_) AllReadyH.nil
        go_simp
        refine hK2.out _ _ (by assumption) (fun hHeld2 => ?_)
        (try simp only [Act.put, List.setIfInBounds_toArray, List.set_cons_zero, List.set_cons_succ])
        refine takeW 27 ?_
        refine takeW 28 ?_
        refine takeU 29 ?_
        refine takeU 30 ?_
        (try simp only [Act.put, List.setIfInBounds_toArray, List.set_cons_zero, List.set_cons_succ])
        refine takeU 31 ?_
        refine takeU 32 ?_
        (try simp only [Act.put, List.setIfInBounds_toArray, List.set_cons_zero, List.set_cons_succ])
        refine wpAnyH_ready (rs := [33]) (by kernel_rfl) (by simp) ?_
        refine AllReadyH.cons rfl (fun K2 hK2 => ?_) AllReadyH.nil
        go_simp
        refine hK2.out _ _ (by assumption) (fun hHeld2 => ?_)
        refine takeW 34 ?_
        refine takeW 35 ?_
        (try simp only [Act.put, List.setIfInBounds_toArray, List.set_cons_zero, List.set_cons_succ])
        refine wpAnyH_done (by kernel_rfl) ?_ _
        go_wp2
        go_ret
        exact ⟨by rw [HQ.out]; rfl, by rw [HT.out]; exact HB.out.trans ((by first | exact HB11.out | exact HB8.out : Below wz.heap.size wz _).mono hws)⟩
      | true =>
        cases q3 with
        | false =>
          go_wp2_with fail
          (try simp only [List.append])
          refine wp_region_held_drew (S := (fun v => v.cell? ⟨T, 0, none⟩ = some (.int .i64 kd) ∧ v.cell? ⟨T, 1, none⟩ = some (.string a1) ∧ v.cell? ⟨T, 2, none⟩ = some (.string a2) ∧ v.cell? ⟨T, 3, none⟩ = some (.slice A al.length ca) ∧ v.cell? ⟨T, 4, none⟩ = some (.slice K ks.length ck) ∧ v.cell? ⟨T, 5, none⟩ = some (.string tx) ∧ v.cell? ⟨T + 1, 0, none⟩ = some (.int .i64 ke) ∧ v.cell? ⟨T + 1, 1, none⟩ = some (.string b1) ∧ v.cell? ⟨T + 1, 2, none⟩ = some (.string b2) ∧ v.cell? ⟨T + 1, 3, none⟩ = some (.slice B bl.length cb) ∧ v.cell? ⟨T + 1, 4, none⟩ = some (.slice L js.length cl) ∧ v.cell? ⟨T + 1, 5, none⟩ = some (.string ty))) (by kernel_rfl) (HS.out _ (Below.refl _ wz).drew) (fun hHeld => ?_)
          refine takeW 0 ?_
          refine takeW 1 ?_
          refine takeW 2 ?_
          refine takeW 3 ?_
          (try simp only [Act.put, List.setIfInBounds_toArray, List.set_cons_zero, List.set_cons_succ])
          refine takeW 4 ?_
          refine takeW 5 ?_
          refine takeW 6 ?_
          refine takeW 7 ?_
          (try simp only [Act.put, List.setIfInBounds_toArray, List.set_cons_zero, List.set_cons_succ])
          refine takeW 9 ?_
          refine takeW 10 ?_
          (try simp only [Act.put, List.setIfInBounds_toArray, List.set_cons_zero, List.set_cons_succ])
          refine wpAnyH_ready (rs := [8]) (by kernel_rfl) (by simp) ?_
          refine AllReadyH.cons rfl (fun K2 hK2 => ?_) AllReadyH.nil
          go_simp
          refine (key_any a1 a2 _).mono ?_
          rintro e w8 ⟨rfl, hb8⟩
          have HB8 : Hid (Below wz.heap.size wz w8) := Lib.hid (by first | exact of_drew hb8 | exact HB11.out.trans (hb8.mono HB11.out.size))
          clear hb8
          refine hK2.out _ _ (HS.out _ HB8.out) (fun hHeld2 => ?_)
          (try simp only [Act.put, List.setIfInBounds_toArray, List.set_cons_zero, List.set_cons_succ])
          refine wpAnyH_ready (rs := [11]) (by kernel_rfl) (by simp) ?_
          refine AllReadyH.cons rfl (fun K2 hK2 => ?_) AllReadyH.nil
          go_simp
          refine (key_any b1 b2 _).mono ?_
          rintro e w11 ⟨rfl, hb11⟩
          have HB11 : Hid (Below wz.heap.size wz w11) := Lib.hid (by first | exact of_drew hb11 | exact HB8.out.trans (hb11.mono HB8.out.size))
          clear hb11
          refine hK2.out _ _ (HS.out _ HB11.out) (fun hHeld2 => ?_)
          refine takeW 12 ?_
          refine takeW 13 ?_
          (try simp only [Act.put, List.setIfInBounds_toArray, List.set_cons_zero, List.set_cons_succ])
          refine takeW 14 ?_
          refine takeW 15 ?_
          refine takeW 16 ?_
          refine takeW 17 ?_
          (try simp only [Act.put, List.setIfInBounds_toArray, List.set_cons_zero, List.set_cons_succ])
          refine takeW 18 ?_
          refine takeW 19 ?_
          refine takeW 20 ?_
          refine takeW 21 ?_
          (try simp only [Act.put, List.setIfInBounds_toArray, List.set_cons_zero, List.set_cons_succ])
          refine takeU 22 ?_
          refine takeU 23 ?_
          refine takeU 24 ?_
          refine takeU 25 ?_
          (try simp only [Act.put, List.setIfInBounds_toArray, List.set_cons_zero, List.set_cons_succ])
          refine wpAnyH_ready (rs := [26]) (by kernel_rfl) (by simp) ?_
          refine AllReadyH.cons rfl (fun K2 hK2 => ?_) AllReadyH.nil
          go_simp
          refine hK2.out _ _ (by assumption) (fun hHeld2 => ?_)
          (try simp only [Act.put, List.setIfInBounds_toArray, List.set_cons_zero, List.set_cons_succ])
          refine takeW 27 ?_
          refine takeW 28 ?_
          refine takeU 29 ?_
          refine takeU 30 ?_
          (try simp only [Act.put, List.setIfInBounds_toArray, List.set_cons_zero, List.set_cons_succ])
          refine takeU 31 ?_
          refine takeU 32 ?_
          (try simp only [Act.put, List.setIfInBounds_toArray, List.set_cons_zero, List.set_cons_succ])
          refine wpAnyH_ready (rs := [33]) (by kernel_rfl) (by simp) ?_
          refine AllReadyH.cons rfl (fun K2 hK2 => ?_) AllReadyH.nil
          go_simp
          refine hK2.out _ _ (by assumption) (fun hHeld2 => ?_)
          refine takeW 34 ?_
          refine takeW 35 ?_
          (try simp only [Act.put, List.setIfInBounds_toArray, List.set_cons_zero, List.set_cons_succ])
          refine wpAnyH_done (by kernel_rfl) ?_ _
          go_wp2
          go_ret
          exact ⟨by rw [HQ.out]; rfl, by rw [HT.out]; exact HB.out.trans ((by first | exact HB11.out | exact HB8.out : Below wz.heap.size wz _).mono hws)⟩
        | true =>
          cases q4 with
          | false =>
            go_wp2_with fail
            (try simp only [List.append])
            refine wp_region_held_drew (S := (fun v => v.cell? ⟨T, 0, none⟩ = some (.int .i64 kd) ∧ v.cell? ⟨T, 1, none⟩ = some (.string a1) ∧ v.cell? ⟨T, 2, none⟩ = some (.string a2) ∧ v.cell? ⟨T, 3, none⟩ = some (.slice A al.length ca) ∧ v.cell? ⟨T, 4, none⟩ = some (.slice K ks.length ck) ∧ v.cell? ⟨T, 5, none⟩ = some (.string tx) ∧ v.cell? ⟨T + 1, 0, none⟩ = some (.int .i64 ke) ∧ v.cell? ⟨T + 1, 1, none⟩ = some (.string b1) ∧ v.cell? ⟨T + 1, 2, none⟩ = some (.string b2) ∧ v.cell? ⟨T + 1, 3, none⟩ = some (.slice B bl.length cb) ∧ v.cell? ⟨T + 1, 4, none⟩ = some (.slice L js.length cl) ∧ v.cell? ⟨T + 1, 5, none⟩ = some (.string ty))) (by kernel_rfl) (HS.out _ (Below.refl _ wz).drew) (fun hHeld => ?_)
            refine takeW 0 ?_
            refine takeW 1 ?_
            refine takeW 2 ?_
            refine takeW 3 ?_
            (try simp only [Act.put, List.setIfInBounds_toArray, List.set_cons_zero, List.set_cons_succ])
            refine takeW 4 ?_
            refine takeW 5 ?_
            refine takeW 6 ?_
            refine takeW 7 ?_
            (try simp only [Act.put, List.setIfInBounds_toArray, List.set_cons_zero, List.set_cons_succ])
            refine takeW 9 ?_
            refine takeW 10 ?_
            (try simp only [Act.put, List.setIfInBounds_toArray, List.set_cons_zero, List.set_cons_succ])
            refine wpAnyH_ready (rs := [8]) (by kernel_rfl) (by simp) ?_
            refine AllReadyH.cons rfl (fun K2 hK2 => ?_) AllReadyH.nil
            go_simp
            refine (key_any a1 a2 _).mono ?_
            rintro e w8 ⟨rfl, hb8⟩
            have HB8 : Hid (Below wz.heap.size wz w8) := Lib.hid (by first | exact of_drew hb8 | exact HB11.out.trans (hb8.mono HB11.out.size))
            clear hb8
            refine hK2.out _ _ (HS.out _ HB8.out) (fun hHeld2 => ?_)
            (try simp only [Act.put, List.setIfInBounds_toArray, List.set_cons_zero, List.set_cons_succ])
            refine wpAnyH_ready (rs := [11]) (by kernel_rfl) (by simp) ?_
            refine AllReadyH.cons rfl (fun K2 hK2 => ?_) AllReadyH.nil
            go_simp
            refine (key_any b1 b2 _).mono ?_
            rintro e w11 ⟨rfl, hb11⟩
            have HB11 : Hid (Below wz.heap.size wz w11) := Lib.hid (by first | exact of_drew hb11 | exact HB8.out.trans (hb11.mono HB8.out.size))
            clear hb11
            refine hK2.out _ _ (HS.out _ HB11.out) (fun hHeld2 => ?_)
            refine takeW 12 ?_
            refine takeW 13 ?_
            (try simp only [Act.put, List.setIfInBounds_toArray, List.set_cons_zero, List.set_cons_succ])
            refine takeW 14 ?_
            refine takeW 15 ?_
            refine takeW 16 ?_
            refine takeW 17 ?_
            (try simp only [Act.put, List.setIfInBounds_toArray, List.set_cons_zero, List.set_cons_succ])
            refine takeW 18 ?_
            refine takeW 19 ?_
            refine takeW 20 ?_
            refine takeW 21 ?_
            (try simp only [Act.put, List.setIfInBounds_toArray, List.set_cons_zero, List.set_cons_succ])
            refine takeW 22 ?_
            refine takeW 23 ?_
            refine takeW 24 ?_
            refine takeW 25 ?_
            (try simp only [Act.put, List.setIfInBounds_toArray, List.set_cons_zero, List.set_cons_succ])
            refine wpAnyH_ready (rs := [26]) (by kernel_rfl) (by simp) ?_
            refine AllReadyH.cons rfl (fun K2 hK2 => ?_) AllReadyH.nil
            go_simp
            refine (HAT.out _ (by first | exact HB11.out | exact HB8.out)).mono ?_
            rintro e w26 ⟨rfl, hb26⟩
            have HB26 : Hid (Below wz.heap.size wz w26) := Lib.hid (by first | exact HB11.out.trans (hb26.mono HB11.out.size) | exact HB8.out.trans (hb26.mono HB8.out.size))
            clear hb26
            refine hK2.out _ _ (HS.out _ HB26.out) (fun hHeld2 => ?_)
            (try simp only [Act.put, List.setIfInBounds_toArray, List.set_cons_zero, List.set_cons_succ])
            refine takeW 27 ?_
            refine takeW 28 ?_
            refine takeU 29 ?_
            refine takeU 30 ?_
            (try simp only [Act.put, List.setIfInBounds_toArray, List.set_cons_zero, List.set_cons_succ])
            refine takeU 31 ?_
            refine takeU 32 ?_
            (try simp only [Act.put, List.setIfInBounds_toArray, List.set_cons_zero, List.set_cons_succ])
            refine wpAnyH_ready (rs := [33]) (by kernel_rfl) (by simp) ?_
            refine AllReadyH.cons rfl (fun K2 hK2 => ?_) AllReadyH.nil
            go_simp
            refine hK2.out _ _ (by assumption) (fun hHeld2 => ?_)
            refine takeW 34 ?_
            refine takeW 35 ?_
            (try simp only [Act.put, List.setIfInBounds_toArray, List.set_cons_zero, List.set_cons_succ])
            refine wpAnyH_done (by kernel_rfl) ?_ _
            go_wp2
            go_ret
            exact ⟨by rw [HQ.out]; rfl, by rw [HT.out]; exact HB.out.trans (HB26.out.mono hws)⟩
          | true =>
            go_wp2_with fail
            (try simp only [List.append])
            refine wp_region_held_drew (S := (fun v => v.cell? ⟨T, 0, none⟩ = some (.int .i64 kd) ∧ v.cell? ⟨T, 1, none⟩ = some (.string a1) ∧ v.cell? ⟨T, 2, none⟩ = some (.string a2) ∧ v.cell? ⟨T, 3, none⟩ = some (.slice A al.length ca) ∧ v.cell? ⟨T, 4, none⟩ = some (.slice K ks.length ck) ∧ v.cell? ⟨T, 5, none⟩ = some (.string tx) ∧ v.cell? ⟨T + 1, 0, none⟩ = some (.int .i64 ke) ∧ v.cell? ⟨T + 1, 1, none⟩ = some (.string b1) ∧ v.cell? ⟨T + 1, 2, none⟩ = some (.string b2) ∧ v.cell? ⟨T + 1, 3, none⟩ = some (.slice B bl.length cb) ∧ v.cell? ⟨T + 1, 4, none⟩ = some (.slice L js.length cl) ∧ v.cell? ⟨T + 1, 5, none⟩ = some (.string ty))) (by kernel_rfl) (HS.out _ (Below.refl _ wz).drew) (fun hHeld => ?_)
            refine takeW 0 ?_
            refine takeW 1 ?_
            refine takeW 2 ?_
            refine takeW 3 ?_
            (try simp only [Act.put, List.setIfInBounds_toArray, List.set_cons_zero, List.set_cons_succ])
            refine takeW 4 ?_
            refine takeW 5 ?_
            refine takeW 6 ?_
            refine takeW 7 ?_
            (try simp only [Act.put, List.setIfInBounds_toArray, List.set_cons_zero, List.set_cons_succ])
            refine takeW 9 ?_
            refine takeW 10 ?_
            (try simp only [Act.put, List.setIfInBounds_toArray, List.set_cons_zero, List.set_cons_succ])
            refine wpAnyH_ready (rs := [8]) (by kernel_rfl) (by simp) ?_
            refine AllReadyH.cons rfl (fun K2 hK2 => ?_) AllReadyH.nil
            go_simp
            refine (key_any a1 a2 _).mono ?_
            rintro e w8 ⟨rfl, hb8⟩
            have HB8 : Hid (Below wz.heap.size wz w8) := Lib.hid (by first | exact of_drew hb8 | exact HB11.out.trans (hb8.mono HB11.out.size))
            clear hb8
            refine hK2.out _ _ (HS.out _ HB8.out) (fun hHeld2 => ?_)
            (try simp only [Act.put, List.setIfInBounds_toArray, List.set_cons_zero, List.set_cons_succ])
            refine wpAnyH_ready (rs := [11]) (by kernel_rfl) (by simp) ?_
            refine AllReadyH.cons rfl (fun K2 hK2 => ?_) AllReadyH.nil
            go_simp
            refine (key_any b1 b2 _).mono ?_
            rintro e w11 ⟨rfl, hb11⟩
            have HB11 : Hid (Below wz.heap.size wz w11) := Lib.hid (by first | exact of_drew hb11 | exact HB8.out.trans (hb11.mono HB8.out.size))
            clear hb11
            refine hK2.out _ _ (HS.out _ HB11.out) (fun hHeld2 => ?_)
            refine takeW 12 ?_
            refine takeW 13 ?_
            (try simp only [Act.put, List.setIfInBounds_toArray, List.set_cons_zero, List.set_cons_succ])
            refine takeW 14 ?_
            refine takeW 15 ?_
            refine takeW 16 ?_
            refine takeW 17 ?_
            (try simp only [Act.put, List.setIfInBounds_toArray, List.set_cons_zero, List.set_cons_succ])
            refine takeW 18 ?_
            refine takeW 19 ?_
            refine takeW 20 ?_
            refine takeW 21 ?_
            (try simp only [Act.put, List.setIfInBounds_toArray, List.set_cons_zero, List.set_cons_succ])
            refine takeW 22 ?_
            refine takeW 23 ?_
            refine takeW 24 ?_
            refine takeW 25 ?_
            (try simp only [Act.put, List.setIfInBounds_toArray, List.set_cons_zero, List.set_cons_succ])
            refine wpAnyH_ready (rs := [26]) (by kernel_rfl) (by simp) ?_
            refine AllReadyH.cons rfl (fun K2 hK2 => ?_) AllReadyH.nil
            go_simp
            refine (HAT.out _ (by first | exact HB11.out | exact HB8.out)).mono ?_
            rintro e w26 ⟨rfl, hb26⟩
            have HB26 : Hid (Below wz.heap.size wz w26) := Lib.hid (by first | exact HB11.out.trans (hb26.mono HB11.out.size) | exact HB8.out.trans (hb26.mono HB8.out.size))
            clear hb26
            refine hK2.out _ _ (HS.out _ HB26.out) (fun hHeld2 => ?_)
            (try simp only [Act.put, List.setIfInBounds_toArray, List.set_cons_zero, List.set_cons_succ])
            refine takeW 27 ?_
            refine takeW 28 ?_
            refine takeW 29 ?_
            refine takeW 30 ?_
            (try simp only [Act.put, List.setIfInBounds_toArray, List.set_cons_zero, List.set_cons_succ])
            refine takeW 31 ?_
            refine takeW 32 ?_
            (try simp only [Act.put, List.setIfInBounds_toArray, List.set_cons_zero, List.set_cons_succ])
            refine wpAnyH_ready (rs := [33]) (by kernel_rfl) (by simp) ?_
            refine AllReadyH.cons rfl (fun K2 hK2 => ?_) AllReadyH.nil
            go_simp
            refine (HEF.out _ HB26.out).mono ?_
            rintro e w33 ⟨rfl, hb33⟩
            have HB33 : Hid (Below wz.heap.size wz w33) := Lib.hid (HB26.out.trans (hb33.mono HB26.out.size))
            clear hb33
            refine hK2.out _ _ (HS.out _ HB33.out) (fun hHeld2 => ?_)
            refine takeW 34 ?_
            refine takeW 35 ?_
            (try simp only [Act.put, List.setIfInBounds_toArray, List.set_cons_zero, List.set_cons_succ])
            refine wpAnyH_done (by kernel_rfl) ?_ _
            go_wp2
            go_ret
            exact ⟨by rw [HQ.out]; rfl, by rw [HT.out]; exact HB.out.trans (HB33.out.mono hws)⟩
theorem Same_any (n m : Nd) (A K B L : Option Addr) (ca ck cb cl : Nat) (w : World) (hzn : szN n) (hzm : szN m) (hsn : smallN n) (hsm : smallN m) (hn : NodeV w n A K) (hm : NodeV w m B L) :
    Calls Tryz.prog 15 #[ndV n A ca K ck, ndV m B cb L cl] w fun e w' => e = .returned (.bool (sameN n m)) ∧ Below w.heap.size w w' := same_of n m A K B L ca ck cb cl w hzn hzm hsn hsm hn hm
end Go.Proofs.YtjohfljkhlkjoaaGreatDoor
