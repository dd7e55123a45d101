/- SmE. -/
import Derived.Deep.RegionHeld
import Derived.Deep.Cut
import Derived.Laws.StructEq
import Derived.Test.YtlcjepnaljfpkaaGreatDoorQp11
import Derived.Test.YtlcjepnaljfpkaaGreatDoorQp37
import Derived.Test.YtlcjepnaljfpkaaGreatDoorQp41
namespace Wb
theorem perm_each {l m : List Tr} (hl : l.length = m.length) (h : ∀ x ∈ l, cntA x l = cntA x m) : permA l m = true := by
  rw [permA_iff]
  exact (perm_of_le l m hl.symm (fun x hx => Nat.le_of_eq (h x hx))).symm
theorem perm_bad {l m : List Tr} {x : Tr} (h : cntA x l ≠ cntA x m) : permA l m = false := by
  cases hp : permA l m with
  | false => rfl
  | true => exact absurd (cntA_perm ((permA_iff l m).1 hp) x) h
theorem perm_len {l m : List Tr} (h : l.length ≠ m.length) : permA l m = false := by
  unfold permA; rw [decide_eq_false h]; rfl
def eqA (a b : Tr) : Bool := eqP a.1 b.1 && eqT a.2 b.2
theorem eqA_iff (a b : Tr) : eqA a b = true ↔ a = b := by
  unfold eqA
  rw [Bool.and_eq_true, eqP_iff, eqT_iff]
  constructor
  · rintro ⟨h1, h2⟩; exact Prod.ext h1 h2
  · rintro rfl; exact ⟨rfl, rfl⟩
theorem cntA_step {l : List Tr} {k : Nat} {y : Tr} (h : l[k]? = some y) (x : Tr) : cntA x (l.take (k + 1)) = cntA x (l.take k) + if eqA y x = true then 1 else 0 := by
  rw [cntA_take h]
  by_cases e : y = x
  · rw [if_pos e, if_pos ((eqA_iff _ _).2 e)]
  · rw [if_neg e, if_neg (fun h => e ((eqA_iff _ _).1 h))]
end Wb
namespace Go.Proofs.YtlcjepnaljfpkaaGreatDoor
open Go.RowKit Wb
set_option maxRecDepth 100000 in
theorem eq_name (a b c d : ByteArray) (w : World) : (Op.equalIn 10000 33 (.agg #[.string a, .string b]) (.agg #[.string c, .string d])).run Tryz.prog w = .ok (a.toList == c.toList && b.toList == d.toList) w := by
  have u3 := Tryz.underlying9
  have a3 := Tryz.isAgg9
  have z3 := Tryz.sizeOf9
  rw [show (10000 : Nat) = 9999 + 1 from rfl, Op.equalIn]
  simp only [Sem.run_bind, run_underlying Tryz.underlying33, Result.andThen_ok]
  go_simp
  by_cases h1 : a.toList = c.toList <;> by_cases h2 : b.toList = d.toList <;> simp [h1, h2]
set_option maxRecDepth 100000 in
theorem eq_attr (a b e c d f : ByteArray) (w : World) : (Op.equalIn 10000 66 (.agg #[.string a, .string b, .string e]) (.agg #[.string c, .string d, .string f])).run Tryz.prog w = .ok (a.toList == c.toList && b.toList == d.toList && e.toList == f.toList) w := by
  have u3 := Tryz.underlying9
  have a3 := Tryz.isAgg9
  have z3 := Tryz.sizeOf9
  have u4 := Tryz.underlying33
  have a4 := Tryz.isAgg33
  have z4 := Tryz.sizeOf33
  rw [show (10000 : Nat) = 9999 + 1 from rfl, Op.equalIn]
  simp only [Sem.run_bind, run_underlying Tryz.underlying66, Result.andThen_ok]
  go_simp
  by_cases h1 : a.toList = c.toList <;> by_cases h2 : b.toList = d.toList <;> by_cases h3 : e.toList = f.toList <;> simp [h1, h2, h3]
end Go.Proofs.YtlcjepnaljfpkaaGreatDoor
namespace Go.Proofs.YtlcjepnaljfpkaaGreatDoor
open Go.RowKit Wb
def RSameOf (x : Nd) : Prop := ∀ (y : Nd) (A K B L : Option Addr) (ca ck cb cl : Nat) (w : World), smallN x → smallN y → NodeV w x A K → NodeV w y B L →
  Calls Tryz.prog 35 #[ndV x A ca K ck, ndV y B cb L cl] w fun e w' => e = .returned (.bool (sameN x y)) ∧ Below w.heap.size w w'
set_option maxRecDepth 100000 in
set_option maxHeartbeats 8000000 in
theorem rsame_of (n : Nd) : RSameOf n := by
  induction n using Nd.induct with
  | h n ih =>
    intro m A K B L ca ck cb cl w hsn hsm hVn hVm
    obtain ⟨hAn, hKn⟩ := hVn
    obtain ⟨hAm, hKm⟩ := hVm
    obtain ⟨s1, s2, s3⟩ := (smallN_is n).1 hsn
    obtain ⟨t1, t2, t3⟩ := (smallN_is m).1 hsm
    clear hsn hsm
    obtain ⟨kd, ⟨a1, a2⟩, al, ks, tx⟩ := n
    obtain ⟨ke, ⟨b1, b2⟩, bl, js, ty⟩ := m
    simp only [Nd.kids, Nd.attrs] at ih hAn hKn hAm hKm s1 s2 s3 t1 t2 t3
    have hq : sameN (.mk kd (a1, a2) al ks tx) (.mk ke (b1, b2) bl js ty) = (decide (kd = ke) && eqP (a1, a2) (b1, b2) && eqT tx ty && permA al bl && sameKs ks js) := rfl
    rw [hq]
    clear hq
    have hb1 : Below w.heap.size w (w.alloc (.cells #[.int .i64 kd, .string a1, .string a2, .slice A al.length ca, .slice K ks.length ck, .string tx] 37)) := (Below.refl _ w).alloc (Nat.le_refl _) _
    have hb2 : Below w.heap.size w ((w.alloc (.cells #[.int .i64 kd, .string a1, .string a2, .slice A al.length ca, .slice K ks.length ck, .string tx] 37)).alloc (.cells #[.int .i64 ke, .string b1, .string b2, .slice B bl.length cb, .slice L js.length cl, .string ty] 37)) := hb1.alloc (by simp) _
    have hM := heap_alloc_new (w.alloc (.cells #[.int .i64 kd, .string a1, .string a2, .slice A al.length ca, .slice K ks.length ck, .string tx] 37)) (.cells #[.int .i64 ke, .string b1, .string b2, .slice B bl.length cb, .slice L js.length cl, .string ty] 37)
    have hN := (Below.heap_alloc (w.alloc (.cells #[.int .i64 kd, .string a1, .string a2, .slice A al.length ca, .slice K ks.length ck, .string tx] 37)) (.cells #[.int .i64 ke, .string b1, .string b2, .slice B bl.length cb, .slice L js.length cl, .string ty] 37) _ (blk_in (heap_alloc_new w _))).trans (heap_alloc_new w (.cells #[.int .i64 kd, .string a1, .string a2, .slice A al.length ca, .slice K ks.length ck, .string tx] 37))
    have hs1 : (w.alloc (.cells #[.int .i64 kd, .string a1, .string a2, .slice A al.length ca, .slice K ks.length ck, .string tx] 37)).heap.size = w.heap.size + 1 := by simp
    rw [hs1] at hM
    have HA := Lib.hid (hAn.below hb2)
    have HK := Lib.hid (hKn.below hb2)
    have HC := Lib.hid (hAm.below hb2)
    have HL := Lib.hid (hKm.below hb2)
    have HN := Lib.hid hN
    have HM := Lib.hid hM
    have HB := Lib.hid hb2
    have hws := hb2.size
    have IH := Lib.hid ih
    have S3 := Lib.hid s3
    have T3 := Lib.hid t3
    clear hb1 hb2 hM hN hs1 hAn hKn hAm hKm ih s3 t3
    have heq := fun w2 => eq_name a1 a2 b1 b2 w2
    have hne : (a1.toList == b1.toList && a2.toList == b2.toList) = eqP (a1, a2) (b1, b2) := rfl
    rw [hne] at heq
    have htx : (tx.toList == ty.toList) = eqT tx ty := rfl
    unfold ndV ndCells
    simp only [Nd.kind, Nd.name, Nd.attrs, Nd.kids, Nd.text]
    go_enter Tryz.func35, Tryz.ntmps35
    go_upto_region 1 with fail
    revert HA HK HC HL HN HM HB hws
    generalize ((w.alloc (.cells #[.int .i64 kd, .string a1, .string a2, .slice A al.length ca, .slice K ks.length ck, .string tx] 37)).alloc (.cells #[.int .i64 ke, .string b1, .string b2, .slice B bl.length cb, .slice L js.length cl, .string ty] 37)) = wz
    intro HA HK HC HL HN HM HB hws
    generalize hT : w.heap.size = T at *
    have CN := Lib.hid (fun (v : World) (h : Below wz.heap.size wz v) => cells_of_nd (still_block HN.out h))
    have CM := Lib.hid (fun (v : World) (h : Below wz.heap.size wz v) => cells_of_nd (still_block HM.out h))
    obtain ⟨n0, n1, n2, n3, n4, n5⟩ := CN.out wz (Below.refl _ _)
    obtain ⟨m0, m1, m2, m3, m4, m5⟩ := CM.out wz (Below.refl _ _)
    clear hne HN HM
    obtain ⟨q2, g2⟩ : ∃ q, eqP (a1, a2) (b1, b2) = q := ⟨_, rfl⟩
    obtain ⟨q3, g3⟩ : ∃ q, eqT tx ty = q := ⟨_, rfl⟩
    obtain ⟨q4, g4⟩ : ∃ q, permA al bl = q := ⟨_, rfl⟩
    obtain ⟨q5, g5⟩ : ∃ q, sameKs ks js = q := ⟨_, rfl⟩
    have HQ1 : Hid ((decide (kd = ke) && eqP (a1, a2) (b1, b2) && eqT tx ty && permA al bl && sameKs ks js) = (decide (kd = ke) && q2 && q3 && q4 && q5)) := Lib.hid (by rw [g2, g3, g4, g5])
    have HQ : Hid ((eqP (a1, a2) (b1, b2) && eqT tx ty && permA al bl && sameKs ks js) = (q2 && q3 && q4 && q5)) := Lib.hid (by rw [g2, g3, g4, g5])
    rw [g2] at heq
    rw [g3] at htx
    have G4 := Lib.hid g4
    have G5 := Lib.hid g5
    have HT := Lib.hid hT
    clear g2 g3 g4 g5 hT
    by_cases hkd : kd = ke
    case neg =>
      have HK1 : Hid (decide (kd = ke) = false) := Lib.hid (decide_eq_false hkd)
      go_wp2
      go_ret
      exact ⟨by rw [HQ1.out, HK1.out]; rfl, by rw [HT.out]; exact HB.out⟩
    case pos =>
    subst hkd
    cases q2 with
    | false =>
      go_wp2
      go_ret
      exact ⟨by rw [HQ.out]; rfl, by rw [HT.out]; exact HB.out⟩
    | true =>
    cases q3 with
    | false =>
      go_wp2
      go_ret
      exact ⟨by rw [HQ.out]; rfl, by rw [HT.out]; exact HB.out⟩
    | true =>
    by_cases hla : al.length = bl.length
    · have hlx : (al.length : Int) = (bl.length : Int) := by omega
      by_cases hlk : ks.length = js.length
      · have hly : (ks.length : Int) = (js.length : Int) := by omega
        rw [← hla] at m3 CM
        rw [← hlk] at m4 CM
        have HLA := Lib.hid hla
        have HLK := Lib.hid hlk
        clear hla hlk hlx hly
        go_wp2
        go_loopw [5] (fun vi wr => ∃ i : Nat, i ≤ al.length ∧ vi = .int .i64 i ∧ Hid (∀ j x, j < i → al[j]? = some x → cntA x al = cntA x bl) ∧ Hid (Below wz.heap.size wz wr)) (fun vi _ => ((al.length : Int) - intOf vi).toNat)
        case atStart => exact ⟨0, by omega, rfl, Lib.hid (fun j x h => by omega), Lib.hid (Below.refl _ _)⟩
        case round =>
          obtain ⟨i, hi, rfl, HE, HBr⟩ := hrel
          clear n0 n1 n2 n3 n4 n5 m0 m1 m2 m3 m4 m5
          obtain ⟨n0, n1, n2, n3, n4, n5⟩ := CN.out wr HBr.out
          by_cases h0 : i < al.length
          · obtain ⟨⟨⟨x1, x2⟩, x3⟩, hx⟩ : ∃ x, al[i]? = some x := ⟨al[i], List.getElem?_eq_getElem h0⟩
            obtain ⟨ad, rfl, had, c1, c2, c3⟩ := HA.out.at_ hx
            simp only at c1 c2 c3
            have CX := Lib.hid (fun (v : World) (h : Below wz.heap.size wz v) => (show v.cell? (ad.add (i * 3)) = some (.string x1) ∧ v.cell? ⟨(ad.add (i * 3)).block, (ad.add (i * 3)).off + 1, none⟩ = some (.string x2) ∧ v.cell? ⟨(ad.add (i * 3)).block, (ad.add (i * 3)).off + 2, none⟩ = some (.string x3) from
              ⟨(h.cell (by rw [add_block]; exact had)).trans c1, (h.cell (by show (ad.add (i * 3)).block < _; rw [add_block]; exact had)).trans c2, (h.cell (by show (ad.add (i * 3)).block < _; rw [add_block]; exact had)).trans c3⟩))
            have HX := Lib.hid hx
            have hi0 : (0 : Int) ≤ (i : Int) := by omega
            have hi1 : (i : Int) < (al.length : Int) := by omega
            clear c1 c2 c3 had hx
            go_wp2
            go_loopw [6, 7, 8] (fun vx vy vk wq => ∃ k cx cy : Nat, k ≤ al.length ∧ vk = .int .i64 k ∧ vx = .int .i64 cx ∧ vy = .int .i64 cy ∧ cx ≤ k ∧ cy ≤ k ∧ Hid (cntA ((x1, x2), x3) (al.take k) = cx) ∧ Hid (cntA ((x1, x2), x3) (bl.take k) = cy) ∧ Hid (Below wz.heap.size wz wq)) (fun _ _ vk _ => ((al.length : Int) - intOf vk).toNat)
            case atStart => exact ⟨0, 0, 0, by omega, rfl, rfl, rfl, by omega, by omega, Lib.hid (by simp [cntA]), Lib.hid (by simp [cntA]), HBr⟩
            case round =>
              obtain ⟨k, cx, cy, hk, rfl, rfl, rfl, hcx, hcy, HCX, HCY, HBq⟩ := hrel
              clear n0 n1 n2 n3 n4 n5
              obtain ⟨n0, n1, n2, n3, n4, n5⟩ := CN.out _ HBq.out
              by_cases h1 : k < al.length
              · obtain ⟨⟨⟨y1, y2⟩, y3⟩, hy⟩ : ∃ y, al[k]? = some y := ⟨al[k], List.getElem?_eq_getElem h1⟩
                obtain ⟨⟨⟨z1, z2⟩, z3⟩, hz⟩ : ∃ z, bl[k]? = some z := ⟨bl[k]'(by have := HLA.out; omega), List.getElem?_eq_getElem (by have := HLA.out; omega)⟩
                obtain ⟨ad', hadq, hady, d1, d2, d3⟩ := HA.out.at_ hy
                obtain rfl := Option.some.inj hadq
                obtain ⟨ae, rfl, hae, e1, e2, e3⟩ := HC.out.at_ hz
                simp only at d1 d2 d3 e1 e2 e3
                have CY := Lib.hid (fun (v : World) (h : Below wz.heap.size wz v) => (show v.cell? (ad.add (k * 3)) = some (.string y1) ∧ v.cell? ⟨(ad.add (k * 3)).block, (ad.add (k * 3)).off + 1, none⟩ = some (.string y2) ∧ v.cell? ⟨(ad.add (k * 3)).block, (ad.add (k * 3)).off + 2, none⟩ = some (.string y3) from
                  ⟨(h.cell (by rw [add_block]; exact hady)).trans d1, (h.cell (by show (ad.add (k * 3)).block < _; rw [add_block]; exact hady)).trans d2, (h.cell (by show (ad.add (k * 3)).block < _; rw [add_block]; exact hady)).trans d3⟩))
                have CZ := Lib.hid (fun (v : World) (h : Below wz.heap.size wz v) => (show v.cell? (ae.add (k * 3)) = some (.string z1) ∧ v.cell? ⟨(ae.add (k * 3)).block, (ae.add (k * 3)).off + 1, none⟩ = some (.string z2) ∧ v.cell? ⟨(ae.add (k * 3)).block, (ae.add (k * 3)).off + 2, none⟩ = some (.string z3) from
                  ⟨(h.cell (by rw [add_block]; exact hae)).trans e1, (h.cell (by show (ae.add (k * 3)).block < _; rw [add_block]; exact hae)).trans e2, (h.cell (by show (ae.add (k * 3)).block < _; rw [add_block]; exact hae)).trans e3⟩))
                have HY := Lib.hid (cntA_step hy ((x1, x2), x3))
                have HZ := Lib.hid (cntA_step hz ((x1, x2), x3))
                have hk0 : (0 : Int) ≤ (k : Int) := by omega
                have hk1 : (k : Int) < (al.length : Int) := by omega
                have hqy := fun w2 => eq_attr y1 y2 y3 x1 x2 x3 w2
                have hqz := fun w2 => eq_attr z1 z2 z3 x1 x2 x3 w2
                have hEY : eqA ((y1, y2), y3) ((x1, x2), x3) = (y1.toList == x1.toList && y2.toList == x2.toList && y3.toList == x3.toList) := rfl
                have hEZ : eqA ((z1, z2), z3) ((x1, x2), x3) = (z1.toList == x1.toList && z2.toList == x2.toList && z3.toList == x3.toList) := rfl
                rw [hEY] at HY
                rw [hEZ] at HZ
                clear d1 d2 d3 e1 e2 e3 hady hae hy hz hEY hEZ hadq
                generalize hry : (y1.toList == x1.toList && y2.toList == x2.toList && y3.toList == x3.toList) = ry at *
                generalize hrz : (z1.toList == x1.toList && z2.toList == x2.toList && z3.toList == x3.toList) = rz at *
                clear hry hrz
                have hcx0 : (0 : Int) ≤ (cx : Int) := by omega
                have hcx1 : (cx : Int) + 1 ≤ 1000001 := by omega
                have hcy0 : (0 : Int) ≤ (cy : Int) := by omega
                have hcy1 : (cy : Int) + 1 ≤ 1000001 := by omega
                go_wp2_with fail
                (try simp only [List.append])
                refine wp_region_held_drew (S := (fun v => v.cell? ⟨T, 2 + 1, none⟩ = some (.slice (some ad) al.length ca) ∧ v.cell? (ad.add (k * 3)) = some (.string y1) ∧ v.cell? ⟨(ad.add (k * 3)).block, (ad.add (k * 3)).off + 1, none⟩ = some (.string y2) ∧ v.cell? ⟨(ad.add (k * 3)).block, (ad.add (k * 3)).off + 2, none⟩ = some (.string y3) ∧ v.cell? (ad.add (i * 3)) = some (.string x1) ∧ v.cell? ⟨(ad.add (i * 3)).block, (ad.add (i * 3)).off + 1, none⟩ = some (.string x2) ∧ v.cell? ⟨(ad.add (i * 3)).block, (ad.add (i * 3)).off + 2, none⟩ = some (.string x3))) (by kernel_rfl) (⟨(CN.out _ HBq.out.drew).2.2.2.1, (CY.out _ HBq.out.drew).1, (CY.out _ HBq.out.drew).2.1, (CY.out _ HBq.out.drew).2.2, (CX.out _ HBq.out.drew).1, (CX.out _ HBq.out.drew).2.1, (CX.out _ HBq.out.drew).2.2⟩) (fun hHeld => ?_)
                refine takeW 0 ?_
                refine takeW 1 ?_
                refine takeW 2 ?_
                refine takeW 3 ?_
                (try simp only [Act.put, List.setIfInBounds_toArray, List.set_cons_zero, List.set_cons_succ])
                refine takeW 4 ?_
                refine takeW 5 ?_
                refine takeW 6 ?_
                refine takeW 7 ?_
                (try simp only [Act.put, List.setIfInBounds_toArray, List.set_cons_zero, List.set_cons_succ])
                refine takeW 8 ?_
                refine takeW 9 ?_
                refine takeW 10 ?_
                (try simp only [Act.put, List.setIfInBounds_toArray, List.set_cons_zero, List.set_cons_succ])
                refine wpAnyH_done (by kernel_rfl) ?_ _
                have HBd := Lib.hid HBq.out.drew
                clear hHeld hqy n0 n1 n2 n3 n4 n5 HBq
                obtain ⟨n0, n1, n2, n3, n4, n5⟩ := CN.out _ HBd.out
                obtain ⟨m0, m1, m2, m3, m4, m5⟩ := CM.out _ HBd.out
                cases ry
                all_goals (
                  go_wp2_with fail
                  (try simp only [List.append])
                  refine wp_region_held_drew (S := (fun v => v.cell? ⟨T + 1, 2 + 1, none⟩ = some (.slice (some ae) al.length cb) ∧ v.cell? ⟨T, 2 + 1, none⟩ = some (.slice (some ad) al.length ca) ∧ v.cell? (ae.add (k * 3)) = some (.string z1) ∧ v.cell? ⟨(ae.add (k * 3)).block, (ae.add (k * 3)).off + 1, none⟩ = some (.string z2) ∧ v.cell? ⟨(ae.add (k * 3)).block, (ae.add (k * 3)).off + 2, none⟩ = some (.string z3) ∧ v.cell? (ad.add (i * 3)) = some (.string x1) ∧ v.cell? ⟨(ad.add (i * 3)).block, (ad.add (i * 3)).off + 1, none⟩ = some (.string x2) ∧ v.cell? ⟨(ad.add (i * 3)).block, (ad.add (i * 3)).off + 2, none⟩ = some (.string x3))) (by kernel_rfl) (⟨(CM.out _ HBd.out.drew).2.2.2.1, (CN.out _ HBd.out.drew).2.2.2.1, (CZ.out _ HBd.out.drew).1, (CZ.out _ HBd.out.drew).2.1, (CZ.out _ HBd.out.drew).2.2, (CX.out _ HBd.out.drew).1, (CX.out _ HBd.out.drew).2.1, (CX.out _ HBd.out.drew).2.2⟩) (fun hHeld => ?_)
                  refine takeW 0 ?_
                  refine takeW 1 ?_
                  refine takeW 2 ?_
                  refine takeW 3 ?_
                  (try simp only [Act.put, List.setIfInBounds_toArray, List.set_cons_zero, List.set_cons_succ])
                  refine takeW 4 ?_
                  refine takeW 5 ?_
                  refine takeW 6 ?_
                  refine takeW 7 ?_
                  (try simp only [Act.put, List.setIfInBounds_toArray, List.set_cons_zero, List.set_cons_succ])
                  refine takeW 8 ?_
                  refine takeW 9 ?_
                  refine takeW 10 ?_
                  (try simp only [Act.put, List.setIfInBounds_toArray, List.set_cons_zero, List.set_cons_succ])
                  refine wpAnyH_done (by kernel_rfl) ?_ _
                  have HBe := Lib.hid HBd.out.drew
                  clear hHeld hqz n0 n1 n2 n3 n4 n5 m0 m1 m2 m3 m4 m5 HBd
                  cases rz
                  all_goals (
                    go_wp2
                    go_roundw
                    case rel =>
                      first
                        | exact ⟨k + 1, cx, cy, by omega, by go_num, rfl, rfl, by omega, by omega, Lib.hid (by rw [HY.out, HCX.out]; rfl), Lib.hid (by rw [HZ.out, HCY.out]; rfl), HBe⟩
                        | exact ⟨k + 1, cx + 1, cy, by omega, by go_num, by go_num, rfl, by omega, by omega, Lib.hid (by rw [HY.out, HCX.out]; rfl), Lib.hid (by rw [HZ.out, HCY.out]; rfl), HBe⟩
                        | exact ⟨k + 1, cx, cy + 1, by omega, by go_num, rfl, by go_num, by omega, by omega, Lib.hid (by rw [HY.out, HCX.out]; rfl), Lib.hid (by rw [HZ.out, HCY.out]; rfl), HBe⟩
                        | exact ⟨k + 1, cx + 1, cy + 1, by omega, by go_num, by go_num, by go_num, by omega, by omega, Lib.hid (by rw [HY.out, HCX.out]; rfl), Lib.hid (by rw [HZ.out, HCY.out]; rfl), HBe⟩
                    case measure => simp [intOf]; omega))
              · have hk' : k = al.length := by omega
                subst hk'
                have hcx' := HCX.out
                have hcy' := HCY.out
                rw [List.take_length] at hcx'
                rw [HLA.out, List.take_length] at hcy'
                by_cases hc : cx = cy
                · subst hc
                  have HE2 : Hid (∀ j x, j < i + 1 → al[j]? = some x → cntA x al = cntA x bl) := Lib.hid (fun j x hj hx2 => by
                    by_cases e : j = i
                    · subst e
                      have := HX.out.symm.trans hx2
                      simp only [Option.some.injEq] at this
                      rw [← this, hcx', hcy']
                    · exact HE.out j x (by omega) hx2)
                  clear hcx' hcy' HCX HCY
                  go_wp2
                  go_roundw
                  case rel => exact ⟨i + 1, by omega, by go_num, HE2, HBq⟩
                  case measure => simp [intOf]; omega
                · have hp : permA al bl = false := perm_bad (x := ((x1, x2), x3)) (by rw [hcx', hcy']; exact hc)
                  have h4 : Hid (q4 = false) := Lib.hid (G4.out.symm.trans hp)
                  have hce : ((cx : Int) == (cy : Int)) = false := by simp; omega
                  clear hcx' hcy' HCX HCY hp
                  go_wp2
                  go_ret
                  exact ⟨by rw [HQ.out, h4.out]; rfl, by rw [HT.out]; exact HB.out.trans (HBq.out.mono hws)⟩
          · have hp : permA al bl = true := perm_each HLA.out (fun x hx => by
              obtain ⟨j, hj, e⟩ := List.getElem_of_mem hx
              exact HE.out j x (by omega) (by rw [← e]; exact List.getElem?_eq_getElem hj))
            have H4 : Hid (q4 = true) := Lib.hid (G4.out.symm.trans hp)
            clear hp HE HA HC
            go_wp2
            go_loopw [9] (fun vi wq => ∃ i : Nat, i ≤ ks.length ∧ vi = .int .i64 i ∧ Hid (sameKs (ks.drop i) (js.drop i) = q5) ∧ Hid (Below wz.heap.size wz wq)) (fun vi _ => ((ks.length : Int) - intOf vi).toNat)
            case atStart => exact ⟨0, by omega, rfl, Lib.hid (by simpa using G5.out), HBr⟩
            case round =>
              obtain ⟨p, hp, rfl, HS, HBq⟩ := hrel
              clear n0 n1 n2 n3 n4 n5
              obtain ⟨n0, n1, n2, n3, n4, n5⟩ := CN.out _ HBq.out
              by_cases h2 : p < ks.length
              · obtain ⟨x, hx⟩ : ∃ x, ks[p]? = some x := ⟨ks[p], List.getElem?_eq_getElem h2⟩
                obtain ⟨y, hy⟩ : ∃ y, js[p]? = some y := ⟨js[p]'(by have := HLK.out; omega), List.getElem?_eq_getElem (by have := HLK.out; omega)⟩
                obtain ⟨ad, A1, ca1, K1, ck1, rfl, had, d0, d1, d2, d3, d4, d5, hA1, hK1⟩ := HK.out.at_ hx
                obtain ⟨ae, B1, cb1, L1, cl1, rfl, hae, e0, e1, e2, e3, e4, e5, hB1, hL1⟩ := HL.out.at_ hy
                have hst := HS.out
                rw [sameKs_drop hx hy] at hst
                have HST := Lib.hid hst
                have hmx := List.mem_of_getElem? hx
                have hmy := List.mem_of_getElem? hy
                have HCALL := Lib.hid (fun (v : World) (h : Below wz.heap.size wz v) => IH.out x hmx y A1 K1 B1 L1 ca1 ck1 cb1 cl1 v (S3.out x hmx) (T3.out y hmy) (NodeV.below ⟨hA1, hK1⟩ h) (NodeV.below ⟨hB1, hL1⟩ h))
                have hbx : (ad.add (p * 6)).block < wz.heap.size := by rw [add_block]; exact had
                have hby : (ae.add (p * 6)).block < wz.heap.size := by rw [add_block]; exact hae
                have HSV := Lib.hid (fun (v : World) (h : Below wz.heap.size wz v) => (show v.cell? ⟨T, 3 + 1, none⟩ = some (.slice (some ad) ks.length ck) ∧ v.cell? ⟨T + 1, 3 + 1, none⟩ = some (.slice (some ae) ks.length cl) ∧
                  v.cell? (ad.add (p * 6)) = some (.int .i64 x.kind) ∧ v.cell? ⟨(ad.add (p * 6)).block, (ad.add (p * 6)).off + 1, none⟩ = some (.string x.name.1) ∧ v.cell? ⟨(ad.add (p * 6)).block, (ad.add (p * 6)).off + 2, none⟩ = some (.string x.name.2) ∧ v.cell? ⟨(ad.add (p * 6)).block, (ad.add (p * 6)).off + 3, none⟩ = some (.slice A1 x.attrs.length ca1) ∧ v.cell? ⟨(ad.add (p * 6)).block, (ad.add (p * 6)).off + 4, none⟩ = some (.slice K1 x.kids.length ck1) ∧ v.cell? ⟨(ad.add (p * 6)).block, (ad.add (p * 6)).off + 5, none⟩ = some (.string x.text) ∧
                  v.cell? (ae.add (p * 6)) = some (.int .i64 y.kind) ∧ v.cell? ⟨(ae.add (p * 6)).block, (ae.add (p * 6)).off + 1, none⟩ = some (.string y.name.1) ∧ v.cell? ⟨(ae.add (p * 6)).block, (ae.add (p * 6)).off + 2, none⟩ = some (.string y.name.2) ∧ v.cell? ⟨(ae.add (p * 6)).block, (ae.add (p * 6)).off + 3, none⟩ = some (.slice B1 y.attrs.length cb1) ∧ v.cell? ⟨(ae.add (p * 6)).block, (ae.add (p * 6)).off + 4, none⟩ = some (.slice L1 y.kids.length cl1) ∧ v.cell? ⟨(ae.add (p * 6)).block, (ae.add (p * 6)).off + 5, none⟩ = some (.string y.text) from
                  ⟨(CN.out v h).2.2.2.2.1, (CM.out v h).2.2.2.2.1, (h.cell hbx).trans d0, (h.cell (p := ⟨(ad.add (p * 6)).block, (ad.add (p * 6)).off + 1, none⟩) hbx).trans d1, (h.cell (p := ⟨(ad.add (p * 6)).block, (ad.add (p * 6)).off + 2, none⟩) hbx).trans d2, (h.cell (p := ⟨(ad.add (p * 6)).block, (ad.add (p * 6)).off + 3, none⟩) hbx).trans d3, (h.cell (p := ⟨(ad.add (p * 6)).block, (ad.add (p * 6)).off + 4, none⟩) hbx).trans d4, (h.cell (p := ⟨(ad.add (p * 6)).block, (ad.add (p * 6)).off + 5, none⟩) hbx).trans d5, (h.cell hby).trans e0, (h.cell (p := ⟨(ae.add (p * 6)).block, (ae.add (p * 6)).off + 1, none⟩) hby).trans e1, (h.cell (p := ⟨(ae.add (p * 6)).block, (ae.add (p * 6)).off + 2, none⟩) hby).trans e2, (h.cell (p := ⟨(ae.add (p * 6)).block, (ae.add (p * 6)).off + 3, none⟩) hby).trans e3, (h.cell (p := ⟨(ae.add (p * 6)).block, (ae.add (p * 6)).off + 4, none⟩) hby).trans e4, (h.cell (p := ⟨(ae.add (p * 6)).block, (ae.add (p * 6)).off + 5, none⟩) hby).trans e5⟩))
                have hp0 : (0 : Int) ≤ (p : Int) := by omega
                have hp1 : (p : Int) < (ks.length : Int) := by omega
                unfold ndV ndCells at HCALL
                clear d0 d1 d2 d3 d4 d5 e0 e1 e2 e3 e4 e5 hA1 hK1 hB1 hL1 had hae hx hy hmx hmy hst HS
                generalize sameN x y = b at *
                go_wp2_with fail
                (try simp only [List.append])
                refine wp_region_held_drew (S := (fun v => v.cell? ⟨T, 3 + 1, none⟩ = some (.slice (some ad) ks.length ck) ∧ v.cell? ⟨T + 1, 3 + 1, none⟩ = some (.slice (some ae) ks.length cl) ∧ v.cell? (ad.add (p * 6)) = some (.int .i64 x.kind) ∧ v.cell? ⟨(ad.add (p * 6)).block, (ad.add (p * 6)).off + 1, none⟩ = some (.string x.name.1) ∧ v.cell? ⟨(ad.add (p * 6)).block, (ad.add (p * 6)).off + 2, none⟩ = some (.string x.name.2) ∧ v.cell? ⟨(ad.add (p * 6)).block, (ad.add (p * 6)).off + 3, none⟩ = some (.slice A1 x.attrs.length ca1) ∧ v.cell? ⟨(ad.add (p * 6)).block, (ad.add (p * 6)).off + 4, none⟩ = some (.slice K1 x.kids.length ck1) ∧ v.cell? ⟨(ad.add (p * 6)).block, (ad.add (p * 6)).off + 5, none⟩ = some (.string x.text) ∧ v.cell? (ae.add (p * 6)) = some (.int .i64 y.kind) ∧ v.cell? ⟨(ae.add (p * 6)).block, (ae.add (p * 6)).off + 1, none⟩ = some (.string y.name.1) ∧ v.cell? ⟨(ae.add (p * 6)).block, (ae.add (p * 6)).off + 2, none⟩ = some (.string y.name.2) ∧ v.cell? ⟨(ae.add (p * 6)).block, (ae.add (p * 6)).off + 3, none⟩ = some (.slice B1 y.attrs.length cb1) ∧ v.cell? ⟨(ae.add (p * 6)).block, (ae.add (p * 6)).off + 4, none⟩ = some (.slice L1 y.kids.length cl1) ∧ v.cell? ⟨(ae.add (p * 6)).block, (ae.add (p * 6)).off + 5, none⟩ = some (.string y.text))) (by kernel_rfl) (HSV.out _ HBq.out.drew) (fun hHeld => ?_)
                refine takeW 0 ?_
                refine takeW 1 ?_
                refine takeW 2 ?_
                refine takeW 3 ?_
                (try simp only [Act.put, List.setIfInBounds_toArray, List.set_cons_zero, List.set_cons_succ])
                refine takeW 4 ?_
                refine takeW 5 ?_
                refine takeW 6 ?_
                refine takeW 7 ?_
                (try simp only [Act.put, List.setIfInBounds_toArray, List.set_cons_zero, List.set_cons_succ])
                refine takeW 8 ?_
                refine takeW 9 ?_
                (try simp only [Act.put, List.setIfInBounds_toArray, List.set_cons_zero, List.set_cons_succ])
                refine wpAnyH_ready (rs := [10]) (by kernel_rfl) (by simp) ?_
                refine AllReadyH.cons rfl (fun K2 hK2 => ?_) AllReadyH.nil
                go_simp
                refine (HCALL.out _ HBq.out.drew).mono ?_
                rintro e w10 ⟨rfl, hb10⟩
                have HB10 : Hid (Below wz.heap.size wz w10) := Lib.hid (HBq.out.drew.trans (hb10.mono HBq.out.drew.size))
                clear hb10
                refine hK2.out _ _ (HSV.out _ HB10.out) (fun hHeld2 => ?_)
                refine takeW 11 ?_
                (try simp only [Act.put, List.setIfInBounds_toArray, List.set_cons_zero, List.set_cons_succ])
                refine wpAnyH_done (by kernel_rfl) ?_ _
                clear hHeld HCALL n0 n1 n2 n3 n4 n5
                cases b with
                | true =>
                  go_wp2
                  go_roundw
                  case rel => exact ⟨p + 1, by omega, by go_num, Lib.hid (by rw [← HST.out, Bool.true_and]), HB10⟩
                  case measure => simp [intOf]; omega
                | false =>
                  go_wp2
                  go_ret
                  exact ⟨by rw [HQ.out, H4.out, ← HST.out]; rfl, by rw [HT.out]; exact HB.out.trans (HB10.out.mono hws)⟩
              · have hd : q5 = true := by
                  rw [← HS.out, List.drop_eq_nil_of_le (by omega), List.drop_eq_nil_of_le (by have := HLK.out; omega)]
                  rfl
                subst hd
                clear HS
                go_wp2
                go_ret
                exact ⟨by rw [HQ.out, H4.out]; rfl, by rw [HT.out]; exact HB.out.trans (HBq.out.mono hws)⟩
      · have h5 : q5 = false := G5.out.symm.trans (sameKs_len hlk)
        have hly : ((ks.length : Int) == (js.length : Int)) = false := by simp; omega
        clear hlk
        go_wp2
        go_ret
        exact ⟨by rw [HQ.out, h5, Bool.and_false]; rfl, by rw [HT.out]; exact HB.out⟩
    · have h4 : q4 = false := G4.out.symm.trans (perm_len hla)
      have hlx : ((al.length : Int) == (bl.length : Int)) = false := by simp; omega
      clear hla
      go_wp2
      go_ret
      exact ⟨by rw [HQ.out, h4]; rfl, by rw [HT.out]; exact HB.out⟩
theorem rSame_any (n m : Nd) (A K B L : Option Addr) (ca ck cb cl : Nat) (w : World) (hsn : smallN n) (hsm : smallN m) (hn : NodeV w n A K) (hm : NodeV w m B L) :
    Calls Tryz.prog 35 #[ndV n A ca K ck, ndV m B cb L cl] w fun e w' => e = .returned (.bool (sameN n m)) ∧ Below w.heap.size w w' := rsame_of n m A K B L ca ck cb cl w hsn hsm hn hm
end Go.Proofs.YtlcjepnaljfpkaaGreatDoor
