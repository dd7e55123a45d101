/- SpC. -/
import Derived.Deep.Cut
import Derived.Test.YtlcjepnaljfpkaaGreatDoorQp40
import Derived.Test.YtlcjepnaljfpkaaGreatDoorQp42
namespace Wb
def aK (ks : List Nd) (i : Nat) : Int := match i with | 0 => 0 | j + 1 => match ks[j]? with | some x => x.kind | none => 0
theorem aK_next {ks : List Nd} {i : Nat} {x : Nd} (he : ks[i]? = some x) : aK ks (i + 1) = x.kind := by
  show (match ks[i]? with | some x => x.kind | none => 0) = _
  rw [he]
theorem shapeKs_go {ks : List Nd} {i : Nat} {x : Nd} (he : ks[i]? = some x) : shapeKs (aK ks i) (ks.drop i) = (shapeB x && (!(decide (aK ks i = 2) && decide (x.kind = 2)) && shapeKs (aK ks (i + 1)) (ks.drop (i + 1)))) := by
  obtain ⟨hk, e⟩ := List.getElem?_eq_some_iff.1 he
  rw [List.drop_eq_getElem_cons hk, e, shapeKs_cons, aK_next he]
def sawN (al : List Tr) (i : Nat) : List Pr := (al.take i).map (·.1)
theorem sawN_next {al : List Tr} {i : Nat} {a : Tr} (he : al[i]? = some a) : sawN al (i + 1) = sawN al i ++ [a.1] := by
  unfold sawN
  rw [List.take_add_one, he]
  simp
theorem atsB_go {al : List Tr} {i : Nat} {a : Tr} (he : al[i]? = some a) : atsB (sawN al i) (al.drop i) = (atB (sawN al i) a && atsB (sawN al (i + 1)) (al.drop (i + 1))) := by
  obtain ⟨hk, e⟩ := List.getElem?_eq_some_iff.1 he
  rw [List.drop_eq_getElem_cons hk, e, sawN_next he]
  conv => lhs; unfold atsB
theorem saw_yes {al : List Tr} {i j : Nat} {y : Tr} {p : Pr} (hj : j < i) (he : al[j]? = some y) (hp : eqP y.1 p = true) : (sawN al i).any (fun y => eqP y p) = true := by
  rw [List.any_eq_true]
  refine ⟨y.1, ?_, hp⟩
  unfold sawN
  refine List.mem_map.2 ⟨y, ?_, rfl⟩
  refine List.mem_of_getElem? (i := j) ?_
  rw [List.getElem?_take, if_pos hj, he]
theorem saw_no {al : List Tr} {i : Nat} {p : Pr} (h : ∀ j y, j < i → al[j]? = some y → eqP y.1 p = false) : (sawN al i).any (fun y => eqP y p) = false := by
  rw [List.any_eq_false]
  intro q hq
  unfold sawN at hq
  obtain ⟨y, hy, rfl⟩ := List.mem_map.1 hq
  obtain ⟨j, hj, e⟩ := List.mem_iff_getElem.1 hy
  have hj2 : j < i := by rw [List.length_take] at hj; omega
  have h2 : (al.take i)[j]? = some y := by rw [List.getElem?_eq_getElem hj, e]
  rw [List.getElem?_take, if_pos hj2] at h2
  rw [h j y hj2 h2]
  decide
theorem atB_is (seen : List Pr) (a : Tr) : atB seen a = (!(seen.any (fun y => eqP y a.1)) && (!(eqP a.1 (sE, sXmlns)) && (nmB a.1 && sgB a.2))) := rfl
end Wb
namespace Go.Proofs.YtlcjepnaljfpkaaGreatDoor
open Go.RowKit Wb
set_option maxRecDepth 100000 in
set_option maxHeartbeats 8000000 in
theorem shape_any (n : Nd) : ∀ (A K : Option Addr) (ca ck : Nat) (w : World), NodeV w n A K → smallN n → szN n →
    Calls Tryz.prog 56 #[ndV n A ca K ck] w fun e w' => e = .returned (.bool (shapeB n)) ∧ Below w.heap.size w w' := by
  induction n using Nd.induct with
  | h n ih =>
    intro A K ca ck w hV hsm hsz
    obtain ⟨s1, s2, s3⟩ := (smallN_is n).1 hsm
    obtain ⟨kd, ⟨sp, lo⟩, al, ks, t⟩ := n
    obtain ⟨z1, z2, z3, z4, z5⟩ := hsz
    have zk := (szKs_iff ks).1 z5
    simp only [Nd.kids, Nd.attrs] at ih s1 s2 s3 z1 z2
    have hb1 : Below w.heap.size w (w.alloc (.cells #[.int .i64 kd, .string sp, .string lo, .slice A al.length ca, .slice K ks.length ck, .string t] 37)) := (Below.refl _ w).alloc (Nat.le_refl _) _
    have HA := Lib.hid (hV.1.below hb1)
    have HK := Lib.hid (hV.2.below hb1)
    have HN := Lib.hid (heap_alloc_new w (.cells #[.int .i64 kd, .string sp, .string lo, .slice A al.length ca, .slice K ks.length ck, .string t] 37))
    have HB := Lib.hid hb1
    have hws := hb1.size
    have IH := Lib.hid ih
    have S3 := Lib.hid s3
    have Z3 := Lib.hid z3
    have ZK := Lib.hid zk
    have HSG := Lib.hid (fun v => rsigns_any t v z4)
    have HNM := Lib.hid (fun v => rnamed_any (sp, lo) v z1 z2)
    have heq := fun w2 => eq_name sp lo ⟨#[]⟩ ⟨#[]⟩ w2
    have hpe : (sp.toList == (⟨#[]⟩ : ByteArray).toList && lo.toList == (⟨#[]⟩ : ByteArray).toList) = eqP (sp, lo) (sE, sE) := rfl
    rw [hpe] at heq
    have het : t.toList.isEmpty = eqT t sE := empty_eq t
    rw [shapeB_mk]
    have hale : al.isEmpty = decide (al.length = 0) := by cases al <;> simp
    have hkse : ks.isEmpty = decide (ks.length = 0) := by cases ks <;> simp
    rw [hale, hkse]
    clear hb1 hV hsm ih s3 z3 zk z1 z2 z4 z5 hpe hale hkse
    obtain ⟨q2, g2⟩ : ∃ q, eqT t sE = q := ⟨_, rfl⟩
    obtain ⟨q3, g3⟩ : ∃ q, sgB t = q := ⟨_, rfl⟩
    obtain ⟨q4, g4⟩ : ∃ q, eqP (sp, lo) (sE, sE) = q := ⟨_, rfl⟩
    obtain ⟨q5, g5⟩ : ∃ q, nmB (sp, lo) = q := ⟨_, rfl⟩
    obtain ⟨q6, g6⟩ : ∃ q, atsB [] al = q := ⟨_, rfl⟩
    obtain ⟨q7, g7⟩ : ∃ q, shapeKs 0 ks = q := ⟨_, rfl⟩
    rw [g2, g3, g4, g5, g6, g7]
    obtain ⟨r, hr⟩ : ∃ r, (if kd = 2 then !q2 && (q3 && (q4 && (decide (al.length = 0) && decide (ks.length = 0)))) else decide (kd = 1) && (q2 && (q5 && (decide (al.length ≤ 32) && (q6 && q7))))) = r := ⟨_, rfl⟩
    rw [hr]
    have HR := Lib.hid hr.symm
    rw [g2] at het
    rw [g3] at HSG
    rw [g4] at heq
    rw [g5] at HNM
    have G6 := Lib.hid g6
    have G7 := Lib.hid g7
    clear g2 g3 g4 g5 g6 g7 hr
    unfold ndV ndCells
    simp only [Nd.kind, Nd.name, Nd.attrs, Nd.kids, Nd.text]
    go_enter Tryz.func56, Tryz.ntmps56
    go_upto_region 1 with fail
    revert HA HK HN HB hws
    generalize (w.alloc (.cells #[.int .i64 kd, .string sp, .string lo, .slice A al.length ca, .slice K ks.length ck, .string t] 37)) = wz
    intro HA HK HN HB hws
    generalize hT : w.heap.size = T at *
    have HT := Lib.hid hT
    clear hT
    have CN := Lib.hid (fun (v : World) (h : Below wz.heap.size wz v) => cells_of_nd (still_block HN.out h))
    clear HN
    obtain ⟨n0, n1, n2, n3, n4, n5⟩ := CN.out wz (Below.refl _ _)
    by_cases hk2 : kd = 2
    · subst hk2
      have HR1 : Hid (r = (!q2 && (q3 && (q4 && (decide (al.length = 0) && decide (ks.length = 0)))))) := Lib.hid (HR.out.trans (if_pos rfl))
      clear HR
      clear IH HNM G6 G7 HA HK S3 Z3 ZK
      cases q2 with
      | true =>
        go_wp2
        go_ret
        exact ⟨by rw [HR1.out]; rfl, by rw [HT.out]; exact HB.out⟩
      | false =>
        go_wp2_with fail
        refine (HSG.out _).mono ?_
        rintro e w2 ⟨rfl, hb2⟩
        clear n0 n1 n2 n3 n4 n5
        obtain ⟨n0, n1, n2, n3, n4, n5⟩ := CN.out w2 hb2
        have HB2 := Lib.hid (HB.out.trans (hb2.mono hws))
        clear hb2 HSG CN
        cases q3 with
        | false =>
          go_wp2
          go_ret
          exact ⟨by rw [HR1.out]; rfl, by rw [HT.out]; exact HB2.out⟩
        | true =>
          cases q4 with
          | false =>
            go_wp2
            go_ret
            exact ⟨by rw [HR1.out]; rfl, by rw [HT.out]; exact HB2.out⟩
          | true =>
            by_cases ha0 : al.length = 0
            · rw [ha0] at n3 HR1
              by_cases hk0 : ks.length = 0
              · rw [hk0] at n4 HR1
                go_wp2
                go_ret
                exact ⟨by rw [HR1.out]; rfl, by rw [HT.out]; exact HB2.out⟩
              · have hkf : ((ks.length : Int) == 0) = false := by rw [beq_eq_false_iff_ne]; omega
                have HF : Hid (decide (ks.length = 0) = false) := Lib.hid (decide_eq_false hk0)
                clear hk0
                go_wp2
                go_ret
                exact ⟨by rw [HR1.out, HF.out]; rfl, by rw [HT.out]; exact HB2.out⟩
            · have haf : ((al.length : Int) == 0) = false := by rw [beq_eq_false_iff_ne]; omega
              have HF : Hid (decide (al.length = 0) = false) := Lib.hid (decide_eq_false ha0)
              clear ha0
              go_wp2
              go_ret
              exact ⟨by rw [HR1.out, HF.out]; rfl, by rw [HT.out]; exact HB2.out⟩
    · have HR1 : Hid (r = (decide (kd = 1) && (q2 && (q5 && (decide (al.length ≤ 32) && (q6 && q7)))))) := Lib.hid (HR.out.trans (if_neg hk2))
      clear heq HSG HR
      by_cases hk1 : kd = 1
      case neg =>
        have HF : Hid (decide (kd = 1) = false) := Lib.hid (decide_eq_false hk1)
        go_wp2
        go_ret
        exact ⟨by rw [HR1.out, HF.out]; rfl, by rw [HT.out]; exact HB.out⟩
      case pos =>
      subst hk1
      clear hk2
      cases q2 with
      | false =>
        go_wp2
        go_ret
        exact ⟨by rw [HR1.out]; rfl, by rw [HT.out]; exact HB.out⟩
      | true =>
      go_wp2_with fail
      refine (HNM.out _).mono ?_
      rintro e w2 ⟨rfl, hb2⟩
      clear n0 n1 n2 n3 n4 n5
      obtain ⟨n0, n1, n2, n3, n4, n5⟩ := CN.out w2 hb2
      have HB2 := Lib.hid hb2
      clear hb2 HNM
      cases q5 with
      | false =>
        go_wp2
        go_ret
        exact ⟨by rw [HR1.out]; rfl, by rw [HT.out]; exact HB.out.trans (HB2.out.mono hws)⟩
      | true =>
      by_cases h32 : al.length ≤ 32
      case neg =>
        have HF : Hid (decide (al.length ≤ 32) = false) := Lib.hid (decide_eq_false h32)
        go_wp2
        go_ret
        exact ⟨by rw [HR1.out, HF.out]; rfl, by rw [HT.out]; exact HB.out.trans (HB2.out.mono hws)⟩
      case pos =>
      have HR2 : Hid (r = (q6 && q7)) := Lib.hid (by rw [HR1.out, decide_eq_true h32]; rfl)
      clear HR1
      have G6s : Hid (atsB (sawN al 0) (al.drop 0) = q6) := Lib.hid (by rw [← G6.out]; rfl)
      clear G6 het
      go_wp2
      go_loopw [3] (fun vi wr => ∃ i : Nat, i ≤ al.length ∧ vi = .int .i64 i ∧ Hid (atsB (sawN al i) (al.drop i) = q6) ∧ Hid (Below wz.heap.size wz wr)) (fun vi _ => ((al.length : Int) - intOf vi).toNat)
      case atStart => exact ⟨0, by omega, rfl, G6s, HB2⟩
      case round =>
        obtain ⟨i, hi, rfl, HE, HBr⟩ := hrel
        clear n0 n1 n2 n3 n4 n5
        obtain ⟨n0, n1, n2, n3, n4, n5⟩ := CN.out wr HBr.out
        by_cases h0 : i < al.length
        · obtain ⟨⟨⟨x1, x2⟩, x3⟩, hx⟩ : ∃ x, al[i]? = some x := ⟨al[i], List.getElem?_eq_getElem h0⟩
          obtain ⟨ad, rfl, had, d1, d2, d3⟩ := (HA.out.below HBr.out).at_ hx
          simp only at d1 d2 d3
          have hxm := List.mem_of_getElem? hx
          have hgo := atsB_go hx
          rw [atB_is] at hgo
          have HX := Lib.hid hx
          obtain ⟨y1, y2, y3⟩ := Z3.out _ hxm
          have HN1 := Lib.hid (fun v => rnamed_any (x1, x2) v y1 y2)
          have HS1 := Lib.hid (fun v => rsigns_any x3 v y3)
          obtain ⟨b1, k1⟩ : ∃ q, nmB (x1, x2) = q := ⟨_, rfl⟩
          obtain ⟨b2, k2⟩ : ∃ q, sgB x3 = q := ⟨_, rfl⟩
          obtain ⟨b3, k3⟩ : ∃ q, (sawN al i).any (fun y => eqP y (x1, x2)) = q := ⟨_, rfl⟩
          obtain ⟨c1, k4⟩ : ∃ q, eqT x1 sE = q := ⟨_, rfl⟩
          obtain ⟨c2, k5⟩ : ∃ q, eqT x2 sXmlns = q := ⟨_, rfl⟩
          have hp5 : eqP (x1, x2) (sE, sXmlns) = (c1 && c2) := by rw [← k4, ← k5]; rfl
          have hc1 : x1.toList.isEmpty = c1 := (empty_eq x1).trans k4
          have hc2 : (x2.toList == [120, 109, 108, 110, 115]) = c2 := (lit_of x2 sXmlns _ rfl).trans k5
          simp only at hgo
          rw [k1, k2, k3, hp5] at hgo
          rw [k1] at HN1
          rw [k2] at HS1
          have HGO := Lib.hid (HE.out.symm.trans hgo)
          have K3 := Lib.hid k3
          have hi0 : (0 : Int) ≤ (i : Int) := by omega
          have hi1 : (i : Int) < (al.length : Int) := by omega
          clear hgo hx hxm y1 y2 y3 k1 k2 k3 k4 k5 hp5 HE
          have HBA := Lib.hid (HBr.out.alloc HBr.out.size (.cells #[.string x1, .string x2, .string x3] 66))
          have HGN := Lib.hid (heap_alloc_new wr (.cells #[.string x1, .string x2, .string x3] 66))
          go_upto_region 9 with fail
          clear d1 d2 d3 had n0 n1 n2 n3 n4 n5 HBr
          revert HBA HGN
          generalize (wr.alloc (.cells #[.string x1, .string x2, .string x3] 66)) = wa
          intro HBA HGN
          generalize wr.heap.size = G at *
          have CA := Lib.hid (fun (v : World) (h : Below wa.heap.size wa v) => (show v.cell? ⟨G, 0, none⟩ = some (.string x1) ∧ v.cell? ⟨G, 1, none⟩ = some (.string x2) ∧ v.cell? ⟨G, 2, none⟩ = some (.string x3) from ⟨blk_cell (still_block HGN.out h) 0, blk_cell (still_block HGN.out h) 1, blk_cell (still_block HGN.out h) 2⟩))
          obtain ⟨a0, a1, a2⟩ := CA.out wa (Below.refl _ _)
          go_wp2_with fail
          refine (HN1.out _).mono ?_
          rintro e w3 ⟨rfl, hb3⟩
          have HB3 := Lib.hid hb3
          clear hb3 a0 a1 a2 HN1 HGN
          cases b1 with
          | false =>
            go_wp2
            go_ret
            exact ⟨by rw [HR2.out, HGO.out]; simp, by rw [HT.out]; exact HB.out.trans ((HBA.out.trans (HB3.out.mono HBA.out.size)).mono hws)⟩
          | true =>
          obtain ⟨a0, a1, a2⟩ := CA.out w3 HB3.out
          go_wp2_with fail
          refine (HS1.out _).mono ?_
          rintro e w4 ⟨rfl, hb4⟩
          have HB4 := Lib.hid (HB3.out.trans (hb4.mono HB3.out.size))
          clear hb4 a0 a1 a2 HS1 HB3
          obtain ⟨a0, a1, a2⟩ := CA.out w4 HB4.out
          cases b2 with
          | false =>
            go_wp2
            go_ret
            exact ⟨by rw [HR2.out, HGO.out]; simp, by rw [HT.out]; exact HB.out.trans ((HBA.out.trans (HB4.out.mono HBA.out.size)).mono hws)⟩
          | true =>
          have hcc : (c1 = true ∧ c2 = true) ∨ c1 = false ∨ (c1 = true ∧ c2 = false) := by cases c1 <;> cases c2 <;> simp
          rcases hcc with ⟨rfl, rfl⟩ | rfl | ⟨rfl, rfl⟩
          · go_wp2
            go_ret
            exact ⟨by rw [HR2.out, HGO.out]; simp, by rw [HT.out]; exact HB.out.trans ((HBA.out.trans (HB4.out.mono HBA.out.size)).mono hws)⟩
          all_goals
            go_wp2
            go_loopw [5] (fun vk wq => ∃ k : Nat, k ≤ i ∧ vk = .int .i64 k ∧ Hid (∀ j y, j < k → al[j]? = some y → eqP y.1 (x1, x2) = false) ∧ Hid (Below wa.heap.size wa wq)) (fun vk _ => ((i : Int) - intOf vk).toNat)
            case atStart => exact ⟨0, by omega, rfl, Lib.hid (fun _ _ h => by omega), HB4⟩
            case round =>
              obtain ⟨k, hk, rfl, HL, HBq⟩ := hrel
              clear a0 a1 a2
              obtain ⟨a0, a1, a2⟩ := CA.out _ HBq.out
              have HBZ := Lib.hid (HBA.out.trans (HBq.out.mono HBA.out.size))
              obtain ⟨n0, n1, n2, n3, n4, n5⟩ := CN.out _ HBZ.out
              by_cases hki : k < i
              · obtain ⟨⟨⟨y1, y2⟩, y3⟩, hy⟩ : ∃ y, al[k]? = some y := ⟨al[k]'(by omega), List.getElem?_eq_getElem (by omega)⟩
                obtain ⟨ad', hade, hady, e1, e2, e3⟩ := (HA.out.below HBZ.out).at_ hy
                obtain rfl := Option.some.inj hade
                simp only at e1 e2 e3
                have hqn := fun w2 => eq_name y1 y2 x1 x2 w2
                have hpn : (y1.toList == x1.toList && y2.toList == x2.toList) = eqP (y1, y2) (x1, x2) := rfl
                rw [hpn] at hqn
                have hk0 : (0 : Int) ≤ (k : Int) := by omega
                have hk1 : (k : Int) < (al.length : Int) := by omega
                cases hb : eqP (y1, y2) (x1, x2) with
                | true =>
                  rw [hb] at hqn
                  have HY := Lib.hid (K3.out.symm.trans (saw_yes hki hy hb))
                  clear hb hy hpn
                  go_wp2
                  go_region
                  go_wp2
                  go_ret
                  exact ⟨by rw [HR2.out, HGO.out, HY.out]; simp, by rw [HT.out]; exact HB.out.trans (HBZ.out.drew.mono hws)⟩
                | false =>
                  rw [hb] at hqn
                  have HL2 : Hid (∀ j y, j < k + 1 → al[j]? = some y → eqP y.1 (x1, x2) = false) := Lib.hid (fun j y hj hyj => by
                    by_cases e : j = k
                    · subst e
                      rw [hy] at hyj
                      injection hyj with hyj
                      rw [← hyj]; exact hb
                    · exact HL.out j y (by omega) hyj)
                  clear hb hy hpn HL
                  go_wp2
                  go_region
                  go_wp2
                  go_roundw
                  case rel => exact ⟨k + 1, by omega, by go_num, HL2, Lib.hid HBq.out.drew⟩
                  case measure => simp [intOf]; omega
              · have hke : k = i := by omega
                have HNX : Hid (atsB (sawN al (i + 1)) (al.drop (i + 1)) = q6) := Lib.hid (by
                  have h1 := HGO.out
                  rw [← K3.out, saw_no (p := (x1, x2)) (fun j y hj hyj => HL.out j y (by omega) hyj)] at h1
                  simpa using h1.symm)
                clear hke HL HGO K3
                go_wp2
                go_roundw
                case rel => exact ⟨i + 1, by omega, by go_num, HNX, HBZ⟩
                case measure => simp [intOf]; omega
        · have HR3 : Hid (r = q7) := Lib.hid (by
            have h1 := HE.out
            rw [List.drop_eq_nil_of_le (by omega)] at h1
            rw [HR2.out, ← h1]
            rfl)
          have G7s : Hid (shapeKs (aK ks 0) (ks.drop 0) = q7) := Lib.hid (by rw [← G7.out]; rfl)
          clear HE HR2 G7 HA Z3
          go_wp2
          go_loopw [6] (fun vi wr => ∃ p : Nat, p ≤ ks.length ∧ vi = .int .i64 p ∧ Hid (shapeKs (aK ks p) (ks.drop p) = q7) ∧ Hid (Below wz.heap.size wz wr)) (fun vi _ => ((ks.length : Int) - intOf vi).toNat)
          case atStart => exact ⟨0, by omega, rfl, G7s, HBr⟩
          case round =>
            obtain ⟨p, hp, rfl, HE, HBq⟩ := hrel
            clear n0 n1 n2 n3 n4 n5
            obtain ⟨n0, n1, n2, n3, n4, n5⟩ := CN.out _ HBq.out
            by_cases h1 : p < ks.length
            · obtain ⟨x, hx⟩ : ∃ x, ks[p]? = some x := ⟨ks[p], List.getElem?_eq_getElem h1⟩
              obtain ⟨ad, A1, ca1, K1, ck1, rfl, had, d0, d1, d2, d3, d4, d5, hA1, hK1⟩ := (HK.out.below HBq.out).at_ hx
              have hmx := List.mem_of_getElem? hx
              have hgo := shapeKs_go hx
              have hcall := IH.out x hmx A1 K1 ca1 ck1 _ ⟨hA1, hK1⟩ (S3.out x hmx) (ZK.out x hmx)
              obtain ⟨b, hb⟩ : ∃ b, shapeB x = b := ⟨_, rfl⟩
              rw [hb] at hgo hcall
              have HGO := Lib.hid (HE.out.symm.trans hgo)
              have HX := Lib.hid hx
              unfold ndV ndCells at hcall
              clear hb hgo hmx hx hA1 hK1 HE had
              go_wp2_with fail
              refine hcall.mono ?_
              rintro e w2 ⟨rfl, hb2⟩
              have HB3 := Lib.hid (HBq.out.trans (hb2.mono HBq.out.size))
              clear hb2 hcall d0 d1 d2 d3 d4 d5 n0 n1 n2 n3 n4 n5
              obtain ⟨n0, n1, n2, n3, n4, n5⟩ := CN.out _ HB3.out
              cases b with
              | false =>
                go_wp2
                go_ret
                exact ⟨by rw [HR3.out, HGO.out]; rfl, by rw [HT.out]; exact HB.out.trans (HB3.out.mono hws)⟩
              | true =>
              obtain ⟨ad', A2, ca2, K2, ck2, hade, had, d0, d1, d2, d3, d4, d5, hA2, hK2⟩ := (HK.out.below HB3.out).at_ HX.out
              obtain rfl := Option.some.inj hade
              clear d1 d2 d3 d4 d5 hA2 hK2 had hade
              by_cases hp0 : p = 0
              · have HNX : Hid (shapeKs (aK ks (p + 1)) (ks.drop (p + 1)) = q7) := Lib.hid (by
                  rw [HGO.out, hp0]
                  rw [show aK ks 0 = 0 from rfl]
                  simp)
                have hpz : ¬ (0 < p) := by omega
                have hpi : ¬ ((0 : Int) < (p : Int)) := by omega
                clear hp0 HGO
                go_wp2
                go_roundw
                case rel => exact ⟨p + 1, by omega, by go_num, HNX, HB3⟩
                case measure => simp [intOf]; omega
              · obtain ⟨m, rfl⟩ : ∃ m, p = m + 1 := ⟨p - 1, by omega⟩
                obtain ⟨y, hy⟩ : ∃ y, ks[m]? = some y := ⟨ks[m]'(by omega), List.getElem?_eq_getElem (by omega)⟩
                obtain ⟨ad', A3, ca3, K3, ck3, hade, had, f0, f1, f2, f3, f4, f5, hA3, hK3⟩ := (HK.out.below HB3.out).at_ hy
                obtain rfl := Option.some.inj hade
                have hak := aK_next hy
                clear f1 f2 f3 f4 f5 hA3 hK3 had hade hy
                have HAK := Lib.hid hak
                clear hak
                obtain ⟨kx, hkx⟩ : ∃ q, x.kind = q := ⟨_, rfl⟩
                obtain ⟨ky, hky⟩ : ∃ q, y.kind = q := ⟨_, rfl⟩
                rw [hkx] at d0 HGO
                rw [hky] at f0 HAK
                clear hkx hky
                by_cases hx2 : kx = 2
                · by_cases hy2 : ky = 2
                  · have HF : Hid (q7 = false) := Lib.hid (by rw [HGO.out, HAK.out, decide_eq_true hx2, decide_eq_true hy2]; rfl)
                    subst hx2 hy2
                    clear HGO
                    go_wp2
                    go_ret
                    exact ⟨by rw [HR3.out, HF.out]; rfl, by rw [HT.out]; exact HB.out.trans (HB3.out.mono hws)⟩
                  · have HNX : Hid (shapeKs (aK ks (m + 1 + 1)) (ks.drop (m + 1 + 1)) = q7) := Lib.hid (by rw [HGO.out, HAK.out, decide_eq_false hy2]; simp)
                    have hye : (ky == 2) = false := by simpa using hy2
                    subst hx2
                    clear HGO
                    go_wp2
                    go_roundw
                    case rel => exact ⟨m + 1 + 1, by omega, by go_num, HNX, HB3⟩
                    case measure => simp [intOf]; omega
                · have HNX : Hid (shapeKs (aK ks (m + 1 + 1)) (ks.drop (m + 1 + 1)) = q7) := Lib.hid (by rw [HGO.out, decide_eq_false hx2]; simp)
                  have hxe : (kx == 2) = false := by simpa using hx2
                  clear HGO
                  go_wp2
                  go_roundw
                  case rel => exact ⟨m + 1 + 1, by omega, by go_num, HNX, HB3⟩
                  case measure => simp [intOf]; omega
            · have HF : Hid (q7 = true) := Lib.hid (by
                have h2 := HE.out
                rw [List.drop_eq_nil_of_le (by omega)] at h2
                rw [← h2]; rfl)
              clear HE
              go_wp2
              go_ret
              exact ⟨by rw [HR3.out, HF.out]; rfl, by rw [HT.out]; exact HB.out.trans (HBq.out.mono hws)⟩
end Go.Proofs.YtlcjepnaljfpkaaGreatDoor
