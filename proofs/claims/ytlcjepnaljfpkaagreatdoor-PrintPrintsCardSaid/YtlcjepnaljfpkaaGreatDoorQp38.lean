/- SpG. -/
import Derived.Deep.Cut
import Derived.Deep.DeepCutAuto
import Derived.Test.YtlcjepnaljfpkaaGreatDoorQp11
import Derived.Test.YtlcjepnaljfpkaaGreatDoorQp21
import Derived.Test.YtlcjepnaljfpkaaGreatDoorQp25
import Derived.Test.YtlcjepnaljfpkaaGreatDoorQp34
import Derived.Test.YtlcjepnaljfpkaaGreatDoorQp35
import Derived.Test.YtlcjepnaljfpkaaGreatDoorQp37
namespace Wb
theorem ba_lst {s : ByteArray} {l : List UInt8} (h : s.data.toList = l) : s = ⟨l.toArray⟩ := by rw [← h]
theorem ba_siz {s : ByteArray} {l : List UInt8} (h : s.data.toList = l) : s.size = l.length := by rw [← h]; simp
theorem toList_neG {a b : ByteArray} (h : ¬ a = b) : (a.toList == b.toList) = false := eqT_false.2 h
theorem preK_len {p : List ByteArray} {s : ByteArray} {k : Nat} {a loc : List UInt8} (h : preK p s k a loc) : a.length ≤ loc.length + 4 := by
  rcases h with ⟨_, h⟩ | ⟨j, _, _, h⟩
  · rw [h, List.length_append]
    split
    · simp [sXmlK]; omega
    · simp
  · rw [h, List.length_append, List.length_cons]
    have := numT_len j
    omega
end Wb
namespace Go.Proofs.YtlcjepnaljfpkaaGreatDoor
open Go.RowKit Wb
def NodeOf (x : Nd) : Prop := ∀ (d : Nat) (space : ByteArray) (A K : Option Addr) (ca ck : Nat) (w : World), okN d x → szN x → smallN x → costN x ≤ 2000 → NodeV w x A K →
  Calls Tryz.prog 33 #[ndV x A ca K ck, .string space] w fun e w' => e = .returned (.string ⟨(nodeT x space).toArray⟩) ∧ Below w.heap.size w w'
set_option maxRecDepth 100000 in
set_option maxHeartbeats 8000000 in
theorem node_of (n : Nd) : NodeOf n := by
  induction n using Nd.induct with
  | h n ih =>
    intro d space A K ca ck w hok hsz hsm hco hV
    have hlen := nodeT_len n d space hok hsz
    obtain ⟨s1, s2, s3⟩ := (smallN_is n).1 hsm
    obtain ⟨kd, ⟨sp, lo⟩, al, ks, t⟩ := n
    obtain ⟨z1, z2, z3, z4, z5⟩ := hsz
    have zk := (szKs_iff ks).1 z5
    simp only [Nd.kids, Nd.attrs] at ih s1 s2 s3 z1 z2
    have hcs : costN (.mk kd (sp, lo) al ks t) = 1 + costNs ks := rfl
    have hb1 : Below w.heap.size w (w.alloc (.cells #[.int .i64 kd, .string sp, .string lo, .slice A al.length ca, .slice K ks.length ck, .string t] 37)) := (Below.refl _ w).alloc (Nat.le_refl _) _
    have HA := Lib.hid (hV.1.below hb1)
    have HK := Lib.hid (hV.2.below hb1)
    have HN := Lib.hid (heap_alloc_new w (.cells #[.int .i64 kd, .string sp, .string lo, .slice A al.length ca, .slice K ks.length ck, .string t] 37))
    have HB := Lib.hid hb1
    have hws := hb1.size
    have hnt : nodeT (.mk kd (sp, lo) al ks t) space = if kd = 2 then escL false t.data.toList else
      60 :: (tagT (sp, lo) ++ nsT (sp, lo) space ++ attrsT al ++ (if ks.isEmpty then [47, 62] else 62 :: (kidsT ks (ownT (sp, lo) space) ++ [60, 47] ++ tagT (sp, lo) ++ [62]))) := by rw [nodeT]
    obtain ⟨r, hr⟩ : ∃ r, (ByteArray.mk (nodeT (.mk kd (sp, lo) al ks t) space).toArray) = r := ⟨_, rfl⟩
    rw [hr]
    have hrl : r.data.toList = nodeT (.mk kd (sp, lo) al ks t) space := by rw [← hr]
    rw [hnt] at hrl hlen
    have HRL := Lib.hid hrl
    clear hrl hr hnt hb1 hV hsm
    unfold ndV ndCells
    simp only [Nd.kind, Nd.name, Nd.attrs, Nd.kids, Nd.text]
    by_cases hk2 : kd = 2
    · subst hk2
      have HE := Lib.hid (fun v => resc_any t false v z4)
      have HR2 : Hid (r = ⟨(escL false t.data.toList).toArray⟩) := Lib.hid (ba_lst (HRL.out.trans (if_pos rfl)))
      clear HRL hlen ih
      go_enter Tryz.func33, Tryz.ntmps33
      go_upto_region 1 with fail
      revert HA HK HN HB hws
      generalize (w.alloc (.cells #[.int .i64 2, .string sp, .string lo, .slice A al.length ca, .slice K ks.length ck, .string t] 37)) = wz
      intro HA HK HN HB hws
      generalize hT : w.heap.size = T at *
      have HT := Lib.hid hT
      clear hT
      obtain ⟨n0, n1, n2, n3, n4, n5⟩ := cells_of_nd HN.out
      go_wp2_with fail
      refine (HE.out _).mono ?_
      rintro e w2 ⟨rfl, hb2⟩
      have HB2 := Lib.hid (HB.out.trans (hb2.mono hws))
      clear hb2 n0 n1 n2 n3 n4 n5
      go_wp2
      go_ret
      exact ⟨by rw [HR2.out]; rfl, by rw [HT.out]; exact HB2.out⟩
    · have hok2 : kd = 1 ∧ attrsOK al ∧ okKs (d + 1) 0 ks := by
        unfold okN at hok
        rcases hok with ⟨h, _, _, _, h1, h2⟩ | ⟨h, _⟩
        · exact ⟨h, h1, h2⟩
        · exact absurd h hk2
      obtain ⟨rfl, hal, hks⟩ := hok2
      rw [if_neg hk2] at hlen HRL
      have hhl := headT_len (n := (sp, lo)) (al := al) (sp := space) z1 z3 hal.1
      have htl := tagT_len (sp, lo)
      obtain ⟨TL, hTL⟩ : ∃ q, tagT (sp, lo) = q := ⟨_, rfl⟩
      obtain ⟨NL, hNL⟩ : ∃ q, nsT (sp, lo) space = q := ⟨_, rfl⟩
      obtain ⟨OW, hOW⟩ : ∃ q, ownT (sp, lo) space = q := ⟨_, rfl⟩
      obtain ⟨sl, hsl⟩ : ∃ q, sortT al = q := ⟨_, rfl⟩
      have hat : attrsT al = declT 0 (spacesT sl) ++ eachT (spacesT sl) sl := by rw [← hsl]; rfl
      have hse : Rise sl := by rw [← hsl]; exact sortT_rise al
      have hsL : sl.length = al.length := by rw [← hsl]; exact sortT_len al
      have hsm : ∀ a ∈ sl, a.1.1.size ≤ 1000000000 ∧ a.1.2.size ≤ 1000000000 ∧ a.2.size ≤ 1000000000 := fun a ha => z3 a (by rw [← hsl] at ha; exact (sortT_perm al).mem_iff.1 ha)
      have hso := fun v h => sorted_any A al ca v h s1
      rw [hsl] at hso
      rw [hTL, hNL, hOW, hat] at HRL hlen
      rw [hNL, hat] at hhl
      rw [hTL] at htl
      have TG1 : sp = sXML → TL = sXmlK ++ lo.data.toList := fun h => by rw [← hTL]; unfold tagT; rw [if_pos h]
      have TG2 : ¬ sp = sXML → TL = lo.data.toList := fun h => by rw [← hTL]; unfold tagT; rw [if_neg h]
      have OW1 : sp = sXML → OW = space := fun h => by rw [← hOW]; unfold ownT; rw [if_pos h]
      have OW2 : ¬ sp = sXML → OW = sp := fun h => by rw [← hOW]; unfold ownT; rw [if_neg h]
      have NS1 : OW = space → NL = [] := fun h => by rw [← hNL]; unfold nsT; rw [hOW, if_pos h]
      have NS2 : ¬ OW = space → NL = attrT sXmlnsL OW.data.toList := fun h => by rw [← hNL]; unfold nsT; rw [hOW, if_neg h]
      have HSO := Lib.hid hso
      have HSE := Lib.hid hse
      have HSM := Lib.hid hsm
      have HLEN := Lib.hid hlen
      have IH := Lib.hid ih
      have ZK := Lib.hid zk
      have HKS := Lib.hid hks
      have S3 := Lib.hid s3
      have hsl32 : sl.length ≤ 32 := by rw [hsL]; exact hal.1
      have HSL := Lib.hid hsL
      have HCO := Lib.hid (show 1 + costNs ks ≤ 2000 from hco)
      have hNLl : NL.length ≤ 480000000000 := by omega
      have hTLl : TL.length ≤ 1000000004 := by have : (sp, lo).2.size = lo.size := rfl; omega
      have HHL := Lib.hid hhl
      have hx1 : (sp.toList == [104, 116, 116, 112, 58, 47, 47, 119, 119, 119, 46, 119, 51, 46, 111, 114, 103, 47, 88, 77, 76, 47, 49, 57, 57, 56, 47, 110, 97, 109, 101, 115, 112, 97, 99, 101]) = eqT sp sXML := lit_of sp sXML _ rfl
      have hx2 : (sp.toList == space.toList) = eqT sp space := rfl
      have hzl : ¬ 9223372036854775807 < 4 + lo.size := by omega
      have HES := Lib.hid (fun v => resc_any sp true v z1)
      clear hTL hNL hOW hsl hat hse hsL hsm hso hlen hhl htl ih zk hks s3 hal hok z3 z4 z5 hcs hco hk2
      go_enter Tryz.func33, Tryz.ntmps33
      go_upto_region 1 with fail
      revert HA HK HN HB hws
      generalize (w.alloc (.cells #[.int .i64 1, .string sp, .string lo, .slice A al.length ca, .slice K ks.length ck, .string t] 37)) = wz
      intro HA HK HN HB hws
      generalize hT : w.heap.size = T at *
      have HT := Lib.hid hT
      clear hT
      have CN := Lib.hid (fun (v : World) (h : Below wz.heap.size wz v) => cells_of_nd (still_block HN.out h))
      clear HN
      obtain ⟨n0, n1, n2, n3, n4, n5⟩ := CN.out wz (Below.refl _ _)
      obtain ⟨b27, hb27⟩ : ∃ b, eqT sp sXML = b := ⟨_, rfl⟩
      rw [hb27] at hx1
      have HB27 := Lib.hid hb27
      have HTG1 := Lib.hid TG1
      have HTG2 := Lib.hid TG2
      have HOW1 := Lib.hid OW1
      have HOW2 := Lib.hid OW2
      have HNS1 := Lib.hid NS1
      have HNS2 := Lib.hid NS2
      clear hb27 TG1 TG2 OW1 OW2 NS1 NS2
      go_upto_if 27 with fail
      go_cut [1, 5, 6] (fun v1 v5 v6 wx => ∃ TG SS : ByteArray, v1 = .string OW ∧ v5 = .string TG ∧ v6 = .string SS ∧ Hid (TG.data.toList = TL) ∧ Hid (SS.data.toList = NL) ∧ Hid (Below wz.heap.size wz wx))
      case first =>
        clear IH HSO HSE HSM HLEN ZK HKS S3 HSL HCO HHL HRL HA HK
        rcases b27 with _ | _
        case true =>
          have h1 := Lib.hid ((eqT_iff sp sXML).1 HB27.out)
          go_wp2_with fail
          go_meet
          case rel => exact ⟨_, _, by rw [HOW1.out h1.out], rfl, rfl, Lib.hid (by rw [HTG1.out h1.out]; simp [ByteArray.data_append, sXmlK]), Lib.hid (by rw [HNS1.out (HOW1.out h1.out)]), Lib.hid (Below.refl _ _)⟩
        case false =>
          have h1 := Lib.hid (eqT_false.1 HB27.out)
          by_cases h2 : sp = space
          · rw [(eqT_iff sp space).2 h2] at hx2
            have H2 := Lib.hid h2
            clear h2
            go_wp2_with fail
            go_meet
            case rel => exact ⟨_, _, by rw [HOW2.out h1.out, H2.out], rfl, rfl, Lib.hid (by rw [HTG2.out h1.out]), Lib.hid (by rw [HNS1.out ((HOW2.out h1.out).trans H2.out)]), Lib.hid (Below.refl _ _)⟩
          · rw [eqT_false.2 h2] at hx2
            have H2 := Lib.hid h2
            clear h2
            obtain ⟨E, hE⟩ : ∃ E : ByteArray, ByteArray.mk (escL true sp.data.toList).toArray = E := ⟨_, rfl⟩
            have hEl : E.data.toList = escL true sp.data.toList := by rw [← hE]
            have hEs : E.size ≤ 6000000000 := by
              have h5 := (escL_len true sp.data.toList).2
              have h6 : sp.data.toList.length = sp.size := by simp
              have h7 := ba_siz hEl
              omega
            rw [hE] at HES
            have y1 : ¬ 9223372036854775807 < 8 + E.size := by omega
            have y2 : ¬ 9223372036854775807 < 8 + E.size + 1 := by omega
            have HEL := Lib.hid hEl
            clear hE hEs hEl
            go_wp2_with fail
            refine (HES.out _).mono ?_
            rintro e w2 ⟨rfl, hb2⟩
            have HB2 := Lib.hid hb2
            clear hb2
            go_wp2_with fail
            go_meet
            case rel => exact ⟨_, _, by rw [HOW2.out h1.out], rfl, rfl, Lib.hid (by rw [HTG2.out h1.out]), Lib.hid (by rw [HNS2.out (by rw [HOW2.out h1.out]; exact H2.out), HOW2.out h1.out]; unfold attrT; simp [ByteArray.data_append, HEL.out, sXmlnsL]), HB2⟩
      case rest =>
        obtain ⟨TG, SS, rfl, rfl, rfl, HTG, HSS, HBq⟩ := hcut
        obtain ⟨wy, rfl⟩ : ∃ wy, wy = wc := ⟨wc, rfl⟩
        clear HES hx1 hx2 hzl n0 n1 n2 n3 n4 n5 HTG1 HTG2 HOW1 HOW2 HNS1 HNS2 HB27
        have hTGl : TG.size = TL.length := ba_siz HTG.out
        obtain ⟨n0, n1, n2, n3, n4, n5⟩ := CN.out _ HBq.out
        go_wp2_with fail
        refine (HSO.out _ (HA.out.below HBq.out)).mono ?_
        rintro e w3 ⟨v3, rfl, hown3, hb3⟩
        have HB3 := Lib.hid (HBq.out.trans (hb3.mono HBq.out.size))
        obtain ⟨SA, sc, rfl⟩ := own_shape hown3
        have HSA := Lib.hid (show Sl3 w3 SA sl from Sl3.of_own (by rw [← HSL.out] at hown3; exact hown3))
        clear hown3 hb3 n0 n1 n2 n3 n4 n5 HBq
        have hpr := rprefixes_any SA sl sc w3 HSA.out (by omega)
        rw [HSL.out] at hpr
        go_wp2_with fail
        refine hpr.mono ?_
        rintro e w4 ⟨v4, rfl, hown4, hb4⟩
        have HB4 := Lib.hid (HB3.out.trans (hb4.mono HB3.out.size))
        have HSA4 := Lib.hid (HSA.out.below hb4)
        obtain ⟨PA, pc, rfl⟩ := own_shape hown4
        have HPA := Lib.hid (show Sl1 w4 PA (spacesT sl) from Sl.of_own hown4)
        have hPn := spaces_nodup HSE.out
        have hPl : (spacesT sl).length ≤ 32 := Nat.le_trans (spcT_len sl) (by omega)
        have hPm : ∀ s ∈ spacesT sl, s.size ≤ 1000000000 := fun s hs => by
          obtain ⟨⟨a, ha, e⟩, _⟩ := (spcT_mem _ _).1 hs
          rw [← e]; exact (HSM.out a ha).1
        have hPi : ∀ a ∈ sl, needs a.1.1 = true → a.1.1 ∈ spacesT sl := fun a ha hn => (spcT_mem _ _).2 ⟨⟨a, ha, rfl⟩, hn⟩
        have hPd : ∀ t ∈ spacesT sl, needs t = true := spaces_need
        obtain ⟨P, hP⟩ : ∃ q, spacesT sl = q := ⟨_, rfl⟩
        rw [hP] at HPA hPn hPl hPm hPi hPd HHL HLEN HRL
        rw [hP]
        have HPN := Lib.hid hPn
        have HPM := Lib.hid hPm
        have HPI := Lib.hid hPi
        have HPD := Lib.hid hPd
        clear hown4 hb4 hpr hP hPn hPm hPi hPd HSA HB3
        go_wp2
        go_loopw [6, 9] (fun vs vi wr => ∃ (i : Nat) (S : ByteArray), i ≤ P.length ∧ vs = .string S ∧ vi = .int .i64 i ∧ Hid (S.data.toList = NL ++ declT 0 (P.take i)) ∧ Hid (Below w4.heap.size w4 wr)) (fun _ vi _ => ((P.length : Int) - intOf vi).toNat)
        case atStart => exact ⟨0, _, by omega, rfl, rfl, Lib.hid (by rw [HSS.out]; simp [declT]), Lib.hid (Below.refl _ _)⟩
        case round =>
          obtain ⟨i, S, hil, rfl, rfl, HS, HBr⟩ := hrel
          by_cases h0 : i < P.length
          · obtain ⟨s0, hs0⟩ : ∃ s, P[i]? = some s := ⟨P[i], List.getElem?_eq_getElem h0⟩
            obtain ⟨pa, rfl, hpa, hcp⟩ := HPA.out.at_ hs0
            have hs0m := HPM.out s0 (List.mem_of_getElem? hs0)
            have hSs : S.size ≤ 200000000000 + 480000000000 := by
              have h1 := ba_siz HS.out
              have h2 := declT_len 1000000000 (P.take i) 0 (fun s hs => HPM.out s (List.mem_of_mem_take hs))
              have h3 : (P.take i).length ≤ 32 := by rw [List.length_take]; omega
              have h4 : (P.take i).length * (6 * 1000000000 + 13) ≤ 32 * (6 * 1000000000 + 13) := Nat.mul_le_mul_right _ h3
              rw [List.length_append] at h1
              omega
            have hnum := fun v => rnumber_any (i + 1) (by omega) v
            rw [show ((i + 1 : Nat) : Int) = (i : Int) + 1 from by omega] at hnum
            have hesc := fun v => resc_any s0 true v hs0m
            obtain ⟨D, hD⟩ : ∃ D : ByteArray, ByteArray.mk (digT (i + 1)).toArray = D := ⟨_, rfl⟩
            have hDl : D.data.toList = digT (i + 1) := by rw [← hD]
            obtain ⟨E, hE⟩ : ∃ E : ByteArray, ByteArray.mk (escL true s0.data.toList).toArray = E := ⟨_, rfl⟩
            have hEl : E.data.toList = escL true s0.data.toList := by rw [← hE]
            have hEs : E.size ≤ 6000000000 := by
              have h5 := (escL_len true s0.data.toList).2
              have h6 : s0.data.toList.length = s0.size := by simp
              have h7 := ba_siz hEl
              omega
            have hDs : D.size ≤ 2 := by
              have h7 := ba_siz hDl
              have h8 := numT_len i
              unfold numT at h8
              simp only [List.length_cons] at h8
              omega
            rw [hD] at hnum
            rw [hE] at hesc
            have HNUM := Lib.hid hnum
            have HESC := Lib.hid hesc
            have y1 : ¬ 9223372036854775807 < S.size + 8 := by omega
            have y2 : ¬ 9223372036854775807 < S.size + 8 + D.size := by omega
            have y3 : ¬ 9223372036854775807 < S.size + 8 + D.size + 2 := by omega
            have y4 : ¬ 9223372036854775807 < S.size + 8 + D.size + 2 + E.size := by omega
            have y5 : ¬ 9223372036854775807 < S.size + 8 + D.size + 2 + E.size + 1 := by omega
            have hi0 : (0 : Int) ≤ (i : Int) := by omega
            have hi1 : (i : Int) < (P.length : Int) := by omega
            have hwr : IntKind.i64.wrap ((i : Int) + 1) = (i : Int) + 1 := by rw [IntKind.wrap_i64]; omega
            have HST := Lib.hid (declT_take hs0)
            have HCP := Lib.hid (fun (v : World) (h : Below w4.heap.size w4 v) => (show v.cell? (pa.add i) = some (.string s0) from (h.cell (by rw [add_block]; exact hpa)).trans hcp))
            have HDL := Lib.hid hDl
            have HEL := Lib.hid hEl
            clear hnum hesc hD hE hDl hEl hs0 hpa hcp hs0m hSs hEs hDs
            go_wp2_with fail
            (try simp only [List.append])
            refine wp_region_held_drew (S := (fun v => v.cell? (pa.add i) = some (.string s0))) (by kernel_rfl) (HCP.out _ HBr.out.drew) (fun hHeld => ?_)
            refine takeW 0 ?_
            refine takeW 1 ?_
            refine takeW 2 ?_
            refine takeW 3 ?_
            (try simp only [Act.put, List.setIfInBounds_toArray, List.set_cons_zero, List.set_cons_succ])
            refine takeW 7 ?_
            refine takeW 8 ?_
            refine takeW 9 ?_
            refine takeW 10 ?_
            (try simp only [Act.put, List.setIfInBounds_toArray, List.set_cons_zero, List.set_cons_succ])
            refine wpAnyH_ready (rs := [4]) (by kernel_rfl) (by simp) ?_
            refine AllReadyH.cons rfl (fun K2 hK2 => ?_) AllReadyH.nil
            go_simp
            (try rw [hwr])
            refine (HNUM.out _).mono ?_
            rintro e w7 ⟨rfl, hb7⟩
            have HB7 : Hid (Below w4.heap.size w4 w7) := Lib.hid (by first | exact HBr.out.drew.trans (hb7.mono HBr.out.drew.size) | exact HB8.out.trans (hb7.mono HB8.out.size))
            clear hb7
            refine hK2.out _ _ (HCP.out _ HB7.out) (fun hHeld2 => ?_)
            (try simp only [Act.put, List.setIfInBounds_toArray, List.set_cons_zero, List.set_cons_succ])
            refine takeW 5 ?_
            refine takeW 6 ?_
            (try simp only [Act.put, List.setIfInBounds_toArray, List.set_cons_zero, List.set_cons_succ])
            refine wpAnyH_ready (rs := [11]) (by kernel_rfl) (by simp) ?_
            refine AllReadyH.cons rfl (fun K2 hK2 => ?_) AllReadyH.nil
            go_simp
            refine (HESC.out _).mono ?_
            rintro e w8 ⟨rfl, hb8⟩
            have HB8 : Hid (Below w4.heap.size w4 w8) := Lib.hid (by first | exact HB7.out.trans (hb8.mono HB7.out.size) | exact HBr.out.drew.trans (hb8.mono HBr.out.drew.size))
            clear hb8
            refine hK2.out _ _ (HCP.out _ HB8.out) (fun hHeld2 => ?_)
            refine takeW 12 ?_
            refine takeW 13 ?_
            (try simp only [Act.put, List.setIfInBounds_toArray, List.set_cons_zero, List.set_cons_succ])
            refine takeW 14 ?_
            (try simp only [Act.put, List.setIfInBounds_toArray, List.set_cons_zero, List.set_cons_succ])
            refine wpAnyH_done (by kernel_rfl) ?_ _
            go_wp2_with fail
            go_roundw
            case rel => exact ⟨i + 1, _, by omega, rfl, by go_num, Lib.hid (by rw [HST.out]; unfold attrT numT; simp [ByteArray.data_append, HS.out, HDL.out, HEL.out, sXmlnsK, List.append_assoc]), by first | exact HB8 | exact HB7⟩
            case measure => simp [intOf]; omega
          · have HS1 : Hid (S.data.toList = NL ++ declT 0 P) := Lib.hid (by rw [HS.out, List.take_of_length_le (by omega)])
            have hdl := declT_len 1000000000 P 0 (fun s hs => HPM.out s hs)
            have hdl2 : P.length * (6 * 1000000000 + 13) ≤ 32 * (6 * 1000000000 + 13) := Nat.mul_le_mul_right _ hPl
            have HBr4 := Lib.hid (HB4.out.trans (HBr.out.mono HB4.out.size))
            obtain ⟨DL, hDL⟩ : ∃ q, declT 0 P = q := ⟨_, rfl⟩
            rw [hDL] at HS1 hdl HRL HLEN HHL
            have HDL9 := Lib.hid (Nat.le_trans hdl hdl2)
            have HPL9 := Lib.hid hPl
            have HSL9 := Lib.hid hsl32
            have HNL9 := Lib.hid hNLl
            have HTG9 := Lib.hid (show TG.size ≤ 1000000004 by omega)
            clear hDL HS hdl hdl2 hPl hsl32 hNLl hTGl hTLl
            go_wp2
            go_loopw [6, 10] (fun vs vi wq => ∃ (j : Nat) (S : ByteArray), j ≤ sl.length ∧ vs = .string S ∧ vi = .int .i64 j ∧ Hid (S.data.toList = NL ++ DL ++ eachT P (sl.take j)) ∧ Hid (Below w4.heap.size w4 wq)) (fun _ vi _ => ((sl.length : Int) - intOf vi).toNat)
            case atStart => exact ⟨0, _, by omega, rfl, rfl, Lib.hid (by rw [HS1.out]; simp [eachT]), HBr⟩
            case round =>
              clear HBr4
              obtain ⟨j, S2, hjl, rfl, rfl, HS2, HBj⟩ := hrel
              by_cases hj0 : j < sl.length
              · obtain ⟨x, hx⟩ : ∃ x, sl[j]? = some x := ⟨sl[j], List.getElem?_eq_getElem hj0⟩
                have hxm := List.mem_of_getElem? hx
                have hxs := HSM.out x hxm
                have hpi := HPI.out x hxm
                have HET := Lib.hid (eachT_take (sp := P) hx)
                have HS2s : Hid (S2.size ≤ 980000000000) := Lib.hid (by
                  have h1 := ba_siz HS2.out
                  have hdl := HDL9.out
                  have hNLl := HNL9.out
                  have hsl32 := HSL9.out
                  have h2 := eachT_len 1000000000 P (sl.take j) (fun a ha => ⟨(HSM.out a (List.mem_of_mem_take ha)).2.1, (HSM.out a (List.mem_of_mem_take ha)).2.2⟩)
                  have h3 : (sl.take j).length ≤ 32 := by rw [List.length_take]; omega
                  have h4 : (sl.take j).length * (7 * 1000000000 + 8) ≤ 32 * (7 * 1000000000 + 8) := Nat.mul_le_mul_right _ h3
                  rw [List.length_append, List.length_append] at h1
                  omega)
                obtain ⟨⟨x1, x2⟩, x3⟩ := x
                simp only at hxs hpi HET
                obtain ⟨sa, rfl, hsab, d0, d1, d2⟩ := (HSA4.out.below HBj.out).at_ hx
                have HPX := Lib.hid hpi
                have HXS := Lib.hid hxs
                have HCX := Lib.hid (fun (v : World) (h : Below wr.heap.size wr v) => (show v.cell? (sa.add (j * 3)) = some (.string x1) ∧ v.cell? ⟨(sa.add (j * 3)).block, (sa.add (j * 3)).off + 1, none⟩ = some (.string x2) ∧ v.cell? ⟨(sa.add (j * 3)).block, (sa.add (j * 3)).off + 2, none⟩ = some (.string x3) from
                  ⟨(h.cell (by rw [add_block]; exact hsab)).trans d0, (h.cell (p := ⟨(sa.add (j * 3)).block, (sa.add (j * 3)).off + 1, none⟩) (by show (sa.add (j * 3)).block < _; rw [add_block]; exact hsab)).trans d1, (h.cell (p := ⟨(sa.add (j * 3)).block, (sa.add (j * 3)).off + 2, none⟩) (by show (sa.add (j * 3)).block < _; rw [add_block]; exact hsab)).trans d2⟩))
                have hj1 : (0 : Int) ≤ (j : Int) := by omega
                have hj2 : (j : Int) < (al.length : Int) := by have := HSL.out; omega
                have hx85 : (x1.toList == [104, 116, 116, 112, 58, 47, 47, 119, 119, 119, 46, 119, 51, 46, 111, 114, 103, 47, 88, 77, 76, 47, 49, 57, 57, 56, 47, 110, 97, 109, 101, 115, 112, 97, 99, 101]) = eqT x1 sXML := lit_of x1 sXML _ rfl
                obtain ⟨b85, hb85⟩ : ∃ b, eqT x1 sXML = b := ⟨_, rfl⟩
                rw [hb85] at hx85
                have HB85 := Lib.hid hb85
                have hz85 : ¬ 9223372036854775807 < 4 + x2.size := by omega
                clear hx hxm hpi hb85 hxs
                go_upto_if 85 with fail
                go_cut [11] (fun v11 wx => ∃ Nm : ByteArray, v11 = .string Nm ∧ Hid (Nm.data.toList = (if x1 = sXML then sXmlK else []) ++ x2.data.toList) ∧ wx = wr)
                case first =>
                  rcases b85 with _ | _
                  case true =>
                    have h1 := Lib.hid ((eqT_iff x1 sXML).1 HB85.out)
                    go_wp2_with fail
                    go_meet
                    case rel => exact ⟨_, rfl, Lib.hid (by rw [if_pos h1.out]; simp [ByteArray.data_append, sXmlK]), rfl⟩
                  case false =>
                    have h1 := Lib.hid (eqT_false.1 HB85.out)
                    go_wp2_with fail
                    go_meet
                    case rel => exact ⟨_, rfl, Lib.hid (by rw [if_neg h1.out]; simp), rfl⟩
                case rest =>
                  obtain ⟨Nm, rfl, HNm, rfl⟩ := hcut
                  clear hx85 hz85 HB85 d0 d1 d2
                  have HPAq := Lib.hid (HPA.out.below HBj.out)
                  go_wp2
                  go_loopw [11, 12] (fun va vk wk => ∃ (k : Nat) (N2 : ByteArray), k ≤ P.length ∧ va = .string N2 ∧ vk = .int .i64 k ∧ Hid (preK P x1 k N2.data.toList x2.data.toList) ∧ Hid (Below wc.heap.size wc wk)) (fun _ vk _ => ((P.length : Int) - intOf vk).toNat)
                  case atStart => exact ⟨0, _, by omega, rfl, rfl, Lib.hid (by rw [HNm.out]; exact preK_start _ _ _), Lib.hid (Below.refl _ _)⟩
                  case round =>
                    obtain ⟨k, N2, hkl, rfl, rfl, HN2, HBk⟩ := hrel
                    have HN2s : Hid (N2.size ≤ 1000000004) := Lib.hid (by
                      have h1 := preK_len HN2.out
                      have h2 := HXS.out.2.1
                      simp at h1
                      omega)
                    obtain ⟨y0, y1, y2⟩ := HCX.out _ HBk.out
                    by_cases hk0 : k < P.length
                    · obtain ⟨t2, ht2⟩ : ∃ t, P[k]? = some t := ⟨P[k], List.getElem?_eq_getElem hk0⟩
                      obtain ⟨pb, hpbe, hpb, hcp⟩ := (HPAq.out.below HBk.out).at_ ht2
                      subst hpbe
                      have hk1 : (0 : Int) ≤ (k : Int) := by omega
                      have hk2 : (k : Int) < (P.length : Int) := by omega
                      have HT2 := Lib.hid ht2
                      by_cases hxt : t2 = x1
                      · subst hxt
                        have hee : (t2.toList == t2.toList) = true := by simp
                        have hnum := fun v => rnumber_any (k + 1) (by have := HPL9.out; omega) v
                        rw [show ((k + 1 : Nat) : Int) = (k : Int) + 1 from by omega] at hnum
                        obtain ⟨D, hD⟩ : ∃ D : ByteArray, ByteArray.mk (digT (k + 1)).toArray = D := ⟨_, rfl⟩
                        have hDl : D.data.toList = digT (k + 1) := by rw [← hD]
                        have hDs : D.size ≤ 2 := by
                          have h7 := ba_siz hDl
                          have h8 := numT_len k
                          unfold numT at h8
                          simp only [List.length_cons] at h8
                          omega
                        rw [hD] at hnum
                        have hwr : IntKind.i64.wrap ((k : Int) + 1) = (k : Int) + 1 := by have := HPL9.out; rw [IntKind.wrap_i64]; omega
                        have z1 : ¬ 9223372036854775807 < 1 + D.size := by omega
                        have z2 : ¬ 9223372036854775807 < 1 + D.size + 1 := by omega
                        have z3 : ¬ 9223372036854775807 < 1 + D.size + 1 + N2.size := by have := HN2s.out; omega
                        have HDL := Lib.hid hDl
                        have HNX : Hid (t2 ≠ sXML) := Lib.hid (fun e => needs_no (.inr e) (HPD.out t2 (List.mem_of_getElem? HT2.out)))
                        clear hD hDl hDs ht2 hpb
                        go_wp2_with fail
                        go_region
                        go_wp2_with fail
                        refine (hnum _).mono ?_
                        rintro e w7 ⟨rfl, hb7⟩
                        have HB7 := Lib.hid (HBk.out.drew.trans (hb7.mono HBk.out.drew.size))
                        clear hb7 hnum y0 y1 y2 hcp
                        go_wp2
                        go_roundw
                        case rel => exact ⟨k + 1, _, by omega, rfl, by go_num, Lib.hid (by have h := preK_yes HPN.out HNX.out HN2.out HT2.out; simpa [ByteArray.data_append, HDL.out, numT] using h), HB7⟩
                        case measure => simp [intOf]; omega
                      · have hwr : IntKind.i64.wrap ((k : Int) + 1) = (k : Int) + 1 := by have := HPL9.out; rw [IntKind.wrap_i64]; omega
                        have hee := toList_neG hxt
                        have HXT := Lib.hid hxt
                        clear hxt ht2 hpb
                        go_wp2_with fail
                        go_region
                        go_wp2
                        go_roundw
                        case rel => exact ⟨k + 1, _, by have := (List.getElem?_eq_some_iff.1 HT2.out).1; omega, rfl, by go_num, Lib.hid (preK_no HN2.out HT2.out HXT.out), Lib.hid HBk.out.drew⟩
                        case measure => have := (List.getElem?_eq_some_iff.1 HT2.out).1; simp [intOf]; omega
                    · have HN3 : Hid (N2.data.toList = preT P x1 ++ x2.data.toList) := Lib.hid (preK_end HPN.out (fun t ht => HPD.out t ht) HPX.out (by have h := HN2.out; rwa [show k = P.length from by omega] at h))
                      have hesc := fun v => resc_any x3 true v HXS.out.2.2
                      obtain ⟨E, hE⟩ : ∃ E : ByteArray, ByteArray.mk (escL true x3.data.toList).toArray = E := ⟨_, rfl⟩
                      have hEl : E.data.toList = escL true x3.data.toList := by rw [← hE]
                      have hEs : E.size ≤ 6000000000 := by
                        have h5 := (escL_len true x3.data.toList).2
                        have h6 : x3.data.toList.length = x3.size := by simp
                        have h7 := ba_siz hEl
                        have h8 := HXS.out.2.2
                        omega
                      rw [hE] at hesc
                      have HEL := Lib.hid hEl
                      have z1 : ¬ 9223372036854775807 < S2.size + 1 := by have := HS2s.out; have := HN2s.out; omega
                      have z2 : ¬ 9223372036854775807 < S2.size + 1 + N2.size := by have := HS2s.out; have := HN2s.out; omega
                      have z3 : ¬ 9223372036854775807 < S2.size + 1 + N2.size + 2 := by have := HS2s.out; have := HN2s.out; omega
                      have z4 : ¬ 9223372036854775807 < S2.size + 1 + N2.size + 2 + E.size := by have := HS2s.out; have := HN2s.out; omega
                      have z5 : ¬ 9223372036854775807 < S2.size + 1 + N2.size + 2 + E.size + 1 := by have := HS2s.out; have := HN2s.out; omega
                      clear hE hEl hEs HN2
                      go_wp2_with fail
                      refine (hesc _).mono ?_
                      rintro e w8 ⟨rfl, hb8⟩
                      have HB8 := Lib.hid (HBj.out.trans ((HBk.out.trans (hb8.mono HBk.out.size)).mono HBj.out.size))
                      clear hb8 hesc y0 y1 y2
                      go_wp2
                      go_roundw
                      case rel => exact ⟨j + 1, _, by omega, rfl, by go_num, Lib.hid (by rw [HET.out]; unfold attrT; simp [ByteArray.data_append, HS2.out, HN3.out, HEL.out, List.append_assoc]), HB8⟩
                      case measure => simp [intOf]; omega
              · have HS3 : Hid (S2.data.toList = NL ++ DL ++ eachT P sl) := Lib.hid (by rw [HS2.out, List.take_of_length_le (by omega)])
                have HS2s : Hid (S2.size ≤ 980000000000) := Lib.hid (by
                  have hdl := HDL9.out
                  have hNLl := HNL9.out
                  have hsl32 := HSL9.out
                  have h1 := ba_siz HS3.out
                  have h2 := eachT_len 1000000000 P sl (fun a ha => ⟨(HSM.out a ha).2.1, (HSM.out a ha).2.2⟩)
                  have h4 : sl.length * (7 * 1000000000 + 8) ≤ 32 * (7 * 1000000000 + 8) := Nat.mul_le_mul_right _ hsl32
                  rw [List.length_append, List.length_append] at h1
                  omega)
                have HBz := Lib.hid (HB4.out.trans (HBj.out.mono HB4.out.size))
                obtain ⟨n0, n1, n2, n3, n4, n5⟩ := CN.out _ HBz.out
                have hjn : ¬ (j : Int) < (al.length : Int) := by have := HSL.out; omega
                clear HS2
                by_cases hk0 : ks = []
                · have hkl : ((ks.length : Int) == 0) = true := by rw [hk0]; rfl
                  have HR2 : Hid (r.data.toList = 60 :: (TL ++ NL ++ (DL ++ eachT P sl) ++ [47, 62])) := Lib.hid (by rw [HRL.out, hk0]; rfl)
                  have z1 : ¬ 9223372036854775807 < 1 + TG.size := by have := HS2s.out; have := HTG9.out; omega
                  have z2 : ¬ 9223372036854775807 < 1 + TG.size + S2.size := by have := HS2s.out; have := HTG9.out; omega
                  have z3 : ¬ 9223372036854775807 < 1 + TG.size + S2.size + 2 := by have := HS2s.out; have := HTG9.out; omega
                  clear hk0
                  go_wp2
                  go_ret
                  exact ⟨ret_s (ba_ext (by rw [HR2.out]; simp [ByteArray.data_append, HTG.out, HS3.out, List.append_assoc])), by rw [HT.out]; exact HB.out.trans (HBz.out.mono hws)⟩
                · have hkl : ((ks.length : Int) == 0) = false := by
                    have : ks.length ≠ 0 := fun h => hk0 (List.eq_nil_of_length_eq_zero h)
                    simp; omega
                  have HR2 : Hid (r.data.toList = 60 :: (TL ++ NL ++ (DL ++ eachT P sl) ++ (62 :: (kidsT ks OW ++ [60, 47] ++ TL ++ [62])))) := Lib.hid (by
                    rw [HRL.out]
                    cases ks with
                    | nil => exact absurd rfl hk0
                    | cons _ _ => rfl)
                  clear hk0
                  go_wp2
                  clear n0 n1 n2 n3 n4 n5 hkl
                  go_loopw [13, 14] (fun vq vi wk => ∃ (i : Nat) (Q : ByteArray), i ≤ ks.length ∧ vq = .string Q ∧ vi = .int .i64 i ∧ Hid (Q.data.toList = kidsT (ks.take i) OW) ∧ Hid (Below wz.heap.size wz wk)) (fun _ vi _ => ((ks.length : Int) - intOf vi).toNat)
                  case atStart => exact ⟨0, _, by omega, rfl, rfl, Lib.hid (by simp [kidsT]), HBz⟩
                  case round =>
                    clear HBz HBj
                    obtain ⟨i, Q, hil, rfl, rfl, HQ, HBi⟩ := hrel
                    have hQs : Q.size ≤ 2000000000000000 := by
                      have h1 := ba_siz HQ.out
                      have h2 := kidsT_len (M := 1000000000000) (ks := ks.take i) (own := OW) (fun k hk sp => nodeT_len k (d + 1) sp (okKs_mem HKS.out k (List.mem_of_mem_take hk)) (ZK.out k (List.mem_of_mem_take hk)))
                      have h3 := (costs_le ks i).1
                      have h4 := HCO.out
                      have h5 : 1000000000000 * costNs (ks.take i) ≤ 1000000000000 * 2000 := Nat.mul_le_mul_left _ (by omega)
                      omega
                    obtain ⟨n0, n1, n2, n3, n4, n5⟩ := CN.out _ HBi.out
                    by_cases hi0 : i < ks.length
                    · obtain ⟨x, hx⟩ : ∃ x, ks[i]? = some x := ⟨ks[i], List.getElem?_eq_getElem hi0⟩
                      obtain ⟨ad, A1, ca1, K1, ck1, rfl, had, d0, d1, d2, d3, d4, d5, hA1, hK1⟩ := (HK.out.below HBi.out).at_ hx
                      have hm := List.mem_of_getElem? hx
                      have hcx : costN x ≤ 2000 := by
                        have h1 := costs_le ks (i + 1)
                        have h2 := costs_take hx
                        have h4 := HCO.out
                        omega
                      have hxl := nodeT_len x (d + 1) OW (okKs_mem HKS.out x hm) (ZK.out x hm)
                      have hc := IH.out x hm (d + 1) OW A1 K1 ca1 ck1 wr (okKs_mem HKS.out x hm) (ZK.out x hm) (S3.out x hm) hcx ⟨hA1, hK1⟩
                      obtain ⟨R, hR⟩ : ∃ R : ByteArray, ByteArray.mk (nodeT x OW).toArray = R := ⟨_, rfl⟩
                      have hRl : R.data.toList = nodeT x OW := by rw [← hR]
                      have hRs : R.size ≤ 2000000000000000 := by
                        have h1 := ba_siz hRl
                        have h5 : 1000000000000 * costN x ≤ 1000000000000 * 2000 := Nat.mul_le_mul_left _ hcx
                        omega
                      rw [hR] at hc
                      unfold ndV ndCells at hc
                      have HKT := Lib.hid (kidsT_take hx OW)
                      have HRL2 := Lib.hid hRl
                      have hi1 : (0 : Int) ≤ (i : Int) := by omega
                      have hi2 : (i : Int) < (ks.length : Int) := by omega
                      have z1 : ¬ 9223372036854775807 < Q.size + R.size := by omega
                      clear hx hm hcx hxl hR hRl hRs hQs had hA1 hK1
                      go_wp2_with fail
                      refine hc.mono ?_
                      rintro e w8 ⟨rfl, hb8⟩
                      have HB8 := Lib.hid (HBi.out.trans (hb8.mono HBi.out.size))
                      clear hb8 hc d0 d1 d2 d3 d4 d5 n0 n1 n2 n3 n4 n5
                      go_wp2
                      go_roundw
                      case rel => exact ⟨i + 1, _, by omega, rfl, by go_num, Lib.hid (by rw [HKT.out]; simp [ByteArray.data_append, HQ.out, HRL2.out]), HB8⟩
                      case measure => simp [intOf]; omega
                    · have HQ2 : Hid (Q.data.toList = kidsT ks OW) := Lib.hid (by rw [HQ.out, List.take_of_length_le (by omega)])
                      have z1 : ¬ 9223372036854775807 < 1 + TG.size := by have := HS2s.out; have := HTG9.out; omega
                      have z2 : ¬ 9223372036854775807 < 1 + TG.size + S2.size := by have := HS2s.out; have := HTG9.out; omega
                      have z3 : ¬ 9223372036854775807 < 1 + TG.size + S2.size + 1 := by have := HS2s.out; have := HTG9.out; omega
                      have z4 : ¬ 9223372036854775807 < 1 + TG.size + S2.size + 1 + Q.size := by have := HS2s.out; have := HTG9.out; omega
                      have z5 : ¬ 9223372036854775807 < 1 + TG.size + S2.size + 1 + Q.size + 2 := by have := HS2s.out; have := HTG9.out; omega
                      have z6 : ¬ 9223372036854775807 < 1 + TG.size + S2.size + 1 + Q.size + 2 + TG.size := by have := HS2s.out; have := HTG9.out; omega
                      have z7 : ¬ 9223372036854775807 < 1 + TG.size + S2.size + 1 + Q.size + 2 + TG.size + 1 := by have := HS2s.out; have := HTG9.out; omega
                      go_wp2
                      go_ret
                      exact ⟨ret_s (ba_ext (by rw [HR2.out]; simp [ByteArray.data_append, HTG.out, HS3.out, HQ2.out, List.append_assoc])), by rw [HT.out]; exact HB.out.trans (HBi.out.mono hws)⟩
end Go.Proofs.YtlcjepnaljfpkaaGreatDoor
