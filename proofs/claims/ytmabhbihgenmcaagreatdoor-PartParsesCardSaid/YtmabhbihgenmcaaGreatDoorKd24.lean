/- QcX. -/
import Derived.Deep.Cut
import Derived.Deep.CutBlock
import Derived.Test.YtmabhbihgenmcaaGreatDoorKd19
import Derived.Test.YtmabhbihgenmcaaGreatDoorKd21
import Derived.Test.YtmabhbihgenmcaaGreatDoorKd23
namespace Wb
open Go Go.RowKit
theorem drop_blank {L : List UInt8} {q : Nat} {c : UInt8} (h : L[q]? = some c) : (L.drop q).dropWhile blankB = if blankB c = true then (L.drop (q + 1)).dropWhile blankB else L.drop q := by
  obtain ⟨hi, e⟩ := List.getElem?_eq_some_iff.1 h
  rw [List.drop_eq_getElem_cons hi, e, List.dropWhile_cons]
theorem blank_byte {c : UInt8} : (blankB c = true ∧ (c.toNat = 32 ∨ (c.toNat ≠ 32 ∧ c.toNat = 9))) ∨ (blankB c = false ∧ c.toNat ≠ 32 ∧ c.toNat ≠ 9) := by
  have h : ∀ n : Fin 256, (blankB (UInt8.ofNat n.val) = true ∧ (n.val = 32 ∨ (n.val ≠ 32 ∧ n.val = 9))) ∨ (blankB (UInt8.ofNat n.val) = false ∧ n.val ≠ 32 ∧ n.val ≠ 9) := by decide +kernel
  have := h ⟨c.toNat, c.toNat_lt⟩
  rwa [UInt8.ofNat_toNat] at this
end Wb
namespace Go.Proofs.YtmabhbihgenmcaaGreatDoor
open Go.RowKit Wb
set_option maxRecDepth 100000 in
set_option maxHeartbeats 16000000 in
theorem rparse8_any (s b : ByteArray) (w : World) (hs : s.size ≤ 100000) (hb : b.size ≤ 100000) :
    Calls Tryz.prog 14 #[.string s, .string b] w fun e w' => ParseOutP (parseM b.data.toList s.data.toList) e w' ∧ Below w.heap.size w w' := by
  obtain ⟨i2, hk0, hu0, hu1, hu2⟩ := info_parts part_info
  obtain ⟨o, ho⟩ : ∃ o, parseM b.data.toList s.data.toList = o := ⟨_, rfl⟩
  rw [ho]
  have h1 := rmay_any b w (by omega)
  have HBL := Lib.hid (ba_size b)
  have HSL := Lib.hid (ba_size s)
  cases hbf : bndF b.data.toList
  · have HE : Hid (o = .error 30) := Lib.hid (by rw [← ho]; unfold parseM; rw [if_pos hbf])
    rw [hbf] at h1
    clear hbf ho
    go_enter Tryz.func14, Tryz.ntmps14
    go_wp2_with fail
    refine h1.mono ?_
    rintro e w1 ⟨rfl, hb1⟩
    have HB1 := Lib.hid hb1
    clear hb1 h1
    go_wp2
    go_ret2
    rw [HE.out]
    exact ⟨rfl, HB1.out⟩
  rw [hbf] at h1
  have HBF := Lib.hid hbf
  have HO := Lib.hid ho
  clear hbf ho
  go_enter Tryz.func14, Tryz.ntmps14
  go_wp2_with fail
  refine h1.mono ?_
  rintro e w1 ⟨rfl, hb1⟩
  have HB1 := Lib.hid hb1
  have h2 := rnext_any s b 0 w1 (by omega) (by omega) (by omega)
  clear hb1 h1
  go_wp2_with fail
  refine h2.mono ?_
  rintro e w2 ⟨r, rfl, hN, rfl⟩
  clear h2
  have hnd := next_D (.inl rfl) hN
  rw [List.drop_zero] at hnd
  rcases hnd with ⟨rfl, h4⟩ | ⟨a0, rfl, _, hd0, _, h5⟩
  · have HE : Hid (o = .error 30) := Lib.hid (by
      rw [← HO.out]
      unfold parseM
      rw [if_neg (by rw [HBF.out]; simp), h4])
    clear hN h4
    go_wp2
    go_ret2
    rw [HE.out]
    exact ⟨rfl, HB1.out⟩
  have hda : ∀ i, dAt b.data.toList s.data.toList i = true → i + (2 + b.size) ≤ s.size := fun i hi => by
    unfold dAt at hi
    rw [Bool.and_eq_true] at hi
    have h1 := pre_len hi.1
    have h2 := HBL.out
    have h3 := HSL.out
    rw [delB_len, List.length_drop] at h1
    omega
  have HDA := Lib.hid hda
  have ha0 := hda a0 hd0
  have HQ0 : Hid (o = prepQ (ptsOf []) (parseR b.data.toList (s.size + 1) ([] : List PtV).length (s.data.toList.drop (a0 + (2 + b.size))))) := Lib.hid (by
    rw [show ptsOf [] = [] from rfl, prepQ_nil, HBL.out, HSL.out]
    have := parseM_R HBF.out h5
    rw [← HO.out, this]
    rfl)
  have e0 : w1.ownsRow w.heap.size 43 2 (.slice none 0 0) ([] : List PtV).length (cellsP []) := World.ownsRow_nil _ _ _ _
  have E0 := Lib.hid e0
  clear hN h5 e0 hda hd0
  go_wp2
  go_loopw [6, 7] (fun v6 v7 wr => ∃ (a : Nat) (L : List PtV) (f : Nat), v6 = .int .i64 a ∧ a + (2 + b.size) ≤ s.size ∧ s.size < f + a ∧ L.length ≤ 40 ∧ Hid (o = prepQ (ptsOf L) (parseR b.data.toList f L.length (s.data.toList.drop (a + (2 + b.size))))) ∧ Hid (wr.ownsRow w.heap.size 43 2 v7 L.length (cellsP L)) ∧ Hid (∀ x ∈ L, Sl2 wr x.1.1 x.2.1 ∧ Apart x.1.1 x.2.1.length v7) ∧ Hid (Below w.heap.size w wr)) (fun v6 _ _ => s.size - (intOf v6).toNat)
  case atStart => exact ⟨a0, [], s.size + 1, rfl, ha0, by omega, by simp, HQ0, E0, Lib.hid (fun x hx => by cases hx), HB1⟩
  case round =>
    obtain ⟨a, L, f, rfl, ha, hf, h40, HQ, HR, HX, HB⟩ := hrel
    obtain ⟨f, rfl⟩ : ∃ g, f = g + 1 := ⟨f - 1, by omega⟩
    obtain ⟨vA, vc, rfl⟩ := own_shape HR.out
    obtain ⟨p, hp⟩ : ∃ p, a + (2 + b.size) = p := ⟨_, rfl⟩
    have hpi : (a : Int) + 2 + (b.size : Int) = (p : Int) := by omega
    rw [hp] at HQ ha
    have HP := Lib.hid hp
    have k0 := begins_any s ⟨#[45, 45]⟩ p wr (by omega) (by decide) (by omega) (by omega)
    rw [begB_pre s ⟨#[45, 45]⟩ p (by decide)] at k0
    have k0 : Calls Tryz.prog 37 #[.string s, .int .i64 p, .string ⟨#[45, 45]⟩] wr fun e w' => e = .returned (.bool (([45, 45] : List UInt8).isPrefixOf (s.data.toList.drop p))) ∧ wr = w' := k0
    have hap : a + 2 ≤ p := by omega
    clear hp
    cases hd : ([45, 45] : List UInt8).isPrefixOf (s.data.toList.drop p)
    case true =>
      rw [hd] at k0
      by_cases hz : L.length = 0
      · have HE : Hid (o = .error 2) := Lib.hid (by rw [HQ.out, parseR, if_pos hd, if_pos hz]; rfl)
        have hz0 : ((L.length : Int) == 0) = true := by rw [beq_iff_eq]; omega
        clear hd HQ
        generalize L.length = n0 at *
        clear hz
        go_wp2_with fail
        refine k0.mono ?_
        rintro e w3 ⟨rfl, rfl⟩
        clear k0
        go_wp2
        go_ret2
        rw [HE.out]
        exact ⟨rfl, HB.out⟩
      · have HE : Hid (o = .ok (ptsOf L)) := Lib.hid (by rw [HQ.out, parseR, if_pos hd, if_neg hz]; simp [prepQ])
        have hz0 : ((L.length : Int) == 0) = false := by rw [beq_eq_false_iff_ne]; omega
        have HF : Hid (SlP wr vA L) := Lib.hid ⟨Sl.of_own HR.out, fun x hx => (HX.out x hx).1⟩
        clear hd HQ
        go_wp2_with fail
        refine k0.mono ?_
        rintro e w3 ⟨rfl, rfl⟩
        clear k0
        go_wp2
        go_ret2
        rw [HE.out]
        exact ⟨⟨vA, vc, L, rfl, HF.out, rfl⟩, HB.out⟩
    rw [hd] at k0
    have HD := Lib.hid hd
    clear hd
    go_wp2_with fail
    refine k0.mono ?_
    rintro e w3 ⟨rfl, rfl⟩
    clear k0
    go_upto_block 2 with fail
    go_cut [6] (fun v6 wx => ∃ q : Nat, v6 = .int .i64 q ∧ p ≤ q ∧ q ≤ s.size ∧ Hid ((s.data.toList.drop p).dropWhile blankB = s.data.toList.drop q) ∧ wx = wr)
    case first =>
      go_wp2_with fail
      go_loopw [6] (fun v6 wq => ∃ q : Nat, v6 = .int .i64 q ∧ p ≤ q ∧ q ≤ s.size ∧ Hid ((s.data.toList.drop p).dropWhile blankB = (s.data.toList.drop q).dropWhile blankB) ∧ wq = wr) (fun v6 _ => s.size - (intOf v6).toNat)
      case atStart => exact ⟨p, rfl, by omega, by omega, Lib.hid rfl, rfl⟩
      case round =>
        obtain ⟨q, rfl, hq1, hq2, HQB, rfl⟩ := hrel
        by_cases hq0 : q < s.size
        · have hg := ba_get hq0
          have hst := drop_blank hg
          rcases blank_byte (c := s[q]) with ⟨hbk, h32 | ⟨h32, h9⟩⟩ | ⟨hbk, h32, h9⟩
          · rw [if_pos hbk] at hst
            have HN := Lib.hid (HQB.out.trans hst)
            clear hst hg hbk
            go_wp2
            go_roundw
            case rel => exact ⟨q + 1, by go_num, by omega, by omega, HN, by first | rfl | trivial⟩
            case measure => simp [intOf]; omega
          · rw [if_pos hbk] at hst
            have HN := Lib.hid (HQB.out.trans hst)
            have t32 : ((s[q].toNat : Int) == 32) = false := by rw [beq_eq_false_iff_ne]; omega
            clear hst hg hbk h32
            go_wp2
            go_roundw
            case rel => exact ⟨q + 1, by go_num, by omega, by omega, HN, by first | rfl | trivial⟩
            case measure => simp [intOf]; omega
          · rw [if_neg (by rw [hbk]; simp)] at hst
            have HN := Lib.hid (HQB.out.trans hst)
            have t32 : ((s[q].toNat : Int) == 32) = false := by rw [beq_eq_false_iff_ne]; omega
            have t9 : ((s[q].toNat : Int) == 9) = false := by rw [beq_eq_false_iff_ne]; omega
            clear hst hg hbk h32 h9
            go_wp2
            go_meet
            case rel => exact ⟨q, rfl, hq1, hq2, HN, by first | rfl | trivial⟩
        · have HN : Hid ((s.data.toList.drop p).dropWhile blankB = s.data.toList.drop q) := Lib.hid (by
            rw [HQB.out, List.drop_eq_nil_of_le (by have := HSL.out; omega)]
            rfl)
          go_wp2
          go_meet
          case rel => exact ⟨q, rfl, hq1, hq2, HN, by first | rfl | trivial⟩
    case rest =>
      obtain ⟨q, rfl, hq1, hq2, HDW, rfl⟩ := hcut
      have htx : textF b.data.toList (s.data.toList.drop p) = if ([13, 10] : List UInt8).isPrefixOf (s.data.toList.drop q) = false then .error 4 else match nextD b.data.toList (s.data.toList.drop (q + 2)) with
          | none => .error 2
          | some (t, r3) => .ok (t, r3.drop (2 + b.data.toList.length)) := by
        unfold textF
        rw [HDW.out, List.drop_drop]
        rfl
      have HTX := Lib.hid htx
      have k1 := begins_any s ⟨#[13, 10]⟩ q wc (by omega) (by decide) (by omega) (by omega)
      rw [begB_pre s ⟨#[13, 10]⟩ q (by decide)] at k1
      have k1 : Calls Tryz.prog 37 #[.string s, .int .i64 q, .string ⟨#[13, 10]⟩] wc fun e w' => e = .returned (.bool (([13, 10] : List UInt8).isPrefixOf (s.data.toList.drop q))) ∧ wc = w' := k1
      clear htx k0 hpi
      cases hc : ([13, 10] : List UInt8).isPrefixOf (s.data.toList.drop q)
      · rw [hc] at k1
        have HE : Hid (o = .error 4) := Lib.hid (by rw [HQ.out, parseR, if_neg (by rw [HD.out]; simp), HTX.out, if_pos hc]; rfl)
        clear hc
        go_wp2_with fail
        refine k1.mono ?_
        rintro e w4 ⟨rfl, rfl⟩
        clear k1
        go_wp2
        go_ret2
        rw [HE.out]
        exact ⟨rfl, HB.out⟩
      rw [hc] at k1
      have hq3 : q + 2 ≤ s.size := by
        have h1 := pre_len hc
        have h2 := HSL.out
        rw [List.length_drop] at h1
        simp only [List.length_cons, List.length_nil] at h1
        omega
      have hla : LineAt s.data.toList (q + 2) := .inr ⟨by omega, by rw [Nat.add_sub_cancel]; exact hc⟩
      have k2 := rnext_any s b (q + 2) wc (by omega) (by omega) hq3
      have htx := HTX.out
      rw [if_neg (by rw [hc]; simp)] at htx
      clear hc
      go_wp2_with fail
      refine k1.mono ?_
      rintro e w4 ⟨rfl, rfl⟩
      clear k1
      go_wp2_with fail
      refine k2.mono ?_
      rintro e w5 ⟨r, rfl, hN, rfl⟩
      clear k2
      rcases next_D hla hN with ⟨rfl, h4⟩ | ⟨k, rfl, hk1, hdk, _, h5⟩
      · rw [h4] at htx
        have HE : Hid (o = .error 2) := Lib.hid (by rw [HQ.out, parseR, if_neg (by rw [HD.out]; simp), htx]; rfl)
        clear hN h4 htx hla
        go_wp2
        go_ret2
        rw [HE.out]
        exact ⟨rfl, HB.out⟩
      have hks := HDA.out k hdk
      rw [h5] at htx
      obtain ⟨t, ht⟩ : ∃ t, (s.data.toList.drop (q + 2)).take (k - 2 - (q + 2)) = t := ⟨_, rfl⟩
      have htx2 : textF b.data.toList (s.data.toList.drop p) = .ok (t, s.data.toList.drop (k + (2 + b.size))) := by
        rw [htx, ht, HBL.out]
        simp only
        rw [List.drop_drop]
      have HTX2 := Lib.hid htx2
      clear hN h5 htx htx2 hdk hla
      have hk0' : ¬ (k : Int) < 0 := by omega
      by_cases hk40 : L.length = 40
      · have HE : Hid (o = .error 3) := Lib.hid (by rw [HQ.out, parseR, if_neg (by rw [HD.out]; simp), HTX2.out]; simp only; rw [if_pos hk40]; rfl)
        have hz : ((L.length : Int) == 40) = true := by rw [beq_iff_eq]; omega
        generalize L.length = n0 at *
        clear hk40
        go_wp2
        go_ret2
        rw [HE.out]
        exact ⟨rfl, HB.out⟩
      have hz : ((L.length : Int) == 40) = false := by rw [beq_eq_false_iff_ne]; omega
      obtain ⟨en, hen⟩ : ∃ en, (q + 2) + (k - 2 - (q + 2)) = en := ⟨_, rfl⟩
      have hen2 : en ≤ s.size := by omega
      have hen3 : q + 2 ≤ en := by omega
      have hex : (s.extract (q + 2) en).data.toList = t := by
        rw [Lib.extract_data, ← ht, ← hen, Nat.add_sub_cancel_left]
      have hexz : (s.extract (q + 2) en).size ≤ s.size := by rw [ByteArray.size_extract]; omega
      go_upto_if 71 with fail
      go_cut [10, 72] (fun v10 v72 wx => v10 = .int .i64 en ∧ wx = wc)
      case first =>
        by_cases hlt : (k : Int) - 2 < (q : Int) + 2
        · have hee : (q : Int) + 2 = (en : Int) := by omega
          go_wp2
          go_meet
          case rel => exact ⟨by first | rfl | (congr 1; done) | (congr 1; omega), by first | rfl | trivial⟩
        · have hee : (k : Int) - 2 = (en : Int) := by omega
          go_wp2
          go_meet
          case rel => exact ⟨by first | rfl | (congr 1; done) | (congr 1; omega), by first | rfl | trivial⟩
      case rest =>
        obtain ⟨rfl, rfl⟩ := hcut
        have h39 : L.length ≤ 39 := by omega
        have g0 : (0 : Int) ≤ (q : Int) + 2 := by omega
        have g1 : (q : Int) + 2 ≤ (en : Int) := by omega
        have g2 : (en : Int) ≤ (s.size : Int) := by omega
        have HEX := Lib.hid hex
        have hkk : k + (2 + b.size) ≤ s.size := hks
        have hfk : s.size < f + k := by omega
        have hka : a < k := by omega
        clear hen hen2 hen3 ht k1 hex hk0' hk1 hq1 hq2 hap ha
        have k2 := fun (v : World) => rparse_any (s.extract (q + 2) en) (t.length + 1) v (by omega) (by
          have h1 := ba_size (s.extract (q + 2) en)
          rw [HEX.out] at h1
          omega)
        rw [HEX.out] at k2
        cases hp : parseL (t.length + 1) 0 t with
        | error e1 =>
          have k2 := k2 wc
          rw [hp] at k2
          have HE : Hid (o = .error e1) := Lib.hid (by rw [HQ.out, parseR, if_neg (by rw [HD.out]; simp), HTX2.out]; simp only; rw [if_neg hk40, hp]; rfl)
          have hk := parseL_err _ _ _ _ (Nat.lt_succ_self _) hp
          clear hp
          rcases hk with rfl | rfl | rfl | rfl
          all_goals
            go_wp2_with fail
            refine k2.mono ?_
            rintro e w5 ⟨he, hb5⟩
            obtain rfl : e = _ := he
            have HB5 := Lib.hid (HB.out.trans (hb5.mono HB.out.size))
            clear hb5 k2
            go_wp2
            go_ret2
            rw [HE.out]
            exact ⟨rfl, HB5.out⟩
        | ok x =>
          obtain ⟨fs, body⟩ := x
          have k2 := k2 wc
          rw [hp] at k2
          have HN : Hid (o = prepQ (ptsOf L ++ [(fs, body)]) (parseR b.data.toList f (L.length + 1) (s.data.toList.drop (k + (2 + b.size))))) := Lib.hid (by rw [HQ.out]; exact prepQ_step _ HD.out HTX2.out hk40 hp)
          have k2 : Calls Tryz.prog 38 #[.string (s.extract (q + 2) en)] wc fun e w' => (∃ A c, e = .returned (.tuple #[.slice A fs.length c, .string (mkB body), .int .i64 0]) ∧ Sl2 w' A (toPrs fs) ∧ ∀ ad, A = some ad → wc.heap.size ≤ ad.block) ∧ Below wc.heap.size wc w' := k2
          clear hp hk40
          have HBO := Lib.hid (mkB_list body)
          generalize mkB body = bb at *
          have HFL := Lib.hid (toPrs_len fs)
          go_wp2_with fail
          refine k2.mono ?_
          rintro e w5 ⟨⟨A5, c5, rfl, hS5, hF5⟩, hb5⟩
          have HB5 := Lib.hid (HB.out.trans (hb5.mono HB.out.size))
          have HR5 := Lib.hid (own_below HR.out hb5)
          have HX5 := Lib.hid (fun x hx => (show Sl2 w5 x.1.1 x.2.1 ∧ Apart x.1.1 x.2.1.length (.slice vA L.length vc) from ⟨(HX.out x hx).1.below hb5, (HX.out x hx).2⟩))
          have HA5 : Hid (Apart A5 (toPrs fs).length (.slice vA L.length vc)) := Lib.hid (fun _ ad ha he => by
            have h1 := hF5 ad ha
            have h2 := (HR.out.lt _ he).2
            omega)
          have HS5 := Lib.hid hS5
          have hz5 := HB5.out.size
          clear hb5 k2 hS5 hF5
          have hSL : Sl (w5.alloc (.cells #[.slice A5 fs.length c5, .string bb] 43)) 2 (some ⟨w5.heap.size, 0, none⟩) 1 [.slice A5 fs.length c5, .string bb] := Sl.lit w5 2 [.slice A5 fs.length c5, .string bb] 43 1 rfl
          go_wp2_with (at_builtin; refine wpList_append_sl _ rfl _ _ _ rfl w.heap.size 43 i2 _ 2 40 Tryz.underlying22 hk0 hu0 hu1 hu2 rfl (by omega) _ L.length (cellsP L) rfl (HR5.out.alloc _) (some ⟨w5.heap.size, 0, none⟩) 1 1 [.slice A5 fs.length c5, .string bb] rfl hSL (by intro u hu; simp at hu; rcases hu with rfl | rfl <;> rfl) (by simp only [maxLen]; omega) (by omega) (by simp; omega) ?_)
          intro v6 w6 hown6 hg6 hat6
          have HB6 := Lib.hid ((HB5.out.alloc hz5 (.cells #[.slice A5 fs.length c5, .string bb] 43)).grown hg6 (by simp; omega) (fun k hk => (HR5.out.lt k hk).1))
          have hpt : ptsOf (L ++ [((A5, c5), (toPrs fs, bb))]) = ptsOf L ++ [(fs, body)] := by
            rw [ptsOf_snoc]
            unfold ptOf
            simp only
            rw [toPrs_back, HBO.out]
          have HR6 : Hid (w6.ownsRow w.heap.size 43 2 v6 (L ++ [((A5, c5), (toPrs fs, bb))]).length (cellsP (L ++ [((A5, c5), (toPrs fs, bb))]))) := Lib.hid (by
            rw [List.length_append, List.length_singleton, cellsP_append]
            have h := hown6
            rw [← HFL.out] at h
            exact h)
          have HX6 : Hid (∀ x ∈ L ++ [((A5, c5), (toPrs fs, bb))], Sl2 w6 x.1.1 x.2.1 ∧ Apart x.1.1 x.2.1.length v6) := Lib.hid (fun x hx => by
            rcases List.mem_append.1 hx with hx | hx
            · have h := HX5.out x hx
              have h2 := h.1.alloc (.cells #[.slice A5 fs.length c5, .string bb] 43)
              exact ⟨h2.grown h.2 hg6, Apart.next h.2 h.1 hat6 (by simp)⟩
            · rw [List.mem_singleton.1 hx]
              have h2 := HS5.out.alloc (.cells #[.slice A5 fs.length c5, .string bb] 43)
              exact ⟨h2.grown HA5.out hg6, Apart.next HA5.out HS5.out hat6 (by simp)⟩)
          have HNN : Hid (o = prepQ (ptsOf (L ++ [((A5, c5), (toPrs fs, bb))])) (parseR b.data.toList f (L ++ [((A5, c5), (toPrs fs, bb))]).length (s.data.toList.drop (k + (2 + b.size))))) := Lib.hid (by
            rw [hpt, List.length_append, List.length_singleton]
            exact HN.out)
          clear hown6 hg6 hat6 hSL hpt
          go_wp2
          go_roundw
          case rel => exact ⟨k, L ++ [((A5, c5), (toPrs fs, bb))], f, rfl, hkk, hfk, by rw [List.length_append, List.length_singleton]; omega, HNN, HR6, HX6, HB6⟩
          case measure =>
            simp [intOf]
            omega
end Go.Proofs.YtmabhbihgenmcaaGreatDoor
