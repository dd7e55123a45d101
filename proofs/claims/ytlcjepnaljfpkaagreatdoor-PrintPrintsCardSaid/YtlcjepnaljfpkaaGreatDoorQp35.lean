/- SoS. -/
import Derived.Deep.RegionHeld2
import Derived.Deep.Cut
import Derived.Test.YtlcjepnaljfpkaaGreatDoorQp11
import Derived.Test.YtlcjepnaljfpkaaGreatDoorQp21
import Derived.Test.YtlcjepnaljfpkaaGreatDoorQp22
namespace Go.Proofs.YtlcjepnaljfpkaaGreatDoor
open Go.RowKit Wb
theorem Sl.piece {w : World} {sz n c l h : Nat} {A : Option Addr} {xs : List Value} (hS : Sl w sz A n xs) (hlh : l ≤ h) (hh : h ≤ n) (hc : n ≤ c) :
    Sl w sz (if c = l then A else A.map (·.add (l * sz))) (h - l) ((xs.drop (l * sz)).take ((h - l) * sz)) := by
  have hlen := hS.1
  have hm : h * sz ≤ n * sz := Nat.mul_le_mul_right _ hh
  have hsub : (h - l) * sz = h * sz - l * sz := Nat.sub_mul _ _ _
  have hl2 : l * sz ≤ h * sz := Nat.mul_le_mul_right _ hlh
  refine ⟨by rw [List.length_take, List.length_drop]; omega, fun hn => ?_⟩
  obtain ⟨ad, rfl, had, hcell⟩ := hS.2 (by omega)
  rw [if_neg (by omega)]
  refine ⟨_, rfl, by rw [add_block]; exact had, fun j u hj => ?_⟩
  rw [List.getElem?_take] at hj
  split at hj
  · rw [List.getElem?_drop] at hj
    have := hcell _ u hj
    rw [Addr.add_add]
    exact this
  · cases hj
set_option maxHeartbeats 1000000 in
theorem less_any (x y : Tr) (w : World) : Calls Tryz.prog 96 #[.agg #[.string x.1.1, .string x.1.2, .string x.2], .agg #[.string y.1.1, .string y.1.2, .string y.2]] w fun e w' => e = .returned (.bool (lessB x y)) ∧ Below w.heap.size w w' := by
  obtain ⟨⟨x1, x2⟩, x3⟩ := x
  obtain ⟨⟨y1, y2⟩, y3⟩ := y
  have hb2 : Below w.heap.size w ((w.alloc (.cells #[.string x1, .string x2, .string x3] 66)).alloc (.cells #[.string y1, .string y2, .string y3] 66)) := ((Below.refl _ w).alloc (Nat.le_refl _) _).alloc (by simp) _
  have HB := Lib.hid hb2
  clear hb2
  unfold lessB
  simp only
  have hq : (x1.toList == y1.toList) = eqT x1 y1 := rfl
  cases he : eqT x1 y1 with
  | true =>
    rw [he] at hq
    rw [if_pos rfl]
    clear he
    go_enter Tryz.func96, Tryz.ntmps96
    go_wp2
    go_ret
    exact ⟨rfl, HB.out⟩
  | false =>
    rw [he] at hq
    rw [if_neg (by decide)]
    clear he
    go_enter Tryz.func96, Tryz.ntmps96
    go_wp2
    go_ret
    exact ⟨rfl, HB.out⟩
theorem cells3_take (l : List Tr) (k : Nat) : (cells3 l).take (k * 3) = cells3 (l.take k) := by
  induction l generalizing k with
  | nil => simp [cells3]
  | cons x l ih =>
    cases k with
    | zero => simp [cells3]
    | succ k => rw [cells3_cons, List.take_succ_cons, cells3_cons, ← ih k, show (k + 1) * 3 = k * 3 + 3 from by omega]; rfl
theorem cells3_drop (l : List Tr) (k : Nat) : (cells3 l).drop (k * 3) = cells3 (l.drop k) := by
  induction l generalizing k with
  | nil => simp [cells3]
  | cons x l ih =>
    cases k with
    | zero => simp [cells3]
    | succ k => rw [cells3_cons, List.drop_succ_cons, ← ih k, show (k + 1) * 3 = k * 3 + 3 from by omega]; rfl
theorem Sl3.piece {w : World} {A : Option Addr} {xs : List Tr} {c k h : Nat} (hS : Sl3 w A xs) (hkh : k ≤ h) (hh : h ≤ xs.length) (hc : xs.length ≤ c) :
    Sl w 3 (if c = k then A else A.map (·.add (k * 3))) (h - k) (cells3 ((xs.drop k).take (h - k))) := by
  have := Sl.piece hS hkh hh hc
  rwa [cells3_drop, cells3_take] at this
theorem piece_head (O : Option Addr) (i co k : Nat) (hk : k ≤ co) : ∃ (O1 : Option Addr) (c1 : Nat), (∀ w, (Instr.slice 34 (.slice O i co) none (some (.int .i64 (k : Int))) none).run Tryz.prog w = .ok (.slice O1 k c1) w) ∧
    ∀ (v : World) (S : List Tr), Sl3 v O S → S.length = i → k ≤ i → i ≤ co → Sl v 3 O1 k (cells3 (S.take k)) := by
  refine ⟨if co = 0 then O else O.map (·.add (0 * 3)), co, fun w => ?_, fun v S h h1 h2 h3 => ?_⟩
  · have h0 : (0 : Int) ≤ (k : Int) := by omega
    have h2 : (k : Int) ≤ (co : Int) := by omega
    have hu := Tryz.underlying34
    have hz := Tryz.sizeOf66
    go_simp
  · have := Sl3.piece (k := 0) (h := k) (c := co) h (by omega) (by omega) (by omega)
    simpa using this
set_option maxRecDepth 100000 in
theorem piece_tail (O : Option Addr) (i co k : Nat) (hk : k ≤ i) (hic : i ≤ co) : ∃ (O1 : Option Addr) (c1 : Nat), (∀ w, (Instr.slice 34 (.slice O i co) (some (.int .i64 (k : Int))) none none).run Tryz.prog w = .ok (.slice O1 (i - k) c1) w) ∧
    ∀ (v : World) (S : List Tr), Sl3 v O S → S.length = i → Sl v 3 O1 (i - k) (cells3 (S.drop k)) := by
  refine ⟨if co = k then O else O.map (·.add (k * 3)), co - k, fun w => ?_, fun v S h h1 => ?_⟩
  · have h0 : (0 : Int) ≤ (k : Int) := by omega
    have h2 : (k : Int) ≤ (i : Int) := by omega
    have hu := Tryz.underlying34
    have hz := Tryz.sizeOf66
    go_simp
  · have := Sl3.piece (k := k) (h := i) (c := co) h hk (by omega) (by omega)
    rwa [List.take_of_length_le (by rw [List.length_drop]; omega)] at this
set_option maxRecDepth 100000 in
set_option maxHeartbeats 8000000 in
theorem sorted_any (A : Option Addr) (l : List Tr) (c : Nat) (w : World) (h : Sl3 w A l) (hl : l.length ≤ 1000000) :
    Calls Tryz.prog 57 #[.slice A l.length c] w fun e w' => ∃ v', e = .returned v' ∧ w'.ownsRow w.heap.size 66 3 v' l.length (cells3 (sortT l)) ∧ Below w.heap.size w w' := by
  obtain ⟨i0, hi, hz0, hz1, hz2⟩ := info_parts attr_info
  have HA := Lib.hid h
  clear h
  go_enter Tryz.func57, Tryz.ntmps57
  go_wp2
  go_loopw [3, 4] (fun vo vi wr => ∃ (i : Nat) (S : List Tr), i ≤ l.length ∧ vi = .int .i64 i ∧ Hid (S.length = i) ∧ Hid (S = sortT (l.take i)) ∧ Hid (wr.ownsRow w.heap.size 66 3 vo i (cells3 S)) ∧ Hid (Below w.heap.size w wr)) (fun _ vi _ => ((l.length : Int) - intOf vi).toNat)
  case atStart => exact ⟨0, [], by omega, rfl, Lib.hid rfl, Lib.hid rfl, Lib.hid (World.ownsRow_nil _ _ _ _), Lib.hid (Below.refl _ _)⟩
  case round =>
    obtain ⟨i, S, hil, rfl, HSL, HSS, HO, HB⟩ := hrel
    obtain ⟨wo, rfl⟩ : ∃ wo, wo = wr := ⟨wr, rfl⟩
    by_cases h0 : i < l.length
    · obtain ⟨⟨⟨x1, x2⟩, x3⟩, he⟩ : ∃ x, l[i]? = some x := ⟨l[i], List.getElem?_eq_getElem h0⟩
      obtain ⟨ad, rfl, had, d1, d2, d3⟩ := (HA.out.below HB.out).at_ he
      simp only at d1 d2 d3
      have hst := sortT_take he
      have HST := Lib.hid hst
      obtain ⟨O, co, rfl⟩ := own_shape HO.out
      have hOS : Sl3 wo O S := by
        have := HO.out
        rw [← HSL.out] at this
        exact Sl3.of_own this
      have HOS := Lib.hid hOS
      have hco : i ≤ co := by
        rcases HO.out.2 with ⟨e1, e2⟩ | ⟨g, cap, cur, e1, _, _, h3, _⟩
        · omega
        · injection e1 with _ _ e3; omega
      have CX := Lib.hid (fun (v : World) (h : Below wo.heap.size wo v) => (show v.cell? (ad.add (i * 3)) = some (.string x1) ∧ v.cell? ⟨(ad.add (i * 3)).block, (ad.add (i * 3)).off + 1, none⟩ = some (.string x2) ∧ v.cell? ⟨(ad.add (i * 3)).block, (ad.add (i * 3)).off + 2, none⟩ = some (.string x3) from
        ⟨(h.cell (by rw [add_block]; exact had)).trans d1, (h.cell (by show (ad.add (i * 3)).block < _; rw [add_block]; exact had)).trans d2, (h.cell (by show (ad.add (i * 3)).block < _; rw [add_block]; exact had)).trans d3⟩))
      have hi0 : (0 : Int) ≤ (i : Int) := by omega
      have hi1 : (i : Int) < (l.length : Int) := by omega
      clear he d1 d2 d3 hOS had hst
      go_wp2
      go_loopw [5] (fun vk wq => ∃ k : Nat, k ≤ i ∧ vk = .int .i64 k ∧ Hid (∀ j y, j < k → S[j]? = some y → lessB y ((x1, x2), x3) = true) ∧ Hid (Below wo.heap.size wo wq)) (fun vk _ => ((i : Int) - intOf vk).toNat)
      case atStart => exact ⟨0, by omega, rfl, Lib.hid (fun _ _ h => by omega), Lib.hid (Below.refl _ _)⟩
      case round =>
        obtain ⟨k, hk, rfl, HL, HBq⟩ := hrel
        have hk0 : (0 : Int) ≤ (k : Int) := by omega
        have hh : (k < i ∧ ∃ y, S[k]? = some y ∧ lessB y ((x1, x2), x3) = true) ∨ (k < i ∧ ∃ y, S[k]? = some y ∧ lessB y ((x1, x2), x3) = false) ∨ k = i := by
          by_cases h : k < i
          · have h2 : S[k]? = some (S[k]'(by rw [HSL.out]; exact h)) := List.getElem?_eq_getElem _
            cases h3 : lessB (S[k]'(by rw [HSL.out]; exact h)) ((x1, x2), x3) with
            | true => exact .inl ⟨h, _, h2, h3⟩
            | false => exact .inr (.inl ⟨h, _, h2, h3⟩)
          · exact .inr (.inr (by omega))
        rcases hh with ⟨h1, ⟨⟨y1, y2⟩, y3⟩, hy, hb⟩ | ⟨h1, ⟨⟨y1, y2⟩, y3⟩, hy, hb⟩ | h1
        · obtain ⟨ae, rfl, hae, e1, e2, e3⟩ := HOS.out.at_ hy
          simp only at e1 e2 e3
          have HSV := Lib.hid (fun (v : World) (h : Below wo.heap.size wo v) => (show v.cell? (ae.add (k * 3)) = some (.string y1) ∧ v.cell? ⟨(ae.add (k * 3)).block, (ae.add (k * 3)).off + 1, none⟩ = some (.string y2) ∧ v.cell? ⟨(ae.add (k * 3)).block, (ae.add (k * 3)).off + 2, none⟩ = some (.string y3) ∧ v.cell? (ad.add (i * 3)) = some (.string x1) ∧ v.cell? ⟨(ad.add (i * 3)).block, (ad.add (i * 3)).off + 1, none⟩ = some (.string x2) ∧ v.cell? ⟨(ad.add (i * 3)).block, (ad.add (i * 3)).off + 2, none⟩ = some (.string x3) from
            ⟨(h.cell (by rw [add_block]; exact hae)).trans e1, (h.cell (by show (ae.add (k * 3)).block < _; rw [add_block]; exact hae)).trans e2, (h.cell (by show (ae.add (k * 3)).block < _; rw [add_block]; exact hae)).trans e3, (CX.out v h).1, (CX.out v h).2.1, (CX.out v h).2.2⟩))
          have HLS := Lib.hid (fun v => hb ▸ less_any ((y1, y2), y3) ((x1, x2), x3) v)
          have HL2 : Hid (∀ j y, j < k + 1 → S[j]? = some y → lessB y ((x1, x2), x3) = true) := Lib.hid (fun j y hj hyj => by
            by_cases e : j = k
            · subst e
              rw [hy] at hyj
              injection hyj with hyj
              rw [← hyj]; exact hb
            · exact HL.out j y (by omega) hyj)
          have hk1 : (k : Int) < (i : Int) := by omega
          clear hy hb e1 e2 e3 hae HL
          go_wp2_with fail
          (try simp only [List.append])
          refine wp_region_held_drew (S := (fun v => v.cell? (ae.add (k * 3)) = some (.string y1) ∧ v.cell? ⟨(ae.add (k * 3)).block, (ae.add (k * 3)).off + 1, none⟩ = some (.string y2) ∧ v.cell? ⟨(ae.add (k * 3)).block, (ae.add (k * 3)).off + 2, none⟩ = some (.string y3) ∧ v.cell? (ad.add (i * 3)) = some (.string x1) ∧ v.cell? ⟨(ad.add (i * 3)).block, (ad.add (i * 3)).off + 1, none⟩ = some (.string x2) ∧ v.cell? ⟨(ad.add (i * 3)).block, (ad.add (i * 3)).off + 2, none⟩ = some (.string x3))) (by kernel_rfl) (HSV.out _ HBq.out.drew) (fun hHeld => ?_)
          refine takeW 0 ?_
          refine takeW 1 ?_
          refine takeW 2 ?_
          refine takeW 3 ?_
          (try simp only [Act.put, List.setIfInBounds_toArray, List.set_cons_zero, List.set_cons_succ])
          refine takeW 4 ?_
          refine takeW 5 ?_
          refine takeW 6 ?_
          refine takeW 7 ?_
          (try simp only [Act.put, List.setIfInBounds_toArray, List.set_cons_zero, List.set_cons_succ])
          refine takeW 8 ?_
          refine takeW 9 ?_
          refine takeW 10 ?_
          refine takeW 11 ?_
          (try simp only [Act.put, List.setIfInBounds_toArray, List.set_cons_zero, List.set_cons_succ])
          refine takeW 12 ?_
          (try simp only [Act.put, List.setIfInBounds_toArray, List.set_cons_zero, List.set_cons_succ])
          refine wpAnyH_ready (rs := [13]) (by kernel_rfl) (by simp) ?_
          refine AllReadyH.cons rfl (fun K2 hK2 => ?_) AllReadyH.nil
          go_simp
          refine (HLS.out _).mono ?_
          rintro e w10 ⟨rfl, hb10⟩
          have HB10 : Hid (Below wo.heap.size wo w10) := Lib.hid (HBq.out.drew.trans (hb10.mono HBq.out.drew.size))
          clear hb10
          refine hK2.out _ _ (HSV.out _ HB10.out) (fun hHeld2 => ?_)
          refine takeW 14 ?_
          (try simp only [Act.put, List.setIfInBounds_toArray, List.set_cons_zero, List.set_cons_succ])
          refine wpAnyH_done (by kernel_rfl) ?_ _
          clear hHeld HSV HLS
          go_wp2
          go_roundw
          case rel => exact ⟨k + 1, by omega, by go_num, HL2, HB10⟩
          case measure => simp [intOf]; omega
        case' inr.inl =>
          obtain ⟨ae, hOe, hae, e1, e2, e3⟩ := HOS.out.at_ hy
          simp only at e1 e2 e3
          have HSV := Lib.hid (fun (v : World) (h : Below wo.heap.size wo v) => (show v.cell? (ae.add (k * 3)) = some (.string y1) ∧ v.cell? ⟨(ae.add (k * 3)).block, (ae.add (k * 3)).off + 1, none⟩ = some (.string y2) ∧ v.cell? ⟨(ae.add (k * 3)).block, (ae.add (k * 3)).off + 2, none⟩ = some (.string y3) ∧ v.cell? (ad.add (i * 3)) = some (.string x1) ∧ v.cell? ⟨(ad.add (i * 3)).block, (ad.add (i * 3)).off + 1, none⟩ = some (.string x2) ∧ v.cell? ⟨(ad.add (i * 3)).block, (ad.add (i * 3)).off + 2, none⟩ = some (.string x3) from
            ⟨(h.cell (by rw [add_block]; exact hae)).trans e1, (h.cell (by show (ae.add (k * 3)).block < _; rw [add_block]; exact hae)).trans e2, (h.cell (by show (ae.add (k * 3)).block < _; rw [add_block]; exact hae)).trans e3, (CX.out v h).1, (CX.out v h).2.1, (CX.out v h).2.2⟩))
          have HLS := Lib.hid (fun v => hb ▸ less_any ((y1, y2), y3) ((x1, x2), x3) v)
          have HIN := Lib.hid (HST.out.trans (HSS.out ▸ insT_at ((x1, x2), x3) S k (by rw [HSL.out]; exact hk) HL.out (fun z hz => by
            rw [hy] at hz
            injection hz with hz
            rw [← hz]; exact hb)))
          have hk1 : (k : Int) < (i : Int) := by omega
          clear hy hb e1 e2 e3 hae HL
          go_wp2_with fail
          (try simp only [List.append])
          refine wp_region_held_drew (S := (fun v => v.cell? (ae.add (k * 3)) = some (.string y1) ∧ v.cell? ⟨(ae.add (k * 3)).block, (ae.add (k * 3)).off + 1, none⟩ = some (.string y2) ∧ v.cell? ⟨(ae.add (k * 3)).block, (ae.add (k * 3)).off + 2, none⟩ = some (.string y3) ∧ v.cell? (ad.add (i * 3)) = some (.string x1) ∧ v.cell? ⟨(ad.add (i * 3)).block, (ad.add (i * 3)).off + 1, none⟩ = some (.string x2) ∧ v.cell? ⟨(ad.add (i * 3)).block, (ad.add (i * 3)).off + 2, none⟩ = some (.string x3))) (by kernel_rfl) (HSV.out _ HBq.out.drew) (fun hHeld => ?_)
          refine takeW 0 ?_
          refine takeW 1 ?_
          refine takeW 2 ?_
          refine takeW 3 ?_
          (try simp only [Act.put, List.setIfInBounds_toArray, List.set_cons_zero, List.set_cons_succ])
          refine takeW 4 ?_
          refine takeW 5 ?_
          refine takeW 6 ?_
          refine takeW 7 ?_
          (try simp only [Act.put, List.setIfInBounds_toArray, List.set_cons_zero, List.set_cons_succ])
          refine takeW 8 ?_
          refine takeW 9 ?_
          refine takeW 10 ?_
          refine takeW 11 ?_
          (try simp only [Act.put, List.setIfInBounds_toArray, List.set_cons_zero, List.set_cons_succ])
          refine takeW 12 ?_
          (try simp only [Act.put, List.setIfInBounds_toArray, List.set_cons_zero, List.set_cons_succ])
          refine wpAnyH_ready (rs := [13]) (by kernel_rfl) (by simp) ?_
          refine AllReadyH.cons rfl (fun K2 hK2 => ?_) AllReadyH.nil
          go_simp
          refine (HLS.out _).mono ?_
          rintro e w10 ⟨rfl, hb10⟩
          have HB10 : Hid (Below wo.heap.size wo w10) := Lib.hid (HBq.out.drew.trans (hb10.mono HBq.out.drew.size))
          clear hb10
          refine hK2.out _ _ (HSV.out _ HB10.out) (fun hHeld2 => ?_)
          refine takeW 14 ?_
          (try simp only [Act.put, List.setIfInBounds_toArray, List.set_cons_zero, List.set_cons_succ])
          refine wpAnyH_done (by kernel_rfl) ?_ _
          clear hHeld HSV HLS HBq
          rw [← hOe]
          clear hOe
        case' inr.inr =>
          have HIN := Lib.hid (HST.out.trans (HSS.out ▸ insT_at ((x1, x2), x3) S k (by rw [HSL.out]; exact hk) HL.out (fun z hz => by
            rw [List.getElem?_eq_none (by rw [HSL.out]; omega)] at hz
            cases hz)))
          have hki : decide (k < i) = false := decide_eq_false (by omega)
          clear HL h1
          have HB10 : Hid (Below wo.heap.size wo wr.drew) := Lib.hid HBq.out.drew
          go_wp2_with fail
          (try simp only [List.append])
          refine wp_region_held_drew (S := (fun _ => True)) (by kernel_rfl) (trivial) (fun hHeld => ?_)
          refine takeW 0 ?_
          refine takeW 1 ?_
          refine takeW 2 ?_
          refine takeW 3 ?_
          (try simp only [Act.put, List.setIfInBounds_toArray, List.set_cons_zero, List.set_cons_succ])
          refine takeW 4 ?_
          refine takeU 5 ?_
          refine takeU 6 ?_
          refine takeU 7 ?_
          (try simp only [Act.put, List.setIfInBounds_toArray, List.set_cons_zero, List.set_cons_succ])
          refine takeU 8 ?_
          refine takeU 9 ?_
          refine takeU 10 ?_
          refine takeU 11 ?_
          (try simp only [Act.put, List.setIfInBounds_toArray, List.set_cons_zero, List.set_cons_succ])
          refine takeU 12 ?_
          (try simp only [Act.put, List.setIfInBounds_toArray, List.set_cons_zero, List.set_cons_succ])
          refine wpAnyH_ready (rs := [13]) (by kernel_rfl) (by simp) ?_
          refine AllReadyH.cons rfl (fun K2 hK2 => ?_) AllReadyH.nil
          go_simp
          refine hK2.out _ _ (by assumption) (fun hHeld2 => ?_)
          refine takeW 14 ?_
          (try simp only [Act.put, List.setIfInBounds_toArray, List.set_cons_zero, List.set_cons_succ])
          refine wpAnyH_done (by kernel_rfl) ?_ _
          clear hHeld HBq
        all_goals
          obtain ⟨O1, c1, hq1, hp1⟩ := piece_head O i co k (by omega)
          obtain ⟨O2, c2, hq2, hp2⟩ := piece_tail O i co k hk hco
          have HP1 := Lib.hid hp1
          have HP2 := Lib.hid hp2
          have hbs := Nat.le_trans HB.out.size HB10.out.size
          have hm1 : 0 + k ≤ maxLen := by simp only [maxLen]; omega
          have hm2 : (0 + k) * 48 ≤ 140737488355328 := by omega
          have HS1 := Lib.hid (HP1.out _ S (HOS.out.below HB10.out) HSL.out hk hco)
          clear hp1 hp2
          go_wp2_with (
            at_builtin
            refine wpList_append_sl _ rfl (.tmp 30) (.tmp 33) _ rfl w.heap.size 66 i0 _ 3 48 Tryz.underlying34 hi hz0 hz1 hz2 rfl (by omega) _ 0 [] rfl (World.ownsRow_nil _ _ _ _) O1 k c1 (cells3 (S.take k)) rfl HS1.out (cells3_one _) hm1 hm2 hbs ?_)
          intro v1 w1 hown1 hg1 hat1
          have hv1 : ∀ j, v1.ownBlock = some j → wo.heap.size ≤ j := fun j hj => by
            have hz := HB10.out.size
            rcases hat1 with h | h
            · rw [h] at hj; cases hj
            · rw [h] at hj; injection hj with hj; subst hj; simpa using hz
          have HB1 : Hid (Below wo.heap.size wo w1) := Lib.hid (HB10.out.grown hg1 HB10.out.size (fun j e => by cases e))
          have HOWN1 := Lib.hid (hown1.alloc (.cells #[.string x1, .string x2, .string x3] 66))
          have HLIT := Lib.hid (Sl.lit w1 3 [.string x1, .string x2, .string x3] 66 1 rfl)
          have HONE := Lib.hid (cells3_one [((x1, x2), x3)])
          have HBA : Hid (Below wo.heap.size wo (w1.alloc (.cells #[.string x1, .string x2, .string x3] 66))) := Lib.hid (HB1.out.alloc HB1.out.size _)
          have hbs1 : w.heap.size ≤ (w1.alloc (.cells #[.string x1, .string x2, .string x3] 66)).heap.size := Nat.le_trans HB.out.size HBA.out.size
          obtain ⟨d1, d2, d3⟩ := CX.out w1 HB1.out
          have hm3 : k + 1 ≤ maxLen := by simp only [maxLen]; omega
          have hm4 : (k + 1) * 48 ≤ 140737488355328 := by omega
          clear hown1 hg1 hat1 HB10 HS1 hbs hm1 hm2
          go_wp2_with (
            at_builtin
            refine wpList_append_sl _ rfl (.tmp 35) (.tmp 40) _ rfl w.heap.size 66 i0 _ 3 48 Tryz.underlying34 hi hz0 hz1 hz2 rfl (by omega) _ k (cells3 (S.take k)) rfl HOWN1.out (some ⟨w1.heap.size, 0, none⟩) 1 1 [.string x1, .string x2, .string x3] rfl HLIT.out HONE.out hm3 hm4 hbs1 ?_)
          intro v2 w2 hown2 hg2 hat2
          have hv2 : ∀ j, v2.ownBlock = some j → wo.heap.size ≤ j := fun j hj => by
            have hz := HBA.out.size
            rcases hat2 with h | h
            · rw [h] at hj; exact hv1 j hj
            · rw [h] at hj; injection hj with hj; subst hj; simpa using hz
          have HB2 : Hid (Below wo.heap.size wo w2) := Lib.hid (HBA.out.grown hg2 HBA.out.size hv1)
          have HOWN2 := Lib.hid hown2
          have HS2 := Lib.hid (HP2.out w2 S (HOS.out.below HB2.out) HSL.out)
          have hbs2 : w.heap.size ≤ w2.heap.size := Nat.le_trans HB.out.size HB2.out.size
          have hm5 : k + 1 + (i - k) ≤ maxLen := by simp only [maxLen]; omega
          have hm6 : (k + 1 + (i - k)) * 48 ≤ 140737488355328 := by omega
          clear hown2 hg2 hat2 hv1 HOWN1 HLIT HBA HB1 HONE hbs1 hm3 hm4 d1 d2 d3
          go_wp2_with (
            at_builtin
            refine wpList_append_sl _ rfl (.tmp 42) (.tmp 45) _ rfl w.heap.size 66 i0 _ 3 48 Tryz.underlying34 hi hz0 hz1 hz2 rfl (by omega) v2 (k + 1) _ rfl HOWN2.out O2 (i - k) c2 (cells3 (S.drop k)) rfl HS2.out (cells3_one _) hm5 hm6 hbs2 ?_)
          intro v3 w3 hown3 hg3 hat3
          have HB3 : Hid (Below w.heap.size w w3) := Lib.hid (HB.out.trans ((HB2.out.grown hg3 HB2.out.size hv2).mono HB.out.size))
          have HO3 : Hid (w3.ownsRow w.heap.size 66 3 v3 (i + 1) (cells3 (sortT (l.take (i + 1))))) := Lib.hid (by
            rw [HIN.out, ← HSS.out, cells3_append, cells3_cons]
            have e : k + 1 + (i - k) = i + 1 := by omega
            rw [e] at hown3
            exact hown3)
          have HL3 : Hid ((sortT (l.take (i + 1))).length = i + 1) := Lib.hid (by rw [sortT_len, List.length_take]; omega)
          clear hown3 hg3 hat3 hv2 HB2 HOWN2 HS2 hbs2 hm5 hm6 HP1 HP2 HIN HOS CX
          go_wp2
          go_roundw
          case rel => exact ⟨i + 1, _, by omega, by go_num, HL3, Lib.hid rfl, HO3, HB3⟩
          case measure => simp [intOf]; omega
    · have hil2 : i = l.length := by omega
      have h1 := HO.out
      rw [HSS.out, hil2, List.take_length] at h1
      have HO3 := Lib.hid h1
      clear h1
      clear HO HSL HSS
      go_wp2
      go_ret
      exact ⟨_, rfl, HO3.out, HB.out⟩
end Go.Proofs.YtlcjepnaljfpkaaGreatDoor
