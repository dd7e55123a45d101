import Derived.Test.YtjohfljkhlkjoaaGreatDoorTa
import Derived.Test.YtjohfljkhlkjoaaGreatDoorMgJ
import Derived.Test.YtjohfljkhlkjoaaGreatDoorMgP
import Derived.Test.YtjohfljkhlkjoaaGreatDoorMgQ
import Derived.Test.YtjohfljkhlkjoaaGreatDoorMgKi
import Derived.Deep.RegionHeld2
import Derived.Deep.Cut
import Derived.Test.YtjohfljkhlkjoaaGreatDoorMgY
import Derived.Test.YtjohfljkhlkjoaaGreatDoorMgH
import Derived.Test.YtjohfljkhlkjoaaGreatDoorMgV
namespace Wb
open Go.Lib (compareBytes)
open Go
theorem less_cmp : ∀ a b : List UInt8, Op.bytesLess a b = decide (compareBytes a b = -1)
  | [], [] => by simp [Op.bytesLess, compareBytes]
  | _ :: _, [] => by simp [Op.bytesLess, compareBytes]
  | [], _ :: _ => by simp [Op.bytesLess, compareBytes]
  | x :: a, y :: b => by
    rw [Op.bytesLess, compareBytes, less_cmp a b]
    rcases u8_three x y with h | h | h
    · simp [h]
    · subst h
      have hx : ¬ x < x := by rw [u8_ltI]; omega
      simp [hx]
    · have h1 : ¬ x < y := by have := (u8_ltI _ _).1 h; rw [u8_ltI]; omega
      have h2 : (x == y) = false := by
        rw [beq_eq_false_iff_ne]
        intro e; subst e; exact h1 h
      simp [h1, h2, h]
def lessB (a b : Tr) : Bool := if eqT a.1.1 b.1.1 = true then Op.bytesLess a.1.2.toList b.1.2.toList else Op.bytesLess a.1.1.toList b.1.1.toList
theorem lessB_dec (a b : Tr) : lessB a b = decide (ltT a b) := by
  have e : ∀ s : ByteArray, s.toList = s.data.toList := fun s => ByteArray.toList_eq s
  unfold lessB ltT cmpT
  simp only [less_cmp, e]
  by_cases h : eqT a.1.1 b.1.1 = true
  · rw [if_pos h]
    have hz := (cmpB_zero a.1.1.data.toList b.1.1.data.toList).2 (by rw [(eqT_iff _ _).1 h])
    simp [hz]
  · rw [if_neg h]
    have hz : compareBytes a.1.1.data.toList b.1.1.data.toList ≠ 0 := fun hz => h ((eqT_iff _ _).2 (ba_data ((cmpB_zero _ _).1 hz)))
    simp [hz]
theorem insT_at (x : Tr) : ∀ (l : List Tr) (k : Nat), k ≤ l.length → (∀ j y, j < k → l[j]? = some y → lessB y x = true) → (∀ y, l[k]? = some y → lessB y x = false) → insT x l = l.take k ++ x :: l.drop k
  | [], k, hk, _, _ => by
    have : k = 0 := by simpa using hk
    subst this; rfl
  | y :: l, 0, _, _, h => by
    have := h y rfl
    rw [lessB_dec] at this
    unfold insT
    rw [if_neg (by simpa using this)]
    rfl
  | y :: l, k + 1, hk, ha, h => by
    have := ha 0 y (by omega) rfl
    rw [lessB_dec] at this
    unfold insT
    rw [if_pos (by simpa using this), insT_at x l k (by simpa using hk) (fun j z hj hz => ha (j + 1) z (by omega) (by simpa using hz)) (fun z hz => h z (by simpa using hz))]
    rfl
theorem sortA_app : ∀ (l m acc : List Tr), sortA acc (l ++ m) = sortA (sortA acc l) m
  | [], _, _ => rfl
  | x :: l, m, acc => by
    rw [List.cons_append, sortA, sortA_app l m, sortA]
theorem sortT_take {l : List Tr} {i : Nat} {x : Tr} (h : l[i]? = some x) : sortT (l.take (i + 1)) = insT x (sortT (l.take i)) := by
  unfold sortT
  rw [List.take_add_one, h]
  show sortA [] (l.take i ++ [x]) = _
  rw [sortA_app]
  rfl
end Wb

namespace Go.Proofs.YtjohfljkhlkjoaaGreatDoor
open Go.RowKit Wb
theorem Sl.piece {w : World} {sz n c l h : Nat} {A : Option Addr} {xs : List Value} (hS : Sl w sz A n xs) (hlh : l ≤ h) (hh : h ≤ n) (hc : n ≤ c) :
    Sl w sz (if c = l then A else A.map (·.add (l * sz))) (h - l) ((xs.drop (l * sz)).take ((h - l) * sz)) := by
  have hlen := hS.1
  have hm : h * sz ≤ n * sz := Nat.mul_le_mul_right _ hh
  have hsub : (h - l) * sz = h * sz - l * sz := Nat.sub_mul _ _ _
  have hl2 : l * sz ≤ h * sz := Nat.mul_le_mul_right _ hlh
  refine ⟨by rw [List.length_take, List.length_drop]; omega, fun hn => ?_⟩
  obtain ⟨ad, rfl, had, hcell⟩ := hS.2 (by omega)
  rw [if_neg (by omega)]
  refine ⟨_, rfl, by rw [add_block]; exact had, fun j u hj => ?_⟩
  rw [List.getElem?_take] at hj
  split at hj
  · rw [List.getElem?_drop] at hj
    have := hcell _ u hj
    rw [Addr.add_add]
    exact this
  · cases hj
set_option maxHeartbeats 1000000 in
theorem less_any (x y : Tr) (w : World) : Calls Tryz.prog 84 #[.agg #[.string x.1.1, .string x.1.2, .string x.2], .agg #[.string y.1.1, .string y.1.2, .string y.2]] w fun e w' => e = .returned (.bool (lessB x y)) ∧ Below w.heap.size w w' := by
  obtain ⟨⟨x1, x2⟩, x3⟩ := x
  obtain ⟨⟨y1, y2⟩, y3⟩ := y
  have hb2 : Below w.heap.size w ((w.alloc (.cells #[.string x1, .string x2, .string x3] 42)).alloc (.cells #[.string y1, .string y2, .string y3] 42)) := ((Below.refl _ w).alloc (Nat.le_refl _) _).alloc (by simp) _
  have HB := Lib.hid hb2
  clear hb2
  unfold lessB
  simp only
  have hq : (x1.toList == y1.toList) = eqT x1 y1 := rfl
  cases he : eqT x1 y1 with
  | true =>
    rw [he] at hq
    rw [if_pos rfl]
    clear he
    go_enter Tryz.func84, Tryz.ntmps84
    go_wp2
    go_ret
    exact ⟨rfl, HB.out⟩
  | false =>
    rw [he] at hq
    rw [if_neg (by decide)]
    clear he
    go_enter Tryz.func84, Tryz.ntmps84
    go_wp2
    go_ret
    exact ⟨rfl, HB.out⟩
theorem cells3_take (l : List Tr) (k : Nat) : (cells3 l).take (k * 3) = cells3 (l.take k) := by
  induction l generalizing k with
  | nil => simp [cells3]
  | cons x l ih =>
    cases k with
    | zero => simp [cells3]
    | succ k => rw [cells3_cons, List.take_succ_cons, cells3_cons, ← ih k, show (k + 1) * 3 = k * 3 + 3 from by omega]; rfl
theorem cells3_drop (l : List Tr) (k : Nat) : (cells3 l).drop (k * 3) = cells3 (l.drop k) := by
  induction l generalizing k with
  | nil => simp [cells3]
  | cons x l ih =>
    cases k with
    | zero => simp [cells3]
    | succ k => rw [cells3_cons, List.drop_succ_cons, ← ih k, show (k + 1) * 3 = k * 3 + 3 from by omega]; rfl
theorem Sl3.piece {w : World} {A : Option Addr} {xs : List Tr} {c k h : Nat} (hS : Sl3 w A xs) (hkh : k ≤ h) (hh : h ≤ xs.length) (hc : xs.length ≤ c) :
    Sl w 3 (if c = k then A else A.map (·.add (k * 3))) (h - k) (cells3 ((xs.drop k).take (h - k))) := by
  have := Sl.piece hS hkh hh hc
  rwa [cells3_drop, cells3_take] at this
theorem piece_head (O : Option Addr) (i co k : Nat) (hk : k ≤ co) : ∃ (O1 : Option Addr) (c1 : Nat), (∀ w, (Instr.slice 34 (.slice O i co) none (some (.int .i64 (k : Int))) none).run Tryz.prog w = .ok (.slice O1 k c1) w) ∧
    ∀ (v : World) (S : List Tr), Sl3 v O S → S.length = i → k ≤ i → i ≤ co → Sl v 3 O1 k (cells3 (S.take k)) := by
  refine ⟨if co = 0 then O else O.map (·.add (0 * 3)), co, fun w => ?_, fun v S h h1 h2 h3 => ?_⟩
  · have h0 : (0 : Int) ≤ (k : Int) := by omega
    have h2 : (k : Int) ≤ (co : Int) := by omega
    have hu := Tryz.underlying34
    have hz := Tryz.sizeOf42
    go_simp
  · have := Sl3.piece (k := 0) (h := k) (c := co) h (by omega) (by omega) (by omega)
    simpa using this
set_option maxRecDepth 100000 in
theorem piece_tail (O : Option Addr) (i co k : Nat) (hk : k ≤ i) (hic : i ≤ co) : ∃ (O1 : Option Addr) (c1 : Nat), (∀ w, (Instr.slice 34 (.slice O i co) (some (.int .i64 (k : Int))) none none).run Tryz.prog w = .ok (.slice O1 (i - k) c1) w) ∧
    ∀ (v : World) (S : List Tr), Sl3 v O S → S.length = i → Sl v 3 O1 (i - k) (cells3 (S.drop k)) := by
  refine ⟨if co = k then O else O.map (·.add (k * 3)), co - k, fun w => ?_, fun v S h h1 => ?_⟩
  · have h0 : (0 : Int) ≤ (k : Int) := by omega
    have h2 : (k : Int) ≤ (i : Int) := by omega
    have hu := Tryz.underlying34
    have hz := Tryz.sizeOf42
    go_simp
  · have := Sl3.piece (k := k) (h := i) (c := co) h hk (by omega) (by omega)
    rwa [List.take_of_length_le (by rw [List.length_drop]; omega)] at this
set_option maxRecDepth 100000 in
set_option maxHeartbeats 8000000 in
theorem sorted_any (A : Option Addr) (l : List Tr) (c : Nat) (w : World) (h : Sl3 w A l) (hl : l.length ≤ 1000000) :
    Calls Tryz.prog 52 #[.slice A l.length c] w fun e w' => ∃ v', e = .returned v' ∧ w'.ownsRow w.heap.size 42 3 v' l.length (cells3 (sortT l)) ∧ Below w.heap.size w w' := by
  obtain ⟨i0, hi, hz0, hz1, hz2⟩ := info_parts attr_info
  have HA := Lib.hid h
  clear h
  go_enter Tryz.func52, Tryz.ntmps52
  go_wp2
  go_loopw [3, 4] (fun vo vi wr => ∃ (i : Nat) (S : List Tr), i ≤ l.length ∧ vi = .int .i64 i ∧ Hid (S.length = i) ∧ Hid (S = sortT (l.take i)) ∧ Hid (wr.ownsRow w.heap.size 42 3 vo i (cells3 S)) ∧ Hid (Below w.heap.size w wr)) (fun _ vi _ => ((l.length : Int) - intOf vi).toNat)
  case atStart => exact ⟨0, [], by omega, rfl, Lib.hid rfl, Lib.hid rfl, Lib.hid (World.ownsRow_nil _ _ _ _), Lib.hid (Below.refl _ _)⟩
  case round =>
    obtain ⟨i, S, hil, rfl, HSL, HSS, HO, HB⟩ := hrel
    obtain ⟨wo, rfl⟩ : ∃ wo, wo = wr := ⟨wr, rfl⟩
    by_cases h0 : i < l.length
    · obtain ⟨⟨⟨x1, x2⟩, x3⟩, he⟩ : ∃ x, l[i]? = some x := ⟨l[i], List.getElem?_eq_getElem h0⟩
      obtain ⟨ad, rfl, had, d1, d2, d3⟩ := (HA.out.below HB.out).at_ he
      simp only at d1 d2 d3
      have hst := sortT_take he
      have HST := Lib.hid hst
      obtain ⟨O, co, rfl⟩ := own_shape HO.out
      have hOS : Sl3 wo O S := by
        have := HO.out
        rw [← HSL.out] at this
        exact Sl3.of_own this
      have HOS := Lib.hid hOS
      have hco : i ≤ co := by
        rcases HO.out.2 with ⟨e1, e2⟩ | ⟨g, cap, cur, e1, _, _, h3, _⟩
        · omega
        · injection e1 with _ _ e3; omega
      have CX := Lib.hid (fun (v : World) (h : Below wo.heap.size wo v) => (show v.cell? (ad.add (i * 3)) = some (.string x1) ∧ v.cell? ⟨(ad.add (i * 3)).block, (ad.add (i * 3)).off + 1, none⟩ = some (.string x2) ∧ v.cell? ⟨(ad.add (i * 3)).block, (ad.add (i * 3)).off + 2, none⟩ = some (.string x3) from
        ⟨(h.cell (by rw [add_block]; exact had)).trans d1, (h.cell (by show (ad.add (i * 3)).block < _; rw [add_block]; exact had)).trans d2, (h.cell (by show (ad.add (i * 3)).block < _; rw [add_block]; exact had)).trans d3⟩))
      have hi0 : (0 : Int) ≤ (i : Int) := by omega
      have hi1 : (i : Int) < (l.length : Int) := by omega
      clear he d1 d2 d3 hOS had hst
      go_wp2
      go_loopw [5] (fun vk wq => ∃ k : Nat, k ≤ i ∧ vk = .int .i64 k ∧ Hid (∀ j y, j < k → S[j]? = some y → lessB y ((x1, x2), x3) = true) ∧ Hid (Below wo.heap.size wo wq)) (fun vk _ => ((i : Int) - intOf vk).toNat)
      case atStart => exact ⟨0, by omega, rfl, Lib.hid (fun _ _ h => by omega), Lib.hid (Below.refl _ _)⟩
      case round =>
        obtain ⟨k, hk, rfl, HL, HBq⟩ := hrel
        have hk0 : (0 : Int) ≤ (k : Int) := by omega
        have hh : (k < i ∧ ∃ y, S[k]? = some y ∧ lessB y ((x1, x2), x3) = true) ∨ (k < i ∧ ∃ y, S[k]? = some y ∧ lessB y ((x1, x2), x3) = false) ∨ k = i := by
          by_cases h : k < i
          · have h2 : S[k]? = some (S[k]'(by rw [HSL.out]; exact h)) := List.getElem?_eq_getElem _
            cases h3 : lessB (S[k]'(by rw [HSL.out]; exact h)) ((x1, x2), x3) with
            | true => exact .inl ⟨h, _, h2, h3⟩
            | false => exact .inr (.inl ⟨h, _, h2, h3⟩)
          · exact .inr (.inr (by omega))
        rcases hh with ⟨h1, ⟨⟨y1, y2⟩, y3⟩, hy, hb⟩ | ⟨h1, ⟨⟨y1, y2⟩, y3⟩, hy, hb⟩ | h1
        · obtain ⟨ae, rfl, hae, e1, e2, e3⟩ := HOS.out.at_ hy
          simp only at e1 e2 e3
          have HSV := Lib.hid (fun (v : World) (h : Below wo.heap.size wo v) => (show v.cell? (ae.add (k * 3)) = some (.string y1) ∧ v.cell? ⟨(ae.add (k * 3)).block, (ae.add (k * 3)).off + 1, none⟩ = some (.string y2) ∧ v.cell? ⟨(ae.add (k * 3)).block, (ae.add (k * 3)).off + 2, none⟩ = some (.string y3) ∧ v.cell? (ad.add (i * 3)) = some (.string x1) ∧ v.cell? ⟨(ad.add (i * 3)).block, (ad.add (i * 3)).off + 1, none⟩ = some (.string x2) ∧ v.cell? ⟨(ad.add (i * 3)).block, (ad.add (i * 3)).off + 2, none⟩ = some (.string x3) from
            ⟨(h.cell (by rw [add_block]; exact hae)).trans e1, (h.cell (by show (ae.add (k * 3)).block < _; rw [add_block]; exact hae)).trans e2, (h.cell (by show (ae.add (k * 3)).block < _; rw [add_block]; exact hae)).trans e3, (CX.out v h).1, (CX.out v h).2.1, (CX.out v h).2.2⟩))
          have HLS := Lib.hid (fun v => hb ▸ less_any ((y1, y2), y3) ((x1, x2), x3) v)
          have HL2 : Hid (∀ j y, j < k + 1 → S[j]? = some y → lessB y ((x1, x2), x3) = true) := Lib.hid (fun j y hj hyj => by
            by_cases e : j = k
            · subst e
              rw [hy] at hyj
              injection hyj with hyj
              rw [← hyj]; exact hb
            · exact HL.out j y (by omega) hyj)
          have hk1 : (k : Int) < (i : Int) := by omega
          clear hy hb e1 e2 e3 hae HL
          go_wp2_with fail
          (try simp only [List.append])
          refine wp_region_held_drew (S := (fun v => v.cell? (ae.add (k * 3)) = some (.string y1) ∧ v.cell? ⟨(ae.add (k * 3)).block, (ae.add (k * 3)).off + 1, none⟩ = some (.string y2) ∧ v.cell? ⟨(ae.add (k * 3)).block, (ae.add (k * 3)).off + 2, none⟩ = some (.string y3) ∧ v.cell? (ad.add (i * 3)) = some (.string x1) ∧ v.cell? ⟨(ad.add (i * 3)).block, (ad.add (i * 3)).off + 1, none⟩ = some (.string x2) ∧ v.cell? ⟨(ad.add (i * 3)).block, (ad.add (i * 3)).off + 2, none⟩ = some (.string x3))) (by kernel_rfl) (HSV.out _ HBq.out.drew) (fun hHeld => ?_)
          refine takeW 0 ?_; refine takeW 1 ?_; refine takeW 2 ?_; refine takeW 3 ?_
          (try simp only [Act.put, Ta.p0, Ta.p1, Ta.p2])
          refine takeW 4 ?_; refine takeW 5 ?_; refine takeW 6 ?_; refine takeW 7 ?_
          (try simp only [Act.put, Ta.p0, Ta.p1, Ta.p2])
          refine takeW 8 ?_; refine takeW 9 ?_; refine takeW 10 ?_; refine takeW 11 ?_
          (try simp only [Act.put, Ta.p0, Ta.p1, Ta.p2])
          refine takeW 12 ?_
          (try simp only [Act.put, Ta.p0, Ta.p1, Ta.p2])
          refine wpAnyH_ready (rs := [13]) (by kernel_rfl) (by simp) ?_
          refine AllReadyH.cons rfl (fun K2 hK2 => ?_) AllReadyH.nil
          go_simp
          refine (HLS.out _).mono ?_
          rintro e w10 ⟨rfl, hb10⟩
          have HB10 : Hid (Below wo.heap.size wo w10) := Lib.hid (HBq.out.drew.trans (hb10.mono HBq.out.drew.size))
          clear hb10
          refine hK2.out _ _ (HSV.out _ HB10.out) (fun hHeld2 => ?_)
          refine takeW 14 ?_
          (try simp only [Act.put, Ta.p0, Ta.p1, Ta.p2])
          refine wpAnyH_done (by kernel_rfl) ?_ _
          clear hHeld HSV HLS
          go_wp2
          go_roundw
          case rel => exact ⟨k + 1, by omega, by go_num, HL2, HB10⟩
          case measure => simp [intOf]; omega
        case' inr.inl =>
          obtain ⟨ae, hOe, hae, e1, e2, e3⟩ := HOS.out.at_ hy
          simp only at e1 e2 e3
          have HSV := Lib.hid (fun (v : World) (h : Below wo.heap.size wo v) => (show v.cell? (ae.add (k * 3)) = some (.string y1) ∧ v.cell? ⟨(ae.add (k * 3)).block, (ae.add (k * 3)).off + 1, none⟩ = some (.string y2) ∧ v.cell? ⟨(ae.add (k * 3)).block, (ae.add (k * 3)).off + 2, none⟩ = some (.string y3) ∧ v.cell? (ad.add (i * 3)) = some (.string x1) ∧ v.cell? ⟨(ad.add (i * 3)).block, (ad.add (i * 3)).off + 1, none⟩ = some (.string x2) ∧ v.cell? ⟨(ad.add (i * 3)).block, (ad.add (i * 3)).off + 2, none⟩ = some (.string x3) from
            ⟨(h.cell (by rw [add_block]; exact hae)).trans e1, (h.cell (by show (ae.add (k * 3)).block < _; rw [add_block]; exact hae)).trans e2, (h.cell (by show (ae.add (k * 3)).block < _; rw [add_block]; exact hae)).trans e3, (CX.out v h).1, (CX.out v h).2.1, (CX.out v h).2.2⟩))
          have HLS := Lib.hid (fun v => hb ▸ less_any ((y1, y2), y3) ((x1, x2), x3) v)
          have HIN := Lib.hid (HST.out.trans (HSS.out ▸ insT_at ((x1, x2), x3) S k (by rw [HSL.out]; exact hk) HL.out (fun z hz => by
            rw [hy] at hz
            injection hz with hz
            rw [← hz]; exact hb)))
          have hk1 : (k : Int) < (i : Int) := by omega
          clear hy hb e1 e2 e3 hae HL
          go_wp2_with fail
          (try simp only [List.append])
          refine wp_region_held_drew (S := (fun v => v.cell? (ae.add (k * 3)) = some (.string y1) ∧ v.cell? ⟨(ae.add (k * 3)).block, (ae.add (k * 3)).off + 1, none⟩ = some (.string y2) ∧ v.cell? ⟨(ae.add (k * 3)).block, (ae.add (k * 3)).off + 2, none⟩ = some (.string y3) ∧ v.cell? (ad.add (i * 3)) = some (.string x1) ∧ v.cell? ⟨(ad.add (i * 3)).block, (ad.add (i * 3)).off + 1, none⟩ = some (.string x2) ∧ v.cell? ⟨(ad.add (i * 3)).block, (ad.add (i * 3)).off + 2, none⟩ = some (.string x3))) (by kernel_rfl) (HSV.out _ HBq.out.drew) (fun hHeld => ?_)
          refine takeW 0 ?_; refine takeW 1 ?_; refine takeW 2 ?_; refine takeW 3 ?_
          (try simp only [Act.put, Ta.p0, Ta.p1, Ta.p2])
          refine takeW 4 ?_; refine takeW 5 ?_; refine takeW 6 ?_; refine takeW 7 ?_
          (try simp only [Act.put, Ta.p0, Ta.p1, Ta.p2])
          refine takeW 8 ?_; refine takeW 9 ?_; refine takeW 10 ?_; refine takeW 11 ?_
          (try simp only [Act.put, Ta.p0, Ta.p1, Ta.p2])
          refine takeW 12 ?_
          (try simp only [Act.put, Ta.p0, Ta.p1, Ta.p2])
          refine wpAnyH_ready (rs := [13]) (by kernel_rfl) (by simp) ?_
          refine AllReadyH.cons rfl (fun K2 hK2 => ?_) AllReadyH.nil
          go_simp
          refine (HLS.out _).mono ?_
          rintro e w10 ⟨rfl, hb10⟩
          have HB10 : Hid (Below wo.heap.size wo w10) := Lib.hid (HBq.out.drew.trans (hb10.mono HBq.out.drew.size))
          clear hb10
          refine hK2.out _ _ (HSV.out _ HB10.out) (fun hHeld2 => ?_)
          refine takeW 14 ?_
          (try simp only [Act.put, Ta.p0, Ta.p1, Ta.p2])
          refine wpAnyH_done (by kernel_rfl) ?_ _
          clear hHeld HSV HLS HBq
          rw [← hOe]
          clear hOe
        case' inr.inr =>
          have HIN := Lib.hid (HST.out.trans (HSS.out ▸ insT_at ((x1, x2), x3) S k (by rw [HSL.out]; exact hk) HL.out (fun z hz => by
            rw [List.getElem?_eq_none (by rw [HSL.out]; omega)] at hz
            cases hz)))
          have hki : decide (k < i) = false := decide_eq_false (by omega)
          clear HL h1
          have HB10 : Hid (Below wo.heap.size wo wr.drew) := Lib.hid HBq.out.drew
          go_wp2_with fail
          (try simp only [List.append])
          refine wp_region_held_drew (S := (fun _ => True)) (by kernel_rfl) (trivial) (fun hHeld => ?_)
          refine takeW 0 ?_; refine takeW 1 ?_; refine takeW 2 ?_; refine takeW 3 ?_
          (try simp only [Act.put, Ta.p0, Ta.p1, Ta.p2])
          refine takeW 4 ?_; refine takeU 5 ?_; refine takeU 6 ?_; refine takeU 7 ?_
          (try simp only [Act.put, Ta.p0, Ta.p1, Ta.p2])
          refine takeU 8 ?_; refine takeU 9 ?_; refine takeU 10 ?_; refine takeU 11 ?_
          (try simp only [Act.put, Ta.p0, Ta.p1, Ta.p2])
          refine takeU 12 ?_
          (try simp only [Act.put, Ta.p0, Ta.p1, Ta.p2])
          refine wpAnyH_ready (rs := [13]) (by kernel_rfl) (by simp) ?_
          refine AllReadyH.cons rfl (fun K2 hK2 => ?_) AllReadyH.nil
          go_simp
          refine hK2.out _ _ (by assumption) (fun hHeld2 => ?_)
          refine takeW 14 ?_
          (try simp only [Act.put, Ta.p0, Ta.p1, Ta.p2])
          refine wpAnyH_done (by kernel_rfl) ?_ _
          clear hHeld HBq
        all_goals
          obtain ⟨O1, c1, hq1, hp1⟩ := piece_head O i co k (by omega)
          obtain ⟨O2, c2, hq2, hp2⟩ := piece_tail O i co k hk hco
          have HP1 := Lib.hid hp1
          have HP2 := Lib.hid hp2
          have hbs := Nat.le_trans HB.out.size HB10.out.size
          have hm1 : 0 + k ≤ maxLen := by simp only [maxLen]; omega
          have hm2 : (0 + k) * 48 ≤ 140737488355328 := by omega
          have HS1 := Lib.hid (HP1.out _ S (HOS.out.below HB10.out) HSL.out hk hco)
          clear hp1 hp2
          go_wp2_with (
            at_builtin
            refine wpList_append_sl _ rfl (.tmp 30) (.tmp 33) _ rfl w.heap.size 42 i0 _ 3 48 Tryz.underlying34 hi hz0 hz1 hz2 rfl (by omega) _ 0 [] rfl (World.ownsRow_nil _ _ _ _) O1 k c1 (cells3 (S.take k)) rfl HS1.out (cells3_one _) hm1 hm2 hbs ?_)
          intro v1 w1 hown1 hg1 hat1
          have hv1 : ∀ j, v1.ownBlock = some j → wo.heap.size ≤ j := fun j hj => by
            have hz := HB10.out.size
            rcases hat1 with h | h
            · rw [h] at hj; cases hj
            · rw [h] at hj; injection hj with hj; subst hj; simpa using hz
          have HB1 : Hid (Below wo.heap.size wo w1) := Lib.hid (HB10.out.grown hg1 HB10.out.size (fun j e => by cases e))
          have HOWN1 := Lib.hid (hown1.alloc (.cells #[.string x1, .string x2, .string x3] 42))
          have HLIT := Lib.hid (Sl.lit w1 3 [.string x1, .string x2, .string x3] 42 1 rfl)
          have HONE := Lib.hid (cells3_one [((x1, x2), x3)])
          have HBA : Hid (Below wo.heap.size wo (w1.alloc (.cells #[.string x1, .string x2, .string x3] 42))) := Lib.hid (HB1.out.alloc HB1.out.size _)
          have hbs1 : w.heap.size ≤ (w1.alloc (.cells #[.string x1, .string x2, .string x3] 42)).heap.size := Nat.le_trans HB.out.size HBA.out.size
          obtain ⟨d1, d2, d3⟩ := CX.out w1 HB1.out
          have hm3 : k + 1 ≤ maxLen := by simp only [maxLen]; omega
          have hm4 : (k + 1) * 48 ≤ 140737488355328 := by omega
          clear hown1 hg1 hat1 HB10 HS1 hbs hm1 hm2
          go_wp2_with (
            at_builtin
            refine wpList_append_sl _ rfl (.tmp 35) (.tmp 40) _ rfl w.heap.size 42 i0 _ 3 48 Tryz.underlying34 hi hz0 hz1 hz2 rfl (by omega) _ k (cells3 (S.take k)) rfl HOWN1.out (some ⟨w1.heap.size, 0, none⟩) 1 1 [.string x1, .string x2, .string x3] rfl HLIT.out HONE.out hm3 hm4 hbs1 ?_)
          intro v2 w2 hown2 hg2 hat2
          have hv2 : ∀ j, v2.ownBlock = some j → wo.heap.size ≤ j := fun j hj => by
            have hz := HBA.out.size
            rcases hat2 with h | h
            · rw [h] at hj; exact hv1 j hj
            · rw [h] at hj; injection hj with hj; subst hj; simpa using hz
          have HB2 : Hid (Below wo.heap.size wo w2) := Lib.hid (HBA.out.grown hg2 HBA.out.size hv1)
          have HOWN2 := Lib.hid hown2
          have HS2 := Lib.hid (HP2.out w2 S (HOS.out.below HB2.out) HSL.out)
          have hbs2 : w.heap.size ≤ w2.heap.size := Nat.le_trans HB.out.size HB2.out.size
          have hm5 : k + 1 + (i - k) ≤ maxLen := by simp only [maxLen]; omega
          have hm6 : (k + 1 + (i - k)) * 48 ≤ 140737488355328 := by omega
          clear hown2 hg2 hat2 hv1 HOWN1 HLIT HBA HB1 HONE hbs1 hm3 hm4 d1 d2 d3
          go_wp2_with (
            at_builtin
            refine wpList_append_sl _ rfl (.tmp 42) (.tmp 45) _ rfl w.heap.size 42 i0 _ 3 48 Tryz.underlying34 hi hz0 hz1 hz2 rfl (by omega) v2 (k + 1) _ rfl HOWN2.out O2 (i - k) c2 (cells3 (S.drop k)) rfl HS2.out (cells3_one _) hm5 hm6 hbs2 ?_)
          intro v3 w3 hown3 hg3 hat3
          have HB3 : Hid (Below w.heap.size w w3) := Lib.hid (HB.out.trans ((HB2.out.grown hg3 HB2.out.size hv2).mono HB.out.size))
          have HO3 : Hid (w3.ownsRow w.heap.size 42 3 v3 (i + 1) (cells3 (sortT (l.take (i + 1))))) := Lib.hid (by
            rw [HIN.out, ← HSS.out, cells3_append, cells3_cons]
            have e : k + 1 + (i - k) = i + 1 := by omega
            rw [e] at hown3
            exact hown3)
          have HL3 : Hid ((sortT (l.take (i + 1))).length = i + 1) := Lib.hid (by rw [sortT_len, List.length_take]; omega)
          clear hown3 hg3 hat3 hv2 HB2 HOWN2 HS2 hbs2 hm5 hm6 HP1 HP2 HIN HOS CX
          go_wp2
          go_roundw
          case rel => exact ⟨i + 1, _, by omega, by go_num, HL3, Lib.hid rfl, HO3, HB3⟩
          case measure => simp [intOf]; omega
    · have hil2 : i = l.length := by omega
      have h1 := HO.out
      rw [HSS.out, hil2, List.take_length] at h1
      have HO3 := Lib.hid h1
      clear h1
      clear HO HSL HSS
      go_wp2
      go_ret
      exact ⟨_, rfl, HO3.out, HB.out⟩
end Go.Proofs.YtjohfljkhlkjoaaGreatDoor

namespace Go.Proofs.YtjohfljkhlkjoaaGreatDoor
open Go.RowKit Wb
def OrdOut (n : Nd) (w : World) (e : Ending) (w' : World) : Prop :=
  Below w.heap.size w w' ∧ ∃ A ca kv, e = .returned (.agg (cpC (ordN n) A ca kv).toArray) ∧ CopyW w.heap.size (ordN n) A kv w'
structure OrW (W : World) (cs : Array Value) (kd : Int) (sp lo tx : ByteArray) (al : List Tr) (A4 : Option Addr) (kv : Value) (kids : List Nd) (w : World) : Prop where
  below : Below W.heap.size W w
  blk : w.heap[W.heap.size]? = some (.cells cs 37 (0, 0))
  res : w.heap[W.heap.size + 1]? = some (.cells #[.int .i64 0, .string ⟨#[]⟩, .string ⟨#[]⟩, .slice none 0 0, .slice none 0 0, .string ⟨#[]⟩] 37 (0, 0))
  copy : CopyW (W.heap.size + 2) (.mk kd (sp, lo) al kids tx) A4 kv w
  lo4 : ∀ ad, A4 = some ad → ad.block < w.heap.size
theorem OrW.lt {W : World} {cs : Array Value} {kd : Int} {sp lo tx : ByteArray} {al : List Tr} {A4 : Option Addr} {kv : Value} {kids : List Nd} {w : World} (h : OrW W cs kd sp lo tx al A4 kv kids w) {k : Nat} (hk : CpS (W.heap.size + 2) A4 kv k) : k < w.heap.size := by
  have hr := blk_in h.res
  rcases hk with hk | hk | ⟨ad, e, rfl⟩
  · omega
  · obtain ⟨css, _, h2, _⟩ := h.copy.kids
    exact (own_in h2 hk).2
  · exact h.lo4 ad e
theorem OrW.other {W : World} {cs : Array Value} {kd : Int} {sp lo tx : ByteArray} {al : List Tr} {A4 : Option Addr} {kv : Value} {kids : List Nd} {w w' : World} (h : OrW W cs kd sp lo tx al A4 kv kids w) (hb : Below w.heap.size w w') : OrW W cs kd sp lo tx al A4 kv kids w' :=
  ⟨h.below.trans (hb.mono h.below.size), still_block h.blk hb, still_block h.res hb, ⟨h.copy.ats.below hb, h.copy.new, h.copy.kids.keep (Keep.of_below _ hb) (fun _ _ h => h) (fun k hv => hb.block k (by
    obtain ⟨css, _, h2, _⟩ := h.copy.kids
    exact (own_in h2 hv).2)), h.copy.apart, fun hal ad e => by
    obtain ⟨g, cur, e1, e2, e3⟩ := h.copy.free hal ad e
    exact ⟨g, cur, e1, e2, still_block e3 hb⟩⟩, fun ad e => Nat.lt_of_lt_of_le (h.lo4 ad e) hb.size⟩
theorem OrW.app {W : World} {cs0 : Array Value} {kd : Int} {sp lo tx : ByteArray} {al : List Tr} {A4 : Option Addr} {kv v5 : Value} {kids : List Nd} {wk w4 wl w5 : World} {x : Nd} {A1 : Option Addr} {ca1 : Nat} {kv1 : Value} {css : List (List Value)}
    (h : OrW W cs0 kd sp lo tx al A4 kv kids wk) (hb : Below wk.heap.size wk w4) (hc : CopyW wk.heap.size x A1 kv1 w4) (hwl : Below w4.heap.size w4 wl) (hcl : css.length = kids.length)
    (hsf : ∀ (i : Nat) (k : Nd) (cs : List Value), kids[i]? = some k → css[i]? = some cs → SafeP (CpS (W.heap.size + 2) A4 kv) wk (fun v => nodeC v k cs))
    (hkv : ∀ k, kv.ownBlock = some k → W.heap.size + 2 ≤ k ∧ k < wk.heap.size)
    (h5 : w5.ownsRow (W.heap.size + 2) 37 6 v5 (kids.length + 1) (css.flatten ++ cpC x A1 ca1 kv1)) (hg : wl.grownBy w5 kv.ownBlock) (hat : v5.ownBlock = kv.ownBlock ∨ v5.ownBlock = some wl.heap.size) :
    OrW W cs0 kd sp lo tx al A4 v5 (kids ++ [x]) w5 := by
  have hkl : Below wk.heap.size wk wl := hb.trans (hwl.mono hb.size)
  have hl := h.other hkl
  have hr := blk_in h.res
  have hlt : ∀ k, CpS (W.heap.size + 2) A4 kv k → k < wk.heap.size := fun k hk => OrW.lt h hk
  have hws : wk.heap.size ≤ wl.heap.size := hkl.size
  have hK : Keep (CpS (W.heap.size + 2) A4 kv) wl w5 := (Keep.refl _ wl).grown hg (fun k hk => .inr (.inl hk))
  have hs : ∀ k, k < wl.heap.size → CpS (W.heap.size + 2) A4 v5 k → CpS (W.heap.size + 2) A4 kv k := by
    rintro k hkl (hk | hk | hk)
    · exact .inl hk
    · rcases hat with e | e
      · exact .inr (.inl (e ▸ hk))
      · rw [e] at hk; injection hk with hk; omega
    · exact .inr (.inr hk)
  have ne : ∀ k, k < wl.heap.size → kv.ownBlock ≠ some k → w5.heap[k]? = wl.heap[k]? := fun k h1 h3 => hg.block k h1 (fun e => h3 e.symm)
  have kvN : ∀ k, kv.ownBlock = some k → W.heap.size + 2 ≤ k := fun k hk => (hkv k hk).1
  refine ⟨hl.below.grown hg hl.below.size (fun k hk => by have := kvN k hk; omega), ?_, ?_, ⟨?_, h.copy.new, ?_, ?_, ?_⟩, fun ad e => Nat.lt_of_lt_of_le (h.lo4 ad e) (Nat.le_trans hws hg.size)⟩
  · exact (ne _ (blk_in hl.blk) (fun e => by have := kvN _ e; omega)).trans hl.blk
  · exact (ne _ (blk_in hl.res) (fun e => by have := kvN _ e; omega)).trans hl.res
  · have hsl : SafeP (fun k => k < W.heap.size + 2 ∨ kv.ownBlock = some k) wl (fun v => Sl3 v A4 al) := by
      by_cases hal : al = []
      · subst hal; exact fun _ _ => Sl3.nil _ _
      · refine Sl.safe hl.copy.ats (fun _ ad e hh => ?_)
        rcases hh with hh | hh
        · have := h.copy.new ad e; omega
        · exact h.copy.apart hal ad e hh
    exact hsl _ ((Keep.refl _ wl).grown hg (fun k hk => .inr hk))
  · refine ⟨css ++ [cpC x A1 ca1 kv1], by simp [hcl, Nd.kids], ?_, fun i k cs hk1 hc1 => ?_⟩
    · simp only [Nd.kids]
      rw [List.length_append, List.flatten_append, show [cpC x A1 ca1 kv1].flatten = cpC x A1 ca1 kv1 from by simp]
      exact h5
    · simp only [Nd.kids] at hk1
      by_cases hi : i < kids.length
      · rw [List.getElem?_append_left hi] at hk1
        rw [List.getElem?_append_left (by omega)] at hc1
        exact (((hsf i k cs hk1 hc1).keep (Keep.of_below _ hkl) (fun _ _ h => h))).keep hK hs
      · rw [List.getElem?_append_right (by omega)] at hk1 hc1
        rw [hcl] at hc1
        have hj : i - kids.length = 0 := by have := (List.getElem?_eq_some_iff.1 hk1).1; simp at this; omega
        rw [hj] at hk1 hc1
        simp only [List.getElem?_cons_zero, Option.some.injEq] at hk1 hc1
        subst hk1 hc1
        exact ((hc.safe (S := CpS (W.heap.size + 2) A4 kv) (fun k hk => hlt k hk)).keep (Keep.of_below _ hwl) (fun _ _ h => h)).keep hK hs
  · intro hal ad e hv
    rcases hat with e' | e'
    · exact h.copy.apart hal ad e (e' ▸ hv)
    · obtain ⟨ad', e'', hlt2, _⟩ := hl.copy.ats.2 (List.length_pos_iff.2 hal)
      rw [e] at e''
      injection e'' with e''
      subst e''
      rw [e'] at hv
      injection hv with hv
      omega
  · intro hal ad e
    obtain ⟨g, cur, e1, e2, e3⟩ := hl.copy.free hal ad e
    refine ⟨g, cur, e1, e2, (ne g (blk_in e3) (fun hv => h.copy.apart hal ad e (by rw [hv, e1]))).trans e3⟩
set_option maxRecDepth 100000 in
set_option maxHeartbeats 4000000 in
theorem order_of (n : Nd) : ∀ (A K : Option Addr) (ca ck : Nat) (w : World), NodeV w n A K → smallN n →
    Calls Tryz.prog 26 #[ndV n A ca K ck] w (OrdOut n w) := by
  induction n using Nd.induct with
  | h n ih =>
    intro A K ca ck w hV hsm
    obtain ⟨s1, s2, s3⟩ := (smallN_is n).1 hsm
    obtain ⟨kd, ⟨sp, lo⟩, al, ks, tx⟩ := n
    simp only [Nd.attrs, Nd.kids] at s1 s2 s3
    have IH := Lib.hid ih
    have HV := Lib.hid hV
    have HSM := Lib.hid s3
    unfold ndV ndCells
    simp only [Nd.kind, Nd.name, Nd.attrs, Nd.kids, Nd.text]
    have hA2 : Sl3 _ A al := (hV.1.alloc (.cells #[.int .i64 kd, .string sp, .string lo, .slice A al.length ca, .slice K ks.length ck, .string tx] 37)).alloc (.cells #[.int .i64 0, .string ⟨#[]⟩, .string ⟨#[]⟩, .slice none 0 0, .slice none 0 0, .string ⟨#[]⟩] 37)
    have hn2 : ((w.alloc (.cells #[.int .i64 kd, .string sp, .string lo, .slice A al.length ca, .slice K ks.length ck, .string tx] 37)).alloc (.cells #[.int .i64 0, .string ⟨#[]⟩, .string ⟨#[]⟩, .slice none 0 0, .slice none 0 0, .string ⟨#[]⟩] 37)).heap[w.heap.size]? = _ := (Below.heap_alloc (w.alloc (.cells #[.int .i64 kd, .string sp, .string lo, .slice A al.length ca, .slice K ks.length ck, .string tx] 37)) (.cells #[.int .i64 0, .string ⟨#[]⟩, .string ⟨#[]⟩, .slice none 0 0, .slice none 0 0, .string ⟨#[]⟩] 37) _ (by simp)).trans (heap_alloc_new w (.cells #[.int .i64 kd, .string sp, .string lo, .slice A al.length ca, .slice K ks.length ck, .string tx] 37))
    have hr2 : ((w.alloc (.cells #[.int .i64 kd, .string sp, .string lo, .slice A al.length ca, .slice K ks.length ck, .string tx] 37)).alloc (.cells #[.int .i64 0, .string ⟨#[]⟩, .string ⟨#[]⟩, .slice none 0 0, .slice none 0 0, .string ⟨#[]⟩] 37)).heap[w.heap.size + 1]? = some (.cells #[.int .i64 0, .string ⟨#[]⟩, .string ⟨#[]⟩, .slice none 0 0, .slice none 0 0, .string ⟨#[]⟩] 37 (0, 0)) := by
      have := heap_alloc_new (w.alloc (.cells #[.int .i64 kd, .string sp, .string lo, .slice A al.length ca, .slice K ks.length ck, .string tx] 37)) (.cells #[.int .i64 0, .string ⟨#[]⟩, .string ⟨#[]⟩, .slice none 0 0, .slice none 0 0, .string ⟨#[]⟩] 37)
      simpa using this
    have hb2 : Below w.heap.size w ((w.alloc (.cells #[.int .i64 kd, .string sp, .string lo, .slice A al.length ca, .slice K ks.length ck, .string tx] 37)).alloc (.cells #[.int .i64 0, .string ⟨#[]⟩, .string ⟨#[]⟩, .slice none 0 0, .slice none 0 0, .string ⟨#[]⟩] 37)) := ((Below.refl _ w).alloc (Nat.le_refl _) _).alloc (by simp) _
    have hs2 : ((w.alloc (.cells #[.int .i64 kd, .string sp, .string lo, .slice A al.length ca, .slice K ks.length ck, .string tx] 37)).alloc (.cells #[.int .i64 0, .string ⟨#[]⟩, .string ⟨#[]⟩, .slice none 0 0, .slice none 0 0, .string ⟨#[]⟩] 37)).heap.size = w.heap.size + 2 := by simp
    have HA2 := Lib.hid hA2
    have HN2 := Lib.hid hn2
    have HR2 := Lib.hid hr2
    have HB2 := Lib.hid hb2
    have HS2 := Lib.hid hs2
    clear ih hV s3 hsm hA2 hn2 hr2 hb2 hs2
    go_enter Tryz.func26, Tryz.ntmps26
    go_upto_region 1 with fail
    revert HS2; revert HB2; revert HR2; revert HN2; revert HA2
    generalize ((w.alloc (.cells #[.int .i64 kd, .string sp, .string lo, .slice A al.length ca, .slice K ks.length ck, .string tx] 37)).alloc (.cells #[.int .i64 0, .string ⟨#[]⟩, .string ⟨#[]⟩, .slice none 0 0, .slice none 0 0, .string ⟨#[]⟩] 37)) = wa
    intro HA2 HN2 HR2 HB2 HS2
    have c3 : wa.cell? ⟨w.heap.size, 3, none⟩ = some (.slice A al.length ca) := blk_cell HN2.out 3
    have hso := sorted_any A al ca wa HA2.out s1
    have HLL := Lib.hid (sortT_len al)
    obtain ⟨sl, hsl⟩ : ∃ sl, sortT al = sl := ⟨_, rfl⟩
    have HOR : Hid (ordN (.mk kd (sp, lo) al ks tx) = .mk kd (sp, lo) sl (ordKs ks) tx) := Lib.hid (by rw [ordN, hsl])
    rw [hsl] at hso HLL
    clear hsl
    go_wp2_with fail
    refine hso.mono ?_
    rintro e w4 ⟨v4, rfl, hown4, hb4⟩
    rw [HS2.out] at hown4
    obtain ⟨A4, c4, hsh⟩ := own_shape hown4
    subst hsh
    have hN4 := still_block HN2.out hb4
    have hR4 := still_block HR2.out hb4
    have e3 := blk_cell hN4 3
    have f3 := blk_free hN4 3
    simp only [List.getElem?_toArray, List.getElem?_cons_zero, List.getElem?_cons_succ] at e3
    have HN4 := Lib.hid hN4
    have HR4 := Lib.hid hR4
    have HO4 := Lib.hid hown4
    have HB4 := Lib.hid (HB2.out.trans (hb4.mono HB2.out.size))
    clear hN4 hR4 hown4 hb4 hso c3
    go_upto_region 2 with fail
    have HB5 : Hid (Below w.heap.size w (w4.setCell ⟨w.heap.size, 3, none⟩ (.slice A4 al.length c4))) := Lib.hid (HB4.out.setCell (p := ⟨w.heap.size, 3, none⟩) (Nat.le_refl _) _)
    have HN5 : Hid ((w4.setCell ⟨w.heap.size, 3, none⟩ (.slice A4 al.length c4)).heap[w.heap.size]? = some (.cells #[.int .i64 kd, .string sp, .string lo, .slice A4 al.length c4, .slice K ks.length ck, .string tx] 37 (0, 0))) := Lib.hid (by
      have := blk_set HN4.out 3 (.slice A4 al.length c4)
      simpa using this)
    have HR5 : Hid ((w4.setCell ⟨w.heap.size, 3, none⟩ (.slice A4 al.length c4)).heap[w.heap.size + 1]? = _) := Lib.hid ((Below.heap_setCell _ _ _ _ (by simp)).trans HR4.out)
    have HO5 : Hid ((w4.setCell ⟨w.heap.size, 3, none⟩ (.slice A4 al.length c4)).ownsRow (w.heap.size + 2) 42 3 (.slice A4 al.length c4) al.length (cells3 sl)) := Lib.hid (own_blk HO4.out fun k hv => Below.heap_setCell _ _ _ _ (fun e => by have := (own_in HO4.out hv).1; simp at e; omega))
    clear HO4 HN4 HR4 HB4 e3 f3 HN2 HR2 HB2 HA2 HS2
    revert HO5; revert HR5; revert HN5; revert HB5
    generalize (w4.setCell ⟨w.heap.size, 3, none⟩ (.slice A4 al.length c4)) = w5
    intro HB5 HN5 HR5 HO5
    have HC6 : Hid (OrW w #[.int .i64 kd, .string sp, .string lo, .slice A4 al.length c4, .slice K ks.length ck, .string tx] kd sp lo tx sl A4 (.slice none 0 0) [] w5) := Lib.hid (by
      have ho := HO5.out
      rw [← HLL.out] at ho
      refine ⟨HB5.out, HN5.out, HR5.out, ⟨Sl3.of_own ho, fun ad e => ?_, KidsR.nil _ _ _ _, fun _ ad _ => by simp [Value.ownBlock], fun _ ad e => by
        rcases ho.2 with ⟨e1, _⟩ | ⟨g, cap, cur, e1, e2, e3, _⟩
        · rw [e] at e1; cases e1
        · rw [e] at e1; injection e1 with e1; injection e1 with e1; exact ⟨g, cur, e1, e2, e3⟩⟩, fun ad e => ?_⟩
      · subst e; exact (own_in ho rfl).1
      · subst e; exact (own_in ho rfl).2)
    clear HB5 HN5 HR5 HO5
    go_wp2
    go_loopw [3, 4] (fun vk vi wr => ∃ (i : Nat), i ≤ ks.length ∧ vi = .int .i64 i ∧ Hid (OrW w #[.int .i64 kd, .string sp, .string lo, .slice A4 al.length c4, .slice K ks.length ck, .string tx] kd sp lo tx sl A4 vk (ordKs (ks.take i)) wr)) (fun _ vi _ => ((ks.length : Int) - intOf vi).toNat)
    case atStart => exact ⟨0, by omega, rfl, HC6⟩
    case round =>
      obtain ⟨i, hi, rfl, HC⟩ := hrel
      have n4 := blk_cell HC.out.blk 4
      simp only [List.getElem?_toArray, List.getElem?_cons_zero, List.getElem?_cons_succ] at n4
      by_cases h0 : i < ks.length
      · obtain ⟨x, he⟩ : ∃ x, ks[i]? = some x := ⟨ks[i], List.getElem?_eq_getElem h0⟩
        obtain ⟨ad, A1, ca1, K1, ck1, rfl, had, d0, d1, d2, d3, d4, d5, hA1, hK1⟩ := (HV.out.2.below HC.out.below).at_ he
        have hmem := List.mem_of_getElem? he
        have HTK := Lib.hid (show ordKs (ks.take (i + 1)) = ordKs (ks.take i) ++ [ordN x] by rw [List.take_add_one, he, ordKs_map, ordKs_map]; simp)
        have hcp := IH.out x hmem A1 K1 ca1 ck1 wr ⟨hA1, hK1⟩ (HSM.out x hmem)
        obtain ⟨css, hcl, hown, hsf⟩ := HC.out.copy.kids
        have hkvb := fun k hk => own_in hown (g := k) hk
        have hli : (Nd.mk kd (sp, lo) sl (ordKs (ks.take i)) tx).kids.length = i := by
          show (ordKs (ks.take i)).length = i
          rw [ordKs_map, List.length_map, List.length_take]; omega
        rw [hli] at hown hcl
        obtain ⟨Kv, cv, hkv⟩ := own_shape hown
        subst hkv
        obtain ⟨j0, hj, hy0, hy1, hy2⟩ := info_parts node_info
        unfold ndV ndCells at hcp
        have HLI := Lib.hid hli
        have HOWN := Lib.hid hown
        have HCL := Lib.hid hcl
        have HSF := Lib.hid hsf
        have HKVB := Lib.hid hkvb
        have hii : (0 : Int) ≤ (i : Int) := by omega
        clear hown hcl hsf hkvb hli hmem he hA1 hK1 had
        go_wp2_with fail
        refine hcp.mono ?_
        rintro e w4 ⟨hb4, A9, c9, kv9, rfl, hc9⟩
        obtain ⟨css9, hcl9, hown9, hsf9⟩ := hc9.kids
        obtain ⟨K9, q9, hk9⟩ := own_shape hown9
        subst hk9
        have HOWN4 := Lib.hid ((own_below HOWN.out hb4).alloc (.cells #[.int .i64 (ordN x).kind, .string (ordN x).name.1, .string (ordN x).name.2, .slice A9 (ordN x).attrs.length c9, .slice K9 (ordN x).kids.length q9, .string (ordN x).text] 37))
        have HLIT := Lib.hid (Sl.lit w4 6 [.int .i64 (ordN x).kind, .string (ordN x).name.1, .string (ordN x).name.2, .slice A9 (ordN x).attrs.length c9, .slice K9 (ordN x).kids.length q9, .string (ordN x).text] 37 1 rfl)
        have HONE := Lib.hid (show ∀ u ∈ [Value.int .i64 (ordN x).kind, .string (ordN x).name.1, .string (ordN x).name.2, .slice A9 (ordN x).attrs.length c9, .slice K9 (ordN x).kids.length q9, .string (ordN x).text], u.oneCell' = true from fun u hu => by
          simp only [List.mem_cons, List.mem_nil_iff, or_false] at hu
          rcases hu with rfl | rfl | rfl | rfl | rfl | rfl <;> rfl)
        have hbs4 : w.heap.size + 2 ≤ (w4.alloc (.cells #[.int .i64 (ordN x).kind, .string (ordN x).name.1, .string (ordN x).name.2, .slice A9 (ordN x).attrs.length c9, .slice K9 (ordN x).kids.length q9, .string (ordN x).text] 37)).heap.size := by
          have h1 := hb4.size
          have h2 := blk_in HC.out.res
          simp only [World.size_alloc]
          omega
        have HAPP := Lib.hid (fun (v5 : Value) (w5 : World) (h5 : w5.ownsRow (w.heap.size + 2) 37 6 v5 (i + 1) (css.flatten ++ [.int .i64 (ordN x).kind, .string (ordN x).name.1, .string (ordN x).name.2, .slice A9 (ordN x).attrs.length c9, .slice K9 (ordN x).kids.length q9, .string (ordN x).text])) (hg : ((w4.alloc (.cells #[.int .i64 (ordN x).kind, .string (ordN x).name.1, .string (ordN x).name.2, .slice A9 (ordN x).attrs.length c9, .slice K9 (ordN x).kids.length q9, .string (ordN x).text] 37))).grownBy w5 (Value.slice Kv i cv).ownBlock) (hat : v5.ownBlock = (Value.slice Kv i cv).ownBlock ∨ v5.ownBlock = some ((w4.alloc (.cells #[.int .i64 (ordN x).kind, .string (ordN x).name.1, .string (ordN x).name.2, .slice A9 (ordN x).attrs.length c9, .slice K9 (ordN x).kids.length q9, .string (ordN x).text] 37))).heap.size) =>
          OrW.app (ca1 := c9) HC.out hb4 hc9 (wl := w4.alloc (.cells #[.int .i64 (ordN x).kind, .string (ordN x).name.1, .string (ordN x).name.2, .slice A9 (ordN x).attrs.length c9, .slice K9 (ordN x).kids.length q9, .string (ordN x).text] 37)) ((Below.refl _ w4).alloc (Nat.le_refl _) _) (HCL.out.trans HLI.out.symm) HSF.out HKVB.out (by rw [show (ordKs (ks.take i)).length = i from HLI.out]; exact h5) hg hat)
        have hm1 : i + 1 ≤ maxLen := by simp only [maxLen]; omega
        have hm2 : (i + 1) * 104 ≤ 140737488355328 := by omega
        unfold cpC
        clear hc9 hcl9 hown9 hsf9 hb4 hcp d0 d1 d2 d3 d4 d5 n4
        go_wp2_with (
          at_builtin
          refine wpList_append_sl _ rfl (.tmp 16) (.tmp 23) _ rfl (w.heap.size + 2) 37 j0 _ 6 104 Tryz.underlying35 hj hy0 hy1 hy2 rfl (by omega) _ i css.flatten rfl HOWN4.out (some ⟨w4.heap.size, 0, none⟩) 1 1 _ rfl HLIT.out HONE.out hm1 hm2 hbs4 ?_)
        intro v5 w5' hown5 hg5 hat5
        have HFIN := Lib.hid (HTK.out ▸ HAPP.out v5 w5' hown5 hg5 (by simpa using hat5) : OrW w #[.int .i64 kd, .string sp, .string lo, .slice A4 al.length c4, .slice (some ad) ks.length ck, .string tx] kd sp lo tx sl A4 v5 (ordKs (ks.take (i + 1))) w5')
        clear hown5 hg5 hat5 HAPP HLIT HONE HOWN4 HKVB HSF HCL HOWN HC hbs4 hm1 hm2 HTK HLI
        go_wp2
        go_roundw
        case rel => exact ⟨i + 1, by omega, by go_num, HFIN⟩
        case measure => simp [intOf]; omega
      · have : i = ks.length := by omega
        subst this
        rw [List.take_length] at HC
        obtain ⟨css, hcl, hown, hsf⟩ := HC.out.copy.kids
        have hli : (Nd.mk kd (sp, lo) sl (ordKs ks) tx).kids.length = ks.length := by
          show (ordKs ks).length = _
          rw [ordKs_map, List.length_map]
        rw [hli] at hown
        obtain ⟨Kv, cv, hkv⟩ := own_shape hown
        subst hkv
        have f4 := blk_free HC.out.blk 4
        clear hcl hown hsf hli
        go_upto_region 8 with fail
        have HN7 : Hid ((wr.setCell ⟨w.heap.size, 4, none⟩ (.slice Kv ks.length cv)).heap[w.heap.size]? = some (.cells #[.int .i64 kd, .string sp, .string lo, .slice A4 al.length c4, .slice Kv ks.length cv, .string tx] 37 (0, 0))) := Lib.hid (by
          have := blk_set HC.out.blk 4 (.slice Kv ks.length cv)
          simpa using this)
        have HR7 : Hid ((wr.setCell ⟨w.heap.size, 4, none⟩ (.slice Kv ks.length cv)).heap[w.heap.size + 1]? = _) := Lib.hid ((Below.heap_setCell _ _ _ _ (by simp)).trans HC.out.res)
        have HB7 : Hid (Below w.heap.size w (wr.setCell ⟨w.heap.size, 4, none⟩ (.slice Kv ks.length cv))) := Lib.hid (HC.out.below.setCell (p := ⟨w.heap.size, 4, none⟩) (Nat.le_refl _) _)
        have HP7 : Hid (CopyW (w.heap.size + 2) (.mk kd (sp, lo) sl (ordKs ks) tx) A4 (.slice Kv ks.length cv) (wr.setCell ⟨w.heap.size, 4, none⟩ (.slice Kv ks.length cv))) := Lib.hid (HC.out.copy.mono ((Keep.refl _ wr).setCell (S := fun k => k < w.heap.size + 2) (p := ⟨w.heap.size, 4, none⟩) (by show w.heap.size < w.heap.size + 2; omega) _) (Nat.le_refl _))
        clear HC n4 f4
        revert HN7 HR7 HB7 HP7
        generalize (wr.setCell ⟨w.heap.size, 4, none⟩ (.slice Kv ks.length cv)) = w7
        intro HN7 HR7 HB7 HP7
        obtain ⟨n0, n1, n2, n3, n4, n5⟩ := cells_of_nd HN7.out
        obtain ⟨z0, z1, z2, z3, z4, z5⟩ := cells_of_nd HR7.out
        have y0 := blk_free HR7.out 0
        have y1 := blk_free HR7.out 1
        have y2 := blk_free HR7.out 2
        have y3 := blk_free HR7.out 3
        have y4 := blk_free HR7.out 4
        have y5 := blk_free HR7.out 5
        clear HSM IH HV
        go_wp2
        refine bodyPost_ret (results_cell_row rfl _ _ (w.heap.size + 1) _ _ (0, 0) _ rfl (six_blk HR7.out _ _ _ _ _ _) Tryz.underlying37 rfl node_info2) rfl ?_
        refine ⟨six_below HB7.out (by omega) _ _ _ _ _ _, A4, c4, .slice Kv ks.length cv, ?_, ?_⟩
        · rw [HOR.out]
          show _ = Ending.returned (.agg #[.int .i64 kd, .string sp, .string lo, .slice A4 sl.length c4, .slice Kv ks.length cv, .string tx])
          rw [HLL.out]
        · rw [HOR.out]
          exact HP7.out.mono ((six_keep w7 (w.heap.size + 1) _ _ _ _ _ _).mono (fun k _ e => by omega)) (by omega)
theorem order_any (n : Nd) (A K : Option Addr) (ca ck : Nat) (w : World) (hV : NodeV w n A K) (hs : smallN n) :
    Calls Tryz.prog 26 #[ndV n A ca K ck] w fun e w' => (∃ B cb L cl, e = .returned (ndV (ordN n) B cb L cl) ∧ NodeV w' (ordN n) B L) ∧ Below w.heap.size w w' := by
  refine (order_of n A K ca ck w hV hs).mono ?_
  rintro e w' ⟨hb, B, cb, kv, rfl, hc⟩
  have hnd := (hc.safe (S := fun _ => False) (ca := cb) (fun _ h => h.elim)) w' (Keep.refl _ _)
  obtain ⟨B', cb', L, cl, he, hv⟩ := (nodeC_V _ _ _).1 hnd
  refine ⟨⟨B', cb', L, cl, ?_, hv⟩, hb⟩
  rw [he]
  rfl
end Go.Proofs.YtjohfljkhlkjoaaGreatDoor

