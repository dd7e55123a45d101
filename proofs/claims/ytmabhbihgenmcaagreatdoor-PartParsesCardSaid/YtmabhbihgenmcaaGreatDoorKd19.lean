/- FhA QcP QcV QcQ. -/
import Derived.Deep.RegionLaw
import Derived.Deep.Cut
import Derived.Test.YtmabhbihgenmcaaGreatDoorKd13
import Derived.Test.YtmabhbihgenmcaaGreatDoorKd14
import Derived.Test.YtmabhbihgenmcaaGreatDoorKd18
namespace Wb
open Go
theorem all_take {p : UInt8 → Bool} {L : List UInt8} {i : Nat} {c : UInt8} (h : L[i]? = some c) : (L.take (i + 1)).all p = ((L.take i).all p && p c) := by
  rw [List.take_add_one, h, List.all_append]
  simp
theorem all_stop {p : UInt8 → Bool} {L : List UInt8} {i : Nat} {c : UInt8} (h : L[i]? = some c) (hp : p c = false) : L.all p = false := by
  cases hc : L.all p
  · rfl
  · rw [List.all_eq_true] at hc
    rw [hc c (List.mem_of_getElem? h)] at hp
    cases hp
theorem ba_get {s : ByteArray} {i : Nat} (h : i < s.size) : s.data.toList[i]? = some s[i] := by
  rw [List.getElem?_eq_getElem (by rw [← ba_size]; exact h)]
  rfl
end Wb
namespace Go.Proofs.YtmabhbihgenmcaaGreatDoor
open Go.RowKit Wb
set_option maxRecDepth 100000 in
set_option maxHeartbeats 4000000 in
theorem rnamed_any (s : ByteArray) (w : World) (hs : s.size ≤ 1000000) :
    Calls Tryz.prog 47 #[.string s] w fun e w' => e = .returned (.bool (namedF s.data.toList)) ∧ Below w.heap.size w w' := by
  go_enter Tryz.func47, Tryz.ntmps47
  go_wp2
  go_loopw [3] (fun v3 wr => ∃ i : Nat, i ≤ s.size ∧ v3 = .int .i64 i ∧ Hid ((s.data.toList.take i).all nameC = true) ∧ Hid (Below w.heap.size w wr)) (fun v3 _ => s.size - (intOf v3).toNat)
  case atStart => exact ⟨0, by omega, rfl, Lib.hid rfl, Lib.hid (Below.refl _ _)⟩
  case round =>
    obtain ⟨i, hi, rfl, HA, HB⟩ := hrel
    by_cases h0 : i < s.size
    · have hg := ba_get h0
      cases ht : nameC s[i]
      · have HF : Hid (namedF s.data.toList = false) := Lib.hid (by unfold namedF; rw [all_stop hg ht]; rfl)
        have hcs : s[i].toNat < 33 ∨ (33 ≤ s[i].toNat ∧ 126 < s[i].toNat) ∨ (33 ≤ s[i].toNat ∧ s[i].toNat ≤ 126 ∧ s[i].toNat = 58) := by
          unfold nameC at ht
          by_cases g1 : 33 ≤ s[i].toNat
          · by_cases g2 : s[i].toNat ≤ 126
            · rw [decide_eq_true g1, decide_eq_true g2] at ht
              simp at ht
              exact .inr (.inr ⟨g1, g2, by rw [ht]; rfl⟩)
            · exact .inr (.inl ⟨g1, by omega⟩)
          · exact .inl (by omega)
        clear hg ht
        rcases hcs with h1 | ⟨h1, h2⟩ | ⟨h1, h2, h3⟩
        all_goals
          go_wp2
          go_ret
          exact ⟨by rw [HF.out]; rfl, HB.out⟩
      · have HN : Hid ((s.data.toList.take (i + 1)).all nameC = true) := Lib.hid (by rw [all_take hg, HA.out, ht]; rfl)
        have hcs : 33 ≤ s[i].toNat ∧ s[i].toNat ≤ 126 ∧ s[i].toNat ≠ 58 := by
          unfold nameC at ht
          simp only [Bool.and_eq_true, decide_eq_true_eq, bne_iff_ne, ne_eq] at ht
          exact ⟨ht.1.1, ht.1.2, fun e => ht.2 (UInt8.toNat_inj.1 e)⟩
        obtain ⟨h1, h2, h3⟩ := hcs
        have h3' : (((s[i].toNat : Int)) == 58) = false := by rw [beq_eq_false_iff_ne]; omega
        clear hg ht
        go_wp2
        go_roundw
        case rel => exact ⟨i + 1, by omega, by go_num, HN, HB⟩
        case measure => simp [intOf]; omega
    · obtain rfl : i = s.size := by omega
      have HT : Hid (namedF s.data.toList = (decide (1 ≤ s.size) && decide (s.size ≤ 64))) := Lib.hid (by
        have h := HA.out
        rw [ba_size, List.take_length] at h
        unfold namedF
        rw [h, ba_size s]
        simp)
      by_cases h1 : 1 ≤ s.size
      · by_cases h2 : s.size ≤ 64
        · go_wp2
          go_ret
          refine ⟨?_, HB.out⟩
          rw [HT.out, decide_eq_true h1, decide_eq_true h2]
          first
          | rfl
          | (simp; omega)
        · go_wp2
          go_ret
          refine ⟨?_, HB.out⟩
          rw [HT.out, decide_eq_true h1, decide_eq_false h2]
          first
          | rfl
          | (simp; omega)
      · go_wp2
        go_ret
        refine ⟨?_, HB.out⟩
        rw [HT.out, decide_eq_false h1]
        first
        | rfl
        | (simp; omega)
end Go.Proofs.YtmabhbihgenmcaaGreatDoor
namespace Wb
open Go Go.RowKit
def othL : List UInt8 := [39, 40, 41, 43, 95, 44, 45, 46, 47, 58, 61, 63]
def rgbC (c : UInt8) : Bool := (decide (48 ≤ c.toNat) && decide (c.toNat ≤ 57)) || (decide (65 ≤ c.toNat) && decide (c.toNat ≤ 90)) || (decide (97 ≤ c.toNat) && decide (c.toNat ≤ 122))
theorem bndC_eq (c : UInt8) : bndC c = (rgbC c || othL.contains c) := rfl
def okA (c : UInt8) (k : Nat) : Bool := rgbC c || (othL.take k).contains c
theorem okA_step {c d : UInt8} {k : Nat} (h : othL[k]? = some d) : okA c (k + 1) = (okA c k || (d == c)) := by
  unfold okA
  rw [List.take_add_one, h]
  have e : ∀ l : List UInt8, (l ++ [d]).contains c = (l.contains c || (d == c)) := by
    intro l
    induction l with
    | nil =>
      simp only [List.nil_append, List.contains_cons, List.contains_nil, Bool.or_false, Bool.false_or]
      rw [Bool.eq_iff_iff, beq_iff_eq, beq_iff_eq]
      exact ⟨Eq.symm, Eq.symm⟩
    | cons a l ih => rw [List.cons_append, List.contains_cons, ih, List.contains_cons, Bool.or_assoc]
  show (rgbC c || (othL.take k ++ [d]).contains c) = _
  rw [e, Bool.or_assoc]
end Wb
namespace Go.Proofs.YtmabhbihgenmcaaGreatDoor
open Go.RowKit Wb
theorem beg_pre {s t : ByteArray} {i : Nat} (h : i + t.size ≤ s.size) : begAt s i t = t.data.toList.isPrefixOf (s.data.toList.drop i) := by
  unfold begAt
  have hx : (s.extract i (i + t.size)).data.toList = (s.data.toList.drop i).take t.data.toList.length := by
    rw [Lib.extract_data, ← ba_size, Nat.add_sub_cancel_left]
  rw [Lib.toList_data, Lib.toList_data, hx]
  exact (Lib.occAt_iff_take s.data.toList t.data.toList i (by rw [← ba_size, ← ba_size]; exact h)).symm
theorem begB_pre (s t : ByteArray) (i : Nat) (ht : 0 < t.size) : begB s i t = t.data.toList.isPrefixOf (s.data.toList.drop i) := by
  unfold begB
  rw [decide_eq_true (show (0 : Int) ≤ (i : Int) by omega), Bool.true_and, Int.toNat_natCast]
  by_cases h : i + t.size ≤ s.size
  · rw [decide_eq_true (show (i : Int) + (t.size : Int) ≤ (s.size : Int) by omega), Bool.true_and]
    exact beg_pre h
  · rw [decide_eq_false (show ¬ (i : Int) + (t.size : Int) ≤ (s.size : Int) by omega), Bool.false_and]
    cases hq : t.data.toList.isPrefixOf (s.data.toList.drop i)
    · rfl
    · have hl := pre_len hq
      rw [List.length_drop, ← ba_size, ← ba_size] at hl
      omega
end Go.Proofs.YtmabhbihgenmcaaGreatDoor
namespace Wb
open Go Go.RowKit
theorem dAt_beg (b s : List UInt8) (i : Nat) : dAt b s i = ((delB b).isPrefixOf (s.drop i) && (decide (i = 0) || (decide (2 ≤ i) && ([13, 10] : List UInt8).isPrefixOf (s.drop (i - 2))))) := rfl
end Wb
namespace Go.Proofs.YtmabhbihgenmcaaGreatDoor
open Go.RowKit Wb
set_option maxRecDepth 100000 in
set_option maxHeartbeats 4000000 in
theorem rdelim_any (s b : ByteArray) (i : Nat) (w : World) (hs : s.size ≤ 1000000) (hb : b.size ≤ 1000000) (hi : i ≤ 1000000) :
    Calls Tryz.prog 62 #[.string s, .string b, .int .i64 i] w fun e w' => e = .returned (.bool (dAt b.data.toList s.data.toList i)) ∧ w = w' := by
  obtain ⟨k2, hk2⟩ : ∃ k, (⟨#[45, 45]⟩ : ByteArray) ++ b = k := ⟨_, rfl⟩
  have z2 : k2.size = 2 + b.size := by rw [← hk2, ByteArray.size_append]; rfl
  have l2 : k2.data.toList = delB b.data.toList := by rw [← hk2, ByteArray.data_append, Array.toList_append]; rfl
  have u2 : ¬ 9223372036854775807 < (⟨#[45, 45]⟩ : ByteArray).size + b.size := by have : (⟨#[45, 45]⟩ : ByteArray).size = 2 := rfl; omega
  have h1 := begins_any s k2 i w (by omega) (by omega) (by omega) (by omega)
  rw [begB_pre s k2 i (by omega), l2] at h1
  obtain ⟨R, hR⟩ : ∃ R, dAt b.data.toList s.data.toList i = R := ⟨_, rfl⟩
  rw [hR]
  rw [dAt_beg] at hR
  clear l2
  cases hp : (delB b.data.toList).isPrefixOf (s.data.toList.drop i)
  · rw [hp] at h1
    have HE : Hid (R = false) := Lib.hid (by rw [← hR, hp]; rfl)
    clear hp hR
    go_enter Tryz.func62, Tryz.ntmps62
    go_wp2_with fail
    refine h1.mono ?_
    rintro e w1 ⟨rfl, rfl⟩
    clear h1
    go_wp2
    go_ret
    exact ⟨by rw [HE.out]; rfl, by first | rfl | trivial⟩
  · rw [hp] at h1
    rw [hp, Bool.true_and] at hR
    clear hp
    by_cases h0 : i = 0
    · have HE : Hid (R = true) := Lib.hid (by rw [← hR, decide_eq_true h0]; rfl)
      have hz : ((i : Int) == 0) = true := by rw [beq_iff_eq]; omega
      clear hR h0
      go_enter Tryz.func62, Tryz.ntmps62
      go_wp2_with fail
      refine h1.mono ?_
      rintro e w1 ⟨rfl, rfl⟩
      clear h1
      go_wp2
      go_ret
      exact ⟨by rw [HE.out]; rfl, by first | rfl | trivial⟩
    · have hz : ((i : Int) == 0) = false := by rw [beq_eq_false_iff_ne]; omega
      rw [decide_eq_false h0, Bool.false_or] at hR
      have h3 := begins_any s ⟨#[13, 10]⟩ ((i : Int) - 2) w (by omega) (by decide) (by omega) (by omega)
      have e3 : begB s ((i : Int) - 2) ⟨#[13, 10]⟩ = R := by
        rw [← hR]
        by_cases h2 : 2 ≤ i
        · rw [decide_eq_true h2, Bool.true_and]
          have := begB_pre s ⟨#[13, 10]⟩ (i - 2) (by decide)
          rw [show (((i - 2 : Nat) : Int)) = (i : Int) - 2 from by omega] at this
          exact this
        · rw [decide_eq_false h2, Bool.false_and]
          unfold begB
          rw [decide_eq_false (show ¬ (0 : Int) ≤ (i : Int) - 2 by omega)]
          rfl
      rw [e3] at h3
      clear hR h0 e3
      go_enter Tryz.func62, Tryz.ntmps62
      go_wp2_with fail
      refine h1.mono ?_
      rintro e w1 ⟨rfl, rfl⟩
      clear h1
      go_wp2_with fail
      refine h3.mono ?_
      rintro e w1 ⟨rfl, rfl⟩
      clear h3
      go_wp2
      go_ret
      exact ⟨rfl, by first | rfl | trivial⟩
set_option maxRecDepth 100000 in
set_option maxHeartbeats 4000000 in
theorem rnext_any (s b : ByteArray) (a : Nat) (w : World) (hs : s.size ≤ 900000) (hb : b.size ≤ 1000000) (ha : a ≤ s.size) :
    Calls Tryz.prog 36 #[.string s, .string b, .int .i64 a] w fun e w' => ∃ r, e = .returned (.int .i64 r) ∧ NextIs b.data.toList s.data.toList a r ∧ w = w' := by
  go_enter Tryz.func36, Tryz.ntmps36
  go_wp2
  go_loopw [2] (fun v2 wr => ∃ i : Nat, a ≤ i ∧ i ≤ s.size ∧ v2 = .int .i64 i ∧ Hid (∀ j, a ≤ j → j < i → dAt b.data.toList s.data.toList j = false) ∧ wr = w) (fun v2 _ => s.size - (intOf v2).toNat)
  case atStart => exact ⟨a, by omega, ha, rfl, Lib.hid (fun j h1 h2 => by omega), rfl⟩
  case round =>
    obtain ⟨i, hai, hi, rfl, HD, rfl⟩ := hrel
    by_cases h0 : i < s.size
    · have h1 := rdelim_any s b i wr (by omega) (by omega) (by omega)
      cases hd : dAt b.data.toList s.data.toList i
      · rw [hd] at h1
        have HN : Hid (∀ j, a ≤ j → j < i + 1 → dAt b.data.toList s.data.toList j = false) := Lib.hid (fun j h2 h3 => by
          by_cases hj : j = i
          · rw [hj]; exact hd
          · exact HD.out j h2 (by omega))
        clear hd
        go_wp2_with fail
        refine h1.mono ?_
        rintro e w1 ⟨rfl, rfl⟩
        clear h1
        go_wp2
        go_roundw
        case rel => exact ⟨i + 1, by omega, by omega, by go_num, HN, by first | rfl | trivial⟩
        case measure => simp [intOf]; omega
      · rw [hd] at h1
        have HR : Hid (NextIs b.data.toList s.data.toList a (i : Int)) := Lib.hid (.inr ⟨i, rfl, hai, hd, HD.out⟩)
        clear hd
        go_wp2_with fail
        refine h1.mono ?_
        rintro e w1 ⟨rfl, rfl⟩
        clear h1
        go_wp2
        go_ret
        exact ⟨_, rfl, HR.out, by first | rfl | trivial⟩
    · have HR : Hid (NextIs b.data.toList s.data.toList a (-1)) := Lib.hid (.inl ⟨rfl, fun j hj => by
        by_cases h : j < i
        · exact HD.out j hj h
        · unfold dAt
          have : (delB b.data.toList).isPrefixOf (s.data.toList.drop j) = false := by
            cases hq : (delB b.data.toList).isPrefixOf (s.data.toList.drop j)
            · rfl
            · have h1 := pre_len hq
              have h2 := ba_size s
              rw [delB_len, List.length_drop] at h1
              omega
          rw [this]
          rfl⟩)
      go_wp2
      go_ret
      exact ⟨_, rfl, HR.out, by first | rfl | trivial⟩
end Go.Proofs.YtmabhbihgenmcaaGreatDoor
namespace Go.Proofs.YtmabhbihgenmcaaGreatDoor
open Go.RowKit Wb
set_option maxRecDepth 100000 in
set_option maxHeartbeats 8000000 in
theorem rmay_any (s : ByteArray) (w : World) (hs : s.size ≤ 1000000) :
    Calls Tryz.prog 16 #[.string s] w fun e w' => e = .returned (.bool (bndF s.data.toList)) ∧ Below w.heap.size w w' := by
  have hsz : (⟨#[39, 40, 41, 43, 95, 44, 45, 46, 47, 58, 61, 63]⟩ : ByteArray).size = 12 := rfl
  go_enter Tryz.func16, Tryz.ntmps16
  go_wp2
  go_loopw [3] (fun v3 wr => ∃ i : Nat, i ≤ s.size ∧ v3 = .int .i64 i ∧ Hid ((s.data.toList.take i).all bndC = true) ∧ Hid (Below w.heap.size w wr)) (fun v3 _ => s.size - (intOf v3).toNat)
  case atStart => exact ⟨0, by omega, rfl, Lib.hid rfl, Lib.hid (Below.refl _ _)⟩
  case round =>
    obtain ⟨i, hi, rfl, HA, HB⟩ := hrel
    by_cases h0 : i < s.size
    · have hg := ba_get h0
      have HTK := Lib.hid (all_take (p := bndC) hg)
      have HSP := Lib.hid (fun (h : bndC s[i] = false) => (show bndF s.data.toList = false from by unfold bndF; rw [all_stop hg h]; rfl))
      clear hg
      have hrg : (rgbC s[i] = false ∧ s[i].toNat < 48) ∨ (rgbC s[i] = true ∧ 48 ≤ s[i].toNat ∧ s[i].toNat ≤ 57) ∨ (rgbC s[i] = false ∧ 57 < s[i].toNat ∧ s[i].toNat < 65) ∨ (rgbC s[i] = true ∧ 65 ≤ s[i].toNat ∧ s[i].toNat ≤ 90) ∨
          (rgbC s[i] = false ∧ 90 < s[i].toNat ∧ s[i].toNat < 97) ∨ (rgbC s[i] = true ∧ 97 ≤ s[i].toNat ∧ s[i].toNat ≤ 122) ∨ (rgbC s[i] = false ∧ 122 < s[i].toNat) := by
        have hf : ∀ b : Bool, (rgbC s[i] = b ↔ ((48 ≤ s[i].toNat ∧ s[i].toNat ≤ 57) ∨ (65 ≤ s[i].toNat ∧ s[i].toNat ≤ 90) ∨ (97 ≤ s[i].toNat ∧ s[i].toNat ≤ 122) ↔ b = true)) := by
          intro b
          unfold rgbC
          rw [Bool.eq_iff_iff]
          simp only [Bool.or_eq_true, Bool.and_eq_true, decide_eq_true_eq, or_assoc]
        rw [hf false, hf true]
        simp only [Bool.false_eq_true, iff_false, iff_true]
        omega
      have HOK : Hid (okA s[i] 0 = rgbC s[i]) := Lib.hid (by unfold okA; simp)
      rcases hrg with ⟨hr, h1⟩ | ⟨hr, h1, h2⟩ | ⟨hr, h1, h2⟩ | ⟨hr, h1, h2⟩ | ⟨hr, h1, h2⟩ | ⟨hr, h1, h2⟩ | ⟨hr, h1⟩
      all_goals
        rw [hr] at HOK
        clear hr
        go_wp2
        go_loopw [5, 6] (fun v5 v6 wq => ∃ (k : Nat) (q : Bool), k ≤ 12 ∧ v6 = .int .i64 k ∧ v5 = .bool q ∧ Hid (okA s[i] k = q) ∧ Hid (Below w.heap.size w wq)) (fun _ v6 _ => 12 - (intOf v6).toNat)
        case atStart =>
          refine ⟨0, _, by omega, rfl, rfl, Lib.hid (HOK.out.trans ?_), HB⟩
          first
          | rfl
          | (simp; done)
          | (simp; omega)
        case round =>
          obtain ⟨k, q, hk, rfl, rfl, HQ, HB2⟩ := hrel
          by_cases hk0 : k < 12
          · have hgl : othL[k]? = some ((⟨#[39, 40, 41, 43, 95, 44, 45, 46, 47, 58, 61, 63]⟩ : ByteArray)[k]'(by rw [hsz]; exact hk0)) := ba_get (s := (⟨#[39, 40, 41, 43, 95, 44, 45, 46, 47, 58, 61, 63]⟩ : ByteArray)) (i := k) (by rw [hsz]; exact hk0)
            have hst := okA_step (c := s[i]) hgl
            rw [HQ.out] at hst
            cases q
            · have t1 : ∀ b : Bool, (((⟨#[39, 40, 41, 43, 95, 44, 45, 46, 47, 58, 61, 63]⟩ : ByteArray)[k]'(by rw [hsz]; exact hk0)) == s[i]) = b → ((((⟨#[39, 40, 41, 43, 95, 44, 45, 46, 47, 58, 61, 63]⟩ : ByteArray)[k]'(by rw [hsz]; exact hk0)).toNat : Int) == (s[i].toNat : Int)) = b := by
                intro b hb
                rw [← hb, Bool.eq_iff_iff, beq_iff_eq, beq_iff_eq]
                exact ⟨fun h => UInt8.toNat_inj.1 (by omega), fun h => by rw [h]⟩
              rw [Bool.false_or] at hst
              cases hd : (((⟨#[39, 40, 41, 43, 95, 44, 45, 46, 47, 58, 61, 63]⟩ : ByteArray)[k]'(by rw [hsz]; exact hk0)) == s[i])
              all_goals
                have t2 := t1 _ hd
                rw [hd] at hst
                have HN := Lib.hid hst
                clear hd t1 hst hgl
                go_wp2
                go_roundw
                case rel => exact ⟨k + 1, _, by omega, by go_num, rfl, HN, HB2⟩
                case measure => simp [intOf]; omega
            · rw [Bool.true_or] at hst
              have HN := Lib.hid hst
              clear hst hgl
              go_wp2
              go_roundw
              case rel => exact ⟨k + 1, _, by omega, by go_num, rfl, HN, HB2⟩
              case measure => simp [intOf]; omega
          · obtain rfl : k = 12 := by omega
            have HBC : Hid (bndC s[i] = q) := Lib.hid (by rw [← HQ.out]; rfl)
            cases q
            · have HE := Lib.hid (HSP.out HBC.out)
              go_wp2
              go_ret
              exact ⟨by rw [HE.out]; rfl, HB2.out⟩
            · have HN : Hid ((s.data.toList.take (i + 1)).all bndC = true) := Lib.hid (by rw [HTK.out, HA.out, HBC.out]; rfl)
              go_wp2
              go_roundw
              case rel => exact ⟨i + 1, by omega, by go_num, HN, HB2⟩
              case measure => simp [intOf]; omega
    · obtain rfl : i = s.size := by omega
      have hl := ba_size s
      have HT : Hid (bndF s.data.toList = (decide (1 ≤ s.size) && decide (s.size ≤ 70))) := Lib.hid (by
        have h := HA.out
        rw [hl, List.take_length] at h
        unfold bndF
        rw [h, Bool.true_and, hl])
      clear hl
      by_cases h1 : 1 ≤ s.size
      · by_cases h2 : s.size ≤ 70
        · have HE : Hid (bndF s.data.toList = true) := Lib.hid (by rw [HT.out, decide_eq_true h1, decide_eq_true h2]; rfl)
          go_wp2
          go_ret
          exact ⟨ret_b (by first | (rw [HE.out]; done) | (rw [HE.out]; rfl) | (rw [HE.out]; simp; done) | (rw [HE.out]; simp; omega)), HB.out⟩
        · have HE : Hid (bndF s.data.toList = false) := Lib.hid (by rw [HT.out, decide_eq_true h1, decide_eq_false h2]; rfl)
          go_wp2
          go_ret
          exact ⟨ret_b (by first | (rw [HE.out]; done) | (rw [HE.out]; rfl) | (rw [HE.out]; simp; done) | (rw [HE.out]; simp; omega)), HB.out⟩
      · have HE : Hid (bndF s.data.toList = false) := Lib.hid (by rw [HT.out, decide_eq_false h1]; rfl)
        go_wp2
        go_ret
        exact ⟨ret_b (by first | (rw [HE.out]; done) | (rw [HE.out]; rfl) | (rw [HE.out]; simp; done) | (rw [HE.out]; simp; omega)), HB.out⟩
end Go.Proofs.YtmabhbihgenmcaaGreatDoor
