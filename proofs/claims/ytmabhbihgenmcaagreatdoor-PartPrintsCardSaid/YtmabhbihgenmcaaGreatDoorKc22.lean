/- QcP QcQ. -/
import Derived.Test.YtmabhbihgenmcaaGreatDoorKc18
import Derived.Test.YtmabhbihgenmcaaGreatDoorKc21
namespace Wb
open Go Go.RowKit
def othL : List UInt8 := [39, 40, 41, 43, 95, 44, 45, 46, 47, 58, 61, 63]
def rgbC (c : UInt8) : Bool := (decide (48 ≤ c.toNat) && decide (c.toNat ≤ 57)) || (decide (65 ≤ c.toNat) && decide (c.toNat ≤ 90)) || (decide (97 ≤ c.toNat) && decide (c.toNat ≤ 122))
theorem bndC_eq (c : UInt8) : bndC c = (rgbC c || othL.contains c) := rfl
def okA (c : UInt8) (k : Nat) : Bool := rgbC c || (othL.take k).contains c
theorem okA_step {c d : UInt8} {k : Nat} (h : othL[k]? = some d) : okA c (k + 1) = (okA c k || (d == c)) := by
  unfold okA
  rw [List.take_add_one, h]
  have e : ∀ l : List UInt8, (l ++ [d]).contains c = (l.contains c || (d == c)) := by
    intro l
    induction l with
    | nil =>
      simp only [List.nil_append, List.contains_cons, List.contains_nil, Bool.or_false, Bool.false_or]
      rw [Bool.eq_iff_iff, beq_iff_eq, beq_iff_eq]
      exact ⟨Eq.symm, Eq.symm⟩
    | cons a l ih => rw [List.cons_append, List.contains_cons, ih, List.contains_cons, Bool.or_assoc]
  show (rgbC c || (othL.take k ++ [d]).contains c) = _
  rw [e, Bool.or_assoc]
end Wb
namespace Go.Proofs.YtmabhbihgenmcaaGreatDoor
open Go.RowKit Wb
theorem beg_pre {s t : ByteArray} {i : Nat} (h : i + t.size ≤ s.size) : begAt s i t = t.data.toList.isPrefixOf (s.data.toList.drop i) := by
  unfold begAt
  have hx : (s.extract i (i + t.size)).data.toList = (s.data.toList.drop i).take t.data.toList.length := by
    rw [Lib.extract_data, ← ba_size, Nat.add_sub_cancel_left]
  rw [Lib.toList_data, Lib.toList_data, hx]
  exact (Lib.occAt_iff_take s.data.toList t.data.toList i (by rw [← ba_size, ← ba_size]; exact h)).symm
theorem begB_pre (s t : ByteArray) (i : Nat) (ht : 0 < t.size) : begB s i t = t.data.toList.isPrefixOf (s.data.toList.drop i) := by
  unfold begB
  rw [decide_eq_true (show (0 : Int) ≤ (i : Int) by omega), Bool.true_and, Int.toNat_natCast]
  by_cases h : i + t.size ≤ s.size
  · rw [decide_eq_true (show (i : Int) + (t.size : Int) ≤ (s.size : Int) by omega), Bool.true_and]
    exact beg_pre h
  · rw [decide_eq_false (show ¬ (i : Int) + (t.size : Int) ≤ (s.size : Int) by omega), Bool.false_and]
    cases hq : t.data.toList.isPrefixOf (s.data.toList.drop i)
    · rfl
    · have hl := pre_len hq
      rw [List.length_drop, ← ba_size, ← ba_size] at hl
      omega
theorem idx_inF {s t : ByteArray} {r : Int} (ht : t.data.toList ≠ []) (h : IdxIs s 0 t r) : (r = -1 ∧ inF t.data.toList s.data.toList = false) ∨ (0 ≤ r ∧ inF t.data.toList s.data.toList = true) := by
  rcases h with ⟨h1, h2⟩ | ⟨k, h1, _, h3, h4, _⟩
  · refine .inl ⟨h1, ?_⟩
    cases hq : inF t.data.toList s.data.toList
    · rfl
    · obtain ⟨j, hj⟩ := (inF_iff ht _).1 hq
      have hl := hj.length_le
      rw [List.length_drop, ← ba_size, ← ba_size] at hl
      have ht0 : 0 < t.size := by
        rw [ba_size]
        exact List.length_pos_iff.2 ht
      have := h2 j (Nat.zero_le _) (by omega)
      rw [beg_pre (by omega), List.isPrefixOf_iff_prefix.2 hj] at this
      cases this
  · refine .inr ⟨by omega, (inF_iff ht _).2 ⟨k, ?_⟩⟩
    rw [beg_pre h3] at h4
    exact List.isPrefixOf_iff_prefix.1 h4
set_option maxRecDepth 100000 in
set_option maxHeartbeats 4000000 in
theorem rclash_any (b body : ByteArray) (w : World) (hb : b.size ≤ 1000000) (hs : body.size ≤ 1000000) :
    Calls Tryz.prog 40 #[.string b, .string body] w fun e w' => e = .returned (.bool (clashB b.data.toList body.data.toList)) ∧ w = w' := by
  obtain ⟨k1, hk1⟩ : ∃ k, (⟨#[13, 10]⟩ : ByteArray) ++ body = k := ⟨_, rfl⟩
  obtain ⟨k2, hk2⟩ : ∃ k, (⟨#[13, 10, 45, 45]⟩ : ByteArray) ++ b = k := ⟨_, rfl⟩
  have z1 : k1.size = 2 + body.size := by rw [← hk1, ByteArray.size_append]; rfl
  have z2 : k2.size = 4 + b.size := by rw [← hk2, ByteArray.size_append]; rfl
  have l1 : k1.data.toList = 13 :: 10 :: body.data.toList := by rw [← hk1, ByteArray.data_append, Array.toList_append]; rfl
  have l2 : k2.data.toList = lineD b.data.toList := by rw [← hk2, ByteArray.data_append, Array.toList_append]; rfl
  have h1 := index_any k1 k2 0 w (by omega) (by omega) (by omega)
  have h2 : ∀ r, IdxIs k1 0 k2 r → (r = -1 ∧ clashB b.data.toList body.data.toList = false) ∨ (0 ≤ r ∧ clashB b.data.toList body.data.toList = true) := fun r h => by
    have := idx_inF (by rw [l2]; unfold lineD; simp) h
    rw [l1, l2] at this
    exact this
  have H2 := Lib.hid h2
  have u1 : ¬ 9223372036854775807 < (⟨#[13, 10]⟩ : ByteArray).size + body.size := by have : (⟨#[13, 10]⟩ : ByteArray).size = 2 := rfl; omega
  have u2 : ¬ 9223372036854775807 < (⟨#[13, 10, 45, 45]⟩ : ByteArray).size + b.size := by have : (⟨#[13, 10, 45, 45]⟩ : ByteArray).size = 4 := rfl; omega
  obtain ⟨q, hq⟩ : ∃ q, clashB b.data.toList body.data.toList = q := ⟨_, rfl⟩
  rw [hq] at H2 ⊢
  clear l1 l2 h2 hq
  go_enter Tryz.func40, Tryz.ntmps40
  go_wp2_with fail
  refine h1.mono ?_
  rintro e w1 ⟨r, rfl, hi, rfl⟩
  rcases H2.out r hi with ⟨rfl, rfl⟩ | ⟨h3, rfl⟩
  · clear h1 hi
    go_wp2
    go_ret
    exact ⟨rfl, by first | rfl | trivial⟩
  · clear h1 hi
    go_wp2
    go_ret
    exact ⟨rfl, by first | rfl | trivial⟩
end Go.Proofs.YtmabhbihgenmcaaGreatDoor
namespace Go.Proofs.YtmabhbihgenmcaaGreatDoor
open Go.RowKit Wb
set_option maxRecDepth 100000 in
set_option maxHeartbeats 8000000 in
theorem rmay_any (s : ByteArray) (w : World) (hs : s.size ≤ 1000000) :
    Calls Tryz.prog 16 #[.string s] w fun e w' => e = .returned (.bool (bndF s.data.toList)) ∧ Below w.heap.size w w' := by
  have hsz : (⟨#[39, 40, 41, 43, 95, 44, 45, 46, 47, 58, 61, 63]⟩ : ByteArray).size = 12 := rfl
  go_enter Tryz.func16, Tryz.ntmps16
  go_wp2
  go_loopw [3] (fun v3 wr => ∃ i : Nat, i ≤ s.size ∧ v3 = .int .i64 i ∧ Hid ((s.data.toList.take i).all bndC = true) ∧ Hid (Below w.heap.size w wr)) (fun v3 _ => s.size - (intOf v3).toNat)
  case atStart => exact ⟨0, by omega, rfl, Lib.hid rfl, Lib.hid (Below.refl _ _)⟩
  case round =>
    obtain ⟨i, hi, rfl, HA, HB⟩ := hrel
    by_cases h0 : i < s.size
    · have hg := ba_get h0
      have HTK := Lib.hid (all_take (p := bndC) hg)
      have HSP := Lib.hid (fun (h : bndC s[i] = false) => (show bndF s.data.toList = false from by unfold bndF; rw [all_stop hg h]; rfl))
      clear hg
      have hrg : (rgbC s[i] = false ∧ s[i].toNat < 48) ∨ (rgbC s[i] = true ∧ 48 ≤ s[i].toNat ∧ s[i].toNat ≤ 57) ∨ (rgbC s[i] = false ∧ 57 < s[i].toNat ∧ s[i].toNat < 65) ∨ (rgbC s[i] = true ∧ 65 ≤ s[i].toNat ∧ s[i].toNat ≤ 90) ∨
          (rgbC s[i] = false ∧ 90 < s[i].toNat ∧ s[i].toNat < 97) ∨ (rgbC s[i] = true ∧ 97 ≤ s[i].toNat ∧ s[i].toNat ≤ 122) ∨ (rgbC s[i] = false ∧ 122 < s[i].toNat) := by
        have hf : ∀ b : Bool, (rgbC s[i] = b ↔ ((48 ≤ s[i].toNat ∧ s[i].toNat ≤ 57) ∨ (65 ≤ s[i].toNat ∧ s[i].toNat ≤ 90) ∨ (97 ≤ s[i].toNat ∧ s[i].toNat ≤ 122) ↔ b = true)) := by
          intro b
          unfold rgbC
          rw [Bool.eq_iff_iff]
          simp only [Bool.or_eq_true, Bool.and_eq_true, decide_eq_true_eq, or_assoc]
        rw [hf false, hf true]
        simp only [Bool.false_eq_true, iff_false, iff_true]
        omega
      have HOK : Hid (okA s[i] 0 = rgbC s[i]) := Lib.hid (by unfold okA; simp)
      rcases hrg with ⟨hr, h1⟩ | ⟨hr, h1, h2⟩ | ⟨hr, h1, h2⟩ | ⟨hr, h1, h2⟩ | ⟨hr, h1, h2⟩ | ⟨hr, h1, h2⟩ | ⟨hr, h1⟩
      all_goals
        rw [hr] at HOK
        clear hr
        go_wp2
        go_loopw [5, 6] (fun v5 v6 wq => ∃ (k : Nat) (q : Bool), k ≤ 12 ∧ v6 = .int .i64 k ∧ v5 = .bool q ∧ Hid (okA s[i] k = q) ∧ Hid (Below w.heap.size w wq)) (fun _ v6 _ => 12 - (intOf v6).toNat)
        case atStart =>
          refine ⟨0, _, by omega, rfl, rfl, Lib.hid (HOK.out.trans ?_), HB⟩
          first
          | rfl
          | (simp; done)
          | (simp; omega)
        case round =>
          obtain ⟨k, q, hk, rfl, rfl, HQ, HB2⟩ := hrel
          by_cases hk0 : k < 12
          · have hgl : othL[k]? = some ((⟨#[39, 40, 41, 43, 95, 44, 45, 46, 47, 58, 61, 63]⟩ : ByteArray)[k]'(by rw [hsz]; exact hk0)) := ba_get (s := (⟨#[39, 40, 41, 43, 95, 44, 45, 46, 47, 58, 61, 63]⟩ : ByteArray)) (i := k) (by rw [hsz]; exact hk0)
            have hst := okA_step (c := s[i]) hgl
            rw [HQ.out] at hst
            cases q
            · have t1 : ∀ b : Bool, (((⟨#[39, 40, 41, 43, 95, 44, 45, 46, 47, 58, 61, 63]⟩ : ByteArray)[k]'(by rw [hsz]; exact hk0)) == s[i]) = b → ((((⟨#[39, 40, 41, 43, 95, 44, 45, 46, 47, 58, 61, 63]⟩ : ByteArray)[k]'(by rw [hsz]; exact hk0)).toNat : Int) == (s[i].toNat : Int)) = b := by
                intro b hb
                rw [← hb, Bool.eq_iff_iff, beq_iff_eq, beq_iff_eq]
                exact ⟨fun h => UInt8.toNat_inj.1 (by omega), fun h => by rw [h]⟩
              rw [Bool.false_or] at hst
              cases hd : (((⟨#[39, 40, 41, 43, 95, 44, 45, 46, 47, 58, 61, 63]⟩ : ByteArray)[k]'(by rw [hsz]; exact hk0)) == s[i])
              all_goals
                have t2 := t1 _ hd
                rw [hd] at hst
                have HN := Lib.hid hst
                clear hd t1 hst hgl
                go_wp2
                go_roundw
                case rel => exact ⟨k + 1, _, by omega, by go_num, rfl, HN, HB2⟩
                case measure => simp [intOf]; omega
            · rw [Bool.true_or] at hst
              have HN := Lib.hid hst
              clear hst hgl
              go_wp2
              go_roundw
              case rel => exact ⟨k + 1, _, by omega, by go_num, rfl, HN, HB2⟩
              case measure => simp [intOf]; omega
          · obtain rfl : k = 12 := by omega
            have HBC : Hid (bndC s[i] = q) := Lib.hid (by rw [← HQ.out]; rfl)
            cases q
            · have HE := Lib.hid (HSP.out HBC.out)
              go_wp2
              go_ret
              exact ⟨by rw [HE.out]; rfl, HB2.out⟩
            · have HN : Hid ((s.data.toList.take (i + 1)).all bndC = true) := Lib.hid (by rw [HTK.out, HA.out, HBC.out]; rfl)
              go_wp2
              go_roundw
              case rel => exact ⟨i + 1, by omega, by go_num, HN, HB2⟩
              case measure => simp [intOf]; omega
    · obtain rfl : i = s.size := by omega
      have hl := ba_size s
      have HT : Hid (bndF s.data.toList = (decide (1 ≤ s.size) && decide (s.size ≤ 70))) := Lib.hid (by
        have h := HA.out
        rw [hl, List.take_length] at h
        unfold bndF
        rw [h, Bool.true_and, hl])
      clear hl
      by_cases h1 : 1 ≤ s.size
      · by_cases h2 : s.size ≤ 70
        · have HE : Hid (bndF s.data.toList = true) := Lib.hid (by rw [HT.out, decide_eq_true h1, decide_eq_true h2]; rfl)
          go_wp2
          go_ret
          exact ⟨ret_b (by first | (rw [HE.out]; done) | (rw [HE.out]; rfl) | (rw [HE.out]; simp; done) | (rw [HE.out]; simp; omega)), HB.out⟩
        · have HE : Hid (bndF s.data.toList = false) := Lib.hid (by rw [HT.out, decide_eq_true h1, decide_eq_false h2]; rfl)
          go_wp2
          go_ret
          exact ⟨ret_b (by first | (rw [HE.out]; done) | (rw [HE.out]; rfl) | (rw [HE.out]; simp; done) | (rw [HE.out]; simp; omega)), HB.out⟩
      · have HE : Hid (bndF s.data.toList = false) := Lib.hid (by rw [HT.out, decide_eq_false h1]; rfl)
        go_wp2
        go_ret
        exact ⟨ret_b (by first | (rw [HE.out]; done) | (rw [HE.out]; rfl) | (rw [HE.out]; simp; done) | (rw [HE.out]; simp; omega)), HB.out⟩
set_option maxRecDepth 100000 in
set_option maxHeartbeats 8000000 in
theorem rclashes_any (b : ByteArray) (A : Option Addr) (L : List PtV) (c : Nat) (w : World) (hb : b.size ≤ 100000) (hS : SlP w A L) (hl : L.length ≤ 60) (hz : ∀ x ∈ L, PartZ x) :
    Calls Tryz.prog 17 #[.string b, .slice A L.length c] w fun e w' => e = .returned (.bool (clashL b.data.toList (ptsOf L))) ∧ Below w.heap.size w w' := by
  rw [clashL_eq]
  obtain ⟨R, hR⟩ : ∃ R, L.any (clashV b.data.toList) = R := ⟨_, rfl⟩
  rw [hR]
  have HR := Lib.hid hR
  have HS := Lib.hid hS
  have HZ := Lib.hid hz
  obtain ⟨k2, hk2⟩ : ∃ k, (⟨#[45, 45]⟩ : ByteArray) ++ b = k := ⟨_, rfl⟩
  have z2 : k2.size = 2 + b.size := by rw [← hk2, ByteArray.size_append]; rfl
  have l2 : k2.data.toList = delB b.data.toList := by rw [← hk2, ByteArray.data_append, Array.toList_append]; rfl
  have u2 : ¬ 9223372036854775807 < (⟨#[45, 45]⟩ : ByteArray).size + b.size := by have : (⟨#[45, 45]⟩ : ByteArray).size = 2 := rfl; omega
  have HL2 := Lib.hid l2
  clear hR hS hz l2
  go_enter Tryz.func17, Tryz.ntmps17
  go_wp2
  go_loopw [5] (fun v5 wr => ∃ i : Nat, i ≤ L.length ∧ v5 = .int .i64 i ∧ Hid (R = (L.drop i).any (clashV b.data.toList)) ∧ Hid (Below w.heap.size w wr)) (fun v5 _ => L.length - (intOf v5).toNat)
  case atStart => exact ⟨0, by omega, rfl, Lib.hid (by rw [List.drop_zero]; exact HR.out.symm), Lib.hid (Below.refl _ _)⟩
  case round =>
    obtain ⟨i, hi, rfl, HQ, HB⟩ := hrel
    by_cases h0 : i < L.length
    · obtain ⟨⟨⟨x1, x3⟩, ⟨fs, body⟩⟩, hx⟩ : ∃ x, L[i]? = some x := ⟨L[i], List.getElem?_eq_getElem h0⟩
      obtain ⟨zb, zl, zt⟩ := HZ.out _ (List.mem_of_getElem? hx)
      obtain ⟨ad, rfl, had, d0, d1, hfs⟩ := (HS.out.below HB.out).at_ hx
      have hst : R = (clashV b.data.toList ((x1, x3), (fs, body)) || (L.drop (i + 1)).any (clashV b.data.toList)) := by
        obtain ⟨hi2, e⟩ := List.getElem?_eq_some_iff.1 hx
        rw [HQ.out, List.drop_eq_getElem_cons hi2, e, List.any_cons]
      have hce := clashV_eq b.data.toList ((x1, x3), (fs, body))
      simp only at zb zl zt d0 d1 hfs hce
      have k1 := rclash_any b body wr (by omega) (by omega)
      have HFS := Lib.hid hfs
      clear hx hfs
      cases hcb : clashB b.data.toList body.data.toList
      · rw [hcb] at k1 hce
        rw [hce, Bool.false_or] at hst
        have HST := Lib.hid hst
        clear hst hce hcb
        go_wp2_with fail
        refine k1.mono ?_
        rintro e w1 ⟨rfl, rfl⟩
        clear k1
        go_wp2
        go_loopw [6] (fun v6 wq => ∃ k : Nat, k ≤ fs.length ∧ v6 = .int .i64 k ∧ Hid (R = ((fs.drop k).any (nameV b.data.toList) || (L.drop (i + 1)).any (clashV b.data.toList))) ∧ wq = wr) (fun v6 _ => fs.length - (intOf v6).toNat)
        case atStart => exact ⟨0, by omega, rfl, Lib.hid (by rw [List.drop_zero]; exact HST.out), rfl⟩
        case round =>
          obtain ⟨k, hk, rfl, HQ2, rfl⟩ := hrel
          by_cases hk0 : k < fs.length
          · obtain ⟨⟨f1, f2⟩, hf⟩ : ∃ f, fs[k]? = some f := ⟨fs[k], List.getElem?_eq_getElem hk0⟩
            have hfm := tot7_mem (List.mem_of_getElem? hf)
            obtain ⟨bd, rfl, hbd, b0, b1⟩ := HFS.out.at_ hf
            have hst2 : R = (nameV b.data.toList (f1, f2) || (fs.drop (k + 1)).any (nameV b.data.toList) || (L.drop (i + 1)).any (clashV b.data.toList)) := by
              obtain ⟨hi2, e⟩ := List.getElem?_eq_some_iff.1 hf
              rw [HQ2.out, List.drop_eq_getElem_cons hi2, e, List.any_cons]
            simp only at hfm b0 b1
            obtain ⟨k1, hk1⟩ : ∃ q, f1 ++ (⟨#[58]⟩ : ByteArray) = q := ⟨_, rfl⟩
            have z1 : k1.size = f1.size + 1 := by rw [← hk1, ByteArray.size_append]; rfl
            have l1 : k1.data.toList = f1.data.toList ++ [58] := by rw [← hk1, ByteArray.data_append, Array.toList_append]
            have u1 : ¬ 9223372036854775807 < f1.size + (⟨#[58]⟩ : ByteArray).size := by have : (⟨#[58]⟩ : ByteArray).size = 1 := rfl; omega
            have kb := begins_any k1 k2 0 wr (by omega) (by omega) (by omega) (by omega)
            have he := begB_pre k1 k2 0 (by omega)
            rw [List.drop_zero, l1, HL2.out] at he
            have he : begB k1 0 k2 = nameV b.data.toList (f1, f2) := he
            rw [he] at kb
            clear hf l1 he hbd b1
            cases hnv : nameV b.data.toList (f1, f2)
            · rw [hnv] at kb
              rw [hnv, Bool.false_or] at hst2
              have HN := Lib.hid hst2
              clear hst2 hnv
              go_wp2_with fail
              refine kb.mono ?_
              rintro e w1 ⟨rfl, rfl⟩
              clear kb
              go_wp2
              go_roundw
              case rel => exact ⟨k + 1, by omega, by go_num, HN, by first | rfl | trivial⟩
              case measure => simp [intOf]; omega
            · rw [hnv] at kb
              rw [hnv, Bool.true_or, Bool.true_or] at hst2
              have HE := Lib.hid hst2
              clear hst2 hnv
              go_wp2_with fail
              refine kb.mono ?_
              rintro e w1 ⟨rfl, rfl⟩
              clear kb
              go_wp2
              go_ret
              exact ⟨by rw [HE.out]; rfl, HB.out⟩
          · obtain rfl : k = fs.length := by omega
            have HN : Hid (R = (L.drop (i + 1)).any (clashV b.data.toList)) := Lib.hid (by rw [HQ2.out, List.drop_length]; rfl)
            go_wp2
            go_roundw
            case rel => exact ⟨i + 1, by omega, by go_num, HN, HB⟩
            case measure => simp [intOf]; omega
      · rw [hcb] at k1 hce
        rw [hce, Bool.true_or, Bool.true_or] at hst
        have HE := Lib.hid hst
        clear hst hce hcb
        go_wp2_with fail
        refine k1.mono ?_
        rintro e w1 ⟨rfl, rfl⟩
        clear k1
        go_wp2
        go_ret
        exact ⟨by rw [HE.out]; rfl, HB.out⟩
    · have HE : Hid (R = false) := Lib.hid (by rw [HQ.out, List.drop_eq_nil_of_le (by omega)]; rfl)
      go_wp2
      go_ret
      exact ⟨by rw [HE.out]; rfl, HB.out⟩
end Go.Proofs.YtmabhbihgenmcaaGreatDoor
