/- UeB. -/
import Derived.Test.YtbdamneophbnnaaGreatDoorCZ14
namespace Wb
open Go
theorem docK_own {s a s1 u s2 k s3 x s4 d r : List UInt8} {b1 b2 b3 b4 b5 : Bool} (h1 : Lib.cut s [47] = (a, s1, b1)) (h2 : Lib.cut s1 [47] = (u, s2, b2)) (h3 : Lib.cut s2 [47] = (k, s3, b3)) (h4 : Lib.cut s3 [47] = (x, s4, b4)) (h5 : Lib.cut s4 [47] = (d, r, b5)) (hk : k = sUsers) :
    docK s = ((u, x, d, true), b4 && (!b5 && decide (a = []))) := by
  unfold docK
  rw [h1, h2, h3, h4, h5, if_pos hk]
theorem docK_glo {s a s1 u s2 k s3 d r : List UInt8} {b1 b2 b3 b4 : Bool} (h1 : Lib.cut s [47] = (a, s1, b1)) (h2 : Lib.cut s1 [47] = (u, s2, b2)) (h3 : Lib.cut s2 [47] = (k, s3, b3)) (h4 : Lib.cut s3 [47] = (d, r, b4)) (hk : ¬ k = sUsers) :
    docK s = ((u, [], d, false), b3 && (!b4 && (decide (a = []) && decide (k = sGlob)))) := by
  unfold docK
  rw [h1, h2, h3, h4, if_neg hk]
end Wb
namespace Go.Proofs.YtbdamneophbnnaaGreatDoor
open Go.RowKit Wb
theorem cut4_any (s : ByteArray) (w : World) (hs : s.size ≤ 1000000000) (hG : GvS w) :
    Calls Tryz.prog 33 #[.string s, .string ⟨#[47, 126, 126, 47]⟩] w fun e w' => e = .returned (.tuple #[.string (mkT (Lib.cut s.data.toList ssl11).1), .string (mkT (Lib.cut s.data.toList ssl11).2.1), .bool (Lib.cut s.data.toList ssl11).2.2]) ∧ Below w.heap.size w w' := by
  obtain ⟨m, hm⟩ := hG.m
  have h1 := Tryz.strings_Cut s ⟨#[47, 126, 126, 47]⟩ m w (by omega) hm
  exact h1.mono fun e w' h => ⟨h.1, by obtain ⟨_, n, rfl⟩ := h; exact ⟨rfl, rfl, rfl, Nat.le_refl _, fun _ _ => rfl⟩⟩
theorem cut4_le (s : List UInt8) : (Lib.cut s ssl11).1.length ≤ s.length ∧ (Lib.cut s ssl11).2.1.length ≤ s.length := by
  unfold Lib.cut
  split
  · simp only [List.length_take, List.length_drop]
    omega
  · simp
set_option maxHeartbeats 16000000 in
set_option maxRecDepth 100000 in
theorem cutDocument_any (w0 : World) (g : Nat) (v0 v2 v3 v4 v5 v6 : Value) (s : ByteArray) (w : World) (hk0 : OwnB g w0 w #[v0, .string ⟨#[]⟩, v2, v3, v4, v5, v6] 48) (hb0 : Below w0.heap.size w0 w) (hs : s.size ≤ 1000000) (hG : GvS w0) :
    Calls Tryz.prog 34 #[.pointer (some ⟨g, 0, none⟩), .string s] w fun e w' => e = .returned (.bool (docK s.data.toList).2) ∧ OwnB g w0 w' #[.string (mkT (docK s.data.toList).1.1), .string (mkT (docK s.data.toList).1.2.1), .string (mkT (docK s.data.toList).1.2.2.1), .bool (docK s.data.toList).1.2.2.2, v4, v5, v6] 48 ∧ Below w0.heap.size w0 w' := by
  have hsl : s.data.toList.length = s.size := by simp
  obtain ⟨a, s1, b1, h1⟩ : ∃ P R b, Lib.cut s.data.toList [47] = (P, R, b) := ⟨_, _, _, rfl⟩
  obtain ⟨u, s2, b2, h2⟩ : ∃ P R b, Lib.cut s1 [47] = (P, R, b) := ⟨_, _, _, rfl⟩
  obtain ⟨k, s3, b3, h3⟩ : ∃ P R b, Lib.cut s2 [47] = (P, R, b) := ⟨_, _, _, rfl⟩
  obtain ⟨x, s4, b4, h4⟩ : ∃ P R b, Lib.cut s3 [47] = (P, R, b) := ⟨_, _, _, rfl⟩
  obtain ⟨d, r, b5, h5⟩ : ∃ P R b, Lib.cut s4 [47] = (P, R, b) := ⟨_, _, _, rfl⟩
  have l1 := (cut_le s.data.toList 47).2
  rw [h1] at l1
  have l2 := (cut_le s1 47).2
  rw [h2] at l2
  have l3 := (cut_le s2 47).2
  rw [h3] at l3
  have l4 := (cut_le s3 47).2
  rw [h4] at l4
  simp only at l1 l2 l3 l4
  have k1 := fun v hv => cut1_any s 47 v (by omega) hv
  rw [h1] at k1
  have k2 := fun v hv => cut1_any (mkT s1) 47 v (by rw [mkT_size]; omega) hv
  rw [mkT_list, h2] at k2
  have k3 := fun v hv => cut1_any (mkT s2) 47 v (by rw [mkT_size]; omega) hv
  rw [mkT_list, h3] at k3
  have k4 := fun v hv => cut1_any (mkT s3) 47 v (by rw [mkT_size]; omega) hv
  rw [mkT_list, h4] at k4
  have k5 := fun v hv => cut1_any (mkT s4) 47 v (by rw [mkT_size]; omega) hv
  rw [mkT_list, h5] at k5
  simp only at k1 k2 k3 k4 k5
  have K1 := Lib.hid k1
  have K2 := Lib.hid k2
  have K3 := Lib.hid k3
  have K4 := Lib.hid k4
  have K5 := Lib.hid k5
  have HG := Lib.hid (fun v (hb : Below w0.heap.size w0 v) => hG.next hb)
  have hz3 : s3.length ≤ 1000000000 := by omega
  clear k1 k2 k3 k4 k5 l1 l2 l3 l4 hsl hG hs
  by_cases hk : k = sUsers
  · have hd := docK_own h1 h2 h3 h4 h5 hk
    have hkb : ((mkT k).toList == [117, 115, 101, 114, 115]) = true := by rw [mkT_eq]; exact decide_eq_true hk
    obtain ⟨o, ho⟩ : ∃ o, (b4 && (!b5 && decide (a = []))) = o := ⟨_, rfl⟩
    rw [hd, ho]
    simp only
    have hc : (b4 = false ∧ o = false) ∨ (b4 = true ∧ b5 = true ∧ o = false) ∨ (b4 = true ∧ b5 = false ∧ (¬ a = []) ∧ o = false) ∨ (b4 = true ∧ b5 = false ∧ a = [] ∧ o = true) := by
      by_cases ha : a = [] <;> cases b4 <;> cases b5 <;> simp_all
    clear h1 h2 h3 h4 h5 hd ho hk hz3
    rcases hc with ⟨rfl, rfl⟩ | ⟨rfl, rfl, rfl⟩ | ⟨rfl, rfl, ha, rfl⟩ | ⟨rfl, rfl, ha, rfl⟩
    all_goals
      (try replace ha := Lib.hid ha)
      go_enter Tryz.func34, Tryz.ntmps34
      go_wp2_with fail
      refine (K1.out _ (HG.out _ hb0)).mono ?_
      rintro e w1 ⟨rfl, hbx⟩
      have hk1 := hk0.next hbx
      have hb1 := hb0.trans (hbx.mono hb0.size)
      clear hk0 hb0 hbx
      go_wp2_with fail
      refine (K2.out _ (HG.out _ hb1)).mono ?_
      rintro e w2 ⟨rfl, hbx⟩
      have hk2 := hk1.next hbx
      have hb2 := hb1.trans (hbx.mono hb1.size)
      clear hk1 hb1 hbx
      go_wp2_with fail
      refine (K3.out _ (HG.out _ hb2)).mono ?_
      rintro e w3 ⟨rfl, hbx⟩
      have hk3 := hk2.next hbx
      have hb3 := hb2.trans (hbx.mono hb2.size)
      clear hk2 hb2 hbx
      have x0 := hk3.cell 0
      have xf0 := hk3.free 0
      have x3 := hk3.cell 3
      have xf3 := hk3.free 3
      simp only [List.getElem?_toArray, List.getElem?_cons_zero, List.getElem?_cons_succ] at x0 x3
      go_upto_region 5 with fail
      have hk4 := ((hk3.put7_0 (.string (mkT u))).put7_3 (.bool true))
      have hb4 := ((hk3.put7_0 (.string (mkT u))).below (hk3.below hb3 0 (.string (mkT u))) 3 (.bool true))
      generalize ((w3.setCell ⟨g, 0, none⟩ (.string (mkT u))).setCell ⟨g, 3, none⟩ (.bool true)) = w4 at *
      clear hk3 hb3 x0 xf0 x3 xf3
      have x3 := hk4.cell 3
      simp only [List.getElem?_toArray, List.getElem?_cons_zero, List.getElem?_cons_succ] at x3
      go_wp2_with fail
      refine (K4.out _ (HG.out _ hb4)).mono ?_
      rintro e w5 ⟨rfl, hbx⟩
      have hk5 := hk4.next hbx
      have hb5 := hb4.trans (hbx.mono hb4.size)
      clear x3 hk4 hb4 hbx
      have x1 := hk5.cell 1
      have xf1 := hk5.free 1
      simp only [List.getElem?_toArray, List.getElem?_cons_zero, List.getElem?_cons_succ] at x1
      go_upto_region 7 with fail
      have hk6 := (hk5.put7_1 (.string (mkT x)))
      have hb6 := (hk5.below hb5 1 (.string (mkT x)))
      generalize (w5.setCell ⟨g, 1, none⟩ (.string (mkT x))) = w6 at *
      clear hk5 hb5 x1 xf1
      go_wp2_with fail
      refine (K5.out _ (HG.out _ hb6)).mono ?_
      rintro e w7 ⟨rfl, hbx⟩
      have hk7 := hk6.next hbx
      have hb7 := hb6.trans (hbx.mono hb6.size)
      clear hk6 hb6 hbx
      have x2 := hk7.cell 2
      have xf2 := hk7.free 2
      simp only [List.getElem?_toArray, List.getElem?_cons_zero, List.getElem?_cons_succ] at x2
      go_upto_region 9 with fail
      have hk8 := (hk7.put7_2 (.string (mkT d)))
      have hb8 := (hk7.below hb7 2 (.string (mkT d)))
      generalize (w7.setCell ⟨g, 2, none⟩ (.string (mkT d))) = w8 at *
      clear hk7 hb7 x2 xf2
      have x3 := hk8.cell 3
      simp only [List.getElem?_toArray, List.getElem?_cons_zero, List.getElem?_cons_succ] at x3
    · clear K1 K2 K3 K4 K5 HG hkb
      go_wp2
      go_ret
      exact ⟨rfl, hk8, hb8⟩
    · clear K1 K2 K3 K4 K5 HG hkb
      go_wp2
      go_ret
      exact ⟨rfl, hk8, hb8⟩
    · have e0 := mkT_nemp ha.out
      clear ha
      clear K1 K2 K3 K4 K5 HG hkb
      go_wp2
      go_ret
      exact ⟨rfl, hk8, hb8⟩
    · have e0 := mkT_emp ha.out
      have e1 := nil_of (mkT a) ((eqT_iff _ _).2 (show mkT a = sE by rw [ha.out]; rfl))
      clear ha
      clear K1 K2 K3 K4 K5 HG hkb
      go_wp2
      go_ret
      exact ⟨rfl, hk8, hb8⟩
  · clear h4 h5 K4 K5
    obtain ⟨d, r, b4, h4⟩ : ∃ P R b, Lib.cut s3 [47] = (P, R, b) := ⟨_, _, _, rfl⟩
    have hd := docK_glo h1 h2 h3 h4 hk
    have hkb : ((mkT k).toList == [117, 115, 101, 114, 115]) = false := by rw [mkT_eq]; exact decide_eq_false hk
    have k4 := fun v hv => cut1_any (mkT s3) 47 v (by rw [mkT_size]; exact hz3) hv
    rw [mkT_list, h4] at k4
    simp only at k4
    have K4 := Lib.hid k4
    obtain ⟨o, ho⟩ : ∃ o, (b3 && (!b4 && (decide (a = []) && decide (k = sGlob)))) = o := ⟨_, rfl⟩
    rw [hd, ho]
    simp only
    have hc : (b3 = false ∧ o = false) ∨ (b3 = true ∧ b4 = true ∧ o = false) ∨ (b3 = true ∧ b4 = false ∧ (¬ a = []) ∧ o = false) ∨ (b3 = true ∧ b4 = false ∧ a = [] ∧ ¬ k = sGlob ∧ o = false) ∨ (b3 = true ∧ b4 = false ∧ a = [] ∧ k = sGlob ∧ o = true) := by
      by_cases ha : a = [] <;> by_cases hg : k = sGlob <;> cases b3 <;> cases b4 <;> simp_all
    clear h1 h2 h3 h4 hd ho hk k4 hz3
    rcases hc with ⟨rfl, rfl⟩ | ⟨rfl, rfl, rfl⟩ | ⟨rfl, rfl, ha, rfl⟩ | ⟨rfl, rfl, ha, hg, rfl⟩ | ⟨rfl, rfl, ha, hg, rfl⟩
    all_goals
      (try replace ha := Lib.hid ha)
      (try replace hg := Lib.hid hg)
      go_enter Tryz.func34, Tryz.ntmps34
      go_wp2_with fail
      refine (K1.out _ (HG.out _ hb0)).mono ?_
      rintro e w1 ⟨rfl, hbx⟩
      have hk1 := hk0.next hbx
      have hb1 := hb0.trans (hbx.mono hb0.size)
      clear hk0 hb0 hbx
      go_wp2_with fail
      refine (K2.out _ (HG.out _ hb1)).mono ?_
      rintro e w2 ⟨rfl, hbx⟩
      have hk2 := hk1.next hbx
      have hb2 := hb1.trans (hbx.mono hb1.size)
      clear hk1 hb1 hbx
      go_wp2_with fail
      refine (K3.out _ (HG.out _ hb2)).mono ?_
      rintro e w3 ⟨rfl, hbx⟩
      have hk3 := hk2.next hbx
      have hb3 := hb2.trans (hbx.mono hb2.size)
      clear hk2 hb2 hbx
      have x0 := hk3.cell 0
      have xf0 := hk3.free 0
      have x3 := hk3.cell 3
      have xf3 := hk3.free 3
      simp only [List.getElem?_toArray, List.getElem?_cons_zero, List.getElem?_cons_succ] at x0 x3
      go_upto_region 5 with fail
      have hk4 := ((hk3.put7_0 (.string (mkT u))).put7_3 (.bool false))
      have hb4 := ((hk3.put7_0 (.string (mkT u))).below (hk3.below hb3 0 (.string (mkT u))) 3 (.bool false))
      generalize ((w3.setCell ⟨g, 0, none⟩ (.string (mkT u))).setCell ⟨g, 3, none⟩ (.bool false)) = w4 at *
      clear hk3 hb3 x0 xf0 x3 xf3
      have x3 := hk4.cell 3
      simp only [List.getElem?_toArray, List.getElem?_cons_zero, List.getElem?_cons_succ] at x3
      go_wp2_with fail
      refine (K4.out _ (HG.out _ hb4)).mono ?_
      rintro e w5 ⟨rfl, hbx⟩
      have hk5 := hk4.next hbx
      have hb5 := hb4.trans (hbx.mono hb4.size)
      clear x3 hk4 hb4 hbx
      have x2 := hk5.cell 2
      have xf2 := hk5.free 2
      simp only [List.getElem?_toArray, List.getElem?_cons_zero, List.getElem?_cons_succ] at x2
      go_upto_region 9 with fail
      have hk6 := (hk5.put7_2 (.string (mkT d)))
      have hb6 := (hk5.below hb5 2 (.string (mkT d)))
      generalize (w5.setCell ⟨g, 2, none⟩ (.string (mkT d))) = w6 at *
      clear hk5 hb5 x2 xf2
      have x3 := hk6.cell 3
      simp only [List.getElem?_toArray, List.getElem?_cons_zero, List.getElem?_cons_succ] at x3
    · clear K1 K2 K3 K4 HG hkb
      go_wp2
      go_ret
      exact ⟨rfl, hk6, hb6⟩
    · clear K1 K2 K3 K4 HG hkb
      go_wp2
      go_ret
      exact ⟨rfl, hk6, hb6⟩
    · have e0 := mkT_nemp ha.out
      clear ha
      clear K1 K2 K3 K4 HG hkb
      go_wp2
      go_ret
      exact ⟨rfl, hk6, hb6⟩
    · have e0 := mkT_emp ha.out
      have e1 := nil_of (mkT a) ((eqT_iff _ _).2 (show mkT a = sE by rw [ha.out]; rfl))
      clear ha
      have kg : ((mkT k).toList == [103, 108, 111, 98, 97, 108]) = false := by rw [mkT_eq]; exact decide_eq_false hg.out
      clear hg
      clear K1 K2 K3 K4 HG hkb
      go_wp2
      go_ret
      exact ⟨rfl, hk6, hb6⟩
    · have e0 := mkT_emp ha.out
      have e1 := nil_of (mkT a) ((eqT_iff _ _).2 (show mkT a = sE by rw [ha.out]; rfl))
      clear ha
      have kg : ((mkT k).toList == [103, 108, 111, 98, 97, 108]) = true := by rw [mkT_eq]; exact decide_eq_true hg.out
      clear hg
      clear K1 K2 K3 K4 HG hkb
      go_wp2
      go_ret
      exact ⟨rfl, hk6, hb6⟩
theorem pcs_info : (Tryz.prog.info? 48).map (·.size) = some 7 := by kernel_rfl
set_option maxHeartbeats 16000000 in
set_option maxRecDepth 100000 in
theorem ucut_any (s : ByteArray) (h q doc sel u x d : List UInt8) (asked node ow ok : Bool) (h1 : Lib.cut s.data.toList [63] = (h, q, asked)) (h2 : Lib.cut h ssl11 = (doc, sel, node)) (h3 : docK doc = ((u, x, d, ow), ok)) (w : World) (hs : s.size ≤ 1000000) (hG : GvS w) :
    Calls Tryz.prog 16 #[.string s] w fun e w' => e = .returned (.tuple #[.agg #[.string (mkT u), .string (mkT x), .string (mkT d), .bool ow, .bool node, .string (mkT sel), .string (mkT q)], .bool (ok && (node || !asked))]) ∧ Below w.heap.size w w' := by
  have hsl : s.data.toList.length = s.size := by simp
  have l1 := (cut_le s.data.toList 63).1
  rw [h1] at l1
  have l2 := (cut4_le h).1
  rw [h2] at l2
  simp only at l1 l2
  have k1 := fun v hv => cut1_any s 63 v (by omega) hv
  rw [h1] at k1
  have k2 := fun v hv => cut4_any (mkT h) v (by rw [mkT_size]; omega) hv
  rw [mkT_list, h2] at k2
  have k3 := fun v g v0 v2 v3 v4 v5 v6 hk hb => cutDocument_any w g v0 v2 v3 v4 v5 v6 (mkT doc) v hk hb (by rw [mkT_size]; omega) hG
  rw [mkT_list, h3] at k3
  simp only at k1 k2 k3
  have K1 := Lib.hid k1
  have K2 := Lib.hid k2
  have K3 := Lib.hid k3
  have HG := Lib.hid (fun v (hb : Below w.heap.size w v) => hG.next hb)
  have hk0 := OwnB.new0 w #[.string ⟨#[]⟩, .string ⟨#[]⟩, .string ⟨#[]⟩, .bool false, .bool false, .string ⟨#[]⟩, .string ⟨#[]⟩] 48
  have hb0 := (Below.refl w.heap.size w).alloc (Nat.le_refl _) (.cells #[.string ⟨#[]⟩, .string ⟨#[]⟩, .string ⟨#[]⟩, .bool false, .bool false, .string ⟨#[]⟩, .string ⟨#[]⟩] 48)
  clear k1 k2 k3 l1 l2 hsl hG hs h1 h2 h3
  obtain ⟨o, ho⟩ : ∃ o, (ok && (node || !asked)) = o := ⟨_, rfl⟩
  rw [ho]
  have hc : (ok = false ∧ o = false) ∨ (ok = true ∧ node = true ∧ o = true) ∨ (ok = true ∧ node = false ∧ o = !asked) := by
    cases ok <;> cases node <;> simp_all
  clear ho
  go_enter Tryz.func16, Tryz.ntmps16
  go_upto_region 1 with fail
  generalize w.alloc (.cells #[.string ⟨#[]⟩, .string ⟨#[]⟩, .string ⟨#[]⟩, .bool false, .bool false, .string ⟨#[]⟩, .string ⟨#[]⟩] 48) = w1 at *
  have hk1 := hk0
  have hb1 := hb0
  clear hk0 hb0
  go_wp2_with fail
  refine (K1.out _ (HG.out _ hb1)).mono ?_
  rintro e w2 ⟨rfl, hbx⟩
  have hk2 := hk1.next hbx
  have hb2 := hb1.trans (hbx.mono hb1.size)
  clear hk1 hb1 hbx
  have x6 := hk2.cell 6
  have xf6 := hk2.free 6
  simp only [List.getElem?_toArray, List.getElem?_cons_zero, List.getElem?_cons_succ] at x6
  go_upto_region 4 with fail
  have hk3 := (hk2.put7_6 (.string (mkT q)))
  have hb3 := (hk2.below hb2 6 (.string (mkT q)))
  generalize (w2.setCell ⟨w.heap.size, 6, none⟩ (.string (mkT q))) = w3 at *
  clear hk2 hb2 x6 xf6
  go_wp2_with fail
  refine (K2.out _ (HG.out _ hb3)).mono ?_
  rintro e w4 ⟨rfl, hbx⟩
  have hk4 := hk3.next hbx
  have hb4 := hb3.trans (hbx.mono hb3.size)
  clear hk3 hb3 hbx
  have x5 := hk4.cell 5
  have xf5 := hk4.free 5
  have x4 := hk4.cell 4
  have xf4 := hk4.free 4
  simp only [List.getElem?_toArray, List.getElem?_cons_zero, List.getElem?_cons_succ] at x5 x4
  go_upto_region 5 with fail
  have hk5 := ((hk4.put7_5 (.string (mkT sel))).put7_4 (.bool node))
  have hb5 := ((hk4.put7_5 (.string (mkT sel))).below (hk4.below hb4 5 (.string (mkT sel))) 4 (.bool node))
  generalize ((w4.setCell ⟨w.heap.size, 5, none⟩ (.string (mkT sel))).setCell ⟨w.heap.size, 4, none⟩ (.bool node)) = w5 at *
  clear hk4 hb4 x5 xf5 x4 xf4
  go_wp2_with fail
  refine (K3.out _ _ _ _ _ _ _ _ hk5 hb5).mono ?_
  rintro e w6 ⟨rfl, hk6, hb6⟩
  clear hk5 hb5 K1 K2 K3 HG
  have x0 := hk6.cell 0
  have xf0 := hk6.free 0
  have x1 := hk6.cell 1
  have xf1 := hk6.free 1
  have x2 := hk6.cell 2
  have xf2 := hk6.free 2
  have x3 := hk6.cell 3
  have xf3 := hk6.free 3
  have x4 := hk6.cell 4
  have xf4 := hk6.free 4
  have x5 := hk6.cell 5
  have xf5 := hk6.free 5
  have x6 := hk6.cell 6
  have xf6 := hk6.free 6
  simp only [List.getElem?_toArray, List.getElem?_cons_zero, List.getElem?_cons_succ] at x0 x1 x2 x3 x4 x5 x6
  rcases hc with ⟨rfl, rfl⟩ | ⟨rfl, rfl, rfl⟩ | ⟨rfl, rfl, rfl⟩
  · go_wp2
    refine bodyPost_ret (results_cell2 rfl _ _ w.heap.size _ _ _ rfl (hk6.all7 _ _ _ _ _ _ _).blk Tryz.underlying48 rfl pcs_info) rfl ?_
    exact ⟨rfl, (((((((hb6.setCell (Nat.le_refl _) _).setCell (Nat.le_refl _) _).setCell (Nat.le_refl _) _).setCell (Nat.le_refl _) _).setCell (Nat.le_refl _) _).setCell (Nat.le_refl _) _).setCell (Nat.le_refl _) _)⟩
  · go_wp2
    refine bodyPost_ret (results_cell2 rfl _ _ w.heap.size _ _ _ rfl (hk6.all7 _ _ _ _ _ _ _).blk Tryz.underlying48 rfl pcs_info) rfl ?_
    exact ⟨rfl, (((((((hb6.setCell (Nat.le_refl _) _).setCell (Nat.le_refl _) _).setCell (Nat.le_refl _) _).setCell (Nat.le_refl _) _).setCell (Nat.le_refl _) _).setCell (Nat.le_refl _) _).setCell (Nat.le_refl _) _)⟩
  · cases asked
    all_goals
      go_wp2
      refine bodyPost_ret (results_cell2 rfl _ _ w.heap.size _ _ _ rfl (hk6.all7 _ _ _ _ _ _ _).blk Tryz.underlying48 rfl pcs_info) rfl ?_
      exact ⟨rfl, (((((((hb6.setCell (Nat.le_refl _) _).setCell (Nat.le_refl _) _).setCell (Nat.le_refl _) _).setCell (Nat.le_refl _) _).setCell (Nat.le_refl _) _).setCell (Nat.le_refl _) _).setCell (Nat.le_refl _) _)⟩
end Go.Proofs.YtbdamneophbnnaaGreatDoor
