/- ScE UeB SbO Open. -/
import Derived.Deep.SlicePairs
import Derived.Carry
import Derived.Test.YtbdamneophbnnaaGreatDoorCU2
import Derived.Test.YtbdamneophbnnaaGreatDoorCU19
import Derived.Test.YtbdamneophbnnaaGreatDoorCU23
namespace Go.Proofs.YtbdamneophbnnaaGreatDoor
open Go.RowKit Wb
theorem mkT_emp {l : List UInt8} (h : l = []) : (mkT l).toList.isEmpty = true := by
  subst h
  rw [ByteArray.toList_eq]
  rfl
theorem mkT_nemp {l : List UInt8} (h : l ≠ []) : (mkT l).toList.isEmpty = false := by
  rw [ByteArray.toList_eq]
  show (mkT l).data.toList.isEmpty = false
  rw [mkT_list]
  simpa using h
theorem mkT_eq (l m : List UInt8) : ((mkT l).toList == m) = decide (l = m) := by
  rw [ByteArray.toList_eq]
  show ((mkT l).data.toList == m) = _
  rw [mkT_list, Bool.eq_iff_iff, beq_iff_eq, decide_eq_true_eq]
def TestOut (o : Option (List UInt8 × List UInt8)) (e : Ending) : Prop :=
  (o = none → ∃ a v : ByteArray, e = .returned (.tuple #[.string a, .string v, .bool false])) ∧ ∀ a v, o = some (a, v) → e = .returned (.tuple #[.string (mkT a), .string (mkT v), .bool true])
theorem TestOut.bad {a v : ByteArray} : TestOut none (.returned (.tuple #[.string a, .string v, .bool false])) := ⟨fun _ => ⟨a, v, rfl⟩, fun a v h => by cases h⟩
theorem TestOut.good {a v : List UInt8} : TestOut (some (a, v)) (.returned (.tuple #[.string (mkT a), .string (mkT v), .bool true])) := ⟨fun h => (by cases h), fun a' v' h => by
  injection h with h
  injection h with h1 h2
  rw [h1, h2]⟩
set_option maxHeartbeats 4000000 in
set_option maxRecDepth 100000 in
theorem cutTest_any (s : ByteArray) (w : World) (hs : s.size ≤ 1000000) (hG : GvS w) :
    Calls Tryz.prog 142 #[.string s] w fun e w' => TestOut (testP s.data.toList) e ∧ Below w.heap.size w w' := by
  obtain ⟨b1, h1⟩ : ∃ b, Lib.hasPrefix s.data.toList [91, 64] = b := ⟨_, rfl⟩
  obtain ⟨N, U, b2, h2⟩ : ∃ P R b, Lib.cut (Lib.trimPrefix s.data.toList [91, 64]) [61] = (P, R, b) := ⟨_, _, _, rfl⟩
  obtain ⟨b3, h3⟩ : ∃ n, (splitB (mkT N)).2.2 = n := ⟨_, rfl⟩
  have hL := testP_let h1 h2 h3
  have ll := trimP_le s.data.toList [91, 64]
  have l1 := cut_le (Lib.trimPrefix s.data.toList [91, 64]) 61
  rw [h2] at l1
  have hsl : s.data.toList.length = s.size := by simp
  have k1 := cutP_any s ⟨#[91, 64]⟩
  have ek : (⟨#[91, 64]⟩ : ByteArray).data.toList = [91, 64] := rfl
  rw [ek, h1] at k1
  obtain ⟨T, hT⟩ : ∃ T, Lib.trimPrefix s.data.toList [91, 64] = T := ⟨_, rfl⟩
  rw [hT] at k1 l1 h2 ll
  have k2 := cut1_any (mkT T) 61 w (by rw [mkT_size]; omega) hG
  rw [mkT_list, h2] at k2
  simp only at k2 l1
  have k3 := fun v => qualified_any (mkT N) v (by rw [mkT_size]; omega)
  rw [h3] at k3
  have hU : U.length ≤ 1000000 := by omega
  obtain ⟨o, ho⟩ : ∃ o, testP s.data.toList = o := ⟨_, rfl⟩
  rw [ho]
  rw [ho] at hL
  have K3 := Lib.hid k3
  have HG := Lib.hid (fun v (hb : Below w.heap.size w v) => hG.next hb)
  clear h1 h2 h3 l1 ll hsl hT ek ho k3 hG
  have hc : b1 = false ∨ (b1 = true ∧ b2 = false) ∨ (b1 = true ∧ b2 = true ∧ b3 = false) ∨ (b1 = true ∧ b2 = true ∧ b3 = true) := by
    cases b1 <;> cases b2 <;> cases b3 <;> simp
  rcases hc with rfl | ⟨rfl, rfl⟩ | ⟨rfl, rfl, rfl⟩ | ⟨rfl, rfl, rfl⟩
  all_goals
    go_enter Tryz.func142, Tryz.ntmps142
    go_wp2_with fail
    refine (k1 _).mono ?_
    rintro e w1 ⟨rfl, rfl⟩
    go_wp2_with fail
    refine k2.mono ?_
    rintro e w2 ⟨rfl, hb2⟩
    have HB2 := Lib.hid hb2
    clear hb2 k1 k2
  · obtain rfl : o = none := by simpa using hL
    go_wp2
    go_ret3
    exact ⟨TestOut.bad, HB2.out⟩
  · obtain rfl : o = none := by simpa using hL
    go_wp2
    go_ret3
    exact ⟨TestOut.bad, HB2.out⟩
  · obtain rfl : o = none := by simpa using hL
    go_wp2_with fail
    refine (K3.out _).mono ?_
    rintro e w3 ⟨rfl, hb3⟩
    have HB3 := Lib.hid (HB2.out.trans (hb3.mono HB2.out.size))
    go_wp2
    go_ret3
    exact ⟨TestOut.bad, HB3.out⟩
  · replace hL : o = (quoV U).map fun v => (N, v) := by simpa using hL
    go_wp2_with fail
    refine (K3.out _).mono ?_
    rintro e w3 ⟨rfl, hb3⟩
    have HB3 := Lib.hid (HB2.out.trans (hb3.mono HB2.out.size))
    clear hb3 K3 HB2
    cases U with
    | nil =>
      obtain rfl : o = none := hL
      have he := mkT_emp (l := []) rfl
      go_wp2
      go_ret3
      exact ⟨TestOut.bad, HB3.out⟩
    | cons q u =>
      have he := mkT_nemp (l := q :: u) (by simp)
      obtain ⟨V, hV⟩ : ∃ V, mkT (q :: u) = V := ⟨_, rfl⟩
      have hVl : V.data.toList = q :: u := by rw [← hV, mkT_list]
      have hVs : V.size = u.length + 1 := by rw [← hV, mkT_size]; rfl
      have h0 : 0 < V.size := by omega
      have hx : V[0] = q := by
        have : V.data.toList[0]'(by simpa using h0) = q := by simp [hVl]
        simp only [Array.getElem_toList] at this
        exact this
      rw [hV] at he ⊢
      clear hV
      by_cases hq : q = 34 ∨ q = 39
      · have hk := fun v hv => cut1_any (mkT u) q v (by rw [mkT_size]; simp at hU; omega) hv
        rw [mkT_list] at hk
        have e1 : V.extract 1 V.size = mkT u := by
          have : (V.extract 1 V.size).data.toList = u := by rw [ext_drop, hVl]; rfl
          rw [← this]
          exact (to_list _).symm
        have e2 : V.extract 0 1 = ⟨#[q]⟩ := by
          have : (V.extract 0 1).data.toList = [q] := by rw [ext_sub, hVl]; rfl
          rw [← to_list (V.extract 0 1), this]
        rw [← e1, ← e2] at hk
        obtain ⟨X, Y, b4, hxy⟩ : ∃ X Y b, Lib.cut u [q] = (X, Y, b) := ⟨_, _, _, rfl⟩
        rw [hxy] at hk
        simp only at hk
        have HL : Hid (o = if b4 = true ∧ Y = [93] then some (N, X) else none) := Lib.hid (by
          rw [hL]
          unfold quoV
          simp only
          rw [if_pos hq]
          cases hcq : cutC q u with
          | none =>
            rw [cut_none1 hcq] at hxy
            injection hxy with e3 e4
            injection e4 with e4 e5
            subst e5
            simp
          | some x =>
            obtain ⟨a, b⟩ := x
            rw [cut_some1 hcq] at hxy
            injection hxy with e3 e4
            injection e4 with e4 e5
            subst e3 e4 e5
            simp only
            by_cases h93 : b = [93]
            · simp [h93]
            · simp [h93])
        have HK := Lib.hid hk
        have h11 : (1 : Int) ≤ (V.size : Int) := by omega
        clear hk hxy hL e1 e2 hVl hVs hU
        have hq34 : q = 34 ∨ (((q.toNat : Int) == 34) = false ∧ q = 39) := by
          rcases hq with rfl | rfl
          · exact .inl rfl
          · exact .inr ⟨rfl, rfl⟩
        rcases hq34 with rfl | ⟨hn34, rfl⟩
        · clear hq
          go_wp2
          go_region_with (go_at_call 33; refine (HK.out _ (HG.out _ HB3.out.drew)).mono ?_; rintro e w4 ⟨rfl, hb4⟩)
          all_goals
            have HB4 := Lib.hid (HB3.out.drew.trans (hb4.mono HB3.out.drew.size))
            clear hb4
            by_cases hy : Y = [93]
            · have he93 : ((mkT Y).toList == [93]) = true := by rw [mkT_eq]; exact decide_eq_true hy
              cases b4 with
              | false =>
                obtain rfl : o = none := by simpa using HL.out
                clear HL
                go_wp2
                go_ret3
                exact ⟨TestOut.bad, HB4.out⟩
              | true =>
                obtain rfl : o = some (N, X) := by simpa [hy] using HL.out
                clear HL hy
                go_wp2
                go_ret3
                exact ⟨TestOut.good, HB4.out⟩
            · have he93 : ((mkT Y).toList == [93]) = false := by rw [mkT_eq]; exact decide_eq_false hy
              obtain rfl : o = none := by simpa [hy] using HL.out
              clear HL
              cases b4 with
              | false =>
                go_wp2
                go_ret3
                exact ⟨TestOut.bad, HB4.out⟩
              | true =>
                go_wp2
                go_ret3
                exact ⟨TestOut.bad, HB4.out⟩
        · have hnq := hn34
          clear hq
          go_wp2
          go_region_with (go_at_call 33; refine (HK.out _ (HG.out _ HB3.out.drew)).mono ?_; rintro e w4 ⟨rfl, hb4⟩)
          all_goals
            have HB4 := Lib.hid (HB3.out.drew.trans (hb4.mono HB3.out.drew.size))
            clear hb4
            by_cases hy : Y = [93]
            · have he93 : ((mkT Y).toList == [93]) = true := by rw [mkT_eq]; exact decide_eq_true hy
              cases b4 with
              | false =>
                obtain rfl : o = none := by simpa using HL.out
                clear HL
                go_wp2
                go_ret3
                exact ⟨TestOut.bad, HB4.out⟩
              | true =>
                obtain rfl : o = some (N, X) := by simpa [hy] using HL.out
                clear HL hy
                go_wp2
                go_ret3
                exact ⟨TestOut.good, HB4.out⟩
            · have he93 : ((mkT Y).toList == [93]) = false := by rw [mkT_eq]; exact decide_eq_false hy
              obtain rfl : o = none := by simpa [hy] using HL.out
              clear HL
              cases b4 with
              | false =>
                go_wp2
                go_ret3
                exact ⟨TestOut.bad, HB4.out⟩
              | true =>
                go_wp2
                go_ret3
                exact ⟨TestOut.bad, HB4.out⟩
      · have hLn : o = none := by
          rw [hL]
          unfold quoV
          simp only
          rw [if_neg hq]
          rfl
        simp only [not_or] at hq
        have n34 : ¬ (q.toNat : Int) = 34 := fun h => hq.1 (UInt8.toNat_inj.1 (by show q.toNat = 34; omega))
        have n39 : ¬ (q.toNat : Int) = 39 := fun h => hq.2 (UInt8.toNat_inj.1 (by show q.toNat = 39; omega))
        have m34 : ((q.toNat : Int) != 34) = true := bne_iff_ne.2 n34
        have m39 : ((q.toNat : Int) != 39) = true := bne_iff_ne.2 n39
        subst hLn
        clear hL hq hVl hVs hU
        go_wp2
        go_ret3
        exact ⟨TestOut.bad, HB3.out⟩
end Go.Proofs.YtbdamneophbnnaaGreatDoor
namespace Wb
open Go
theorem docK_own {s a s1 u s2 k s3 x s4 d r : List UInt8} {b1 b2 b3 b4 b5 : Bool} (h1 : Lib.cut s [47] = (a, s1, b1)) (h2 : Lib.cut s1 [47] = (u, s2, b2)) (h3 : Lib.cut s2 [47] = (k, s3, b3)) (h4 : Lib.cut s3 [47] = (x, s4, b4)) (h5 : Lib.cut s4 [47] = (d, r, b5)) (hk : k = sUsers) :
    docK s = ((u, x, d, true), b4 && (!b5 && decide (a = []))) := by
  unfold docK
  rw [h1, h2, h3, h4, h5, if_pos hk]
theorem docK_glo {s a s1 u s2 k s3 d r : List UInt8} {b1 b2 b3 b4 : Bool} (h1 : Lib.cut s [47] = (a, s1, b1)) (h2 : Lib.cut s1 [47] = (u, s2, b2)) (h3 : Lib.cut s2 [47] = (k, s3, b3)) (h4 : Lib.cut s3 [47] = (d, r, b4)) (hk : ¬ k = sUsers) :
    docK s = ((u, [], d, false), b3 && (!b4 && (decide (a = []) && decide (k = sGlob)))) := by
  unfold docK
  rw [h1, h2, h3, h4, if_neg hk]
end Wb
namespace Go.Proofs.YtbdamneophbnnaaGreatDoor
open Go.RowKit Wb
theorem cut4_any (s : ByteArray) (w : World) (hs : s.size ≤ 1000000000) (hG : GvS w) :
    Calls Tryz.prog 33 #[.string s, .string ⟨#[47, 126, 126, 47]⟩] w fun e w' => e = .returned (.tuple #[.string (mkT (Lib.cut s.data.toList ssl11).1), .string (mkT (Lib.cut s.data.toList ssl11).2.1), .bool (Lib.cut s.data.toList ssl11).2.2]) ∧ Below w.heap.size w w' := by
  obtain ⟨m, hm⟩ := hG.m
  have h1 := Tryz.strings_Cut s ⟨#[47, 126, 126, 47]⟩ m w (by omega) hm
  exact h1.mono fun e w' h => ⟨h.1, by obtain ⟨_, n, rfl⟩ := h; exact ⟨rfl, rfl, rfl, Nat.le_refl _, fun _ _ => rfl⟩⟩
theorem cut4_le (s : List UInt8) : (Lib.cut s ssl11).1.length ≤ s.length ∧ (Lib.cut s ssl11).2.1.length ≤ s.length := by
  unfold Lib.cut
  split
  · simp only [List.length_take, List.length_drop]
    omega
  · simp
set_option maxHeartbeats 16000000 in
set_option maxRecDepth 100000 in
theorem cutDocument_any (w0 : World) (g : Nat) (v0 v2 v3 v4 v5 v6 : Value) (s : ByteArray) (w : World) (hk0 : OwnB g w0 w #[v0, .string ⟨#[]⟩, v2, v3, v4, v5, v6] 48) (hb0 : Below w0.heap.size w0 w) (hs : s.size ≤ 1000000) (hG : GvS w0) :
    Calls Tryz.prog 34 #[.pointer (some ⟨g, 0, none⟩), .string s] w fun e w' => e = .returned (.bool (docK s.data.toList).2) ∧ OwnB g w0 w' #[.string (mkT (docK s.data.toList).1.1), .string (mkT (docK s.data.toList).1.2.1), .string (mkT (docK s.data.toList).1.2.2.1), .bool (docK s.data.toList).1.2.2.2, v4, v5, v6] 48 ∧ Below w0.heap.size w0 w' := by
  have hsl : s.data.toList.length = s.size := by simp
  obtain ⟨a, s1, b1, h1⟩ : ∃ P R b, Lib.cut s.data.toList [47] = (P, R, b) := ⟨_, _, _, rfl⟩
  obtain ⟨u, s2, b2, h2⟩ : ∃ P R b, Lib.cut s1 [47] = (P, R, b) := ⟨_, _, _, rfl⟩
  obtain ⟨k, s3, b3, h3⟩ : ∃ P R b, Lib.cut s2 [47] = (P, R, b) := ⟨_, _, _, rfl⟩
  obtain ⟨x, s4, b4, h4⟩ : ∃ P R b, Lib.cut s3 [47] = (P, R, b) := ⟨_, _, _, rfl⟩
  obtain ⟨d, r, b5, h5⟩ : ∃ P R b, Lib.cut s4 [47] = (P, R, b) := ⟨_, _, _, rfl⟩
  have l1 := (cut_le s.data.toList 47).2
  rw [h1] at l1
  have l2 := (cut_le s1 47).2
  rw [h2] at l2
  have l3 := (cut_le s2 47).2
  rw [h3] at l3
  have l4 := (cut_le s3 47).2
  rw [h4] at l4
  simp only at l1 l2 l3 l4
  have k1 := fun v hv => cut1_any s 47 v (by omega) hv
  rw [h1] at k1
  have k2 := fun v hv => cut1_any (mkT s1) 47 v (by rw [mkT_size]; omega) hv
  rw [mkT_list, h2] at k2
  have k3 := fun v hv => cut1_any (mkT s2) 47 v (by rw [mkT_size]; omega) hv
  rw [mkT_list, h3] at k3
  have k4 := fun v hv => cut1_any (mkT s3) 47 v (by rw [mkT_size]; omega) hv
  rw [mkT_list, h4] at k4
  have k5 := fun v hv => cut1_any (mkT s4) 47 v (by rw [mkT_size]; omega) hv
  rw [mkT_list, h5] at k5
  simp only at k1 k2 k3 k4 k5
  have K1 := Lib.hid k1
  have K2 := Lib.hid k2
  have K3 := Lib.hid k3
  have K4 := Lib.hid k4
  have K5 := Lib.hid k5
  have HG := Lib.hid (fun v (hb : Below w0.heap.size w0 v) => hG.next hb)
  have hz3 : s3.length ≤ 1000000000 := by omega
  clear k1 k2 k3 k4 k5 l1 l2 l3 l4 hsl hG hs
  by_cases hk : k = sUsers
  · have hd := docK_own h1 h2 h3 h4 h5 hk
    have hkb : ((mkT k).toList == [117, 115, 101, 114, 115]) = true := by rw [mkT_eq]; exact decide_eq_true hk
    obtain ⟨o, ho⟩ : ∃ o, (b4 && (!b5 && decide (a = []))) = o := ⟨_, rfl⟩
    rw [hd, ho]
    simp only
    have hc : (b4 = false ∧ o = false) ∨ (b4 = true ∧ b5 = true ∧ o = false) ∨ (b4 = true ∧ b5 = false ∧ (¬ a = []) ∧ o = false) ∨ (b4 = true ∧ b5 = false ∧ a = [] ∧ o = true) := by
      by_cases ha : a = [] <;> cases b4 <;> cases b5 <;> simp_all
    clear h1 h2 h3 h4 h5 hd ho hk hz3
    rcases hc with ⟨rfl, rfl⟩ | ⟨rfl, rfl, rfl⟩ | ⟨rfl, rfl, ha, rfl⟩ | ⟨rfl, rfl, ha, rfl⟩
    all_goals
      (try replace ha := Lib.hid ha)
      go_enter Tryz.func34, Tryz.ntmps34
      go_wp2_with fail
      refine (K1.out _ (HG.out _ hb0)).mono ?_
      rintro e w1 ⟨rfl, hbx⟩
      have hk1 := hk0.next hbx
      have hb1 := hb0.trans (hbx.mono hb0.size)
      clear hk0 hb0 hbx
      go_wp2_with fail
      refine (K2.out _ (HG.out _ hb1)).mono ?_
      rintro e w2 ⟨rfl, hbx⟩
      have hk2 := hk1.next hbx
      have hb2 := hb1.trans (hbx.mono hb1.size)
      clear hk1 hb1 hbx
      go_wp2_with fail
      refine (K3.out _ (HG.out _ hb2)).mono ?_
      rintro e w3 ⟨rfl, hbx⟩
      have hk3 := hk2.next hbx
      have hb3 := hb2.trans (hbx.mono hb2.size)
      clear hk2 hb2 hbx
      have x0 := hk3.cell 0
      have xf0 := hk3.free 0
      have x3 := hk3.cell 3
      have xf3 := hk3.free 3
      simp only [List.getElem?_toArray, List.getElem?_cons_zero, List.getElem?_cons_succ] at x0 x3
      go_upto_region 5 with fail
      have hk4 := ((hk3.put7_0 (.string (mkT u))).put7_3 (.bool true))
      have hb4 := ((hk3.put7_0 (.string (mkT u))).below (hk3.below hb3 0 (.string (mkT u))) 3 (.bool true))
      generalize ((w3.setCell ⟨g, 0, none⟩ (.string (mkT u))).setCell ⟨g, 3, none⟩ (.bool true)) = w4 at *
      clear hk3 hb3 x0 xf0 x3 xf3
      have x3 := hk4.cell 3
      simp only [List.getElem?_toArray, List.getElem?_cons_zero, List.getElem?_cons_succ] at x3
      go_wp2_with fail
      refine (K4.out _ (HG.out _ hb4)).mono ?_
      rintro e w5 ⟨rfl, hbx⟩
      have hk5 := hk4.next hbx
      have hb5 := hb4.trans (hbx.mono hb4.size)
      clear x3 hk4 hb4 hbx
      have x1 := hk5.cell 1
      have xf1 := hk5.free 1
      simp only [List.getElem?_toArray, List.getElem?_cons_zero, List.getElem?_cons_succ] at x1
      go_upto_region 7 with fail
      have hk6 := (hk5.put7_1 (.string (mkT x)))
      have hb6 := (hk5.below hb5 1 (.string (mkT x)))
      generalize (w5.setCell ⟨g, 1, none⟩ (.string (mkT x))) = w6 at *
      clear hk5 hb5 x1 xf1
      go_wp2_with fail
      refine (K5.out _ (HG.out _ hb6)).mono ?_
      rintro e w7 ⟨rfl, hbx⟩
      have hk7 := hk6.next hbx
      have hb7 := hb6.trans (hbx.mono hb6.size)
      clear hk6 hb6 hbx
      have x2 := hk7.cell 2
      have xf2 := hk7.free 2
      simp only [List.getElem?_toArray, List.getElem?_cons_zero, List.getElem?_cons_succ] at x2
      go_upto_region 9 with fail
      have hk8 := (hk7.put7_2 (.string (mkT d)))
      have hb8 := (hk7.below hb7 2 (.string (mkT d)))
      generalize (w7.setCell ⟨g, 2, none⟩ (.string (mkT d))) = w8 at *
      clear hk7 hb7 x2 xf2
      have x3 := hk8.cell 3
      simp only [List.getElem?_toArray, List.getElem?_cons_zero, List.getElem?_cons_succ] at x3
    · clear K1 K2 K3 K4 K5 HG hkb
      go_wp2
      go_ret
      exact ⟨rfl, hk8, hb8⟩
    · clear K1 K2 K3 K4 K5 HG hkb
      go_wp2
      go_ret
      exact ⟨rfl, hk8, hb8⟩
    · have e0 := mkT_nemp ha.out
      clear ha
      clear K1 K2 K3 K4 K5 HG hkb
      go_wp2
      go_ret
      exact ⟨rfl, hk8, hb8⟩
    · have e0 := mkT_emp ha.out
      have e1 := nil_of (mkT a) ((eqT_iff _ _).2 (show mkT a = sE by rw [ha.out]; rfl))
      clear ha
      clear K1 K2 K3 K4 K5 HG hkb
      go_wp2
      go_ret
      exact ⟨rfl, hk8, hb8⟩
  · clear h4 h5 K4 K5
    obtain ⟨d, r, b4, h4⟩ : ∃ P R b, Lib.cut s3 [47] = (P, R, b) := ⟨_, _, _, rfl⟩
    have hd := docK_glo h1 h2 h3 h4 hk
    have hkb : ((mkT k).toList == [117, 115, 101, 114, 115]) = false := by rw [mkT_eq]; exact decide_eq_false hk
    have k4 := fun v hv => cut1_any (mkT s3) 47 v (by rw [mkT_size]; exact hz3) hv
    rw [mkT_list, h4] at k4
    simp only at k4
    have K4 := Lib.hid k4
    obtain ⟨o, ho⟩ : ∃ o, (b3 && (!b4 && (decide (a = []) && decide (k = sGlob)))) = o := ⟨_, rfl⟩
    rw [hd, ho]
    simp only
    have hc : (b3 = false ∧ o = false) ∨ (b3 = true ∧ b4 = true ∧ o = false) ∨ (b3 = true ∧ b4 = false ∧ (¬ a = []) ∧ o = false) ∨ (b3 = true ∧ b4 = false ∧ a = [] ∧ ¬ k = sGlob ∧ o = false) ∨ (b3 = true ∧ b4 = false ∧ a = [] ∧ k = sGlob ∧ o = true) := by
      by_cases ha : a = [] <;> by_cases hg : k = sGlob <;> cases b3 <;> cases b4 <;> simp_all
    clear h1 h2 h3 h4 hd ho hk k4 hz3
    rcases hc with ⟨rfl, rfl⟩ | ⟨rfl, rfl, rfl⟩ | ⟨rfl, rfl, ha, rfl⟩ | ⟨rfl, rfl, ha, hg, rfl⟩ | ⟨rfl, rfl, ha, hg, rfl⟩
    all_goals
      (try replace ha := Lib.hid ha)
      (try replace hg := Lib.hid hg)
      go_enter Tryz.func34, Tryz.ntmps34
      go_wp2_with fail
      refine (K1.out _ (HG.out _ hb0)).mono ?_
      rintro e w1 ⟨rfl, hbx⟩
      have hk1 := hk0.next hbx
      have hb1 := hb0.trans (hbx.mono hb0.size)
      clear hk0 hb0 hbx
      go_wp2_with fail
      refine (K2.out _ (HG.out _ hb1)).mono ?_
      rintro e w2 ⟨rfl, hbx⟩
      have hk2 := hk1.next hbx
      have hb2 := hb1.trans (hbx.mono hb1.size)
      clear hk1 hb1 hbx
      go_wp2_with fail
      refine (K3.out _ (HG.out _ hb2)).mono ?_
      rintro e w3 ⟨rfl, hbx⟩
      have hk3 := hk2.next hbx
      have hb3 := hb2.trans (hbx.mono hb2.size)
      clear hk2 hb2 hbx
      have x0 := hk3.cell 0
      have xf0 := hk3.free 0
      have x3 := hk3.cell 3
      have xf3 := hk3.free 3
      simp only [List.getElem?_toArray, List.getElem?_cons_zero, List.getElem?_cons_succ] at x0 x3
      go_upto_region 5 with fail
      have hk4 := ((hk3.put7_0 (.string (mkT u))).put7_3 (.bool false))
      have hb4 := ((hk3.put7_0 (.string (mkT u))).below (hk3.below hb3 0 (.string (mkT u))) 3 (.bool false))
      generalize ((w3.setCell ⟨g, 0, none⟩ (.string (mkT u))).setCell ⟨g, 3, none⟩ (.bool false)) = w4 at *
      clear hk3 hb3 x0 xf0 x3 xf3
      have x3 := hk4.cell 3
      simp only [List.getElem?_toArray, List.getElem?_cons_zero, List.getElem?_cons_succ] at x3
      go_wp2_with fail
      refine (K4.out _ (HG.out _ hb4)).mono ?_
      rintro e w5 ⟨rfl, hbx⟩
      have hk5 := hk4.next hbx
      have hb5 := hb4.trans (hbx.mono hb4.size)
      clear x3 hk4 hb4 hbx
      have x2 := hk5.cell 2
      have xf2 := hk5.free 2
      simp only [List.getElem?_toArray, List.getElem?_cons_zero, List.getElem?_cons_succ] at x2
      go_upto_region 9 with fail
      have hk6 := (hk5.put7_2 (.string (mkT d)))
      have hb6 := (hk5.below hb5 2 (.string (mkT d)))
      generalize (w5.setCell ⟨g, 2, none⟩ (.string (mkT d))) = w6 at *
      clear hk5 hb5 x2 xf2
      have x3 := hk6.cell 3
      simp only [List.getElem?_toArray, List.getElem?_cons_zero, List.getElem?_cons_succ] at x3
    · clear K1 K2 K3 K4 HG hkb
      go_wp2
      go_ret
      exact ⟨rfl, hk6, hb6⟩
    · clear K1 K2 K3 K4 HG hkb
      go_wp2
      go_ret
      exact ⟨rfl, hk6, hb6⟩
    · have e0 := mkT_nemp ha.out
      clear ha
      clear K1 K2 K3 K4 HG hkb
      go_wp2
      go_ret
      exact ⟨rfl, hk6, hb6⟩
    · have e0 := mkT_emp ha.out
      have e1 := nil_of (mkT a) ((eqT_iff _ _).2 (show mkT a = sE by rw [ha.out]; rfl))
      clear ha
      have kg : ((mkT k).toList == [103, 108, 111, 98, 97, 108]) = false := by rw [mkT_eq]; exact decide_eq_false hg.out
      clear hg
      clear K1 K2 K3 K4 HG hkb
      go_wp2
      go_ret
      exact ⟨rfl, hk6, hb6⟩
    · have e0 := mkT_emp ha.out
      have e1 := nil_of (mkT a) ((eqT_iff _ _).2 (show mkT a = sE by rw [ha.out]; rfl))
      clear ha
      have kg : ((mkT k).toList == [103, 108, 111, 98, 97, 108]) = true := by rw [mkT_eq]; exact decide_eq_true hg.out
      clear hg
      clear K1 K2 K3 K4 HG hkb
      go_wp2
      go_ret
      exact ⟨rfl, hk6, hb6⟩
theorem pcs_info : (Tryz.prog.info? 48).map (·.size) = some 7 := by kernel_rfl
set_option maxHeartbeats 16000000 in
set_option maxRecDepth 100000 in
theorem ucut_any (s : ByteArray) (h q doc sel u x d : List UInt8) (asked node ow ok : Bool) (h1 : Lib.cut s.data.toList [63] = (h, q, asked)) (h2 : Lib.cut h ssl11 = (doc, sel, node)) (h3 : docK doc = ((u, x, d, ow), ok)) (w : World) (hs : s.size ≤ 1000000) (hG : GvS w) :
    Calls Tryz.prog 16 #[.string s] w fun e w' => e = .returned (.tuple #[.agg #[.string (mkT u), .string (mkT x), .string (mkT d), .bool ow, .bool node, .string (mkT sel), .string (mkT q)], .bool (ok && (node || !asked))]) ∧ Below w.heap.size w w' := by
  have hsl : s.data.toList.length = s.size := by simp
  have l1 := (cut_le s.data.toList 63).1
  rw [h1] at l1
  have l2 := (cut4_le h).1
  rw [h2] at l2
  simp only at l1 l2
  have k1 := fun v hv => cut1_any s 63 v (by omega) hv
  rw [h1] at k1
  have k2 := fun v hv => cut4_any (mkT h) v (by rw [mkT_size]; omega) hv
  rw [mkT_list, h2] at k2
  have k3 := fun v g v0 v2 v3 v4 v5 v6 hk hb => cutDocument_any w g v0 v2 v3 v4 v5 v6 (mkT doc) v hk hb (by rw [mkT_size]; omega) hG
  rw [mkT_list, h3] at k3
  simp only at k1 k2 k3
  have K1 := Lib.hid k1
  have K2 := Lib.hid k2
  have K3 := Lib.hid k3
  have HG := Lib.hid (fun v (hb : Below w.heap.size w v) => hG.next hb)
  have hk0 := OwnB.new0 w #[.string ⟨#[]⟩, .string ⟨#[]⟩, .string ⟨#[]⟩, .bool false, .bool false, .string ⟨#[]⟩, .string ⟨#[]⟩] 48
  have hb0 := (Below.refl w.heap.size w).alloc (Nat.le_refl _) (.cells #[.string ⟨#[]⟩, .string ⟨#[]⟩, .string ⟨#[]⟩, .bool false, .bool false, .string ⟨#[]⟩, .string ⟨#[]⟩] 48)
  clear k1 k2 k3 l1 l2 hsl hG hs h1 h2 h3
  obtain ⟨o, ho⟩ : ∃ o, (ok && (node || !asked)) = o := ⟨_, rfl⟩
  rw [ho]
  have hc : (ok = false ∧ o = false) ∨ (ok = true ∧ node = true ∧ o = true) ∨ (ok = true ∧ node = false ∧ o = !asked) := by
    cases ok <;> cases node <;> simp_all
  clear ho
  go_enter Tryz.func16, Tryz.ntmps16
  go_upto_region 1 with fail
  generalize w.alloc (.cells #[.string ⟨#[]⟩, .string ⟨#[]⟩, .string ⟨#[]⟩, .bool false, .bool false, .string ⟨#[]⟩, .string ⟨#[]⟩] 48) = w1 at *
  have hk1 := hk0
  have hb1 := hb0
  clear hk0 hb0
  go_wp2_with fail
  refine (K1.out _ (HG.out _ hb1)).mono ?_
  rintro e w2 ⟨rfl, hbx⟩
  have hk2 := hk1.next hbx
  have hb2 := hb1.trans (hbx.mono hb1.size)
  clear hk1 hb1 hbx
  have x6 := hk2.cell 6
  have xf6 := hk2.free 6
  simp only [List.getElem?_toArray, List.getElem?_cons_zero, List.getElem?_cons_succ] at x6
  go_upto_region 4 with fail
  have hk3 := (hk2.put7_6 (.string (mkT q)))
  have hb3 := (hk2.below hb2 6 (.string (mkT q)))
  generalize (w2.setCell ⟨w.heap.size, 6, none⟩ (.string (mkT q))) = w3 at *
  clear hk2 hb2 x6 xf6
  go_wp2_with fail
  refine (K2.out _ (HG.out _ hb3)).mono ?_
  rintro e w4 ⟨rfl, hbx⟩
  have hk4 := hk3.next hbx
  have hb4 := hb3.trans (hbx.mono hb3.size)
  clear hk3 hb3 hbx
  have x5 := hk4.cell 5
  have xf5 := hk4.free 5
  have x4 := hk4.cell 4
  have xf4 := hk4.free 4
  simp only [List.getElem?_toArray, List.getElem?_cons_zero, List.getElem?_cons_succ] at x5 x4
  go_upto_region 5 with fail
  have hk5 := ((hk4.put7_5 (.string (mkT sel))).put7_4 (.bool node))
  have hb5 := ((hk4.put7_5 (.string (mkT sel))).below (hk4.below hb4 5 (.string (mkT sel))) 4 (.bool node))
  generalize ((w4.setCell ⟨w.heap.size, 5, none⟩ (.string (mkT sel))).setCell ⟨w.heap.size, 4, none⟩ (.bool node)) = w5 at *
  clear hk4 hb4 x5 xf5 x4 xf4
  go_wp2_with fail
  refine (K3.out _ _ _ _ _ _ _ _ hk5 hb5).mono ?_
  rintro e w6 ⟨rfl, hk6, hb6⟩
  clear hk5 hb5 K1 K2 K3 HG
  have x0 := hk6.cell 0
  have xf0 := hk6.free 0
  have x1 := hk6.cell 1
  have xf1 := hk6.free 1
  have x2 := hk6.cell 2
  have xf2 := hk6.free 2
  have x3 := hk6.cell 3
  have xf3 := hk6.free 3
  have x4 := hk6.cell 4
  have xf4 := hk6.free 4
  have x5 := hk6.cell 5
  have xf5 := hk6.free 5
  have x6 := hk6.cell 6
  have xf6 := hk6.free 6
  simp only [List.getElem?_toArray, List.getElem?_cons_zero, List.getElem?_cons_succ] at x0 x1 x2 x3 x4 x5 x6
  rcases hc with ⟨rfl, rfl⟩ | ⟨rfl, rfl, rfl⟩ | ⟨rfl, rfl, rfl⟩
  · go_wp2
    refine bodyPost_ret (results_cell2 rfl _ _ w.heap.size _ _ _ rfl (hk6.all7 _ _ _ _ _ _ _).blk Tryz.underlying48 rfl pcs_info) rfl ?_
    exact ⟨rfl, (((((((hb6.setCell (Nat.le_refl _) _).setCell (Nat.le_refl _) _).setCell (Nat.le_refl _) _).setCell (Nat.le_refl _) _).setCell (Nat.le_refl _) _).setCell (Nat.le_refl _) _).setCell (Nat.le_refl _) _)⟩
  · go_wp2
    refine bodyPost_ret (results_cell2 rfl _ _ w.heap.size _ _ _ rfl (hk6.all7 _ _ _ _ _ _ _).blk Tryz.underlying48 rfl pcs_info) rfl ?_
    exact ⟨rfl, (((((((hb6.setCell (Nat.le_refl _) _).setCell (Nat.le_refl _) _).setCell (Nat.le_refl _) _).setCell (Nat.le_refl _) _).setCell (Nat.le_refl _) _).setCell (Nat.le_refl _) _).setCell (Nat.le_refl _) _)⟩
  · cases asked
    all_goals
      go_wp2
      refine bodyPost_ret (results_cell2 rfl _ _ w.heap.size _ _ _ rfl (hk6.all7 _ _ _ _ _ _ _).blk Tryz.underlying48 rfl pcs_info) rfl ?_
      exact ⟨rfl, (((((((hb6.setCell (Nat.le_refl _) _).setCell (Nat.le_refl _) _).setCell (Nat.le_refl _) _).setCell (Nat.le_refl _) _).setCell (Nat.le_refl _) _).setCell (Nat.le_refl _) _).setCell (Nat.le_refl _) _)⟩
end Go.Proofs.YtbdamneophbnnaaGreatDoor
namespace Wb
open Go Go.RowKit Go.Deep Go.ChangeShapes Go.WideShapes
theorem add_add9 (a : Addr) (n k : Nat) : (a.add n).add k = a.add (n + k) := by
  by_cases hk : k = 0
  · subst hk; simp [Addr.add]
  · rw [add_succ a n k (by omega)]
    show (if k = 0 then a.add n else ⟨(a.add n).block, (a.add n).off + k, none⟩) = _
    rw [if_neg hk]
structure StTypes (P : Program) (tE tM tSE tS tI tB : TypeId) : Prop where
  step : ∃ f0 f1 f2 f3 f4 f5 f6 : Field, P.underlying tE = some (.struct #[f0, f1, f2, f3, f4, f5, f6]) ∧ f0.type = tI ∧ f1.type = tB ∧ f2.type = tM ∧ f3.type = tI ∧ f4.type = tB ∧ f5.type = tM ∧ f6.type = tS ∧ f0.offset = 0 ∧ f1.offset = 1 ∧ f2.offset = 2 ∧ f3.offset = 4 ∧ f4.offset = 5 ∧ f5.offset = 6 ∧ f6.offset = 8
  stepC : P.cellsOf tE = 9
  name : ∃ f0 f1 : Field, P.underlying tM = some (.struct #[f0, f1]) ∧ f0.type = tS ∧ f1.type = tS ∧ f0.offset = 0 ∧ f1.offset = 1
  nameC : P.cellsOf tM = 2
  steps : P.underlying tSE = some (.slice tE)
  str : P.underlying tS = some .string
  strC : P.cellsOf tS = 1
  int : P.underlying tI = some (.int .i64)
  intC : P.cellsOf tI = 1
  bool : P.underlying tB = some .bool
  boolC : P.cellsOf tB = 1
end Wb
namespace Go.Proofs.YtbdamneophbnnaaGreatDoor
open Go.RowKit Wb Go.Deep Go.ChangeShapes Go.WideShapes
section
variable {H : Type} {enc : TypeId × Value → H} {P : Program} {w : World} {base : Nat} {spare : Nat → Bool} {held : Bool} {tE tM tSE tS tI tB : TypeId}
theorem open_name9 (T : StTypes P tE tM tSE tS tI tB) {f : Nat} {cs : List Value} {x : DataW H × List MemPlace} (h : DataW.trod enc P w base spare held f tM cs = some x) : ∃ a b : ByteArray, cs = [.string a, .string b] := by
  obtain ⟨f0, f1, u, e0, e1, o0, o1⟩ := T.name
  obtain ⟨xs, n, _, _, hl, hx, hf⟩ := DataW.trod_struct u h
  rw [T.nameC] at hl
  have h0 := hf 0 f0 rfl
  have h1 := hf 1 f1 rfl
  rw [e0, o0, T.strC] at h0
  rw [e1, o1, T.strC] at h1
  match cs, hl, xs, hx with
  | [c0, c1], _, [y0, y1], _ =>
    obtain ⟨a, ha, _⟩ := DataW.trod_string T.str (show DataW.trod enc P w base spare held n tS [c0] = some y0 from h0)
    obtain ⟨b, hb, _⟩ := DataW.trod_string T.str (show DataW.trod enc P w base spare held n tS [c1] = some y1 from h1)
    simp only [List.cons.injEq, and_true] at ha hb
    exact ⟨a, b, by rw [ha, hb]⟩
theorem open_step (T : StTypes P tE tM tSE tS tI tB) {f : Nat} {cs : List Value} {x : DataW H × List MemPlace} (h : DataW.trod enc P w base spare held f tE cs = some x) : ∃ s : StV, cs = cells9 s := by
  obtain ⟨f0, f1, f2, f3, f4, f5, f6, u, e0, e1, e2, e3, e4, e5, e6, o0, o1, o2, o3, o4, o5, o6⟩ := T.step
  obtain ⟨xs, n, _, _, hl, hx, hf⟩ := DataW.trod_struct u h
  rw [T.stepC] at hl
  have h0 := hf 0 f0 rfl
  have h1 := hf 1 f1 rfl
  have h2 := hf 2 f2 rfl
  have h3 := hf 3 f3 rfl
  have h4 := hf 4 f4 rfl
  have h5 := hf 5 f5 rfl
  have h6 := hf 6 f6 rfl
  rw [e0, o0, T.intC] at h0
  rw [e1, o1, T.boolC] at h1
  rw [e2, o2, T.nameC] at h2
  rw [e3, o3, T.intC] at h3
  rw [e4, o4, T.boolC] at h4
  rw [e5, o5, T.nameC] at h5
  rw [e6, o6, T.strC] at h6
  match cs, hl, xs, hx with
  | [c0, c1, c2, c3, c4, c5, c6, c7, c8], _, [y0, y1, y2, y3, y4, y5, y6], _ =>
    obtain ⟨k, hk, _⟩ := DataW.trod_int T.int (show DataW.trod enc P w base spare held n tI [c0] = some y0 from h0)
    obtain ⟨b, hb, _⟩ := DataW.trod_bool T.bool (show DataW.trod enc P w base spare held n tB [c1] = some y1 from h1)
    obtain ⟨n1, n2, hn⟩ := open_name9 T (show DataW.trod enc P w base spare held n tM [c2, c3] = some y2 from h2)
    obtain ⟨p, hp, _⟩ := DataW.trod_int T.int (show DataW.trod enc P w base spare held n tI [c4] = some y3 from h3)
    obtain ⟨b2, hb2, _⟩ := DataW.trod_bool T.bool (show DataW.trod enc P w base spare held n tB [c5] = some y4 from h4)
    obtain ⟨a1, a2, ha⟩ := open_name9 T (show DataW.trod enc P w base spare held n tM [c6, c7] = some y5 from h5)
    obtain ⟨v, hv, _⟩ := DataW.trod_string T.str (show DataW.trod enc P w base spare held n tS [c8] = some y6 from h6)
    simp only [List.cons.injEq, and_true] at hk hb hn hp hb2 ha hv
    exact ⟨⟨k, b, (n1, n2), p, b2, (a1, a2), v⟩, by rw [hk, hb, hn.1, hn.2, hp, hb2, ha.1, ha.2, hv]; rfl⟩
theorem sl9_of_trod (T : StTypes P tE tM tSE tS tI tB) {A : Option Addr} {len cap : Nat} {d : DataW H} {p : List MemPlace} (h : DataW.Trod enc P w base spare held tSE (.slice A len cap) d p) : ∃ l : List StV, len = l.length ∧ Sl9 w A l := by
  obtain ⟨fuel, hf0⟩ := h
  rcases DataW.trod_slice T.steps hf0 with ⟨hcs, _⟩ | ⟨a, ln, cp, elems, rest, n, _, hcs, _, hb, hlc, hcm, he, hi, _⟩
  · simp [Value.cells] at hcs
    obtain ⟨rfl, rfl, rfl⟩ := hcs
    exact ⟨[], rfl, Sl.nil _ 9 _⟩
  · simp [Value.cells] at hcs
    obtain ⟨rfl, rfl, rfl⟩ := hcs
    have each : ∀ i, i < len → ∃ s : StV, ∀ j v, (cells9 s)[j]? = some v → w.cell? (a.add (i * 9 + j)) = some v := by
      intro i hil
      have h1 := hi i hil
      rw [T.stepC, List.getElem?_eq_getElem (by omega)] at h1
      obtain ⟨cs, h2, h3⟩ := Option.bind_eq_some_iff.1 h1
      obtain ⟨s, rfl⟩ := open_step T h3
      obtain ⟨_, _, hcell⟩ := World.cells?_some h2
      refine ⟨s, fun j v hj => ?_⟩
      have hj9 : j < 9 := (List.getElem?_eq_some_iff.1 hj).1
      have := hcell j (by omega)
      rw [add_add9] at this
      rw [this]
      have e := (List.getElem?_eq_some_iff.1 hj).2
      rw [← e]
      simp
    let g : Nat → StV := fun i => if h : i < len then Classical.choose (each i h) else ⟨0, false, nE, 0, false, nE, sE⟩
    have hg : ∀ i, i < len → ∀ j v, (cells9 (g i))[j]? = some v → w.cell? (a.add (i * 9 + j)) = some v := by
      intro i h
      simp only [g, h, dif_pos]
      exact Classical.choose_spec (each i h)
    refine ⟨(List.range len).map g, by simp, ⟨cells9L_len _, fun hn => ?_⟩⟩
    simp only [List.length_map, List.length_range] at hn
    have hblk : a.block < w.heap.size := by
      have := World.block_lt_of_cell? w _ (hg 0 hn 0 _ rfl)
      rwa [add_block] at this
    refine ⟨a, rfl, hblk, fun j u hu => ?_⟩
    have hj : j < len * 9 := by
      have := (List.getElem?_eq_some_iff.1 hu).1
      rw [cells9L_len] at this
      simpa using this
    have hx : ((List.range len).map g)[j / 9]? = some (g (j / 9)) := by
      rw [List.getElem?_map, List.getElem?_range (by omega)]; rfl
    have hc := cells9L_at _ _ _ (j % 9) hx (by omega)
    have ej : j / 9 * 9 + j % 9 = j := by omega
    rw [ej, hu] at hc
    have := hg (j / 9) (by omega) (j % 9) u hc.symm
    rwa [ej] at this
end
theorem st_types : StTypes Tryz.prog 46 44 23 9 3 4 where
  step := ⟨_, _, _, _, _, _, _, Tryz.underlying46, rfl, rfl, rfl, rfl, rfl, rfl, rfl, rfl, rfl, rfl, rfl, rfl, rfl, rfl⟩
  stepC := by kernel_rfl
  name := ⟨_, _, Tryz.underlying44, rfl, rfl, rfl, rfl⟩
  nameC := by kernel_rfl
  steps := Tryz.underlying23
  str := Tryz.underlying9
  strC := by kernel_rfl
  int := Tryz.underlying3
  intC := by kernel_rfl
  bool := Tryz.underlying4
  boolC := by kernel_rfl
end Go.Proofs.YtbdamneophbnnaaGreatDoor
namespace Wb
open Go Go.RowKit Go.Deep Go.ChangeShapes Go.WideShapes
def strOf : Value → ByteArray
  | .string s => s
  | _ => ⟨#[]⟩
section
variable {H : Type} {enc : TypeId × Value → H} {P : Program} {W : World} {base : Nat} {spare : Nat → Bool} {held : Bool}
theorem sl2_of_trod {t e : TypeId} {f0 f1 : Field} {A : Option Addr} {len cap : Nat} {d : DataW H} {p : List MemPlace} (ht : P.underlying t = some (.slice e)) (he : P.underlying e = some (.struct #[f0, f1]))
    (ce : P.cellsOf e = 2) (o0 : f0.offset = 0) (o1 : f1.offset = 1) (c0 : P.cellsOf f0.type = 1) (c1 : P.cellsOf f1.type = 1) (s0 : P.underlying f0.type = some .string) (s1 : P.underlying f1.type = some .string)
    (h : DataW.Trod enc P W base spare held t (.slice A len cap) d p) : ∃ l : List Pr, len = l.length ∧ Sl2 W A l := by
  obtain ⟨fuel, hf⟩ := h
  rcases open_slice_pairs ht he ce o0 o1 c0 c1 hf with ⟨hcs, _⟩ | ⟨a, ln, cp, m, n, V0, V1, D0, D1, P0, P1, hcs, _, hlc, _, hm, _, hi⟩
  · simp [Value.cells] at hcs
    obtain ⟨rfl, rfl, rfl⟩ := hcs
    exact ⟨[], rfl, Sl2.nil _ _⟩
  · simp [Value.cells] at hcs
    obtain ⟨rfl, rfl, rfl⟩ := hcs
    have hlm : len ≤ m := by rw [hm]; split <;> omega
    have hs : ∀ i, i < len → W.cell? (a.add (i * 2)) = some (.string (strOf (V0 i))) ∧ W.cell? (a.add (i * 2 + 1)) = some (.string (strOf (V1 i))) := by
      intro i hil
      obtain ⟨h1, h2, h3, h4⟩ := hi i (by omega)
      obtain ⟨x, hx, _⟩ := DataW.trod_string s0 h3
      obtain ⟨y, hy, _⟩ := DataW.trod_string s1 h4
      simp only [List.cons.injEq, and_true] at hx hy
      rw [h1, h2, hx, hy]
      exact ⟨rfl, rfl⟩
    refine ⟨(List.range len).map fun i => (strOf (V0 i), strOf (V1 i)), by simp, cells2_length _, fun hn => ?_⟩
    simp only [List.length_map, List.length_range] at hn
    have hb : a.block < W.heap.size := by
      have := World.block_lt_of_cell? W _ (hs 0 hn).1
      rw [add_block] at this
      exact this
    refine ⟨a, rfl, hb, fun j u hu => ?_⟩
    have hj : j < len * 2 := by
      have := (List.getElem?_eq_some_iff.1 hu).1
      rw [cells2_length] at this
      simpa using this
    have hx : ((List.range len).map fun i => (strOf (V0 i), strOf (V1 i)))[j / 2]? = some (strOf (V0 (j / 2)), strOf (V1 (j / 2))) := by
      rw [List.getElem?_map, List.getElem?_range (by omega)]; rfl
    obtain ⟨g1, g2⟩ := cells2_at _ _ _ hx
    obtain ⟨h1, h2⟩ := hs (j / 2) (by omega)
    rcases (by omega : j = j / 2 * 2 ∨ j = j / 2 * 2 + 1) with e | e
    · rw [e] at hu ⊢
      rw [g1] at hu
      rw [h1, hu]
    · rw [e] at hu ⊢
      rw [g2] at hu
      rw [h2, hu]
end
end Wb
