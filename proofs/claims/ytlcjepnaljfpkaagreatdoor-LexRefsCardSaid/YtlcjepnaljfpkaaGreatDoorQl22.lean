/- LePlain3 LeW. -/
import Derived.Shelf.GgClosure.StringsTrimFunc
import Derived.Test.YtlcjepnaljfpkaaGreatDoorQl21
namespace Wb
open Go
theorem idx_behind (s : ByteArray) : ∀ (f pos : Nat), s.size ≤ pos + f →
    (Lib.idxFuncFrom (fun x => partB (x : Int)) false s f pos = -1 ∧ behindU f (s.data.toList.drop pos) = []) ∨
    ∃ k : Nat, Lib.idxFuncFrom (fun x => partB (x : Int)) false s f pos = (k : Int) ∧ k < s.size ∧ behindU f (s.data.toList.drop pos) = s.data.toList.drop k
  | 0, pos, h => .inl ⟨rfl, by
      show s.data.toList.drop pos = []
      exact List.drop_eq_nil_of_le (by have : s.size = s.data.toList.length := by simp
                                       omega)⟩
  | f + 1, pos, h => by
    have hs : s.size = s.data.toList.length := by simp
    unfold Lib.idxFuncFrom behindU
    by_cases hp : pos < s.size
    · have hne : s.data.toList.drop pos ≠ [] := by
        intro e
        have := congrArg List.length e
        rw [List.length_drop] at this
        simp at this
        omega
      rw [if_pos hp, if_neg hne, decode_U s pos hp]
      by_cases hq : partB ((decU (s.data.toList.drop pos)).1 : Int) = true
      · rw [if_neg (by rw [hq]; decide), if_pos hq, List.drop_drop]
        exact idx_behind s f _ (by have := decU_pos (s.data.toList.drop pos); omega)
      · rw [if_pos (Bool.eq_false_iff.2 hq), if_neg hq]
        exact .inr ⟨pos, rfl, hp, rfl⟩
    · have he : s.data.toList.drop pos = [] := List.drop_eq_nil_of_le (by omega)
      rw [if_neg hp, he, if_pos rfl]
      exact .inl ⟨rfl, rfl⟩
theorem trim_behind (s : ByteArray) : (Lib.trimLeftF (fun x => partB (x : Int)) s).data.toList = behindU s.size s.data.toList := by
  have hs : s.size = s.data.toList.length := by simp
  unfold Lib.trimLeftF Lib.idxFunc
  rcases idx_behind s s.size 0 (by omega) with ⟨h1, h2⟩ | ⟨k, h1, h2, h3⟩
  · rw [h1, if_pos rfl]
    rw [List.drop_zero] at h2
    rw [h2]
  · rw [h1, if_neg (by omega)]
    rw [List.drop_zero] at h3
    rw [h3]
    rw [Go.Proofs.YtlcjepnaljfpkaaGreatDoor.extract_L, Int.toNat_natCast, List.take_of_length_le (by rw [List.length_drop]; omega)]
theorem low_all : ∀ d ∈ [120, 109, 108, 117, 116, 102, 45, 56], ∀ c : Fin 256, (decide (c.val < 128) && foldE c.val (UInt8.toNat d)) = ((if 65 ≤ UInt8.ofNat c.val ∧ UInt8.ofNat c.val ≤ 90 then UInt8.ofNat c.val + 32 else UInt8.ofNat c.val) == d) := by decide +kernel
end Wb
namespace Go.Proofs.YtlcjepnaljfpkaaGreatDoor
open Go.RowKit Wb
theorem foldB_yes {x y : UInt8} {l m : List UInt8} (h : x.toNat < 128) (he : x.toNat = y.toNat ∨ (65 ≤ x.toNat ∧ x.toNat ≤ 90 ∧ y.toNat = x.toNat + 32) ∨ (65 ≤ y.toNat ∧ y.toNat ≤ 90 ∧ x.toNat = y.toNat + 32)) : foldB (x :: l) (y :: m) = foldB l m := by
  simp only [foldB, foldE]
  rw [decide_eq_true h, decide_eq_true he]
  rfl
theorem foldB_no {x y : UInt8} {l m : List UInt8} (he : ¬ (x.toNat = y.toNat ∨ (65 ≤ x.toNat ∧ x.toNat ≤ 90 ∧ y.toNat = x.toNat + 32) ∨ (65 ≤ y.toNat ∧ y.toNat ≤ 90 ∧ x.toNat = y.toNat + 32))) : foldB (x :: l) (y :: m) = false := by
  simp only [foldB, foldE]
  rw [decide_eq_false he]
  simp
theorem foldB_high {x y : UInt8} {l m : List UInt8} (h : ¬ x.toNat < 128) : foldB (x :: l) (y :: m) = false := by
  simp only [foldB]
  rw [decide_eq_false h]
  rfl
set_option maxHeartbeats 8000000 in
set_option maxRecDepth 1000000 in
theorem fold_any (s t : ByteArray) (w : World) (hG : Gv w) (hs : s.size ≤ 1000000) (ht : t.size ≤ 1000) (hta : ∀ (j : Nat) b, t.data.toList[j]? = some b → b.toNat < 128 ∧ b ≠ 75 ∧ b ≠ 83 ∧ b ≠ 107 ∧ b ≠ 115) :
    Calls Tryz.prog 66 #[.string s, .string t] w fun e w' => e = .returned (.bool (foldB s.data.toList t.data.toList)) ∧ Below w.heap.size w w' := by
  obtain ⟨r, hr⟩ : ∃ r, foldB s.data.toList t.data.toList = r := ⟨_, rfl⟩
  rw [hr]
  have HR := Lib.hid hr
  have HT := Lib.hid hta
  obtain ⟨M, hM⟩ : ∃ M : Nat, min (s.size : Int) (t.size : Int) = (M : Int) := ⟨min s.size t.size, by omega⟩
  have hMs : M ≤ s.size := by omega
  have hMt : M ≤ t.size := by omega
  have hMe : M = s.size ∨ M = t.size := by omega
  clear hr hta
  go_enter Tryz.func66, Tryz.ntmps66
  go_wp2
  refine wp_scope_inline rfl ?_
  go_wp2
  go_loopg [5] M (fun g s5 wx => w = wx ∧ ∃ i : Nat, i + g = M ∧ s5 = .int .i64 i ∧ Hid (foldB (s.data.toList.drop i) (t.data.toList.drop i) = r))
  case atStart => exact ⟨rfl, 0, by omega, rfl, HR⟩
  case round =>
    obtain ⟨rfl, i, hig, rfl, HI⟩ := hrel
    clear hM
    cases gk with
    | zero =>
      have hiM : ¬ ((i : Int) < (M : Int)) := by omega
      obtain rfl : i = M := by omega
      have hE : r = decide (s.size = t.size) := by
        rw [← HI.out, foldB_end _ _ (by
          rcases hMe with h | h
          · exact Or.inl (List.drop_eq_nil_of_le (by rw [← Lib.size_eq]; omega))
          · exact Or.inr (List.drop_eq_nil_of_le (by rw [← Lib.size_eq]; omega))), List.length_drop, List.length_drop, ← Lib.size_eq, ← Lib.size_eq]
        exact decide_eq_decide.2 (by omega)
      by_cases hst : s.size = t.size
      · have hb : ((s.size : Int) == (t.size : Int)) = true := beq_iff_eq.2 (by omega)
        go_wp2
        change bodyPost Tryz.prog Tryz.f66 (fun e w' => e = .returned (.bool r) ∧ Below w.heap.size w w') Exit.ret _ _
        go_ret
        exact ⟨by rw [hE]; simp [hst], Below.refl _ _⟩
      · have hb : ((s.size : Int) == (t.size : Int)) = false := beq_eq_false_iff_ne.2 (by omega)
        go_wp2
        change bodyPost Tryz.prog Tryz.f66 (fun e w' => e = .returned (.bool r) ∧ Below w.heap.size w w') Exit.ret _ _
        go_ret
        exact ⟨by rw [hE]; simp [hst], Below.refl _ _⟩
    | succ g =>
      have hiM : (i : Int) < (M : Int) := by omega
      have hisz : (i : Int) < (s.size : Int) := by omega
      have hitz : (i : Int) < (t.size : Int) := by omega
      obtain ⟨x, hx⟩ : ∃ x : UInt8, s[i]'(by omega) = x := ⟨_, rfl⟩
      obtain ⟨y, hy⟩ : ∃ y : UInt8, t[i]'(by omega) = y := ⟨_, rfl⟩
      have hxl : s.data.toList[i]? = some x := by rw [← hx]; exact Lib.data_getElem? s i (by omega)
      have hyl : t.data.toList[i]? = some y := by rw [← hy]; exact Lib.data_getElem? t i (by omega)
      obtain ⟨hy128, hyn⟩ := HT.out i y hyl
      have HY := Lib.hid hyn
      have hor : bits .or .u8 (x.toNat : Int) (y.toNat : Int) = ((x.toNat ||| y.toNat : Nat) : Int) := u8_or_nat _ _ x.toNat_lt (by omega)
      have Hx := Lib.hid (And.intro hxl hyl)
      clear hxl hyl hyn
      by_cases hx128 : x.toNat < 128
      · have hor128 : ¬ ((128 : Int) ≤ ((x.toNat ||| y.toNat : Nat) : Int)) := by have := Nat.or_lt_two_pow (n := 7) hx128 hy128; omega
        go_wp2
        all_goals (try simp only [beq_iff_eq, beq_eq_false_iff_ne, ne_eq] at *)
        all_goals first
          | (go_roundg g
             case measure => omega
             case rel => exact ⟨rfl, i + 1, by omega, by first | rfl | simp, Lib.hid (by rw [← HI.out, Lib.drop_at Hx.out.1, Lib.drop_at Hx.out.2, foldB_yes hx128 (by omega)])⟩)
          | (change bodyPost Tryz.prog Tryz.f66 (fun e w' => e = .returned (.bool r) ∧ Below w.heap.size w w') Exit.ret _ _
             go_ret
             refine ⟨?_, Below.refl _ _⟩
             rw [← HI.out, Lib.drop_at Hx.out.1, Lib.drop_at Hx.out.2, foldB_no (by omega)]
             rfl)
      · have hor128 : (128 : Int) ≤ ((x.toNat ||| y.toNat : Nat) : Int) := by have := Nat.left_le_or (n := x.toNat) (m := y.toNat); omega
        obtain rfl : r = false := by rw [← HI.out, Lib.drop_at Hx.out.1, Lib.drop_at Hx.out.2, foldB_high hx128]
        go_wp2
        go_step3
        refine ⟨rfl, ?_⟩
        have hsl : (s.extract i s.size).data.toList = s.data.toList.drop i := by rw [extract_L, List.take_of_length_le (by simp)]
        have htl : (t.extract i t.size).data.toList = t.data.toList.drop i := by rw [extract_L, List.take_of_length_le (by simp)]
        have hzs : 0 < (s.extract i s.size).size := by simp; omega
        have hys : 0 < (t.extract i t.size).size := by simp; omega
        have hyb : (t.extract i t.size).size ≤ 1000 := by simp; omega
        have hz0 : (s.extract i s.size)[0] = x := by
          have h := Lib.data_getElem? (s.extract i s.size) 0 hzs
          rw [hsl, Lib.drop_at Hx.out.1] at h
          exact (Option.some.inj h).symm
        have hy0 : (t.extract i t.size).data.toList[0]? = some y := by rw [htl, Lib.drop_at Hx.out.2]; rfl
        obtain ⟨z, hz⟩ : ∃ z, s.extract i s.size = z := ⟨_, rfl⟩
        obtain ⟨yy, hyy⟩ : ∃ z, t.extract i t.size = z := ⟨_, rfl⟩
        simp only [hz] at hzs hz0
        simp only [hyy] at hys hyb hy0
        have hdh := (decode_high z 0 hzs (by rw [hz0]; omega)).1
        have hnx0 := fun (ty : TypeId) => run_next_any (P := Tryz.prog) w z 0 ty hzs
        obtain ⟨R, hR⟩ : ∃ R, (Utf8.decode z 0).1 = R := ⟨_, rfl⟩
        rw [hR] at hdh hnx0
        have HNX := Lib.hid hnx0
        have hdri := dri_any yy y
        have g1 : (i : Int) ≤ (s.size : Int) := by omega
        have g2 : (i : Int) ≤ (t.size : Int) := by omega
        have hfz : ∀ n : Fin 128, n.val ≠ 75 → n.val ≠ 83 → n.val ≠ 107 → n.val ≠ 115 → ∃ m : Fin 128, foldZ.getD n.val 0 = (m.val : Int) ∧ foldZ.getD m.val 0 = (n.val : Int) := by decide +kernel
        obtain ⟨⟨m, hm⟩, hm1, hm2⟩ := hfz ⟨y.toNat, hy128⟩ (fun e => HY.out.1 (UInt8.toNat_inj.1 e)) (fun e => HY.out.2.1 (UInt8.toNat_inj.1 e)) (fun e => HY.out.2.2.1 (UInt8.toNat_inj.1 e)) (fun e => HY.out.2.2.2 (UInt8.toNat_inj.1 e))
        simp only at hm1 hm2
        have HS1 := Lib.hid fun w2 hg => simple_any y.toNat hy128 w2 hg
        have HS2 := Lib.hid fun w2 hg => simple_any m hm w2 hg
        rw [hm1] at HS1
        rw [hm2] at HS2
        have hGi : Gv (w.iter z 0) := hG.alloc _
        clear hfz HT HI Hx hsl htl hx hy hm1 hm2 hnx0 hR
        have n0 : ((yy.size : Int) == 0) = false := beq_eq_false_iff_ne.2 (by omega)
        have n1 : ((y.toNat : Int) == (R : Int)) = false := beq_eq_false_iff_ne.2 (by omega)
        have n2 : (y.toNat : Int) < (R : Int) := by omega
        have n3 : ¬ ((R : Int) < 128) := by omega
        have n4 : ((m : Int) == (R : Int)) = false := beq_eq_false_iff_ne.2 (by omega)
        have n5 : (m : Int) < (R : Int) := by omega
        have y1 : (1 : Int) ≤ (yy.size : Int) := by omega
        go_wp2
        go_loopw [1] (fun s1 wr => s1 = .string yy ∧ wr = w.iter z 0) (fun _ _ => 0)
        case atStart => exact ⟨rfl, rfl⟩
        case round =>
          obtain ⟨rfl, rfl⟩ := hrel
          have hnx := HNX.out
          go_wp2_with fail
          refine (hdri _ hy0 hy128).mono ?_
          rintro e w3 ⟨rfl, rfl⟩
          have hG3 : ∀ p, Gv (w.iter z p) := fun p => hG.alloc _
          clear hnx HNX
          go_wp2_with fail
          refine (HS1.out _ (hG3 _)).mono ?_
          rintro e w4 ⟨rfl, rfl⟩
          go_wp2
          go_loopw [13] (fun s13 wr => ∃ v : Nat, s13 = .int .i32 v ∧ wr = w.iter z (Utf8.decode z 0).2 ∧ (v = y.toNat ∨ v = m)) (fun s13 _ => (intOf s13 - (y.toNat : Int)).natAbs)
          case atStart => exact ⟨m, rfl, by first | rfl | simp, .inr rfl⟩
          case round =>
            obtain ⟨v, rfl, rfl, hv⟩ := hrel
            by_cases hvy : v = y.toNat
            · subst hvy
              have q1 : ((y.toNat : Int) != (y.toNat : Int)) = false := by simp
              go_wp2
              change bodyPost Tryz.prog Tryz.f66 (fun e w' => e = .returned (.bool false) ∧ Below w.heap.size w w') Exit.ret _ _
              go_ret
              exact ⟨rfl, (Below.refl _ w).alloc (Nat.le_refl _) _⟩
            · obtain rfl : v = m := by omega
              have q1 : ((v : Int) != (y.toNat : Int)) = true := by simp; omega
              go_wp2_with fail
              refine (HS2.out _ (hG3 _)).mono ?_
              rintro e w5 ⟨rfl, rfl⟩
              go_wp2
              go_roundw
              case rel => exact ⟨y.toNat, by first | rfl | simp, by first | rfl | simp, .inl rfl⟩
              case measure =>
                simp only [intOf]
                omega
end Go.Proofs.YtlcjepnaljfpkaaGreatDoor
