/- FhC. -/
import Derived.Test.YtmabhbihgenmcaaGreatDoorKc23
namespace Wb
open Go
def goF (S : List UInt8) (line : Nat) (first : Bool) (ws : List (List UInt8)) : Option (List UInt8) := (printWs line first ws).map fun r => S ++ (r ++ [13, 10])
theorem goF_start (n v : List UInt8) : printF (n, v) = goF (n ++ [58]) (n.length + 1) true (restW v 0) := by
  unfold printF goF
  rw [← restW_zero]
  congr 1
  funext r
  simp
theorem goF_nil (S : List UInt8) (line : Nat) (first : Bool) : goF S line first [] = some (S ++ [13, 10]) := rfl
theorem goF_step (S : List UInt8) (line : Nat) (first : Bool) (w : List UInt8) (ws : List (List UInt8)) : goF S line first (w :: ws) =
    if 998 < (if (!first && decide (76 < line + 1 + w.length)) = true then 0 else line) + 1 + w.length then none else
      goF ((S ++ if (!first && decide (76 < line + 1 + w.length)) = true then [13, 10] else []) ++ 32 :: w) ((if (!first && decide (76 < line + 1 + w.length)) = true then 0 else line) + 1 + w.length) false ws := by
  unfold goF
  rw [printWs]
  (try simp only)
  generalize (!first && decide (76 < line + 1 + w.length)) = fb
  generalize (if fb = true then 0 else line) + 1 + w.length = l2
  by_cases h : 998 < l2
  · rw [if_pos h, if_pos h]
    rfl
  · rw [if_neg h, if_neg h, Option.map_map]
    congr 1
    funext r
    cases fb <;> simp
end Wb
namespace Go.Proofs.YtmabhbihgenmcaaGreatDoor
open Go.RowKit Wb
def OneOut (o : Option (List UInt8)) (e : Ending) : Prop :=
  match o with
  | some s => e = .returned (.tuple #[.string (mkB s), .bool true])
  | none => e = .returned (.tuple #[.string ⟨#[]⟩, .bool false])
set_option maxRecDepth 100000 in
set_option maxHeartbeats 16000000 in
theorem rprint_any (n v : ByteArray) (w : World) (hn : n.size ≤ 1000000) (hv : v.size ≤ 1000000) (hp : printableF v.data.toList = true) :
    Calls Tryz.prog 49 #[.agg #[.string n, .string v]] w fun e w' => OneOut (printF (n.data.toList, v.data.toList)) e ∧ Below w.heap.size w w' := by
  obtain ⟨o, ho⟩ : ∃ o, printF (n.data.toList, v.data.toList) = o := ⟨_, rfl⟩
  rw [ho]
  rw [goF_start] at ho
  have hbl := printable_end hp
  have HO := Lib.hid ho
  have HBL := Lib.hid hbl
  have hb0 := (Below.refl w.heap.size w).alloc (Nat.le_refl _) (.cells #[.string n, .string v] 61)
  have HB := Lib.hid hb0
  have g1 : ¬ 9223372036854775807 < n.size + (⟨#[58]⟩ : ByteArray).size := by have : (⟨#[58]⟩ : ByteArray).size = 1 := rfl; omega
  have g2 : ¬ 9223372036854775807 < n.size + 1 := by omega
  have HST : Hid (n ++ (⟨#[58]⟩ : ByteArray) = mkB (n.data.toList ++ [58])) := Lib.hid (mkB_app n.data.toList [58])
  clear ho hbl hb0 hp
  go_enter Tryz.func49, Tryz.ntmps49
  go_wp2
  go_loopw [4, 5, 6, 7] (fun v4 v5 v6 v7 wr => ∃ (i wo line : Nat) (S : List UInt8), v7 = .int .i64 i ∧ v6 = .int .i64 wo ∧ v5 = .int .i64 line ∧ v4 = .string (mkB S) ∧ i ≤ v.size + 1 ∧ wo ≤ i ∧ line ≤ n.size + 1000 ∧ S.length ≤ n.size + 1 + 3 * i ∧ Hid (o = goF S line (decide (wo = 0)) (restW v.data.toList i)) ∧ wr = w.alloc (.cells #[.string n, .string v] 61)) (fun _ _ _ v7 _ => v.size + 2 - (intOf v7).toNat)
  case atStart => exact ⟨0, 0, n.size + 1, n.data.toList ++ [58], rfl, rfl, by simp, by rw [HST.out], by omega, by omega, by omega, by rw [List.length_append, ← ba_size]; simp, Lib.hid (by rw [HO.out.symm, ba_size]; rfl), rfl⟩
  case round =>
    obtain ⟨i, wo, line, S, rfl, rfl, rfl, rfl, hi, hwo, hli, hS, HQ, rfl⟩ := hrel
    by_cases h0 : i < v.size
    · have hst := restW_step HBL.out (i := i) (by rw [← ba_size]; exact h0)
      have hle := while_le v.data.toList i
      have hin := fun (j : Nat) (c : UInt8) (h1 : j < ((v.data.toList.drop i).takeWhile (· != 32)).length) (h2 : v.data.toList[i + j]? = some c) => while_in h1 h2
      have hout := fun (c : UInt8) (h2 : v.data.toList[i + ((v.data.toList.drop i).takeWhile (· != 32)).length]? = some c) => while_out h2
      have heq := while_eq v.data.toList i
      rw [← ba_size] at hle
      have hq := HQ.out
      rw [hst, goF_step] at hq
      obtain ⟨W, hW⟩ : ∃ W, (v.data.toList.drop i).takeWhile (· != 32) = W := ⟨_, rfl⟩
      rw [hW] at hq hle hin hout heq
      obtain ⟨m, hm⟩ : ∃ m, W.length = m := ⟨_, rfl⟩
      rw [hm] at hq hle hin hout heq
      have HQ2 := Lib.hid hq
      have HIN := Lib.hid (fun (k : Nat) (hk : k < v.size) (h1 : i ≤ k) (h2 : k < i + m) => (show ((v[k].toNat : Int) == 32) = false from by
        rw [beq_eq_false_iff_ne]
        intro e
        refine hin (k - i) v[k] (by omega) (by rw [Nat.add_sub_cancel' h1]; exact ba_get hk) (UInt8.toNat_inj.1 (show v[k].toNat = 32 by omega))))
      have HOUT := Lib.hid (fun (hk : i + m < v.size) => (show ((v[i + m].toNat : Int) == 32) = true from by
        rw [hout v[i + m] (ba_get hk)]
        rfl))
      have HX := Lib.hid (show v.extract i (i + m) = mkB W from by
        refine eq_of_lists ?_
        rw [Lib.extract_data, mkB_list, heq, Nat.add_sub_cancel_left])
      have HM := Lib.hid hm
      clear hst hin hout heq hq hW hm HQ
      go_wp2
      go_loopw [8] (fun v8 wr => ∃ k : Nat, i ≤ k ∧ k ≤ i + m ∧ v8 = .int .i64 k ∧ wr = w.alloc (.cells #[.string n, .string v] 61)) (fun v8 _ => v.size + 1 - (intOf v8).toNat)
      case atStart => exact ⟨i, by omega, by omega, rfl, by first | rfl | trivial⟩
      case round =>
        obtain ⟨k, hk1, hk2, rfl, rfl⟩ := hrel
        by_cases hkm : k < i + m
        · have hkv : k < v.size := by omega
          have t1 := HIN.out k hkv hk1 hkm
          go_wp2
          go_roundw
          case rel => exact ⟨k + 1, by omega, by omega, by go_num, by first | rfl | trivial⟩
          case measure => simp [intOf]; omega
        · obtain rfl : k = i + m := by omega
          have hms : (mkB S).size = S.length := mkB_size S
          have hfo : (wo = 0 ∧ (!decide (wo = 0) && decide (76 < line + 1 + m)) = false) ∨ (0 < wo ∧ 76 < line + 1 + m ∧ (!decide (wo = 0) && decide (76 < line + 1 + m)) = true) ∨ (0 < wo ∧ ¬ 76 < line + 1 + m ∧ (!decide (wo = 0) && decide (76 < line + 1 + m)) = false) := by
            by_cases h1 : wo = 0
            · exact .inl ⟨h1, by rw [decide_eq_true h1]; rfl⟩
            · by_cases h2 : 76 < line + 1 + m
              · exact .inr (.inl ⟨by omega, h2, by rw [decide_eq_false h1, decide_eq_true h2]; rfl⟩)
              · exact .inr (.inr ⟨by omega, h2, by rw [decide_eq_false h1, decide_eq_false h2]; rfl⟩)
          obtain ⟨sb, hsb⟩ : ∃ sb, mkB S = sb := ⟨_, rfl⟩
          rw [hsb] at hms
          have HSB := Lib.hid hsb
          rw [hsb]
          clear hsb
          by_cases hkv : i + m < v.size
          · have t1 := HOUT.out hkv
            rcases hfo with ⟨rfl, hfo⟩ | ⟨hwp, h76, hfo⟩ | ⟨hwp, h76, hfo⟩
            · have HFO := Lib.hid hfo
              clear hfo
              have HL : Hid (o = if 998 < line + 1 + m then none else goF ((S) ++ 32 :: W) (line + 1 + m) false (restW v.data.toList (i + m + 1))) := Lib.hid (by
                have h := HQ2.out
                rw [HFO.out] at h
                simpa using h)
              have HJ : Hid (sb ++ (⟨#[32]⟩ : ByteArray) ++ mkB W = mkB ((S) ++ 32 :: W)) := Lib.hid (by
                rw [← HSB.out]
                show mkB S ++ mkB [32] ++ mkB W = _
                rw [mkB_app, mkB_app]
                congr 1
                simp)
              have hwb : (mkB W).size = m := by rw [mkB_size]; exact HM.out
              have HX2 := HX.out
              generalize mkB W = wb at *
              have u1 : ¬ 9223372036854775807 < S.length + 2 := by omega
              have u2 : ¬ 9223372036854775807 < S.length + 1 := by omega
              have u3 : ¬ 9223372036854775807 < S.length + 2 + 1 := by omega
              have u4 : ¬ 9223372036854775807 < S.length + 3 := by omega
              have u5 : ¬ 9223372036854775807 < S.length + 1 + m := by omega
              have u6 : ¬ 9223372036854775807 < S.length + 2 + 1 + m := by omega
              have u7 : ¬ 9223372036854775807 < S.length + 3 + m := by omega
              by_cases hlong : 998 < line + 1 + m
              · have HN : Hid (o = none) := Lib.hid (by rw [HL.out, if_pos hlong])
                clear HL
                go_wp2
                go_ret2
                rw [HN.out]
                exact ⟨rfl, HB.out⟩
              · have HN : Hid (o = goF ((S) ++ 32 :: W) (line + 1 + m) (decide (0 + 1 = 0)) (restW v.data.toList (i + m + 1))) := Lib.hid (by rw [HL.out, if_neg hlong, decide_eq_false (by omega)])
                clear HL
                go_wp2
                go_roundw
                case rel => exact ⟨i + m + 1, 0 + 1, line + 1 + m, (S) ++ 32 :: W, by go_num, by go_num, by go_num, by rw [HJ.out], by omega, by omega, by omega, by
                  have := HM.out
                  simp only [List.length_append, List.length_cons]
                  omega, HN, by first | rfl | trivial⟩
                case measure => simp [intOf]; omega
            · have HFO := Lib.hid hfo
              clear hfo
              have HL : Hid (o = if 998 < 0 + 1 + m then none else goF ((S ++ [13, 10]) ++ 32 :: W) (0 + 1 + m) false (restW v.data.toList (i + m + 1))) := Lib.hid (by
                have h := HQ2.out
                rw [HFO.out] at h
                simpa using h)
              have HJ : Hid (sb ++ (⟨#[13, 10]⟩ : ByteArray) ++ (⟨#[32]⟩ : ByteArray) ++ mkB W = mkB ((S ++ [13, 10]) ++ 32 :: W)) := Lib.hid (by
                rw [← HSB.out]
                show mkB S ++ mkB [13, 10] ++ mkB [32] ++ mkB W = _
                rw [mkB_app, mkB_app, mkB_app]
                congr 1
                simp)
              have hwb : (mkB W).size = m := by rw [mkB_size]; exact HM.out
              have HX2 := HX.out
              generalize mkB W = wb at *
              have u1 : ¬ 9223372036854775807 < S.length + 2 := by omega
              have u2 : ¬ 9223372036854775807 < S.length + 1 := by omega
              have u3 : ¬ 9223372036854775807 < S.length + 2 + 1 := by omega
              have u4 : ¬ 9223372036854775807 < S.length + 3 := by omega
              have u5 : ¬ 9223372036854775807 < S.length + 1 + m := by omega
              have u6 : ¬ 9223372036854775807 < S.length + 2 + 1 + m := by omega
              have u7 : ¬ 9223372036854775807 < S.length + 3 + m := by omega
              by_cases hlong : 998 < 0 + 1 + m
              · have HN : Hid (o = none) := Lib.hid (by rw [HL.out, if_pos hlong])
                clear HL
                go_wp2
                go_ret2
                rw [HN.out]
                exact ⟨rfl, HB.out⟩
              · have HN : Hid (o = goF ((S ++ [13, 10]) ++ 32 :: W) (0 + 1 + m) (decide (wo + 1 = 0)) (restW v.data.toList (i + m + 1))) := Lib.hid (by rw [HL.out, if_neg hlong, decide_eq_false (by omega)])
                clear HL
                go_wp2
                go_roundw
                case rel => exact ⟨i + m + 1, wo + 1, 0 + 1 + m, (S ++ [13, 10]) ++ 32 :: W, by go_num, by go_num, by go_num, by rw [HJ.out], by omega, by omega, by omega, by
                  have := HM.out
                  simp only [List.length_append, List.length_cons, List.length_nil]
                  omega, HN, by first | rfl | trivial⟩
                case measure => simp [intOf]; omega
            · have HFO := Lib.hid hfo
              clear hfo
              have HL : Hid (o = if 998 < line + 1 + m then none else goF ((S) ++ 32 :: W) (line + 1 + m) false (restW v.data.toList (i + m + 1))) := Lib.hid (by
                have h := HQ2.out
                rw [HFO.out] at h
                simpa using h)
              have HJ : Hid (sb ++ (⟨#[32]⟩ : ByteArray) ++ mkB W = mkB ((S) ++ 32 :: W)) := Lib.hid (by
                rw [← HSB.out]
                show mkB S ++ mkB [32] ++ mkB W = _
                rw [mkB_app, mkB_app]
                congr 1
                simp)
              have hwb : (mkB W).size = m := by rw [mkB_size]; exact HM.out
              have HX2 := HX.out
              generalize mkB W = wb at *
              have u1 : ¬ 9223372036854775807 < S.length + 2 := by omega
              have u2 : ¬ 9223372036854775807 < S.length + 1 := by omega
              have u3 : ¬ 9223372036854775807 < S.length + 2 + 1 := by omega
              have u4 : ¬ 9223372036854775807 < S.length + 3 := by omega
              have u5 : ¬ 9223372036854775807 < S.length + 1 + m := by omega
              have u6 : ¬ 9223372036854775807 < S.length + 2 + 1 + m := by omega
              have u7 : ¬ 9223372036854775807 < S.length + 3 + m := by omega
              by_cases hlong : 998 < line + 1 + m
              · omega
              · have HN : Hid (o = goF ((S) ++ 32 :: W) (line + 1 + m) (decide (wo + 1 = 0)) (restW v.data.toList (i + m + 1))) := Lib.hid (by rw [HL.out, if_neg hlong, decide_eq_false (by omega)])
                clear HL
                go_wp2
                go_roundw
                case rel => exact ⟨i + m + 1, wo + 1, line + 1 + m, (S) ++ 32 :: W, by go_num, by go_num, by go_num, by rw [HJ.out], by omega, by omega, by omega, by
                  have := HM.out
                  simp only [List.length_append, List.length_cons]
                  omega, HN, by first | rfl | trivial⟩
                case measure => simp [intOf]; omega
          · rcases hfo with ⟨rfl, hfo⟩ | ⟨hwp, h76, hfo⟩ | ⟨hwp, h76, hfo⟩
            · have HFO := Lib.hid hfo
              clear hfo
              have HL : Hid (o = if 998 < line + 1 + m then none else goF ((S) ++ 32 :: W) (line + 1 + m) false (restW v.data.toList (i + m + 1))) := Lib.hid (by
                have h := HQ2.out
                rw [HFO.out] at h
                simpa using h)
              have HJ : Hid (sb ++ (⟨#[32]⟩ : ByteArray) ++ mkB W = mkB ((S) ++ 32 :: W)) := Lib.hid (by
                rw [← HSB.out]
                show mkB S ++ mkB [32] ++ mkB W = _
                rw [mkB_app, mkB_app]
                congr 1
                simp)
              have hwb : (mkB W).size = m := by rw [mkB_size]; exact HM.out
              have HX2 := HX.out
              generalize mkB W = wb at *
              have u1 : ¬ 9223372036854775807 < S.length + 2 := by omega
              have u2 : ¬ 9223372036854775807 < S.length + 1 := by omega
              have u3 : ¬ 9223372036854775807 < S.length + 2 + 1 := by omega
              have u4 : ¬ 9223372036854775807 < S.length + 3 := by omega
              have u5 : ¬ 9223372036854775807 < S.length + 1 + m := by omega
              have u6 : ¬ 9223372036854775807 < S.length + 2 + 1 + m := by omega
              have u7 : ¬ 9223372036854775807 < S.length + 3 + m := by omega
              by_cases hlong : 998 < line + 1 + m
              · have HN : Hid (o = none) := Lib.hid (by rw [HL.out, if_pos hlong])
                clear HL
                go_wp2
                go_ret2
                rw [HN.out]
                exact ⟨rfl, HB.out⟩
              · have HN : Hid (o = goF ((S) ++ 32 :: W) (line + 1 + m) (decide (0 + 1 = 0)) (restW v.data.toList (i + m + 1))) := Lib.hid (by rw [HL.out, if_neg hlong, decide_eq_false (by omega)])
                clear HL
                go_wp2
                go_roundw
                case rel => exact ⟨i + m + 1, 0 + 1, line + 1 + m, (S) ++ 32 :: W, by go_num, by go_num, by go_num, by rw [HJ.out], by omega, by omega, by omega, by
                  have := HM.out
                  simp only [List.length_append, List.length_cons]
                  omega, HN, by first | rfl | trivial⟩
                case measure => simp [intOf]; omega
            · have HFO := Lib.hid hfo
              clear hfo
              have HL : Hid (o = if 998 < 0 + 1 + m then none else goF ((S ++ [13, 10]) ++ 32 :: W) (0 + 1 + m) false (restW v.data.toList (i + m + 1))) := Lib.hid (by
                have h := HQ2.out
                rw [HFO.out] at h
                simpa using h)
              have HJ : Hid (sb ++ (⟨#[13, 10]⟩ : ByteArray) ++ (⟨#[32]⟩ : ByteArray) ++ mkB W = mkB ((S ++ [13, 10]) ++ 32 :: W)) := Lib.hid (by
                rw [← HSB.out]
                show mkB S ++ mkB [13, 10] ++ mkB [32] ++ mkB W = _
                rw [mkB_app, mkB_app, mkB_app]
                congr 1
                simp)
              have hwb : (mkB W).size = m := by rw [mkB_size]; exact HM.out
              have HX2 := HX.out
              generalize mkB W = wb at *
              have u1 : ¬ 9223372036854775807 < S.length + 2 := by omega
              have u2 : ¬ 9223372036854775807 < S.length + 1 := by omega
              have u3 : ¬ 9223372036854775807 < S.length + 2 + 1 := by omega
              have u4 : ¬ 9223372036854775807 < S.length + 3 := by omega
              have u5 : ¬ 9223372036854775807 < S.length + 1 + m := by omega
              have u6 : ¬ 9223372036854775807 < S.length + 2 + 1 + m := by omega
              have u7 : ¬ 9223372036854775807 < S.length + 3 + m := by omega
              by_cases hlong : 998 < 0 + 1 + m
              · have HN : Hid (o = none) := Lib.hid (by rw [HL.out, if_pos hlong])
                clear HL
                go_wp2
                go_ret2
                rw [HN.out]
                exact ⟨rfl, HB.out⟩
              · have HN : Hid (o = goF ((S ++ [13, 10]) ++ 32 :: W) (0 + 1 + m) (decide (wo + 1 = 0)) (restW v.data.toList (i + m + 1))) := Lib.hid (by rw [HL.out, if_neg hlong, decide_eq_false (by omega)])
                clear HL
                go_wp2
                go_roundw
                case rel => exact ⟨i + m + 1, wo + 1, 0 + 1 + m, (S ++ [13, 10]) ++ 32 :: W, by go_num, by go_num, by go_num, by rw [HJ.out], by omega, by omega, by omega, by
                  have := HM.out
                  simp only [List.length_append, List.length_cons, List.length_nil]
                  omega, HN, by first | rfl | trivial⟩
                case measure => simp [intOf]; omega
            · have HFO := Lib.hid hfo
              clear hfo
              have HL : Hid (o = if 998 < line + 1 + m then none else goF ((S) ++ 32 :: W) (line + 1 + m) false (restW v.data.toList (i + m + 1))) := Lib.hid (by
                have h := HQ2.out
                rw [HFO.out] at h
                simpa using h)
              have HJ : Hid (sb ++ (⟨#[32]⟩ : ByteArray) ++ mkB W = mkB ((S) ++ 32 :: W)) := Lib.hid (by
                rw [← HSB.out]
                show mkB S ++ mkB [32] ++ mkB W = _
                rw [mkB_app, mkB_app]
                congr 1
                simp)
              have hwb : (mkB W).size = m := by rw [mkB_size]; exact HM.out
              have HX2 := HX.out
              generalize mkB W = wb at *
              have u1 : ¬ 9223372036854775807 < S.length + 2 := by omega
              have u2 : ¬ 9223372036854775807 < S.length + 1 := by omega
              have u3 : ¬ 9223372036854775807 < S.length + 2 + 1 := by omega
              have u4 : ¬ 9223372036854775807 < S.length + 3 := by omega
              have u5 : ¬ 9223372036854775807 < S.length + 1 + m := by omega
              have u6 : ¬ 9223372036854775807 < S.length + 2 + 1 + m := by omega
              have u7 : ¬ 9223372036854775807 < S.length + 3 + m := by omega
              by_cases hlong : 998 < line + 1 + m
              · omega
              · have HN : Hid (o = goF ((S) ++ 32 :: W) (line + 1 + m) (decide (wo + 1 = 0)) (restW v.data.toList (i + m + 1))) := Lib.hid (by rw [HL.out, if_neg hlong, decide_eq_false (by omega)])
                clear HL
                go_wp2
                go_roundw
                case rel => exact ⟨i + m + 1, wo + 1, line + 1 + m, (S) ++ 32 :: W, by go_num, by go_num, by go_num, by rw [HJ.out], by omega, by omega, by omega, by
                  have := HM.out
                  simp only [List.length_append, List.length_cons]
                  omega, HN, by first | rfl | trivial⟩
                case measure => simp [intOf]; omega
    · have hE : o = some (S ++ [13, 10]) := by
        rw [HQ.out]
        unfold restW
        rw [if_neg (by rw [← ba_size]; exact h0)]
        rfl
      have hms : (mkB S).size = S.length := mkB_size S
      have g3 : ¬ 9223372036854775807 < (mkB S).size + (⟨#[13, 10]⟩ : ByteArray).size := by have : (⟨#[13, 10]⟩ : ByteArray).size = 2 := rfl; omega
      have g4 : ¬ 9223372036854775807 < (mkB S).size + 2 := by omega
      have HF : Hid (mkB S ++ (⟨#[13, 10]⟩ : ByteArray) = mkB (S ++ [13, 10])) := Lib.hid (mkB_app S [13, 10])
      have HE := Lib.hid hE
      clear hE hms
      generalize mkB S = sb at *
      go_wp2
      go_ret2
      rw [HE.out]
      exact ⟨by rw [HF.out]; rfl, HB.out⟩
end Go.Proofs.YtmabhbihgenmcaaGreatDoor
