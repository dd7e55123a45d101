/- QbC. -/
import Derived.Deep.Cut
import Derived.Deep.CutBlock
import Derived.Test.YtmabhbihgenmcaaGreatDoorKd18
import Derived.Test.YtmabhbihgenmcaaGreatDoorKd20
import Derived.Test.YtmabhbihgenmcaaGreatDoorKd22
namespace Wb
open Go
theorem take_crlf {L : List UInt8} {a : Nat} {c d : UInt8} (h1 : L[a]? = some c) (h2 : L[a + 1]? = some d) : (L.drop a).take 2 = [c, d] := by
  obtain ⟨hi, e⟩ := List.getElem?_eq_some_iff.1 h1
  obtain ⟨hj, e2⟩ := List.getElem?_eq_some_iff.1 h2
  rw [List.drop_eq_getElem_cons hi, e, List.drop_eq_getElem_cons hj, e2]
  rfl
theorem byte_neq {c : UInt8} {k : Int} (h : (c.toNat : Int) ≠ k) : (((c.toNat : Int)) == k) = false := by
  rw [beq_eq_false_iff_ne]
  exact h
theorem longB_snoc (ls : List (List UInt8)) (x : List UInt8) : longB (ls ++ [x]) = (longB ls || decide (998 < x.length)) := by
  unfold longB
  rw [List.any_append]
  simp
theorem flat_snoc (ls : List (List UInt8)) (x : List UInt8) : (ls ++ [x]).flatten = ls.flatten ++ x := by simp
theorem cutL_more {L : List UInt8} {g a k : Nat} (h : lineC (L.drop a) = some ((L.drop a).take (k - a), L.drop (k + 2))) : cutL (g + 1) (L.drop a) = if headB (L.drop (k + 2)) = true then prepL [(L.drop a).take (k - a)] (cutL g (L.drop (k + 2))) else some ([(L.drop a).take (k - a)], L.drop (k + 2)) := by
  rw [cutL, h]
  simp only
  split
  · cases cutL g (L.drop (k + 2)) <;> rfl
  · rfl
theorem prepL_prep (x y : List (List UInt8)) (o : Option (List (List UInt8) × List UInt8)) : prepL x (prepL y o) = prepL (x ++ y) o := by
  cases o with
  | none => rfl
  | some p => simp [prepL]
theorem head_none {L : List UInt8} {k : Nat} (h : L.length ≤ k) : headB (L.drop k) = false := by
  rw [List.drop_eq_nil_of_le h]
  rfl
theorem head_at {L : List UInt8} {k : Nat} {c : UInt8} (h : L[k]? = some c) : headB (L.drop k) = blankB c := by
  unfold headB
  rw [List.head?_drop, h]
  rfl
theorem lineC_nil {u r : List UInt8} (h : lineC u = some ([], r)) : u.take 2 = [13, 10] := by
  match u, h with
  | [], h => cases h
  | [c], h => cases h
  | c :: d :: l, h =>
    rw [lineC] at h
    (try simp only at h)
    split at h
    · rename_i hc
      rw [hc.1, hc.2]
      rfl
    · split at h <;> simp at h
theorem cutL_pos {n : Nat} {u : List UInt8} {ls : List (List UInt8)} {r : List UInt8} (h : cutL (n + 1) u = some (ls, r)) (h2 : u.take 2 ≠ [13, 10]) : 0 < ls.flatten.length := by
  rw [cutL] at h
  cases hl : lineC u with
  | none => rw [hl] at h; cases h
  | some p =>
    obtain ⟨x, r2⟩ := p
    rw [hl] at h
    simp only at h
    have hx : 0 < x.length := by
      cases x with
      | nil => exact absurd (lineC_nil hl) h2
      | cons a b => simp
    split at h
    · split at h
      · simp only [Option.some.injEq, Prod.mk.injEq] at h
        rw [← h.1, List.flatten_cons, List.length_append]
        omega
      · cases h
    · simp only [Option.some.injEq, Prod.mk.injEq] at h
      rw [← h.1]
      simpa using hx
theorem while_pre (p : UInt8 → Bool) : ∀ (l : List UInt8) (j : Nat) (c : UInt8), j < (l.takeWhile p).length → l[j]? = some c → p c = true
  | [], j, c, h, _ => by simp at h
  | x :: l, j, c, h, hc => by
    rw [List.takeWhile_cons] at h
    cases hx : p x
    · rw [hx, if_neg (by simp)] at h; simp at h
    · rw [hx, if_pos rfl] at h
      cases j with
      | zero => simp only [List.getElem?_cons_zero, Option.some.injEq] at hc; rw [← hc]; exact hx
      | succ j => exact while_pre p l j c (by simpa using h) (by simpa using hc)
theorem while_stop (p : UInt8 → Bool) : ∀ (l : List UInt8) (c : UInt8), l[(l.takeWhile p).length]? = some c → p c = false
  | [], c, h => by simp at h
  | x :: l, c, h => by
    rw [List.takeWhile_cons] at h
    cases hx : p x
    · rw [hx, if_neg (by simp)] at h
      simp only [List.length_nil, List.getElem?_cons_zero, Option.some.injEq] at h
      rw [← h]; exact hx
    · rw [hx, if_pos rfl] at h
      exact while_stop p l c (by simpa using h)
theorem while_take (p : UInt8 → Bool) (l : List UInt8) : l.take (l.takeWhile p).length = l.takeWhile p := by
  exact (List.prefix_iff_eq_take.1 (List.takeWhile_prefix p)).symm
end Wb
namespace Go.Proofs.YtmabhbihgenmcaaGreatDoor
open Go.RowKit Wb
set_option maxRecDepth 100000 in
set_option maxHeartbeats 16000000 in
theorem rparse_any (s : ByteArray) (F : Nat) (w : World) (hs : s.size ≤ 1000000) (hF : s.size < F) :
    Calls Tryz.prog 38 #[.string s] w fun e w' => ParseOutF w.heap.size (parseL F 0 s.data.toList) e w' ∧ Below w.heap.size w w' := by
  obtain ⟨i2, hk0, hu0, hu1, hu2⟩ := info_parts field_info2
  obtain ⟨o, ho⟩ : ∃ o, parseL F 0 s.data.toList = o := ⟨_, rfl⟩
  rw [ho]
  have HO := Lib.hid (show o = prepP [] (parseL F ([] : List (List UInt8 × List UInt8)).length (s.data.toList.drop 0)) by rw [prepP_nil, List.drop_zero]; exact ho.symm)
  clear ho
  have e0 : w.ownsRow w.heap.size 61 2 (.slice none 0 0) ([] : List (List UInt8 × List UInt8)).length (cells2 (toPrs [])) := World.ownsRow_nil _ _ _ _
  have E0 := Lib.hid e0
  clear e0
  go_enter Tryz.func38, Tryz.ntmps38
  go_wp2
  go_loopw [5, 6] (fun v5 v6 wr => ∃ (a : Nat) (out : List (List UInt8 × List UInt8)) (f : Nat), v6 = .int .i64 a ∧ a ≤ s.size ∧ s.size < f + a ∧ out.length ≤ 8 ∧ Hid (o = prepP out (parseL f out.length (s.data.toList.drop a))) ∧ Hid (wr.ownsRow w.heap.size 61 2 v5 out.length (cells2 (toPrs out))) ∧ Hid (Below w.heap.size w wr)) (fun _ v6 _ => s.size - (intOf v6).toNat)
  case atStart => exact ⟨0, [], F, rfl, by omega, by omega, by simp, HO, E0, Lib.hid (Below.refl _ _)⟩
  case round =>
    obtain ⟨a, out, f, rfl, ha, hf, h8, HQ, HR, HB⟩ := hrel
    obtain ⟨f, rfl⟩ : ∃ g, f = g + 1 := ⟨f - 1, by omega⟩
    have hst := HQ.out
    rw [parseL_way] at hst
    obtain ⟨vA, vc, rfl⟩ := own_shape HR.out
    by_cases h2 : (s.data.toList.drop a).take 2 = [13, 10]
    · rw [if_pos h2] at hst
      have h2s : a + 2 ≤ s.size := by
        have := congrArg List.length h2
        rw [List.length_take, List.length_drop, ← ba_size] at this
        simp only [List.length_cons, List.length_nil] at this
        omega
      have ha0 : a < s.size := by omega
      have ha1 : a + 1 < s.size := by omega
      have h3 := take_crlf (ba_get ha0) (ba_get ha1)
      rw [h2] at h3
      injection h3 with t1 h3
      injection h3 with t2 _
      have t1n : s[a].toNat = 13 := by rw [← t1]; rfl
      have t2n : s[a + 1].toNat = 10 := by rw [← t2]; rfl
      have HE : Hid (o = .ok (out, s.data.toList.drop (a + 2))) := Lib.hid (by rw [hst, List.drop_drop]; simp [prepP])
      have HX := Lib.hid (show s.extract (a + 2) s.size = mkB (s.data.toList.drop (a + 2)) from Lib.extract_from s (a + 2))
      have HS2 := Lib.hid (Sl2.of_own (l := toPrs out) (by rw [toPrs_len]; exact HR.out))
      have d1 : (2 : Int) ≤ (s.size : Int) - a := by omega
      clear hst HQ h2 t1 t2
      go_wp2
      go_region
      go_wp2
      go_ret3
      rw [HE.out]
      refine ⟨⟨vA, vc, ?_, HS2.out, own_newer HR.out⟩, HB.out.drew⟩
      rw [← HX.out]
      rfl
    · rw [if_neg h2] at hst
      have hcs : ((s.size : Int) - a < 2) ∨ ∃ (ha0 : a < s.size) (ha1 : a + 1 < s.size), (2 : Int) ≤ (s.size : Int) - a ∧ (s[a].toNat ≠ 13 ∨ (s[a].toNat = 13 ∧ s[a + 1].toNat ≠ 10)) := by
        by_cases h : a + 1 < s.size
        · have ha0 : a < s.size := by omega
          refine .inr ⟨ha0, h, by omega, ?_⟩
          by_cases h13 : s[a].toNat = 13
          · by_cases h10 : s[a + 1].toNat = 10
            · exact absurd (by rw [take_crlf (ba_get ha0) (ba_get h), UInt8.toNat_inj.1 (show s[a].toNat = (13 : UInt8).toNat from h13), UInt8.toNat_inj.1 (show s[a + 1].toNat = (10 : UInt8).toNat from h10)]) h2
            · exact .inr ⟨h13, h10⟩
          · exact .inl h13
        · exact .inl (by omega)
      have HST := Lib.hid hst
      have HNC := Lib.hid h2
      clear hst h2 HQ
      go_upto_region 3 with fail
      go_cut [28] (fun v28 wx => v28 = .bool false ∧ wx = wr)
      case first =>
        rcases hcs with d1 | ⟨ha0, ha1, d1, h13 | ⟨h13, h10⟩⟩
        · go_wp2
          go_meet
          case rel => exact ⟨rfl, rfl⟩
        · have t1 : ((s[a].toNat : Int) == 13) = false := byte_neq (by omega)
          go_wp2
          go_meet
          case rel => exact ⟨rfl, rfl⟩
        · have t2 : ((s[a + 1].toNat : Int) == 10) = false := byte_neq (by omega)
          go_wp2
          go_meet
          case rel => exact ⟨rfl, rfl⟩
      case rest =>
        obtain ⟨rfl, rfl⟩ := hcut
        go_upto_block 2 with fail
        go_cut [6, 7, 8] (fun v6 v7 v8 wx => ∃ (a3 : Nat) (ls : List (List UInt8)), v6 = .int .i64 a3 ∧ a < a3 ∧ a3 ≤ s.size ∧ v7 = .string (mkB ls.flatten) ∧ v8 = .bool (longB ls) ∧ ls.flatten.length ≤ s.size ∧ Hid (cutL ((s.data.toList.drop a).length + 1) (s.data.toList.drop a) = some (ls, s.data.toList.drop a3)) ∧ wx = wc)
        case first =>
          go_wp2_with fail
          go_loopw [6, 7, 8] (fun v6 v7 v8 wq => ∃ (b : Nat) (acc : List (List UInt8)) (g : Nat), v6 = .int .i64 b ∧ a ≤ b ∧ b ≤ s.size ∧ v7 = .string (mkB acc.flatten) ∧ v8 = .bool (longB acc) ∧ acc.flatten.length ≤ b ∧ s.size < g + b ∧ Hid (cutL ((s.data.toList.drop a).length + 1) (s.data.toList.drop a) = prepL acc (cutL g (s.data.toList.drop b))) ∧ wq = wc) (fun v6 _ _ _ => s.size - (intOf v6).toNat)
          case atStart => exact ⟨a, [], (s.data.toList.drop a).length + 1, rfl, by omega, ha, rfl, rfl, by simp, by rw [List.length_drop, ← ba_size]; omega, Lib.hid (by rw [prepL_nil]), rfl⟩
          case round =>
            obtain ⟨b, acc, g, rfl, hb1, hb2, rfl, rfl, hacc, hg, HC, rfl⟩ := hrel
            obtain ⟨g, rfl⟩ : ∃ q, g = q + 1 := ⟨g - 1, by omega⟩
            have k1 := rends_any s b wr hs hb2
            go_wp2_with fail
            refine k1.mono ?_
            rintro e w1 ⟨r, rfl, hE, rfl⟩
            clear k1
            rcases hE with ⟨rfl, hl⟩ | ⟨k, rfl, hk1, hk2, hl⟩
            · have HE : Hid (o = .error 2) := Lib.hid (by
                have h := HST.out
                rw [HC.out, show cutL (g + 1) (s.data.toList.drop b) = none from by rw [cutL, hl]] at h
                exact h)
              clear hl
              go_wp2
              go_ret3
              rw [HE.out]
              exact ⟨rfl, HB.out⟩
            · rw [← ba_size] at hk2
              have hmore := cutL_more (g := g) hl
              have hpl : ((s.data.toList.drop b).take (k - b)).length = k - b := by rw [List.length_take, List.length_drop, ← ba_size]; omega
              have HX := Lib.hid (show s.extract b k = mkB ((s.data.toList.drop b).take (k - b)) from eq_of_lists (by rw [Lib.extract_data, mkB_list]))
              generalize (s.data.toList.drop b).take (k - b) = pc at *
              have HC2 := Lib.hid (HC.out.trans (congrArg (prepL acc) hmore))
              have HJ : Hid (mkB acc.flatten ++ mkB pc = mkB (acc ++ [pc]).flatten) := Lib.hid (by rw [flat_snoc]; exact mkB_app _ _)
              have HLB : Hid (longB (acc ++ [pc]) = (longB acc || decide (998 < k - b))) := Lib.hid (by rw [longB_snoc, hpl])
              have HFL : Hid ((acc ++ [pc]).flatten.length = acc.flatten.length + (k - b)) := Lib.hid (by rw [flat_snoc, List.length_append, hpl])
              have hms : (mkB acc.flatten).size = acc.flatten.length := mkB_size _
              have hmp : (mkB pc).size = k - b := by rw [mkB_size]; exact hpl
              have hX := HX.out
              have u1 : ¬ 9223372036854775807 < acc.flatten.length + (k - b) := by omega
              have hlg : ∃ q, longB (acc ++ [pc]) = q ∧ ((longB acc = true ∧ q = true) ∨ (longB acc = false ∧ (998 : Int) < (k : Int) - b ∧ q = true) ∨ (longB acc = false ∧ ¬ (998 : Int) < (k : Int) - b ∧ q = false)) := ⟨_, rfl, by
                rw [HLB.out]
                cases longB acc
                · by_cases h : 998 < k - b
                  · exact .inr (.inl ⟨rfl, by omega, by rw [decide_eq_true h]; rfl⟩)
                  · exact .inr (.inr ⟨rfl, by omega, by rw [decide_eq_false h]; rfl⟩)
                · exact .inl ⟨rfl, rfl⟩⟩
              obtain ⟨q, hq, hlg⟩ := hlg
              have HQL := Lib.hid hq
              generalize longB acc = lb at *
              have hnx : (s.size ≤ k + 2 ∧ headB (s.data.toList.drop (k + 2)) = false) ∨ ∃ h : k + 2 < s.size, headB (s.data.toList.drop (k + 2)) = blankB s[k + 2] := by
                by_cases h : k + 2 < s.size
                · exact .inr ⟨h, head_at (ba_get h)⟩
                · exact .inl ⟨by omega, head_none (by rw [← ba_size]; omega)⟩
              clear hl hmore hpl hq HC
              generalize mkB acc.flatten = sb at *
              generalize mkB pc = pb at *
              rcases hlg with ⟨rfl, rfl⟩ | ⟨rfl, h998, rfl⟩ | ⟨rfl, h998, rfl⟩
              all_goals
                rcases hnx with ⟨hn1, hn2⟩ | ⟨hn1, hn2⟩
                · have HF : Hid (cutL ((s.data.toList.drop a).length + 1) (s.data.toList.drop a) = some (acc ++ [pc], s.data.toList.drop (k + 2))) := Lib.hid (by rw [HC2.out, hn2, if_neg (by simp)]; rfl)
                  clear hn2
                  go_wp2
                  go_meet
                  case rel => exact ⟨k + 2, acc ++ [pc], by go_num, by omega, by omega, by rw [HJ.out], by first | (rw [HQL.out]; done) | (rw [HQL.out]; congr 1; exact decide_eq_false (by omega)), by rw [HFL.out]; omega, HF, by first | rfl | trivial⟩
                · have k2 := rblank_any s[k + 2] wr
                  cases hbl : blankB s[k + 2]
                  · rw [hbl] at k2 hn2
                    have HF : Hid (cutL ((s.data.toList.drop a).length + 1) (s.data.toList.drop a) = some (acc ++ [pc], s.data.toList.drop (k + 2))) := Lib.hid (by rw [HC2.out, hn2, if_neg (by simp)]; rfl)
                    clear hn2 hbl
                    go_wp2_with fail
                    refine k2.mono ?_
                    rintro e w2 ⟨rfl, rfl⟩
                    clear k2
                    go_wp2
                    go_meet
                    case rel => exact ⟨k + 2, acc ++ [pc], by go_num, by omega, by omega, by rw [HJ.out], by first | (rw [HQL.out]; done) | (rw [HQL.out]; congr 1; exact decide_eq_false (by omega)), by rw [HFL.out]; omega, HF, by first | rfl | trivial⟩
                  · rw [hbl] at k2 hn2
                    have HF : Hid (cutL ((s.data.toList.drop a).length + 1) (s.data.toList.drop a) = prepL (acc ++ [pc]) (cutL g (s.data.toList.drop (k + 2)))) := Lib.hid (by rw [HC2.out, hn2, if_pos rfl, prepL_prep])
                    clear hn2 hbl
                    go_wp2_with fail
                    refine k2.mono ?_
                    rintro e w2 ⟨rfl, rfl⟩
                    clear k2
                    go_wp2
                    go_roundw
                    case rel => exact ⟨k + 2, acc ++ [pc], g, by go_num, by omega, by omega, by rw [HJ.out], by first | (rw [HQL.out]; done) | (rw [HQL.out]; congr 1; exact decide_eq_false (by omega)), by rw [HFL.out]; omega, by omega, HF, by first | rfl | trivial⟩
                    case measure => simp [intOf]; omega
        case rest =>
          obtain ⟨a3, ls, rfl, h31, h32, rfl, rfl, hls, HCL, rfl⟩ := hcut
          have hst := HST.out
          rw [HCL.out] at hst
          simp only at hst
          have hpos := cutL_pos HCL.out HNC.out
          have hms : (mkB ls.flatten).size = ls.flatten.length := mkB_size _
          obtain ⟨li, hli⟩ : ∃ li, mkB ls.flatten = li := ⟨_, rfl⟩
          have hll : li.data.toList = ls.flatten := by rw [← hli]; rfl
          rw [hli]
          rw [hli] at hms
          rw [← hll] at hst
          clear HCL hli hll
          have hlz : 0 < li.size := by omega
          have hlz2 : li.size ≤ 1000000 := by omega
          clear hms hpos hls
          by_cases hk8 : out.length = 8
          · rw [if_pos (.inl hk8)] at hst
            have HE : Hid (o = .error 3) := Lib.hid hst
            have hk : ((out.length : Int) == 8) = true := by simp [hk8]
            clear hst HR HST
            generalize out.length = no at *
            generalize longB ls = lb at *
            clear hk8
            go_wp2
            go_ret3
            rw [HE.out]
            exact ⟨rfl, HB.out⟩
          have hk : ((out.length : Int) == 8) = false := by simp; omega
          cases hlong : longB ls
          case true =>
            rw [if_pos (.inr hlong)] at hst
            have HE : Hid (o = .error 3) := Lib.hid hst
            clear hst HST
            go_wp2
            go_ret3
            rw [HE.out]
            exact ⟨rfl, HB.out⟩
          rw [if_neg (show ¬ (out.length = 8 ∨ longB ls = true) from fun h => h.elim hk8 (fun h => by rw [hlong] at h; cases h))] at hst
          clear hlong HST
          have hpd : parsedF li.data.toList = (if headB li.data.toList = true ∨ (li.data.toList.takeWhile (fun c => c != 58)).length = li.data.toList.length then .error 4 else if namedF (li.data.toList.takeWhile (fun c => c != 58)) = false then .error 12 else if plainF (li.data.toList.drop ((li.data.toList.takeWhile (fun c => c != 58)).length + 1)) = false then .error 4 else .ok ((li.data.toList.takeWhile (fun c => c != 58)), trimF (li.data.toList.drop ((li.data.toList.takeWhile (fun c => c != 58)).length + 1)))) := rfl
          have hin := fun (j : Nat) (c : UInt8) => while_pre (fun c => c != 58) li.data.toList j c
          have hout := fun (c : UInt8) => while_stop (fun c => c != 58) li.data.toList c
          have htk := while_take (fun c => c != 58) li.data.toList
          have hle : (li.data.toList.takeWhile (fun c => c != 58)).length ≤ li.size := by rw [ba_size]; exact (List.takeWhile_sublist _).length_le
          generalize hnm : li.data.toList.takeWhile (fun c => c != 58) = nm at *
          obtain ⟨K, hK⟩ : ∃ K, nm.length = K := ⟨_, rfl⟩
          rw [hK] at hpd hin hout htk hle
          have HIN := Lib.hid (fun (k : Nat) (hk : k < li.size) (h2 : k < K) => (show ((li[k].toNat : Int) == 58) = false from by
            have h := hin k li[k] h2 (ba_get hk)
            refine byte_neq fun e => ?_
            have e2 : li[k] = 58 := UInt8.toNat_inj.1 (show li[k].toNat = 58 by omega)
            rw [e2] at h
            cases h))
          have HOUT := Lib.hid (fun (hk : K < li.size) => (show ((li[K].toNat : Int) == 58) = true from by
            have h := hout li[K] (ba_get hk)
            simp only [bne_eq_false_iff_eq] at h
            rw [h]
            rfl))
          have HXN := Lib.hid (show li.extract 0 K = mkB nm from eq_of_lists (by rw [Lib.extract_data, mkB_list, List.drop_zero, Nat.sub_zero, htk]))
          have HXV := Lib.hid (show li.extract (K + 1) li.size = mkB (li.data.toList.drop (K + 1)) from Lib.extract_from li (K + 1))
          have HHD := Lib.hid (head_at (L := li.data.toList) (k := 0) (ba_get hlz))
          have HPD := Lib.hid hpd
          have HST := Lib.hid hst
          have HLS := Lib.hid (show (mkB nm).size = K from by rw [mkB_size]; exact hK)
          clear hin hout htk hnm hpd hst hK
          go_wp2
          go_loopw [10] (fun v10 wx => ∃ k : Nat, k ≤ K ∧ v10 = .int .i64 k ∧ Hid (Below w.heap.size w wx) ∧ Hid (wx.ownsRow w.heap.size 61 2 (.slice vA out.length vc) out.length (cells2 (toPrs out)))) (fun v10 _ => li.size + 1 - (intOf v10).toNat)
          case atStart => exact ⟨0, by omega, rfl, HB, HR⟩
          case round =>
            obtain ⟨k, hkK, rfl, HB2, HR2⟩ := hrel
            by_cases hlt : k < K
            · have hks : k < li.size := by omega
              have t1 := HIN.out k hks hlt
              go_wp2
              go_roundw
              case rel => exact ⟨k + 1, by omega, by go_num, HB2, HR2⟩
              case measure => simp [intOf]; omega
            · obtain rfl : k = K := by omega
              have k2 := rblank_any li[0] wr
              have hhd := HHD.out
              rw [List.drop_zero] at hhd
              by_cases hKs : k < li.size
              · have t2 := HOUT.out hKs
                cases hbl : blankB li[0]
                · rw [hbl] at k2 hhd
                  have hne : ¬ (headB li.data.toList = true ∨ k = li.data.toList.length) := by
                    rw [hhd, ← ba_size]
                    rintro (h | h)
                    · cases h
                    · omega
                  have hpd := HPD.out
                  rw [if_neg hne] at hpd
                  have HPD2 := Lib.hid hpd
                  have hk7 : ((k : Int) == (li.size : Int)) = false := by rw [beq_eq_false_iff_ne]; omega
                  clear hbl hhd hne hpd
                  go_wp2_with fail
                  refine k2.mono ?_
                  rintro e w2 ⟨rfl, rfl⟩
                  clear k2
                  have k3 := rnamed_any (li.extract 0 k) wr (by rw [HXN.out, HLS.out]; omega)
                  rw [show (li.extract 0 k).data.toList = nm from by rw [HXN.out, mkB_list]] at k3
                  have hvl : (li.extract (k + 1) li.size).size ≤ 1000000 := by rw [ByteArray.size_extract]; omega
                  have k4 := fun (u : World) => rplain_any (li.extract (k + 1) li.size) u hvl
                  have k5 := fun (u : World) => rtrim_any (li.extract (k + 1) li.size) u hvl
                  rw [show (li.extract (k + 1) li.size).data.toList = li.data.toList.drop (k + 1) from by rw [HXV.out, mkB_list]] at k4 k5
                  have hk1l : (k : Int) + 1 ≤ (li.size : Int) := by omega
                  clear hvl
                  go_wp2_with fail
                  refine k3.mono ?_
                  rintro e w3 ⟨rfl, hb⟩
                  have HB3 := Lib.hid (HB2.out.trans (hb.mono HB2.out.size))
                  have HR3 := Lib.hid (own_below HR2.out hb)
                  have k6 := k4 w3
                  clear hb k3 k4
                  cases hnm : namedF nm
                  · have HE : Hid (o = .error 12) := Lib.hid (by
                      have h := HST.out
                      rw [HPD2.out, if_pos hnm] at h
                      exact h)
                    clear hnm k5 k6
                    go_wp2
                    go_ret3
                    rw [HE.out]
                    exact ⟨rfl, HB3.out⟩
                  have hpd := HPD2.out
                  rw [if_neg (by rw [hnm]; simp)] at hpd
                  clear hnm
                  go_wp2_with fail
                  refine k6.mono ?_
                  rintro e w4 ⟨rfl, hb⟩
                  have HB4 := Lib.hid (HB3.out.trans (hb.mono HB3.out.size))
                  have HR4 := Lib.hid (own_below HR3.out hb)
                  clear hb k6
                  cases hpl : plainF (li.data.toList.drop (k + 1))
                  · have HE : Hid (o = .error 4) := Lib.hid (by
                      have h := HST.out
                      rw [hpd, if_pos hpl] at h
                      exact h)
                    clear hpl hpd k5
                    go_wp2
                    go_ret3
                    rw [HE.out]
                    exact ⟨rfl, HB4.out⟩
                  rw [if_neg (by rw [hpl]; simp)] at hpd
                  have HN : Hid (o = prepP (out ++ [(nm, trimF (li.data.toList.drop (k + 1)))]) (parseL f (out.length + 1) (s.data.toList.drop a3))) := Lib.hid (by
                    have h := HST.out
                    rw [hpd] at h
                    simp only at h
                    rw [h]
                    cases parseL f (out.length + 1) (s.data.toList.drop a3) with
                    | error e => rfl
                    | ok p => simp [prepP])
                  clear hpl hpd
                  generalize trimF (li.data.toList.drop (k + 1)) = tv at *
                  have HRd : Hid (w4.drew.ownsRow w.heap.size 61 2 (.slice vA out.length vc) out.length (cells2 (toPrs out))) := Lib.hid HR4.out
                  have HBd : Hid (Below w.heap.size w w4.drew) := Lib.hid HB4.out.drew
                  have hwz : w.heap.size ≤ w4.drew.heap.size := HBd.out.size
                  have hwz2 : w.heap.size ≤ w4.heap.size := hwz
                  have z0 : (0 : Int) ≤ (k : Int) := by omega
                  have z1 : (k : Int) ≤ (li.size : Int) := by omega
                  have z2 : (0 : Int) ≤ (k : Int) + 1 := by omega
                  have hwr : IntKind.i64.wrap ((k : Int) + 1) = (k : Int) + 1 := by rw [IntKind.wrap_i64]; omega
                  go_upto_region 25 with fail
                  (try simp only [List.append])
                  refine wp_region_held_drew (S := (fun _ => True)) (by kernel_rfl) (trivial) (fun hHeld => ?_)
                  refine takeW 0 ?_
                  refine takeW 1 ?_
                  refine takeW 2 ?_
                  refine takeW 3 ?_
                  (try simp only [Act.put, List.setIfInBounds_toArray, List.set_cons_zero, List.set_cons_succ])
                  refine takeW 4 ?_
                  refine takeW 5 ?_
                  refine takeW 6 ?_
                  refine takeW 7 ?_
                  (try simp only [Act.put, List.setIfInBounds_toArray, List.set_cons_zero, List.set_cons_succ])
                  refine wpAnyH_ready (rs := [8]) (by kernel_rfl) (by simp) ?_
                  refine AllReadyH.cons rfl (fun K2 hK2 => ?_) AllReadyH.nil
                  go_simp
                  refine (k5 _).mono ?_
                  rintro e w6 ⟨rfl, rfl⟩
                  refine hK2.out _ _ trivial (fun _ => ?_)
                  (try simp only [Act.put, List.setIfInBounds_toArray, List.set_cons_zero, List.set_cons_succ])
                  refine takeW 9 ?_
                  (try simp only [Act.put, List.setIfInBounds_toArray, List.set_cons_zero, List.set_cons_succ])
                  refine wpAnyH_ready (rs := [10]) (by kernel_rfl) (by simp) ?_
                  refine AllReadyH.cons rfl (fun K2 hK2 => ?_) AllReadyH.nil
                  go_simp
                  refine hK2.out _ _ trivial (fun _ => ?_)
                  (try simp only [Act.put, List.setIfInBounds_toArray, List.set_cons_zero, List.set_cons_succ])
                  refine wpAnyH_ready (rs := [11]) (by kernel_rfl) (by simp) ?_
                  refine AllReadyH.cons rfl (fun K2 hK2 => ?_) AllReadyH.nil
                  skip
                  refine step_append_sl _ rfl (.tmp 103) (.tmp 113) _ rfl w.heap.size 61 i2 _ 2 32 Tryz.underlying41 hk0 hu0 hu1 hu2 rfl (by omega) _ out.length (cells2 (toPrs out)) rfl (HRd.out.alloc _) (some ⟨w4.drew.heap.size, 0, none⟩) 1 1 [.string (li.extract 0 k), .string (mkB tv)] rfl (Sl.lit w4.drew 2 [.string (li.extract 0 k), .string (mkB tv)] _ 1 rfl) (cells2_one [(li.extract 0 k, mkB tv)]) (by simp only [maxLen]; omega) (by omega) (by simp; omega) ?_
                  intro v5 w5 hown5 hg5 hat5
                  change K2 (Act.put _ (some 114) v5) w5
                  refine hK2.out _ _ trivial (fun _ => ?_)
                  refine takeW 12 ?_
                  (try simp only [Act.put, List.setIfInBounds_toArray, List.set_cons_zero, List.set_cons_succ])
                  refine wpAnyH_done (by kernel_rfl) ?_ _
                  have hb5 : Below w.heap.size w w5 := (HBd.out.alloc hwz _).grown hg5 (by simp; omega) (fun g hg => (HRd.out.lt g hg).1)
                  have HB5 := Lib.hid hb5
                  have HR5 : Hid (w5.ownsRow w.heap.size 61 2 v5 (out ++ [(nm, tv)]).length (cells2 (toPrs (out ++ [(nm, tv)])))) := Lib.hid (by
                    have h := hown5
                    rw [HXN.out] at h
                    rw [toPrs_snoc, cells2_append, List.length_append]
                    simpa [cells2] using h)
                  clear hb5 hown5 hg5 hat5
                  go_wp2
                  go_roundw
                  case rel => exact ⟨a3, out ++ [(nm, tv)], f, rfl, h32, by omega, by rw [List.length_append]; simp; omega, Lib.hid (by rw [HN.out, List.length_append]; rfl), HR5, HB5⟩
                  case measure => simp [intOf]; omega
                · rw [hbl] at k2 hhd
                  have HE : Hid (o = .error 4) := Lib.hid (by
                    have h := HST.out
                    rw [HPD.out, if_pos (.inl hhd)] at h
                    exact h)
                  clear hbl hhd
                  go_wp2_with fail
                  refine k2.mono ?_
                  rintro e w2 ⟨rfl, rfl⟩
                  clear k2
                  go_wp2
                  go_ret3
                  rw [HE.out]
                  exact ⟨rfl, HB2.out⟩
              · have HE : Hid (o = .error 4) := Lib.hid (by
                  have h := HST.out
                  rw [HPD.out, if_pos (.inr (by rw [← ba_size]; omega))] at h
                  exact h)
                have hk7 : ((k : Int) == (li.size : Int)) = true := by rw [beq_iff_eq]; omega
                clear hhd
                cases hbl : blankB li[0]
                all_goals
                  rw [hbl] at k2
                  clear hbl
                  go_wp2_with fail
                  refine k2.mono ?_
                  rintro e w2 ⟨rfl, rfl⟩
                  clear k2
                  go_wp2
                  go_ret3
                  rw [HE.out]
                  exact ⟨rfl, HB2.out⟩
end Go.Proofs.YtmabhbihgenmcaaGreatDoor
