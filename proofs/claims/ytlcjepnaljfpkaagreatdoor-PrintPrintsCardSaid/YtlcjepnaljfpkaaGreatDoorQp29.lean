/- LeFit3. -/
import Derived.Test.YtlcjepnaljfpkaaGreatDoorQp28
namespace Wb
theorem cd_some : ∀ {l : List UInt8} {k : Nat}, cdAt l = some k → hasCd l = true ∧ k < l.length
  | [], k, h => by cases h
  | c :: l, k, h => by
    unfold cdAt at h
    unfold hasCd
    split at h
    · rename_i hc
      simp only [Option.some.injEq] at h
      subst h
      exact ⟨by rw [hc]; rfl, by simp⟩
    · cases hl : cdAt l with
      | none => rw [hl] at h; cases h
      | some j =>
        rw [hl] at h
        simp only [Option.map_some, Option.some.injEq] at h
        subst h
        obtain ⟨h1, h2⟩ := cd_some hl
        exact ⟨by rw [h1]; simp, by simp; omega⟩
theorem cd_none : ∀ {l : List UInt8}, cdAt l = none → hasCd l = false
  | [], _ => rfl
  | c :: l, h => by
    unfold cdAt at h
    unfold hasCd
    split at h
    · cases h
    · rename_i hc
      cases hl : cdAt l with
      | some j => rw [hl] at h; cases h
      | none =>
        rw [cd_none hl]
        simpa using hc
theorem text_fit (L : List UInt8) (fr : Nat) (hfr : fr < L.length) (h60 : (L.drop fr).take 1 ≠ [60]) : Fits (someX (textX L fr)) fr L.length (textR (L.drop fr)) := by
  have hne : ((L.drop fr).takeWhile (· != 60)).isEmpty = false := by
    cases hd : L.drop fr with
    | nil => have := drop_nil_len hd; omega
    | cons c r =>
      rw [hd] at h60
      have : c ≠ 60 := by intro e; apply h60; rw [e]; rfl
      simp [this]
  have hle : fr + ((L.drop fr).takeWhile (· != 60)).length ≤ L.length := by
    have := tw_le (· != 60) (L.drop fr)
    rw [List.length_drop] at this
    omega
  unfold textX textR
  simp only [hne]
  generalize (L.drop fr).takeWhile (· != 60) = n at *
  cases hc : cdAt n with
  | some k =>
    obtain ⟨h1, h2⟩ := cd_some hc
    refine Fits.bad (by simp [h1]) ?_
    simp only
    cases hu : unL false (k + 1) (n.take k) fr with
    | error p =>
      have := unL_bad_at _ _ _ _ _ hu
      simp only [List.length_take] at this
      exact Bad.mk (by omega) (by omega)
    | ok x => exact Bad.mk (by omega) (by omega)
  | none =>
    rw [cd_none hc]
    simp only [Bool.false_eq_true, if_false]
    rcases unL_okL false (n.length + 1) n fr with ⟨x, h1, h2⟩ | ⟨p, h1, h2, h3⟩
    · rw [h1, h2]
      exact Fits.ok (n := n.length) (a := some (4, [], [], x)) rfl rfl
    · rw [h1, h3]
      exact Fits.bad rfl (Bad.mk (by omega) (by omega))
theorem comment_fit (L : List UInt8) (fr : Nat) (r : List UInt8) (h : L.drop (fr + 4) = r) (hfr : fr + 4 ≤ L.length) :
    Fits (noneX (commentX L fr)) (fr + 2) L.length (bangR (45 :: 45 :: r)) := by
  unfold bangR
  rw [bindR_yes (n := 1) (a := 45) rfl, if_pos rfl]
  simp only [List.drop_succ_cons, List.drop_zero]
  rw [bindR_yes (n := 1) (a := ()) (show litR [45] (45 :: r) = some (1, ()) from litR_is (p := [45]) rfl)]
  simp only [List.drop_succ_cons, List.drop_zero]
  unfold commentX upToX
  rw [h]
  cases hu : untilR [45, 45] r with
  | none =>
    rw [bindR_no hu]
    exact Fits.bad rfl (Bad.mk (by omega) (by omega))
  | some p =>
    obtain ⟨n, v⟩ := p
    rw [bindR_yes hu, ← h, ← drop_plus]
    simp only
    by_cases h62 : (L.drop (fr + 4 + n)).take 1 = [62]
    · rw [if_pos h62, mapR_yes (litR_is (p := [62]) h62)]
      refine Fits.ok (n := 1 + (1 + (n + 1))) (a := none) rfl ?_
      simp only [noneX, Except.ok.injEq, Prod.mk.injEq, true_and]
      omega
    · rw [if_neg h62, mapR_no (litR_no (p := [62]) h62)]
      exact Fits.bad rfl (Bad.mk (by omega) (by omega))
theorem section_fit (L : List UInt8) (fr : Nat) (r : List UInt8) (h : L.drop (fr + 9) = r) (hfr : fr + 9 ≤ L.length) :
    Fits (someX (sectionX L fr)) (fr + 2) L.length (bangR (91 :: 67 :: 68 :: 65 :: 84 :: 65 :: 91 :: r)) := by
  unfold bangR
  rw [bindR_yes (n := 1) (a := 91) rfl, if_neg (by decide), guardR_yes (by rfl)]
  simp only [List.drop_succ_cons, List.drop_zero]
  rw [bindR_yes (n := 6) (a := ()) (show litR [67, 68, 65, 84, 65, 91] (67 :: 68 :: 65 :: 84 :: 65 :: 91 :: r) = some (6, ()) from litR_is (p := [67, 68, 65, 84, 65, 91]) rfl)]
  simp only [List.drop_succ_cons, List.drop_zero]
  unfold sectionX upToX
  rw [h]
  cases hu : untilR [93, 93, 62] r with
  | none =>
    rw [mapR_no hu]
    exact Fits.bad rfl (Bad.mk (by omega) (by omega))
  | some p =>
    obtain ⟨n, v⟩ := p
    rw [mapR_yes hu]
    refine Fits.ok (n := 1 + (6 + n)) (a := some (4, [], [], endsL v)) rfl ?_
    simp only [someX, Except.ok.injEq, Prod.mk.injEq, true_and]
    omega
theorem bang_none {r : List UInt8} (h1 : r.take 2 ≠ [45, 45]) (h2 : r.take 7 ≠ [91, 67, 68, 65, 84, 65, 91]) : bangR r = none := by
  unfold bangR
  cases r with
  | nil => rfl
  | cons c r =>
    rw [bindR_yes (n := 1) (a := c) rfl]
    simp only [List.drop_succ_cons, List.drop_zero]
    by_cases h45 : c = 45
    · subst h45
      rw [if_pos rfl, bindR_no (litR_no (p := [45]) (by
        intro e
        apply h1
        simp only [List.take_succ_cons, List.cons.injEq, true_and]
        exact e))]
    · rw [if_neg h45]
      by_cases h91 : c = 91
      · subst h91
        rw [guardR_yes (show ((91 : UInt8) == 91) = true from rfl), bindR_no (litR_no (p := [67, 68, 65, 84, 65, 91]) (by
          intro e
          apply h2
          simp only [List.take_succ_cons, List.cons.injEq, true_and]
          exact e))]
      · rw [guardR_no (by simpa using h91)]
theorem dw_len {p : UInt8 → Bool} (l : List UInt8) : (l.dropWhile p).length + (l.takeWhile p).length = l.length := by
  have := congrArg List.length (List.takeWhile_append_dropWhile (p := p) (l := l))
  rw [List.length_append] at this
  omega
theorem setting_cases (s : List UInt8) :
    (∃ m v, m ≤ s.length ∧ (s.dropWhile blkB).take 1 = [61] ∧ (∃ q r3 n, (((s.dropWhile blkB).drop 1).dropWhile blkB) = q :: r3 ∧ (q = 34 ∨ q = 39) ∧ untilR [q] r3 = some (n, v) ∧ s.drop m = r3.drop n) ∧
      ∀ vals fold, settingR vals fold s = if vals.contains (if fold then lowL v else v) then some (m, ()) else none) ∨
    ((¬ (s.dropWhile blkB).take 1 = [61] ∨ (match ((s.dropWhile blkB).drop 1).dropWhile blkB with | [] => True | q :: r3 => ¬ (q = 34 ∨ q = 39) ∨ untilR [q] r3 = none)) ∧ ∀ vals fold, settingR vals fold s = none) := by
  by_cases h1 : (s.takeWhile blkB).length < s.length
  · have hd := tw_drop (p := blkB) s
    by_cases h61 : (s.dropWhile blkB).take 1 = [61]
    · generalize hs1 : s.dropWhile blkB = s1 at *
      by_cases h2 : ((s1.drop 1).takeWhile blkB).length < (s1.drop 1).length
      · have hd2 := tw_drop (p := blkB) (s1.drop 1)
        cases hq : (s1.drop 1).dropWhile blkB with
        | nil =>
          have := dw_len (p := blkB) (s1.drop 1)
          rw [hq] at this
          simp only [List.length_nil] at this
          omega
        | cons q r3 =>
          have base : ∀ vals fold, settingR vals fold s = match (guardR (q == 34 || q == 39) (mapR (untilR [q]) fun v => if vals.contains (if fold then lowL v else v) then some () else none)) r3 with
              | none => none
              | some (m, b) => some ((s.takeWhile blkB).length + (1 + (((s1.drop 1).takeWhile blkB).length + (1 + m))), b) := by
            intro vals fold
            unfold settingR
            rw [bindR_yes (span_yes h1), hd, bindR_yes (litR_is (p := [61]) h61)]
            simp only [List.length_cons, List.length_nil, Nat.zero_add]
            rw [bindR_yes (span_yes h2), hd2, hq, bindR_yes (n := 1) (a := q) rfl]
            simp only [List.drop_succ_cons, List.drop_zero]
            cases (guardR (q == 34 || q == 39) (mapR (untilR [q]) fun v => if vals.contains (if fold then lowL v else v) then some () else none)) r3 <;> rfl
          by_cases hqq : q = 34 ∨ q = 39
          · have hqb : (q == 34 || q == 39) = true := by simpa using hqq
            cases hu : untilR [q] r3 with
            | none =>
              refine .inr ⟨.inr (by simp only; exact .inr hu), fun vals fold => ?_⟩
              rw [base, guardR_yes hqb, mapR_no hu]
            | some p =>
              obtain ⟨n, v⟩ := p
              have hn := (untilR_le hu).1
              have hl1 := dw_len (p := blkB) s
              have hl2 := dw_len (p := blkB) (s1.drop 1)
              have hl3 := congrArg List.length h61
              rw [hs1] at hl1
              rw [hq] at hl2
              simp only [List.length_cons, List.length_drop, List.length_take, List.length_nil] at hl2 hl3
              refine .inl ⟨(s.takeWhile blkB).length + (1 + (((s1.drop 1).takeWhile blkB).length + (1 + n))), v, by omega, h61, ⟨q, r3, n, rfl, hqq, hu, ?_⟩, fun vals fold => ?_⟩
              · rw [← List.drop_drop, hd, ← List.drop_drop, ← List.drop_drop, hd2, hq, ← List.drop_drop]
                rfl
              · rw [base, guardR_yes hqb, mapR_yes hu]
                by_cases hv : vals.contains (if fold then lowL v else v) = true
                · rw [if_pos hv, if_pos hv]
                · rw [if_neg hv, if_neg hv]
          · have hqb : (q == 34 || q == 39) = false := by simpa using hqq
            refine .inr ⟨.inr (by simp only; exact .inl hqq), fun vals fold => ?_⟩
            rw [base, guardR_no hqb]
      · have hnil : (s1.drop 1).dropWhile blkB = [] := by
          have := dw_len (p := blkB) (s1.drop 1)
          have h3 := tw_le blkB (s1.drop 1)
          exact List.eq_nil_of_length_eq_zero (by omega)
        refine .inr ⟨.inr (by rw [hnil]; trivial), fun vals fold => ?_⟩
        unfold settingR
        rw [bindR_yes (span_yes h1), hd, bindR_yes (litR_is (p := [61]) h61)]
        simp only [List.length_cons, List.length_nil, Nat.zero_add]
        rw [bindR_no (span_no h2)]
    · refine .inr ⟨.inl h61, fun vals fold => ?_⟩
      unfold settingR
      rw [bindR_yes (span_yes h1), hd, bindR_no (litR_no (p := [61]) h61)]
  · have hnil : s.dropWhile blkB = [] := by
      have := dw_len (p := blkB) s
      have h3 := tw_le blkB s
      exact List.eq_nil_of_length_eq_zero (by omega)
    refine .inr ⟨.inl (by rw [hnil]; simp), fun vals fold => ?_⟩
    unfold settingR
    rw [bindR_no (span_no h1)]
theorem told_cases (s name other : List UInt8) (hn : name ≠ []) :
    (∃ m v, (s.takeWhile blkB).length ≠ 0 ∧ (s.takeWhile blkB).length < s.length ∧ (s.dropWhile blkB).take name.length = name ∧
      toldX s name other = (v, s.drop ((s.takeWhile blkB).length + (name.length + m))) ∧ (s.takeWhile blkB).length + (name.length + m) ≤ s.length ∧
      ∀ vals fold, settingR vals fold ((s.dropWhile blkB).drop name.length) = if vals.contains (if fold then lowL v else v) then some (m, ()) else none) ∨
    (toldX s name other = (other, s) ∧ ((s.takeWhile blkB).length = 0 ∨ ¬ (s.dropWhile blkB).take name.length = name ∨ ∀ vals fold, settingR vals fold ((s.dropWhile blkB).drop name.length) = none)) := by
  have hl1 := dw_len (p := blkB) s
  unfold toldX
  simp only
  by_cases h0 : (s.dropWhile blkB).length = s.length
  · rw [if_pos h0]
    exact .inr ⟨rfl, .inl (by omega)⟩
  · rw [if_neg h0]
    by_cases hnm : (s.dropWhile blkB).take name.length = name
    · rw [if_neg (by simpa using hnm)]
      have hnl : name.length ≤ (s.dropWhile blkB).length := by
        have := congrArg List.length hnm
        simp only [List.length_take] at this
        omega
      have hnp : 0 < name.length := List.length_pos_iff.2 hn
      have hd := tw_drop (p := blkB) s
      rcases setting_cases ((s.dropWhile blkB).drop name.length) with ⟨m, v, hm, h61, ⟨q, r3, n, hq, hqq, hu, hdr⟩, hset⟩ | ⟨hno, hset⟩
      · left
        rw [List.length_drop] at hm
        refine ⟨m, v, by omega, by omega, hnm, ?_, by omega, hset⟩
        rw [if_neg (by simpa using h61), hq]
        simp only
        rw [if_pos hqq, hu]
        simp only [Prod.mk.injEq, true_and]
        rw [← hdr, ← List.drop_drop, hd, List.drop_drop]
      · right
        refine ⟨?_, .inr (.inr hset)⟩
        by_cases h61 : (((s.dropWhile blkB).drop name.length).dropWhile blkB).take 1 = [61]
        · rw [if_neg (by simpa using h61)]
          rcases hno with h | h
          · exact absurd h61 h
          · cases hq : (((s.dropWhile blkB).drop name.length).dropWhile blkB |>.drop 1).dropWhile blkB with
            | nil => rfl
            | cons q r3 =>
              rw [hq] at h
              simp only at h ⊢
              rcases h with h | h
              · rw [if_neg h]
              · rw [h]
                split <;> rfl
        · rw [if_pos h61]
    · rw [if_pos hnm]
      exact .inr ⟨rfl, .inr (.inl hnm)⟩
theorem declT3_cases (s : List UInt8) :
    ((s.dropWhile blkB).take 2 = [63, 62] ∧ (s.takeWhile blkB).length + 2 ≤ s.length ∧ declT3 s = some ((s.takeWhile blkB).length + 2, ())) ∨ (¬ (s.dropWhile blkB).take 2 = [63, 62] ∧ declT3 s = none) := by
  have hl1 := dw_len (p := blkB) s
  have hd := tw_drop (p := blkB) s
  unfold declT3
  by_cases h2 : (s.dropWhile blkB).take 2 = [63, 62]
  · have h3 := congrArg List.length h2
    simp only [List.length_take, List.length_cons, List.length_nil] at h3
    refine .inl ⟨h2, by omega, ?_⟩
    rw [bindR_yes (span_yes (by omega)), hd, litR_is (p := [63, 62]) h2]
    rfl
  · refine .inr ⟨h2, ?_⟩
    by_cases h1 : (s.takeWhile blkB).length < s.length
    · rw [bindR_yes (span_yes h1), hd, litR_no (p := [63, 62]) h2]
    · rw [bindR_no (span_no h1)]
theorem take_head {l p : List UInt8} {c : UInt8} (h : l.take (c :: p).length = c :: p) : ∃ r, l = c :: r ∧ r.take p.length = p := by
  cases l with
  | nil => simp at h
  | cons d r =>
    simp only [List.length_cons, List.take_succ_cons, List.cons.injEq] at h
    exact ⟨r, by rw [h.1], h.2⟩
def endX (s : List UInt8) : Option Nat :=
  let a := toldX s sStandalone sNo
  if (a.1 = sYes ∨ a.1 = sNo) ∧ (a.2.dropWhile blkB).take 2 = [63, 62] then some (s.length - ((a.2.dropWhile blkB).length - 2)) else none
def unitO (o : Option Nat) : Option (Nat × Unit) := o.map fun n => (n, ())
theorem head_cases (s : List UInt8) : (∃ c r, s.dropWhile blkB = c :: r ∧ spanR blkB s = some ((s.takeWhile blkB).length, s.takeWhile blkB) ∧ s.drop (s.takeWhile blkB).length = c :: r ∧ s.length = (s.takeWhile blkB).length + (r.length + 1)) ∨
    (s.dropWhile blkB = [] ∧ spanR blkB s = none) := by
  have hl1 := dw_len (p := blkB) s
  have hd := tw_drop (p := blkB) s
  cases hw : s.dropWhile blkB with
  | nil =>
    rw [hw] at hl1
    exact .inr ⟨rfl, span_no (by simp at hl1; omega)⟩
  | cons c r =>
    rw [hw] at hl1 hd
    simp only [List.length_cons] at hl1
    exact .inl ⟨c, r, rfl, span_yes (by omega), hd, by omega⟩
theorem stand_fit (s : List UInt8) : declT2 s = unitO (endX s) ∧ ∀ n, endX s = some n → n ≤ s.length := by
  have hl1 := dw_len (p := blkB) s
  unfold endX declT2
  rcases told_cases s sStandalone sNo (by decide) with ⟨m, v, h1, h2, h3, h4, h5, h6⟩ | ⟨h1, h2⟩
  · rw [h4]
    simp only
    obtain ⟨r, hr, hr2⟩ := take_head (c := 115) (p := [116, 97, 110, 100, 97, 108, 111, 110, 101]) h3
    have hd := tw_drop (p := blkB) s
    rw [hr] at hd
    rw [bindR_yes (span_yes h2), hd, bindR_yes (n := 1) (a := 115) rfl, if_neg (by decide), guardR_yes (by
      have : s.takeWhile blkB ≠ [] := fun e => h1 (by rw [e]; rfl)
      cases hh : s.takeWhile blkB with
      | nil => exact absurd hh this
      | cons c l => rfl)]
    simp only [List.drop_succ_cons, List.drop_zero]
    unfold standR
    rw [bindR_yes (litR_is (p := [116, 97, 110, 100, 97, 108, 111, 110, 101]) hr2)]
    have h6' := h6 [[121, 101, 115], [110, 111]] false
    rw [hr] at h6'
    have e10 : (115 :: r).drop sStandalone.length = r.drop ([116, 97, 110, 100, 97, 108, 111, 110, 101] : List UInt8).length := rfl
    rw [e10] at h6'
    by_cases hv : v = sYes ∨ v = sNo
    · have hc : ([[121, 101, 115], [110, 111]] : List (List UInt8)).contains (if false then lowL v else v) = true := by
        rcases hv with rfl | rfl <;> rfl
      rw [if_pos hc] at h6'
      rw [bindR_yes h6']
      have hrest : (r.drop ([116, 97, 110, 100, 97, 108, 111, 110, 101] : List UInt8).length).drop m = s.drop ((s.takeWhile blkB).length + (sStandalone.length + m)) := by
        rw [← List.drop_drop (l := s), hd, ← List.drop_drop (l := 115 :: r), e10]
      rw [hrest]
      generalize hS : s.drop ((s.takeWhile blkB).length + (sStandalone.length + m)) = s2 at *
      have hsl : s2.length = s.length - ((s.takeWhile blkB).length + (sStandalone.length + m)) := by rw [← hS, List.length_drop]
      have hl2 := dw_len (p := blkB) s2
      have hnl : sStandalone.length = 10 := rfl
      rcases declT3_cases s2 with ⟨t1, t2, t3⟩ | ⟨t1, t2⟩
      · rw [t3, if_pos ⟨hv, t1⟩]
        have h7 := congrArg List.length t1
        simp only [List.length_take, List.length_cons, List.length_nil] at h7
        refine ⟨?_, fun n hn => ?_⟩
        · simp only [unitO, Option.map_some, Option.some.injEq, Prod.mk.injEq, and_true, List.length_cons, List.length_nil]
          omega
        · simp only [Option.some.injEq] at hn
          omega
      · rw [t2, if_neg (fun h => t1 h.2)]
        exact ⟨rfl, fun n hn => by cases hn⟩
    · have hc : ¬ ([[121, 101, 115], [110, 111]] : List (List UInt8)).contains (if false then lowL v else v) = true := by
        intro h
        apply hv
        simp at h
        exact h
      rw [if_neg hc] at h6'
      rw [bindR_no h6', if_neg (fun h => hv h.1)]
      exact ⟨rfl, fun n hn => by cases hn⟩
  · rw [h1]
    simp only
    rcases head_cases s with ⟨c, r, hr, hs1, hd, hlen⟩ | ⟨hnil, hs1⟩
    · rw [bindR_yes hs1, hd, bindR_yes (n := 1) (a := c) rfl, hr]
      simp only [List.drop_succ_cons, List.drop_zero]
      by_cases h63 : c = 63
      · subst h63
        rw [if_pos rfl]
        by_cases h62 : r.take 1 = [62]
        · rw [litR_is (p := [62]) h62, if_pos ⟨.inr (by first | rfl | trivial), by rw [List.take_succ_cons, h62]⟩]
          have := congrArg List.length h62
          simp only [List.length_take, List.length_cons, List.length_nil] at this
          refine ⟨?_, fun n hn => ?_⟩
          · simp only [unitO, Option.map_some, Option.some.injEq, Prod.mk.injEq, and_true, List.length_cons, List.length_nil]
            omega
          · simp only [Option.some.injEq] at hn
            omega
        · rw [litR_no (p := [62]) h62, if_neg (fun h => h62 (by have := h.2; simpa using this))]
          exact ⟨rfl, fun n hn => by cases hn⟩
      · rw [if_neg h63, if_neg (fun h => h63 (by have := h.2; simp at this; exact this.1))]
        have hg : guardR (c == 115 && !(s.takeWhile blkB).isEmpty) standR r = none := by
          by_cases h115 : c = 115
          · subst h115
            rcases h2 with h | h | h
            · exact guardR_no (by rw [List.eq_nil_of_length_eq_zero h]; rfl) _
            · cases hb : (s.takeWhile blkB).isEmpty with
              | true => exact guardR_no (by simp) _
              | false =>
                rw [guardR_yes (by simp)]
                unfold standR
                rw [bindR_no (litR_no (p := [116, 97, 110, 100, 97, 108, 111, 110, 101]) (fun e => h (by rw [hr]; exact congrArg (115 :: ·) e)))]
            · cases hb : (s.takeWhile blkB).isEmpty with
              | true => exact guardR_no (by simp) _
              | false =>
                rw [guardR_yes (by simp)]
                unfold standR
                by_cases hl : r.take 9 = [116, 97, 110, 100, 97, 108, 111, 110, 101]
                · rw [bindR_yes (litR_is (p := [116, 97, 110, 100, 97, 108, 111, 110, 101]) hl)]
                  have := h [[121, 101, 115], [110, 111]] false
                  rw [hr] at this
                  rw [bindR_no (show settingR _ _ (r.drop ([116, 97, 110, 100, 97, 108, 111, 110, 101] : List UInt8).length) = none from this)]
                · rw [bindR_no (litR_no (p := [116, 97, 110, 100, 97, 108, 111, 110, 101]) hl)]
          · exact guardR_no (by simp [h115]) _
        rw [hg]
        exact ⟨rfl, fun n hn => by cases hn⟩
    · rw [bindR_no hs1, hnil, if_neg (fun h => by have := h.2; simp at this)]
      exact ⟨rfl, fun n hn => by cases hn⟩
theorem noenc {s : List UInt8} (h : (s.takeWhile blkB).length = 0 ∨ ¬ (s.dropWhile blkB).take sEncoding.length = sEncoding ∨ ∀ vals fold, settingR vals fold ((s.dropWhile blkB).drop sEncoding.length) = none) : declT1 s = declT2 s := by
  unfold declT1 declT2
  rcases head_cases s with ⟨c, r, hr, hs1, hd, hlen⟩ | ⟨hnil, hs1⟩
  · rw [bindR_yes hs1, bindR_yes hs1, hd, bindR_yes (n := 1) (a := c) rfl, bindR_yes (n := 1) (a := c) rfl]
    simp only [List.drop_succ_cons, List.drop_zero]
    by_cases h63 : c = 63
    · rw [if_pos h63, if_pos h63]
    · rw [if_neg h63, if_neg h63]
      by_cases h101 : c = 101
      · subst h101
        rw [if_pos rfl, guardR_no (c := ((101 : UInt8) == 115 && !(s.takeWhile blkB).isEmpty)) (by rfl)]
        have hg : ∀ X : Rd Unit, guardR (!(s.takeWhile blkB).isEmpty) (bindR (litR [110, 99, 111, 100, 105, 110, 103]) fun _ => bindR (settingR [[117, 116, 102, 45, 56]] true) fun _ => X) r = none := by
          intro X
          rcases h with h | h | h
          · exact guardR_no (by rw [List.eq_nil_of_length_eq_zero h]; rfl) _
          · cases hb : (s.takeWhile blkB).isEmpty with
            | true => exact guardR_no (by simp) _
            | false =>
              rw [guardR_yes (by simp), bindR_no (litR_no (p := [110, 99, 111, 100, 105, 110, 103]) (fun e => h (by rw [hr]; exact congrArg (101 :: ·) e)))]
          · cases hb : (s.takeWhile blkB).isEmpty with
            | true => exact guardR_no (by simp) _
            | false =>
              rw [guardR_yes (by simp)]
              by_cases hl : r.take 7 = [110, 99, 111, 100, 105, 110, 103]
              · rw [bindR_yes (litR_is (p := [110, 99, 111, 100, 105, 110, 103]) hl)]
                have := h [[117, 116, 102, 45, 56]] true
                rw [hr] at this
                rw [bindR_no (show settingR _ _ (r.drop ([110, 99, 111, 100, 105, 110, 103] : List UInt8).length) = none from this)]
              · rw [bindR_no (litR_no (p := [110, 99, 111, 100, 105, 110, 103]) hl)]
        rw [hg]
      · rw [if_neg h101]
  · rw [bindR_no hs1, bindR_no hs1]
def encX (s : List UInt8) : Option Nat :=
  let e := toldX s sEncoding sUtf8
  if lowL e.1 = sUtf8 then (endX e.2).map fun n => s.length - e.2.length + n else none
theorem enc_fit (s : List UInt8) : declT1 s = unitO (encX s) := by
  unfold encX
  rcases told_cases s sEncoding sUtf8 (by decide) with ⟨m, v, h1, h2, h3, h4, h5, h6⟩ | ⟨h1, h2⟩
  · rw [h4]
    simp only
    obtain ⟨r, hr, hr2⟩ := take_head (c := 101) (p := [110, 99, 111, 100, 105, 110, 103]) h3
    have hd := tw_drop (p := blkB) s
    rw [hr] at hd
    unfold declT1
    rw [bindR_yes (span_yes h2), hd, bindR_yes (n := 1) (a := 101) rfl, if_neg (by decide), if_pos rfl, guardR_yes (by
      have : s.takeWhile blkB ≠ [] := fun e => h1 (by rw [e]; rfl)
      cases hh : s.takeWhile blkB with
      | nil => exact absurd hh this
      | cons c l => rfl)]
    simp only [List.drop_succ_cons, List.drop_zero]
    rw [bindR_yes (litR_is (p := [110, 99, 111, 100, 105, 110, 103]) hr2)]
    have h6' := h6 [[117, 116, 102, 45, 56]] true
    rw [hr] at h6'
    have e10 : (101 :: r).drop sEncoding.length = r.drop ([110, 99, 111, 100, 105, 110, 103] : List UInt8).length := rfl
    rw [e10] at h6'
    by_cases hv : lowL v = sUtf8
    · have hc : ([[117, 116, 102, 45, 56]] : List (List UInt8)).contains (if true then lowL v else v) = true := by
        rw [if_pos rfl, hv]; rfl
      rw [if_pos hc] at h6'
      rw [bindR_yes h6', if_pos hv]
      have hrest : (r.drop ([110, 99, 111, 100, 105, 110, 103] : List UInt8).length).drop m = s.drop ((s.takeWhile blkB).length + (sEncoding.length + m)) := by
        rw [← List.drop_drop (l := s), hd, ← List.drop_drop (l := 101 :: r), e10]
      rw [hrest, (stand_fit _).1]
      cases endX (s.drop ((s.takeWhile blkB).length + (sEncoding.length + m))) with
      | none => rfl
      | some n =>
        simp only [unitO, Option.map_some, Option.some.injEq, Prod.mk.injEq, and_true, List.length_drop, List.length_cons, List.length_nil]
        have hnl : sEncoding.length = 8 := rfl
        omega
    · have hc : ¬ ([[117, 116, 102, 45, 56]] : List (List UInt8)).contains (if true then lowL v else v) = true := by
        intro h
        apply hv
        simp at h
        exact h
      rw [if_neg hc] at h6'
      rw [bindR_no h6', if_neg hv]
      rfl
  · rw [noenc h2, (stand_fit s).1, h1, if_pos (show lowL sUtf8 = sUtf8 from by decide)]
    simp only
    cases endX s with
    | none => rfl
    | some n =>
      simp only [unitO, Option.map_some, Option.some.injEq, Prod.mk.injEq, and_true]
      omega
theorem told_le (s name other : List UInt8) (hn : name ≠ []) : (toldX s name other).2.length ≤ s.length ∧ ∃ k, (toldX s name other).2 = s.drop k := by
  rcases told_cases s name other hn with ⟨m, v, h1, h2, h3, h4, h5, h6⟩ | ⟨h1, _⟩
  · rw [h4]; exact ⟨by simp, _, rfl⟩
  · rw [h1]; exact ⟨Nat.le_refl _, 0, rfl⟩
theorem decl_fit (L : List UInt8) (hq : declQ L) : (∃ n, declR L = some (n, ()) ∧ declX L = .ok n) ∨ (declR L = none ∧ Bad (declX L) L.length) := by
  obtain ⟨q1, q2⟩ := hq
  have e1 : declX L = match (if (toldX (L.drop 5) sVersion []).1 = sOne then encX (toldX (L.drop 5) sVersion []).2 else none) with
      | some n => .ok (L.length - (toldX (L.drop 5) sVersion []).2.length + n)
      | none => .error (0, 4) := by
    unfold declX
    rw [if_pos ⟨q1, q2⟩]
    simp only
    by_cases hv : (toldX (L.drop 5) sVersion []).1 = sOne
    · rw [if_pos hv]
      unfold encX
      simp only
      have t1 := (told_le (L.drop 5) sVersion [] (by decide)).1
      have t2 := (told_le (toldX (L.drop 5) sVersion []).2 sEncoding sUtf8 (by decide)).1
      have t3 := (told_le (toldX (toldX (L.drop 5) sVersion []).2 sEncoding sUtf8).2 sStandalone sNo (by decide)).1
      rw [List.length_drop] at t1
      generalize (toldX (L.drop 5) sVersion []) = v at *
      generalize (toldX v.2 sEncoding sUtf8) = e at *
      by_cases he : lowL e.1 = sUtf8
      · rw [if_pos he]
        unfold endX
        simp only
        generalize (toldX e.2 sStandalone sNo) = a at *
        by_cases hc : (a.1 = sYes ∨ a.1 = sNo) ∧ (a.2.dropWhile blkB).take 2 = [63, 62]
        · rw [if_pos ⟨hv, he, hc⟩, if_pos hc]
          have h7 := congrArg List.length hc.2
          have h8 := dw_len (p := blkB) a.2
          simp only [List.length_take, List.length_cons, List.length_nil] at h7
          simp only [Option.map_some, Except.ok.injEq]
          omega
        · rw [if_neg (fun h => hc h.2.2), if_neg hc]
          rfl
      · rw [if_neg (fun h => he h.2.1), if_neg he]
    · rw [if_neg (fun h => hv h.1), if_neg hv]
  rw [e1]
  clear e1
  have h5 := congrArg List.length q1
  simp only [List.length_take, List.length_cons, List.length_nil] at h5
  unfold declR
  rw [bindR_yes (litR_is (p := [60, 63, 120, 109, 108]) q1)]
  have hb : ((L.drop 5).takeWhile blkB).length ≠ 0 := by
    cases hd : L.drop 5 with
    | nil => rw [hd] at q2; simp at q2
    | cons c r =>
      rw [hd] at q2
      have : blkB c = true := by simpa using q2
      simp [this]
  simp only [List.length_cons, List.length_nil]
  have hLd : (L.drop 5).length = L.length - 5 := List.length_drop ..
  generalize hS : L.drop 5 = s at *
  rcases told_cases s sVersion [] (by decide) with ⟨m, v, h1, h2, h3, h4, h5', h6⟩ | ⟨h1, h2⟩
  · rw [h4]
    simp only
    have hd := tw_drop (p := blkB) s
    rw [bindR_yes (span_yes h2), hd, bindR_yes (litR_is (p := [118, 101, 114, 115, 105, 111, 110]) h3)]
    have h6' := h6 [[49, 46, 48]] false
    by_cases hv : v = sOne
    · have hc : ([[49, 46, 48]] : List (List UInt8)).contains (if false then lowL v else v) = true := by subst hv; rfl
      rw [if_pos hc] at h6'
      have h6'' : settingR [[49, 46, 48]] false ((s.dropWhile blkB).drop ([118, 101, 114, 115, 105, 111, 110] : List UInt8).length) = some (m, ()) := h6'
      have hrest : ((s.dropWhile blkB).drop ([118, 101, 114, 115, 105, 111, 110] : List UInt8).length).drop m = s.drop ((s.takeWhile blkB).length + (sVersion.length + m)) := by
        rw [← List.drop_drop (l := s), hd, ← List.drop_drop (l := s.dropWhile blkB)]
        rfl
      rw [bindR_yes h6'', hrest, enc_fit, if_pos hv]
      cases encX (s.drop ((s.takeWhile blkB).length + (sVersion.length + m))) with
      | none => exact .inr ⟨rfl, Bad.mk (by omega) (by omega)⟩
      | some n =>
        refine .inl ⟨5 + ((s.takeWhile blkB).length + (7 + (m + n))), rfl, ?_⟩
        have hnl : sVersion.length = 7 := rfl
        simp only [Except.ok.injEq, List.length_drop]
        omega
    · have hc : ¬ ([[49, 46, 48]] : List (List UInt8)).contains (if false then lowL v else v) = true := by
        intro h
        apply hv
        simp at h
        exact h
      rw [if_neg hc] at h6'
      have h6'' : settingR [[49, 46, 48]] false ((s.dropWhile blkB).drop ([118, 101, 114, 115, 105, 111, 110] : List UInt8).length) = none := h6'
      rw [bindR_no h6'', if_neg hv]
      exact .inr ⟨rfl, Bad.mk (by omega) (by omega)⟩
  · rw [h1]
    simp only
    rw [if_neg (by decide)]
    refine .inr ⟨?_, Bad.mk (by omega) (by omega)⟩
    rcases head_cases s with ⟨c, r, hr, hs1, hd, hlen⟩ | ⟨hnil, hs1⟩
    · rw [bindR_yes hs1, hd, ← hr]
      rcases h2 with h | h | h
      · exact absurd h hb
      · rw [bindR_no (litR_no (p := [118, 101, 114, 115, 105, 111, 110]) h)]
      · by_cases hl : (s.dropWhile blkB).take 7 = [118, 101, 114, 115, 105, 111, 110]
        · rw [bindR_yes (litR_is (p := [118, 101, 114, 115, 105, 111, 110]) hl)]
          have := h [[49, 46, 48]] false
          rw [bindR_no (show settingR _ _ ((s.dropWhile blkB).drop ([118, 101, 114, 115, 105, 111, 110] : List UInt8).length) = none from this)]
        · rw [bindR_no (litR_no (p := [118, 101, 114, 115, 105, 111, 110]) hl)]
    · rw [bindR_no hs1]
end Wb
