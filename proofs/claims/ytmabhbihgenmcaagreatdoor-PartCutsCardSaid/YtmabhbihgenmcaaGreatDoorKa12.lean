/- QaQ QaR. -/
import Derived.Test.YtmabhbihgenmcaaGreatDoorKa11
namespace Wb
theorem findD_clean {b : List UInt8} (hb : ∀ c ∈ b, c ≠ 13) {rest : List UInt8} (hr : rest = [] ∨ (delB b).isPrefixOf rest = true) : ∀ (U : List UInt8) (n : Nat), inF (lineD b) U = false →
    findD b ((U ++ 13 :: 10 :: rest).take n) = none ∨ ∃ r, findD b ((U ++ 13 :: 10 :: rest).take n) = some (U, r) ∧ r = rest.take (n - U.length - 2) ∧ (delB b).isPrefixOf r = true
  | [], n, _ => by
    match n with
    | 0 => exact .inl rfl
    | 1 => exact .inl (findD_short (by simp; omega))
    | m + 2 =>
      have e : ([] ++ 13 :: 10 :: rest).take (m + 2) = 13 :: 10 :: rest.take m := rfl
      rw [e, findD]
      cases hd : (delB b).isPrefixOf (rest.take m)
      · have hl : (lineD b).isPrefixOf (13 :: 10 :: rest.take m) = false := by
          unfold lineD
          rw [List.isPrefixOf_cons_cons, List.isPrefixOf_cons_cons]
          unfold delB at hd
          rw [hd]
          rfl
        rw [if_neg (by rw [hl]; simp), findD, if_neg (by unfold lineD; rw [List.isPrefixOf_cons_cons, show ((13 : UInt8) == 10) = false from by decide]; simp)]
        left
        have : findD b (rest.take m) = none := by
          rcases hr with rfl | hr
          · rw [List.take_nil]; rfl
          · refine findD_short ?_
            by_cases hm : 2 + b.length ≤ m
            · exfalso
              have h1 := List.isPrefixOf_iff_prefix.1 hr
              have h2 : delB b <+: rest.take m := by
                rw [List.prefix_take_iff]
                exact ⟨h1, by unfold delB; simp; omega⟩
              rw [List.isPrefixOf_iff_prefix.2 h2] at hd
              cases hd
            · rw [List.length_take]
              omega
        rw [this]
        rfl
      · have hl : (lineD b).isPrefixOf (13 :: 10 :: rest.take m) = true := by
          unfold lineD
          rw [List.isPrefixOf_cons_cons, List.isPrefixOf_cons_cons]
          unfold delB at hd
          rw [hd]
          rfl
        rw [if_pos hl]
        exact .inr ⟨rest.take m, rfl, by simp, hd⟩
  | c :: U, n, h => by
    rw [inF_cons] at h
    match n with
    | 0 => exact .inl rfl
    | k + 1 =>
      have e : (c :: U ++ 13 :: 10 :: rest).take (k + 1) = c :: (U ++ 13 :: 10 :: rest).take k := rfl
      have hp : (lineD b).isPrefixOf (c :: (U ++ 13 :: 10 :: rest).take k) = false := by
        cases hq : (lineD b).isPrefixOf (c :: (U ++ 13 :: 10 :: rest).take k)
        · rfl
        · have h1 := List.isPrefixOf_iff_prefix.1 hq
          have h2 : c :: (U ++ 13 :: 10 :: rest).take k <+: c :: U ++ 13 :: (10 :: rest) := by
            rw [← e]
            exact List.take_prefix _ _
          have h3 := pre_cut hb (U := c :: U) (V := 10 :: rest) (by simp) h.1
          rw [List.isPrefixOf_iff_prefix.2 (h1.trans h2)] at h3
          cases h3
      rw [e, findD, if_neg (by rw [hp]; simp)]
      rcases findD_clean hb hr U k h.2 with h1 | ⟨r, h1, h2, h3⟩
      · left; rw [h1]; rfl
      · right
        exact ⟨r, by rw [h1]; rfl, by rw [h2]; congr 1; simp, h3⟩
theorem findD_two (b Y : List UInt8) : findD b (13 :: 10 :: Y) = if (delB b).isPrefixOf Y = true then some ([], 10 :: Y |>.drop 1) else (findD b Y).map fun r => (13 :: 10 :: r.1, r.2) := by
  rw [findD]
  have hl : (lineD b).isPrefixOf (13 :: 10 :: Y) = (delB b).isPrefixOf Y := by
    unfold lineD delB
    rw [List.isPrefixOf_cons_cons, List.isPrefixOf_cons_cons]
    rfl
  rw [hl]
  split
  · rfl
  · rw [findD, if_neg (by unfold lineD; rw [List.isPrefixOf_cons_cons, show ((13 : UInt8) == 10) = false from by decide]; simp)]
    cases findD b Y <;> rfl
theorem nextD_clean {b : List UInt8} (hb : ∀ c ∈ b, c ≠ 13) {rest T : List UInt8} (hr : rest = [] ∨ (delB b).isPrefixOf rest = true) (hT : inF (lineD b) (13 :: 10 :: T) = false) (n : Nat) :
    nextD b ((T ++ 13 :: 10 :: rest).take n) = none ∨ ∃ r, nextD b ((T ++ 13 :: 10 :: rest).take n) = some (T, r) ∧ r = rest.take (n - T.length - 2) ∧ (delB b).isPrefixOf r = true := by
  have h := findD_clean hb hr (13 :: 10 :: T) (n + 2) hT
  have e : (13 :: 10 :: T ++ 13 :: 10 :: rest).take (n + 2) = 13 :: 10 :: (T ++ 13 :: 10 :: rest).take n := rfl
  rw [e, findD_two] at h
  unfold nextD
  generalize (T ++ 13 :: 10 :: rest).take n = Y at *
  cases hd : (delB b).isPrefixOf Y
  · rw [hd, if_neg (by simp)] at h
    rw [if_neg (by simp)]
    rcases h with h | ⟨r, h1, h2, h3⟩
    · left
      cases hf : findD b Y with
      | none => rfl
      | some x => rw [hf] at h; cases h
    · right
      cases hf : findD b Y with
      | none => rw [hf] at h1; cases h1
      | some x =>
        rw [hf] at h1
        simp only [Option.map_some, Option.some.injEq, Prod.mk.injEq, List.cons.injEq, true_and] at h1
        refine ⟨r, by rw [← h1.1, ← h1.2], by rw [h2]; congr 1; simp only [List.length_cons]; omega, h3⟩
  · rw [hd, if_pos rfl] at h
    rcases h with h | ⟨r, h1, h2, h3⟩
    · cases h
    · simp at h1
theorem inF_join {b : List UInt8} (hb : ∀ c ∈ b, c ≠ 13) {V : List UInt8} (hV : inF (lineD b) (13 :: V) = false) : ∀ U : List UInt8, inF (lineD b) U = false → inF (lineD b) (U ++ 13 :: V) = false
  | [], _ => hV
  | c :: U, h => by
    rw [inF_cons] at h
    rw [List.cons_append, inF_cons]
    exact ⟨pre_cut hb (by simp) h.1, inF_join hb hV U h.2⟩
theorem inF_none {b : List UInt8} : ∀ L : List UInt8, (∀ c ∈ L, c ≠ 13) → inF (lineD b) L = false
  | [], _ => rfl
  | c :: L, h => by
    rw [inF_cons]
    refine ⟨?_, inF_none L fun x hx => h x (by simp [hx])⟩
    unfold lineD
    rw [List.isPrefixOf_cons_cons]
    have : ((13 : UInt8) == c) = false := by
      rw [beq_eq_false_iff_ne]
      exact fun e => h c (by simp) e.symm
    rw [this]
    rfl
theorem inF_line {b L : List UInt8} (h : ∀ c ∈ L, c ≠ 13) (hd : (delB b).isPrefixOf L = false) : inF (lineD b) (13 :: 10 :: L) = false := by
  rw [inF_cons, inF_cons]
  refine ⟨?_, ?_, inF_none L h⟩
  · unfold lineD
    rw [List.isPrefixOf_cons_cons, List.isPrefixOf_cons_cons]
    unfold delB at hd
    rw [hd]
    rfl
  · unfold lineD
    rw [List.isPrefixOf_cons_cons]
    rfl
theorem inF_lines {b V : List UInt8} (hb : ∀ c ∈ b, c ≠ 13) (hV : inF (lineD b) (13 :: 10 :: V) = false) : ∀ ls : List (List UInt8), (∀ L ∈ ls, (∀ c ∈ L, c ≠ 13) ∧ (delB b).isPrefixOf L = false) →
    inF (lineD b) (13 :: 10 :: (endL ls ++ 13 :: 10 :: V)) = false
  | [], _ => inF_join hb hV [13, 10] (by
      rw [inF_cons, inF_cons]
      refine ⟨?_, ?_, rfl⟩
      · cases hq : (lineD b).isPrefixOf [13, 10]
        · rfl
        · have := pre_len hq; rw [lineD_len] at this; simp at this; omega
      · cases hq : (lineD b).isPrefixOf [10]
        · rfl
        · have := pre_len hq; rw [lineD_len] at this; simp at this; omega)
  | L :: ls, h => by
    have ih := inF_lines hb hV ls fun x hx => h x (by simp [hx])
    have hL := h L (by simp)
    have e : 13 :: 10 :: (endL (L :: ls) ++ 13 :: 10 :: V) = (13 :: 10 :: L) ++ 13 :: (10 :: (endL ls ++ 13 :: 10 :: V)) := by
      unfold endL
      simp
    rw [e]
    exact inF_join hb ih _ (inF_line hL.1 hL.2)
theorem foldG_mem : ∀ (ws : List (List UInt8)) (line : List UInt8) (first : Bool) (L : List UInt8), L ∈ foldG line first ws → (line <+: L ∨ L.head? = some 32) ∧ ∀ c ∈ L, c ∈ line ∨ c = 32 ∨ c ∈ flatW ws
  | [], line, first, L, h => by
    simp only [foldG, List.mem_singleton] at h
    subst h
    exact ⟨.inl (List.prefix_refl _), fun c hc => .inl hc⟩
  | w :: ws, line, first, L, h => by
    rw [foldG] at h
    have hw : ∀ c ∈ flatW ws, c ∈ flatW (w :: ws) := fun c hc => by rw [flatW]; simp [hc]
    have hw2 : ∀ c ∈ w, c ∈ flatW (w :: ws) := fun c hc => by rw [flatW]; simp [hc]
    split at h
    · rcases List.mem_cons.1 h with rfl | h
      · exact ⟨.inl (List.prefix_refl _), fun c hc => .inl hc⟩
      · obtain ⟨h1, h2⟩ := foldG_mem ws _ _ L h
        refine ⟨.inr ?_, fun c hc => ?_⟩
        · rcases h1 with ⟨x, rfl⟩ | h1
          · rfl
          · exact h1
        · rcases h2 c hc with h3 | h3 | h3
          · rcases List.mem_cons.1 h3 with h3 | h3
            · exact .inr (.inl h3)
            · exact .inr (.inr (hw2 c h3))
          · exact .inr (.inl h3)
          · exact .inr (.inr (hw c h3))
    · obtain ⟨h1, h2⟩ := foldG_mem ws _ _ L h
      refine ⟨?_, fun c hc => ?_⟩
      · rcases h1 with h1 | h1
        · exact .inl ((List.prefix_append _ _).trans h1)
        · exact .inr h1
      · rcases h2 c hc with h3 | h3 | h3
        · rcases List.mem_append.1 h3 with h3 | h3
          · exact .inl h3
          · rcases List.mem_cons.1 h3 with h3 | h3
            · exact .inr (.inl h3)
            · exact .inr (.inr (hw2 c h3))
        · exact .inr (.inl h3)
        · exact .inr (.inr (hw c h3))
theorem pre_name {b nm x : List UInt8} (hb : ∀ c ∈ b, c ≠ 58) (h : (delB b).isPrefixOf (nm ++ 58 :: x) = true) : (delB b).isPrefixOf (nm ++ [58]) = true := by
  rw [List.isPrefixOf_iff_prefix] at h ⊢
  have hl : (delB b).length ≤ nm.length := by
    cases Nat.lt_or_ge nm.length (delB b).length with
    | inr h' => exact h'
    | inl hlt =>
      exfalso
      have h1 := List.prefix_iff_getElem?.1 h nm.length hlt
      rw [List.getElem?_append_right (by omega), Nat.sub_self] at h1
      simp only [List.getElem?_cons_zero, Option.some.injEq] at h1
      have hm : (58 : UInt8) ∈ delB b := by rw [h1]; exact List.getElem_mem _
      unfold delB at hm
      simp only [List.mem_cons] at hm
      rcases hm with h | h | h
      · cases h
      · cases h
      · exact hb 58 h rfl
  exact (List.prefix_of_prefix_length_le h (List.prefix_append nm (58 :: x)) hl).trans (List.prefix_append _ _)
theorem header_lines {b : List UInt8} (hb : ∀ c ∈ b, c ≠ 58) : ∀ (fs : List (List UInt8 × List UInt8)) (h : List UInt8), printFs fs = .ok h → clashH b fs = false →
    ∃ ls : List (List UInt8), h = endL ls ++ [13, 10] ∧ ∀ L ∈ ls, (∀ c ∈ L, c ≠ 13) ∧ (delB b).isPrefixOf L = false
  | [], h, hp, _ => by
    simp only [printFs, Except.ok.injEq] at hp
    exact ⟨[], by rw [← hp]; rfl, fun L hL => by cases hL⟩
  | f :: l, h, hp, hc => by
    unfold clashH at hc
    rw [List.any_cons, Bool.or_eq_false_iff] at hc
    rw [printFs] at hp
    split at hp
    · cases hp
    rename_i hn
    have hn : namedF f.1 = true := by simpa using hn
    split at hp
    · cases hp
    rename_i hv
    have hv : printableF f.2 = true := by simpa using hv
    obtain ⟨n0, n1, n2⟩ := named_facts _ hn
    rcases linesF_print f n1 with ⟨h1, _⟩ | ⟨t, h1, _, h3⟩
    · rw [h1] at hp; cases hp
    · rw [h1] at hp
      simp only at hp
      cases hl : printFs l with
      | error e => rw [hl] at hp; cases hp
      | ok s =>
        rw [hl] at hp
        simp only [Except.ok.injEq] at hp
        obtain ⟨ls, h4, h5⟩ := header_lines hb l s hl hc.2
        refine ⟨linesF f ++ ls, ?_, fun L hL => ?_⟩
        · rw [← hp, ← h3, h4]
          unfold endL
          simp
        · rcases List.mem_append.1 hL with hL | hL
          · obtain ⟨g1, g2⟩ := foldG_mem _ _ _ L hL
            refine ⟨fun c hc2 => ?_, ?_⟩
            · rcases g2 c hc2 with g | rfl | g
              · rcases List.mem_append.1 g with g | g
                · have := n2 c g
                  rintro rfl
                  have h0 := this.1
                  revert h0; decide
                · rw [List.mem_singleton] at g
                  rw [g]; decide
              · decide
              · have := words_range _ hv c g
                rintro rfl
                have h0 := this.1
                revert h0; decide
            · cases hq : (delB b).isPrefixOf L
              · rfl
              · exfalso
                rcases g1 with ⟨x, rfl⟩ | g1
                · rw [show f.1 ++ [58] ++ x = f.1 ++ 58 :: x from by simp] at hq
                  have := pre_name hb hq
                  rw [this] at hc
                  cases hc.1
                · cases L with
                  | nil => simp at g1
                  | cons a r =>
                    simp only [List.head?_cons, Option.some.injEq] at g1
                    subst g1
                    unfold delB at hq
                    rw [List.isPrefixOf_cons_cons, show ((45 : UInt8) == 32) = false from by decide] at hq
                    cases hq
          · exact h5 L hL
end Wb
namespace Wb
theorem delB_len (b : List UInt8) : (delB b).length = 2 + b.length := by unfold delB; simp; omega
theorem partsM_head {b : List UInt8} : ∀ {l : List Pt} {s : List UInt8}, partsM b l = .ok s → (delB b).isPrefixOf s = true
  | [], s, h => by
    simp only [partsM, Except.ok.injEq] at h
    rw [← h, List.isPrefixOf_iff_prefix]
    exact List.prefix_append _ _
  | p :: l, s, h => by
    rw [partsM] at h
    split at h
    · cases h
    · split at h
      · cases h
      · simp only [Except.ok.injEq] at h
        rw [← h, List.isPrefixOf_iff_prefix]
        exact List.prefix_append _ _
theorem printH_ok {fs : List (List UInt8 × List UInt8)} {h : List UInt8} (e : printH fs = .ok h) : fs.length ≤ 8 ∧ printFs fs = .ok h := by
  unfold printH at e
  split at e
  · cases e
  · exact ⟨by omega, e⟩
theorem part_clean {b : List UInt8} (hb : ∀ c ∈ b, c ≠ 13) (h58 : ∀ c ∈ b, c ≠ 58) {p : Pt} {h : List UInt8} (hp : printH p.1 = .ok h) (hc : clashP b p = false) : inF (lineD b) (13 :: 10 :: (h ++ p.2)) = false := by
  unfold clashP at hc
  rw [Bool.or_eq_false_iff] at hc
  obtain ⟨ls, rfl, hl⟩ := header_lines h58 _ _ (printH_ok hp).2 hc.2
  rw [List.append_assoc]
  exact inF_lines hb hc.1 ls hl
theorem parts_cut {b : List UInt8} (hb : ∀ c ∈ b, c ≠ 13) (h58 : ∀ c ∈ b, c ≠ 58) : ∀ (l : List Pt) (s : List UInt8) (n f k : Nat), partsM b l = .ok s → (∀ p ∈ l, clashP b p = false) → n + (b.length + 6) ≤ s.length →
    (delB b).isPrefixOf (s.take n) = true → n < f → ∃ e, e ≠ 0 ∧ parsePs f b k (s.take n) = .error e
  | [], s, n, f, k, h, _, hn, hd, _ => by
    exfalso
    simp only [partsM, Except.ok.injEq] at h
    have := pre_len hd
    rw [← h, List.length_append, delB_len] at hn
    rw [List.length_take, delB_len] at this
    simp only [List.length_cons, List.length_nil] at hn
    omega
  | p :: l, s, n, f, k, h, hc, hn, hd, hf => by
    obtain ⟨f, rfl⟩ : ∃ g, f = g + 1 := ⟨f - 1, by omega⟩
    rw [partsM] at h
    cases hH : printH p.1 with
    | error e => rw [hH] at h; cases h
    | ok hd2 =>
      rw [hH] at h
      simp only at h
      cases hS : partsM b l with
      | error e => rw [hS] at h; cases h
      | ok s' =>
        rw [hS] at h
        simp only [Except.ok.injEq] at h
        have hlen := pre_len hd
        rw [List.length_take, delB_len] at hlen
        have hT := part_clean hb h58 hH (hc p (by simp))
        have hsl : s.length = 2 + b.length + 2 + (hd2 ++ p.2).length + 2 + s'.length := by
          rw [← h]
          simp only [List.length_append, List.length_cons, delB_len]
          omega
        have hdr : (s.take n).drop (2 + b.length) = (13 :: 10 :: ((hd2 ++ p.2) ++ 13 :: 10 :: s')).take (n - (2 + b.length)) := by
          rw [← h, List.drop_take, List.drop_append_of_le_length (by rw [delB_len]; exact Nat.le_refl _), List.drop_of_length_le (by rw [delB_len]; exact Nat.le_refl _)]
          simp
        rw [parsePs]
        simp only
        rw [hdr]
        obtain ⟨m, hm⟩ : ∃ m, n - (2 + b.length) = m := ⟨_, rfl⟩
        rw [hm]
        match m, hm with
        | 0, _ => exact ⟨4, by decide, rfl⟩
        | 1, _ => exact ⟨4, by decide, rfl⟩
        | m + 2, hm =>
          have e0 : (13 :: 10 :: ((hd2 ++ p.2) ++ 13 :: 10 :: s')).take (m + 2) = 13 :: 10 :: ((hd2 ++ p.2) ++ 13 :: 10 :: s').take m := rfl
          rw [e0]
          have hnx := nextD_clean hb (.inr (partsM_head hS)) hT m
          generalize hY : ((hd2 ++ p.2) ++ 13 :: 10 :: s').take m = Y at *
          have e1 : ([45, 45] : List UInt8).isPrefixOf (13 :: 10 :: Y) = false := by rw [List.isPrefixOf_cons_cons, show ((45 : UInt8) == 13) = false from by decide]; rfl
          have e2 : (13 :: 10 :: Y).dropWhile blankB = 13 :: 10 :: Y := by rw [List.dropWhile_cons, if_neg (by decide)]
          have e3 : ([13, 10] : List UInt8).isPrefixOf (13 :: 10 :: Y) = true := by rw [List.isPrefixOf_cons_cons, List.isPrefixOf_cons_cons]; simp
          rw [if_neg (by rw [e1]; simp), e2, if_neg (by rw [e3]; simp)]
          have e4 : (13 :: 10 :: Y).drop 2 = Y := rfl
          rw [e4]
          rcases hnx with hnx | ⟨r, hnx, hr, hdr2⟩
          · rw [hnx]
            exact ⟨2, by decide, rfl⟩
          · rw [hnx]
            simp only
            by_cases hk : k = 40
            · rw [if_pos hk]
              exact ⟨3, by decide, rfl⟩
            · rw [if_neg hk]
              obtain ⟨h8, hpf⟩ := printH_ok hH
              have hfl : p.1.length < (hd2 ++ p.2).length + 1 := by
                obtain ⟨q, hq⟩ := header_len _ _ hpf
                rw [List.length_append]
                omega
              rw [parse_back p.1 hd2 p.2 _ 0 hpf (by omega) hfl]
              simp only
              obtain ⟨e, he0, he⟩ := parts_cut hb h58 l s' (m - (hd2 ++ p.2).length - 2) f (k + 1) hS (fun x hx => hc x (by simp [hx])) (by
                have := pre_len hdr2
                rw [hr, List.length_take, delB_len] at this
                omega) (by rw [← hr]; exact hdr2) (by omega)
              rw [← hr] at he
              rw [he]
              exact ⟨e, he0, rfl⟩
where
  header_len : ∀ (fs : List (List UInt8 × List UInt8)) (h : List UInt8), printFs fs = .ok h → ∃ q, h.length = fs.length + 2 + q
    | [], h, e => by
      simp only [printFs, Except.ok.injEq] at e
      exact ⟨0, by rw [← e]; rfl⟩
    | f :: l, h, e => by
      rw [printFs] at e
      split at e
      · cases e
      split at e
      · cases e
      split at e
      · cases e
      · rename_i t ht
        split at e
        · rename_i s hs
          simp only [Except.ok.injEq] at e
          obtain ⟨q, hq⟩ := header_len l s hs
          have : 1 ≤ t.length := by
            unfold printF at ht
            cases hw : printWs (f.1.length + 1) true (wordsF f.2) with
            | none => rw [hw] at ht; cases ht
            | some r =>
              rw [hw] at ht
              simp only [Option.map_some, Option.some.injEq] at ht
              rw [← ht]
              simp
              omega
          exact ⟨q + (t.length - 1), by rw [← e, List.length_append, hq, List.length_cons]; omega⟩
        · cases e
theorem part_cuts {b : List UInt8} (h58 : ∀ c ∈ b, c ≠ 58) {l : List Pt} {s : List UInt8} (h : printM b l = .ok s) {n : Nat} (hn : n + (b.length + 6) ≤ s.length) : ∃ e, e ≠ 0 ∧ parseM b (s.take n) = .error e := by
  unfold printM at h
  split at h
  · cases h
  rename_i h0
  have hbf : bndF b = true := by
    cases hq : bndF b
    · exact absurd (.inl hq) h0
    · rfl
  have hcl : clashL b l = false := by
    cases hq : clashL b l
    · rfl
    · exact absurd (.inr hq) h0
  split at h
  · cases h
  split at h
  · cases h
  have hb : ∀ c ∈ b, c ≠ 13 := fun c hc => (bnd_no b hbf c hc).1
  have hc : ∀ p ∈ l, clashP b p = false := fun p hp => by
    unfold clashL at hcl
    rw [List.any_eq_false] at hcl
    simpa using hcl p hp
  unfold parseM
  rw [if_neg (by rw [hbf]; simp)]
  cases hd : (delB b).isPrefixOf (s.take n)
  · have hs := List.isPrefixOf_iff_prefix.1 (partsM_head h)
    have hn2 : n < 2 + b.length := by
      cases Nat.lt_or_ge n (2 + b.length) with
      | inl h' => exact h'
      | inr h' =>
        have h2 : delB b <+: s.take n := by
          rw [List.prefix_take_iff]
          exact ⟨hs, by rw [delB_len]; exact h'⟩
        rw [List.isPrefixOf_iff_prefix.2 h2] at hd
        cases hd
    have : nextD b (s.take n) = none := by
      unfold nextD
      rw [if_neg (by rw [hd]; simp), findD_short (by rw [List.length_take]; omega)]
    rw [this]
    exact ⟨30, by decide, rfl⟩
  · have : nextD b (s.take n) = some ([], s.take n) := by
      unfold nextD
      rw [if_pos hd]
    rw [this]
    exact parts_cut hb h58 l s n _ 0 h hc hn hd (by rw [List.length_take]; omega)
end Wb
