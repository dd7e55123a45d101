/- FdV FdW Kit. -/
import Derived.Lib.IndexMore
import Derived.Lib.Fields
import Derived.Lib.TrimByte
import Derived.Lib.SlTrimSet
import Derived.WalkKit
import Derived.WalkSpells
import Derived.WalkLawsBesides
import Derived.Lib.Hide
import Derived.Laws.BitsAllLaws
import Derived.Test.YtmabhbihgenmcaaGreatDoorKc1
namespace Wb
open Go
theorem lib_contains_cons (b : UInt8) (l sub : List UInt8) : Lib.contains (b :: l) sub = (sub.isPrefixOf (b :: l) || Lib.contains l sub) := by
  unfold Lib.contains
  rw [Lib.index]
  have := Lib.index_ge l sub
  cases h : sub.isPrefixOf (b :: l)
  · rw [Bool.false_or, if_neg (by simp)]
    by_cases hm : Lib.index l sub = -1
    · rw [hm]; rfl
    · rw [if_neg (by simpa using hm)]
      rw [decide_eq_true (show 0 ≤ Lib.index l sub + 1 by omega), decide_eq_true (show 0 ≤ Lib.index l sub by omega)]
  · simp
def dblS : List UInt8 → Bool
  | [] => false
  | a :: l => (a == 32 && (l.head?.map (· == 32)).getD false) || dblS l
theorem contains_dbl : ∀ v : List UInt8, Lib.contains v [32, 32] = dblS v
  | [] => rfl
  | a :: l => by
    rw [lib_contains_cons, contains_dbl l, dblS]
    congr 1
    cases l with
    | nil => simp [List.isPrefixOf]
    | cons b l =>
      simp only [List.isPrefixOf, List.head?_cons, Option.map_some, Option.getD_some, Bool.and_true]
      rw [show ((32 : UInt8) == a) = (a == 32) from Bool.beq_comm, show ((32 : UInt8) == b) = (b == 32) from Bool.beq_comm]
def rngC (c : UInt8) : Bool := decide (32 ≤ c.toNat) && decide (c.toNat ≤ 126)
def headP (p : Bool) (v : List UInt8) : Bool := !(p && (v.head?.map (· == 32)).getD false)
def lastP : Bool → List UInt8 → Bool
  | p, [] => !p
  | _, c :: l => lastP (c == 32) l
theorem prP_parts : ∀ (v : List UInt8) (p : Bool), prP p v = (v.all rngC && !dblS v && headP p v && lastP p v)
  | [], p => by simp [prP, dblS, headP, lastP]
  | c :: l, p => by
    rw [prP, prP_parts l, List.all_cons, dblS, lastP]
    unfold headP rngC
    simp only [List.head?_cons, Option.map_some, Option.getD_some, bne]
    cases (decide (32 ≤ c.toNat)) <;> cases (decide (c.toNat ≤ 126)) <;> cases (c == 32) <;> cases p <;> cases (dblS l) <;> cases (l.all fun c => decide (32 ≤ c.toNat) && decide (c.toNat ≤ 126)) <;> cases ((l.head?.map (· == 32)).getD false) <;> simp
theorem dropW_self (p : UInt8 → Bool) (l : List UInt8) : l.dropWhile p = l ↔ (l.head?.map p).getD false = false := by
  cases l with
  | nil => simp
  | cons c l =>
    rw [List.dropWhile_cons]
    cases h : p c
    · simp [h]
    · simp only [if_true, List.head?_cons, Option.map_some, h, Option.getD_some, Bool.true_eq_false, iff_false]
      intro e
      have := (List.dropWhile_suffix p (l := l)).length_le
      rw [e, List.length_cons] at this
      omega
theorem getLast_rev (l : List UInt8) : l.reverse.head? = l.getLast? := by rw [List.head?_reverse]
theorem trim_self (v : List UInt8) : Lib.trimB v 32 = v ↔ (v.head?.map (· == 32)).getD false = false ∧ (v.getLast?.map (· == 32)).getD false = false := by
  unfold Lib.trimB Lib.trimLeftB Lib.trimRightB
  constructor
  · intro h
    have h1 := (List.dropWhile_suffix (· == (32 : UInt8)) (l := (v.reverse.dropWhile (· == 32)).reverse)).length_le
    rw [h, List.length_reverse] at h1
    have h2 := List.dropWhile_suffix (· == (32 : UInt8)) (l := v.reverse)
    have h3 := h2.length_le
    rw [List.length_reverse] at h3
    have h4 : v.reverse.dropWhile (· == 32) = v.reverse := h2.eq_of_length (by rw [List.length_reverse]; omega)
    rw [h4, List.reverse_reverse] at h
    refine ⟨(dropW_self _ _).1 h, ?_⟩
    have := (dropW_self _ _).1 h4
    rwa [getLast_rev] at this
  · rintro ⟨h1, h2⟩
    rw [(dropW_self _ v.reverse).2 (by rw [getLast_rev]; exact h2), List.reverse_reverse, (dropW_self _ v).2 h1]
theorem lastP_last : ∀ (l : List UInt8) (p : Bool), lastP p l = !((l.getLast?.map (· == 32)).getD p)
  | [], p => by simp [lastP]
  | [c], p => by simp [lastP]
  | c :: d :: l, p => by
    rw [lastP, lastP_last (d :: l), List.getLast?_cons_cons]
    obtain ⟨x, hx⟩ : ∃ x, (d :: l).getLast? = some x := ⟨_, List.getLast?_cons⟩
    rw [hx]
    rfl
def progV (v : List UInt8) : Bool := !Lib.contains v [32, 32] && decide (Lib.trimB v 32 = v) && v.all (fun c => c != 9 && plainC c)
theorem rng_plain (c : UInt8) : (c != 9 && plainC c) = rngC c := by
  unfold plainC rngC
  by_cases h : c = 9
  · subst h; decide
  · rw [show (c == 9) = false by simpa using h, show (c != 9) = true by simpa using h]
    rfl
theorem prog_printable (v : List UInt8) : progV v = printableF v := by
  unfold progV printableF
  rw [contains_dbl, show (fun c => c != 9 && plainC c) = rngC from funext rng_plain]
  cases v with
  | nil => rfl
  | cons c l =>
    rw [prP_parts, lastP_last]
    unfold headP
    have e : decide (Lib.trimB (c :: l) 32 = c :: l) = (!(((c :: l).head?.map (· == 32)).getD false) && !(((c :: l).getLast?.map (· == 32)).getD true)) := by
      obtain ⟨x, hx⟩ : ∃ x, (c :: l).getLast? = some x := ⟨_, List.getLast?_cons⟩
      have h := trim_self (c :: l)
      rw [hx] at h ⊢
      simp only [List.head?_cons, Option.map_some, Option.getD_some] at h ⊢
      rw [Bool.eq_iff_iff, decide_eq_true_eq, h]
      simp
    rw [e]
    simp only [List.isEmpty_cons, Bool.false_or, Bool.true_and]
    cases dblS (c :: l) <;> cases (c :: l).all rngC <;> simp
theorem isSp_rng (c : UInt8) (h : rngC c = true) : Lib.isSp c = (c == 32) := by
  unfold rngC at h
  simp only [Bool.and_eq_true, decide_eq_true_eq] at h
  unfold Lib.isSp
  have n : ∀ k : UInt8, k.toNat < 32 → (c == k) = false := fun k hk => by
    rw [beq_eq_false_iff_ne]
    intro e
    subst e
    omega
  rw [n 9 (by decide), n 10 (by decide), n 11 (by decide), n 12 (by decide), n 13 (by decide)]
  simp
theorem fields_split : ∀ (v cur : List UInt8), prP cur.isEmpty v = true → ∃ a r, splitS v = a :: r ∧ Lib.fieldsGo cur v = (cur ++ a) :: r
  | [], cur, h => by
    cases cur with
    | nil => simp [prP] at h
    | cons x cur => exact ⟨[], [], rfl, by simp [Lib.fieldsGo]⟩
  | c :: l, cur, h => by
    rw [prP] at h
    simp only [Bool.and_eq_true] at h
    have hs := isSp_rng c (by unfold rngC; rw [h.1.1.1, h.1.1.2]; rfl)
    by_cases hc : c = 32
    · subst hc
      have hcur : cur ≠ [] := by
        intro e; subst e
        simp at h
      obtain ⟨a, r, h1, h2⟩ := fields_split l [] (by simpa using h.2)
      refine ⟨[], a :: r, by rw [splitS, if_pos rfl, h1], ?_⟩
      rw [Lib.fieldsGo_end cur 32 l (by rw [hs]; rfl) hcur, h2]
      simp
    · have hb : (c == 32) = false := by simpa using hc
      obtain ⟨a, r, h1, h2⟩ := fields_split l (cur ++ [c]) (by rw [show (cur ++ [c]).isEmpty = (c == 32) from by rw [hb]; cases cur <;> rfl]; exact h.2)
      refine ⟨c :: a, r, by rw [splitS, if_neg hc, h1], ?_⟩
      rw [Lib.fieldsGo_more cur c l (by rw [hs, hb]), h2]
      simp
theorem fields_words (v : List UInt8) (h : printableF v = true) : Lib.fields v = wordsF v := by
  unfold wordsF
  cases v with
  | nil => rfl
  | cons c l =>
    unfold printableF at h
    simp only [List.isEmpty_cons, Bool.false_or] at h
    obtain ⟨a, r, h1, h2⟩ := fields_split (c :: l) [] h
    rw [if_neg (by simp), h1, Lib.fields, h2]
    rfl
def foldG : List UInt8 → Bool → List (List UInt8) → List (List UInt8)
  | line, _, [] => [line]
  | line, first, w :: ws => if (!first && decide (76 < line.length + 1 + w.length)) = true then line :: foldG (32 :: w) false ws else foldG (line ++ 32 :: w) false ws
def longB (ls : List (List UInt8)) : Bool := ls.any fun l => decide (998 < l.length)
def endL (ls : List (List UInt8)) : List UInt8 := ls.flatMap fun l => l ++ [13, 10]
theorem foldG_long : ∀ (ws : List (List UInt8)) (line : List UInt8) (first : Bool), 998 < line.length → longB (foldG line first ws) = true
  | [], line, first, h => by simp [foldG, longB, h]
  | w :: ws, line, first, h => by
    rw [foldG]
    split
    · simp [longB, h]
    · exact foldG_long ws _ _ (by simp; omega)
theorem foldG_print : ∀ (ws : List (List UInt8)) (line : List UInt8) (first : Bool), line.length ≤ 998 →
    (printWs line.length first ws = none ∧ longB (foldG line first ws) = true) ∨ ∃ r, printWs line.length first ws = some r ∧ longB (foldG line first ws) = false ∧ endL (foldG line first ws) = line ++ (r ++ [13, 10])
  | [], line, first, h => Or.inr ⟨[], rfl, by simp [foldG, longB, h], by simp [foldG, endL]⟩
  | w :: ws, line, first, h => by
    rw [foldG, printWs]
    by_cases hf : (!first && decide (76 < line.length + 1 + w.length)) = true
    · simp only [hf, if_true]
      have e : (32 :: w).length = 0 + 1 + w.length := by simp; omega
      by_cases hl : 998 < 0 + 1 + w.length
      · rw [if_pos hl]
        exact Or.inl ⟨rfl, by rw [longB, List.any_cons, show (foldG (32 :: w) false ws).any _ = longB (foldG (32 :: w) false ws) from rfl, foldG_long ws _ false (by rw [e]; exact hl), Bool.or_true]⟩
      · rw [if_neg hl]
        rcases foldG_print ws (32 :: w) false (by omega) with ⟨h1, h2⟩ | ⟨r, h1, h2, h3⟩
        · rw [e] at h1
          exact Or.inl ⟨by rw [h1]; rfl, by rw [longB, List.any_cons, show (foldG (32 :: w) false ws).any _ = longB (foldG (32 :: w) false ws) from rfl, h2, Bool.or_true]⟩
        · rw [e] at h1
          refine Or.inr ⟨_, by rw [h1]; rfl, ?_, ?_⟩
          · rw [longB, List.any_cons, show (foldG (32 :: w) false ws).any _ = longB (foldG (32 :: w) false ws) from rfl, h2, decide_eq_false (by omega)]; rfl
          · rw [endL, List.flatMap_cons, show (foldG (32 :: w) false ws).flatMap _ = endL (foldG (32 :: w) false ws) from rfl, h3]; simp
    · simp only [hf, Bool.false_eq_true, if_false]
      have e : (line ++ 32 :: w).length = line.length + 1 + w.length := by simp; omega
      by_cases hl : 998 < line.length + 1 + w.length
      · rw [if_pos hl]
        exact Or.inl ⟨rfl, foldG_long ws _ false (by rw [e]; exact hl)⟩
      · rw [if_neg hl]
        rcases foldG_print ws (line ++ 32 :: w) false (by omega) with ⟨h1, h2⟩ | ⟨r, h1, h2, h3⟩
        · rw [e] at h1
          exact Or.inl ⟨by rw [h1]; rfl, h2⟩
        · rw [e] at h1
          exact Or.inr ⟨_, by rw [h1]; rfl, h2, by rw [h3]; simp⟩
def linesF (f : List UInt8 × List UInt8) : List (List UInt8) := foldG (f.1 ++ [58]) true (wordsF f.2)
theorem linesF_print (f : List UInt8 × List UInt8) (h : f.1.length ≤ 64) : (printF f = none ∧ longB (linesF f) = true) ∨ (∃ t, printF f = some t ∧ longB (linesF f) = false ∧ endL (linesF f) = t) := by
  unfold printF linesF
  have e : (f.1 ++ [58]).length = f.1.length + 1 := by simp
  rcases foldG_print (wordsF f.2) (f.1 ++ [58]) true (by omega) with ⟨h1, h2⟩ | ⟨r, h1, h2, h3⟩
  · rw [e] at h1
    exact Or.inl ⟨by rw [h1]; rfl, h2⟩
  · rw [e] at h1
    exact Or.inr ⟨_, by rw [h1]; rfl, h2, by rw [h3]; simp⟩
end Wb
namespace Wb
open Go
theorem cut_cons (b : UInt8) (l sub : List UInt8) : Lib.cut (b :: l) sub = if sub.isPrefixOf (b :: l) = true then ([], (b :: l).drop sub.length, true) else if (Lib.cut l sub).2.2 = true then (b :: (Lib.cut l sub).1, (Lib.cut l sub).2.1, true) else (b :: l, [], false) := by
  unfold Lib.cut
  rw [Lib.index]
  have := Lib.index_ge l sub
  cases h : sub.isPrefixOf (b :: l)
  · rw [if_neg (show ¬ (false = true) by simp), if_neg (show ¬ (false = true) by simp)]
    by_cases hm : Lib.index l sub = -1
    · rw [hm]; rfl
    · have hix : (if (Lib.index l sub == -1) = true then (-1 : Int) else Lib.index l sub + 1) = Lib.index l sub + 1 := if_neg (by simpa using hm)
      rw [hix, if_pos (show 0 ≤ Lib.index l sub + 1 by omega), if_pos (show 0 ≤ Lib.index l sub by omega)]
      obtain ⟨k, hk⟩ : ∃ k : Nat, Lib.index l sub = k := ⟨(Lib.index l sub).toNat, by omega⟩
      rw [hk]
      simp only [if_true]
      rw [show ((k : Int) + 1).toNat = k + 1 by omega, show ((k : Int)).toNat = k by omega, List.take_succ_cons, show k + 1 + sub.length = (k + sub.length) + 1 by omega, List.drop_succ_cons]
  · simp
theorem cut_line : ∀ s : List UInt8, Lib.cut s [13, 10] = match lineC s with
    | some (a, b) => (a, b, true)
    | none => (s, [], false)
  | [] => rfl
  | c :: l => by
    cases l with
    | nil => rw [cut_cons]; simp [lineC, List.isPrefixOf, Lib.cut, Lib.index]
    | cons d l2 =>
      have e : lineC (c :: d :: l2) = if c = 13 ∧ d = 10 then some ([], l2) else match lineC (d :: l2) with
          | some (a, b) => some (c :: a, b)
          | none => none := by rw [lineC.eq_def]; rfl
      rw [cut_cons, cut_line (d :: l2), e]
      simp only [List.isPrefixOf, Bool.and_true]
      by_cases hc : c = 13 ∧ d = 10
      · obtain ⟨rfl, rfl⟩ := hc
        simp
      · rw [if_neg hc, if_neg (by simp only [Bool.and_eq_true, beq_iff_eq]; exact fun e => hc ⟨e.1.symm, e.2.symm⟩)]
        cases lineC (d :: l2) with
        | none => rfl
        | some p => rfl
theorem cut_colon : ∀ s : List UInt8, Lib.cut s [58] = if (s.takeWhile (fun c => c != 58)).length = s.length then (s, [], false) else (s.takeWhile (fun c => c != 58), s.drop ((s.takeWhile (fun c => c != 58)).length + 1), true)
  | [] => rfl
  | c :: l => by
    rw [cut_cons, cut_colon l]
    by_cases hc : c = 58
    · subst hc
      rw [if_pos (by simp [List.isPrefixOf]), if_neg (by simp)]
      simp
    · have hb : (c != 58) = true := by simpa using hc
      rw [if_neg (by simp [List.isPrefixOf]; exact fun e => hc e.symm), List.takeWhile_cons, if_pos hb]
      by_cases hl : (l.takeWhile (fun c => c != 58)).length = l.length
      · simp only [List.length_cons, hl, if_true, Bool.false_eq_true, if_false]
      · simp only [List.length_cons, Nat.add_right_cancel_iff, hl, if_true, if_false, List.drop_succ_cons]
def headB (s : List UInt8) : Bool := (s.head?.map blankB).getD false
theorem skip_self (s : List UInt8) : s.dropWhile blankB = s ↔ headB s = false := dropW_self blankB s
def cutL : Nat → List UInt8 → Option (List (List UInt8) × List UInt8)
  | 0, _ => none
  | f + 1, s => match lineC s with
    | none => none
    | some (a, r) => if headB r = true then match cutL f r with
        | some (ls, r2) => some (a :: ls, r2)
        | none => none
      else some ([a], r)
theorem cutL_log : ∀ (f : Nat) (s : List UInt8), logL f s = match cutL f s with
    | some (ls, r) => some (ls.flatten, longB ls, r)
    | none => none
  | 0, _ => rfl
  | f + 1, s => by
    rw [logL, cutL]
    cases lineC s with
    | none => rfl
    | some p =>
      obtain ⟨a, r⟩ := p
      simp only
      unfold headB
      by_cases h : (r.head?.map blankB).getD false = true
      · rw [if_pos h, if_pos h, cutL_log f r]
        cases cutL f r with
        | none => rfl
        | some q => simp [longB]
      · rw [if_neg h, if_neg h]
        simp [longB]
theorem lineC_len : ∀ (s a r : List UInt8), lineC s = some (a, r) → a.length + 2 + r.length = s.length
  | [], a, r, h => by simp [lineC] at h
  | c :: l, a, r, h => by
    unfold lineC at h
    cases l with
    | nil => simp at h
    | cons d l2 =>
      simp only at h
      by_cases hc : c = 13 ∧ d = 10
      · rw [if_pos hc] at h
        simp only [Option.some.injEq, Prod.mk.injEq] at h
        rw [← h.1, ← h.2]
        simp
        omega
      · rw [if_neg hc] at h
        cases hl : lineC (d :: l2) with
        | none => rw [hl] at h; cases h
        | some p =>
          obtain ⟨x, y⟩ := p
          rw [hl] at h
          simp only [Option.some.injEq, Prod.mk.injEq] at h
          have := lineC_len (d :: l2) x y hl
          rw [← h.1, ← h.2]
          simp only [List.length_cons] at this ⊢
          omega
theorem cutL_len : ∀ (f : Nat) (s : List UInt8) (ls : List (List UInt8)) (r : List UInt8), cutL f s = some (ls, r) → (ls.map List.length).sum + 2 * ls.length + r.length = s.length
  | 0, _, _, _, h => by cases h
  | f + 1, s, ls, r, h => by
    rw [cutL] at h
    cases hl : lineC s with
    | none => rw [hl] at h; cases h
    | some p =>
      obtain ⟨a, q⟩ := p
      rw [hl] at h
      have h1 := lineC_len s a q hl
      simp only at h
      split at h
      · cases hc : cutL f q with
        | none => rw [hc] at h; cases h
        | some z =>
          obtain ⟨ls2, r2⟩ := z
          rw [hc] at h
          simp only [Option.some.injEq, Prod.mk.injEq] at h
          have := cutL_len f q ls2 r2 hc
          rw [← h.1, ← h.2]
          simp only [List.map_cons, List.sum_cons, List.length_cons]
          omega
      · simp only [Option.some.injEq, Prod.mk.injEq] at h
        rw [← h.1, ← h.2]
        simp
        omega
theorem cutL_ne : ∀ (f : Nat) (s : List UInt8) (ls : List (List UInt8)) (r : List UInt8), cutL f s = some (ls, r) → ls ≠ []
  | 0, _, _, _, h => by cases h
  | f + 1, s, ls, r, h => by
    rw [cutL] at h
    split at h
    · cases h
    · split at h
      · split at h
        · simp only [Option.some.injEq, Prod.mk.injEq] at h; rw [← h.1]; simp
        · cases h
      · simp only [Option.some.injEq, Prod.mk.injEq] at h; rw [← h.1]; simp
theorem cutL_step (f : Nat) (s a r : List UInt8) (hl : lineC s = some (a, r)) (hf : s.length < f) : ∃ g, r.length < g ∧ cutL f s = if headB r = true then (cutL g r).map (fun p => (a :: p.1, p.2)) else some ([a], r) := by
  obtain ⟨g, rfl⟩ : ∃ g, f = g + 1 := ⟨f - 1, by omega⟩
  have := lineC_len s a r hl
  refine ⟨g, by omega, ?_⟩
  rw [cutL, hl]
  simp only
  cases cutL g r <;> rfl
theorem cutL_stop (f : Nat) (s : List UInt8) (hl : lineC s = none) : cutL f s = none := by
  cases f with
  | zero => rfl
  | succ f => rw [cutL, hl]
def parsedF (line : List UInt8) : Except Int (List UInt8 × List UInt8) :=
  let nm := line.takeWhile (fun c => c != 58)
  if headB line = true ∨ nm.length = line.length then .error 4 else if namedF nm = false then .error 12 else
    if plainF (line.drop (nm.length + 1)) = false then .error 4 else .ok (nm, trimF (line.drop (nm.length + 1)))
theorem parseL_way (f k : Nat) (s : List UInt8) : parseL (f + 1) k s = if s.take 2 = [13, 10] then .ok ([], s.drop 2) else match cutL (s.length + 1) s with
    | none => .error 2
    | some (ls, rest) => if k = 8 ∨ longB ls = true then .error 3 else match parsedF ls.flatten with
      | .error e => .error e
      | .ok x => match parseL f (k + 1) rest with
        | .ok (l, r) => .ok (x :: l, r)
        | .error e => .error e := by
  rw [parseL, cutL_log]
  split
  · rfl
  · cases cutL (s.length + 1) s with
    | none => rfl
    | some p =>
      obtain ⟨ls, rest⟩ := p
      simp only
      split
      · rfl
      · unfold parsedF headB
        simp only
        split
        · rfl
        · split
          · rfl
          · split
            · rfl
            · rfl
theorem trim_way (p : UInt8 → Bool) : ∀ l : List UInt8, (l.reverse.dropWhile p).reverse.dropWhile p = ((l.dropWhile p).reverse.dropWhile p).reverse
  | [] => rfl
  | c :: t => by
    have ih := trim_way p t
    rw [List.reverse_cons, List.dropWhile_append]
    cases hc : p c
    · have e : (if (t.reverse.dropWhile p).isEmpty = true then [c].dropWhile p else t.reverse.dropWhile p ++ [c]) = t.reverse.dropWhile p ++ [c] := by
        split
        · rename_i h
          rw [List.isEmpty_iff.1 h, List.dropWhile_cons, if_neg (by rw [hc]; simp)]
          rfl
        · rfl
      rw [e, List.reverse_append, List.reverse_cons, List.reverse_nil, List.nil_append, List.cons_append, List.nil_append, List.dropWhile_cons, if_neg (by rw [hc]; simp), List.dropWhile_cons, if_neg (by rw [hc]; simp), List.reverse_cons, List.dropWhile_append, e]
      simp
    · rw [show (c :: t).dropWhile p = t.dropWhile p by rw [List.dropWhile_cons, if_pos hc], ← ih]
      split
      · rename_i h
        rw [List.isEmpty_iff.1 h, List.dropWhile_cons, if_pos hc]
        rfl
      · rw [List.reverse_append, List.reverse_cons, List.reverse_nil, List.nil_append, List.cons_append, List.nil_append, List.dropWhile_cons, if_pos hc]
theorem trimS_trimF (l : List UInt8) : Lib.trimS l [32, 9] = trimF l := by
  have e : (fun c : UInt8 => ([32, 9] : List UInt8).contains c) = blankB := by
    funext c
    unfold blankB
    rw [List.contains_eq_any_beq]
    simp only [List.any_cons, List.any_nil, Bool.or_false]
  unfold Lib.trimS Lib.trimLeftS Lib.trimRightS trimF
  rw [e]
  exact trim_way blankB l
theorem trimF_sub (l : List UInt8) : (trimF l).length ≤ l.length := by
  unfold trimF
  have h1 := (List.dropWhile_suffix blankB (l := l)).length_le
  have h2 := (List.dropWhile_suffix blankB (l := (l.dropWhile blankB).reverse)).length_le
  simp only [List.length_reverse] at h1 h2 ⊢
  omega
end Wb
namespace Wb
open Go
theorem ret_b {a b : Bool} (h : a = b) : Ending.returned (.bool a) = Ending.returned (.bool b) := by rw [h]
end Wb
