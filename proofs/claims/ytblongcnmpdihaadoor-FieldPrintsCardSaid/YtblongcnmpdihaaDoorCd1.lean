/- FdP FdQ FdR FdT FdU FdV. -/
import Derived.Lib.IndexMore
import Derived.Lib.Fields
import Derived.Lib.TrimByte
import Derived.Lib.SlTrimSet
namespace Wb
def blankB (c : UInt8) : Bool := c == 32 || c == 9
def nameC (c : UInt8) : Bool := decide (33 ≤ c.toNat) && decide (c.toNat ≤ 126) && c != 58
def namedF (s : List UInt8) : Bool := s.all nameC && decide (1 ≤ s.length) && decide (s.length ≤ 64)
def plainC (c : UInt8) : Bool := c == 9 || (decide (32 ≤ c.toNat) && decide (c.toNat ≤ 126))
def plainF (s : List UInt8) : Bool := s.all plainC
def prP (p : Bool) : List UInt8 → Bool
  | [] => !p
  | c :: l => decide (32 ≤ c.toNat) && decide (c.toNat ≤ 126) && (c != 32 || !p) && prP (c == 32) l
def printableF (s : List UInt8) : Bool := s.isEmpty || prP true s
def splitS : List UInt8 → List (List UInt8)
  | [] => [[]]
  | c :: l => if c = 32 then [] :: splitS l else match splitS l with
    | w :: ws => (c :: w) :: ws
    | [] => [[c]]
def wordsF (v : List UInt8) : List (List UInt8) := if v.isEmpty then [] else splitS v
def printWs : Nat → Bool → List (List UInt8) → Option (List UInt8)
  | _, _, [] => some []
  | line, first, w :: ws =>
    let fold := !first && decide (76 < line + 1 + w.length)
    let line2 := (if fold then 0 else line) + 1 + w.length
    if 998 < line2 then none else (printWs line2 false ws).map fun r => (if fold then [13, 10] else []) ++ 32 :: (w ++ r)
def printF (f : List UInt8 × List UInt8) : Option (List UInt8) := (printWs (f.1.length + 1) true (wordsF f.2)).map fun r => f.1 ++ 58 :: (r ++ [13, 10])
def printFs : List (List UInt8 × List UInt8) → Except Int (List UInt8)
  | [] => .ok [13, 10]
  | f :: l => if namedF f.1 = false then .error 12 else if printableF f.2 = false then .error 4 else match printF f with
    | none => .error 3
    | some t => match printFs l with
      | .ok s => .ok (t ++ s)
      | .error e => .error e
def lineC : List UInt8 → Option (List UInt8 × List UInt8)
  | [] => none
  | c :: l => match l with
    | [] => none
    | d :: l2 => if c = 13 ∧ d = 10 then some ([], l2) else match lineC l with
      | some (a, b) => some (c :: a, b)
      | none => none
def logL : Nat → List UInt8 → Option (List UInt8 × Bool × List UInt8)
  | 0, _ => none
  | f + 1, s => match lineC s with
    | none => none
    | some (a, r) => if (r.head?.map blankB).getD false = true then match logL f r with
        | some (b, lg, r2) => some (a ++ b, decide (998 < a.length) || lg, r2)
        | none => none
      else some (a, decide (998 < a.length), r)
def trimF (s : List UInt8) : List UInt8 := ((s.dropWhile blankB).reverse.dropWhile blankB).reverse
def parseL : Nat → Nat → List UInt8 → Except Int (List (List UInt8 × List UInt8) × List UInt8)
  | 0, _, _ => .error 0
  | f + 1, k, s => if s.take 2 = [13, 10] then .ok ([], s.drop 2) else match logL (s.length + 1) s with
    | none => .error 2
    | some (line, long, rest) => if k = 8 ∨ long = true then .error 3 else
      let nm := line.takeWhile (fun c => c != 58)
      if (line.head?.map blankB).getD false = true ∨ nm.length = line.length then .error 4 else if namedF nm = false then .error 12 else
      if plainF (line.drop (nm.length + 1)) = false then .error 4 else match parseL f (k + 1) rest with
        | .ok (l, r) => .ok ((nm, trimF (line.drop (nm.length + 1))) :: l, r)
        | .error e => .error e
def flatW : List (List UInt8) → List UInt8
  | [] => []
  | w :: ws => 32 :: (w ++ flatW ws)
end Wb
namespace Wb
def foldW : List (Bool × List UInt8) → List UInt8
  | [] => []
  | (b, w) :: l => (if b then [13, 10] else []) ++ 32 :: (w ++ foldW l)
def fitW : Nat → List (Bool × List UInt8) → Prop
  | n, [] => n ≤ 998
  | n, (b, w) :: l => if b then n ≤ 998 ∧ fitW (1 + w.length) l else fitW (n + 1 + w.length) l
theorem print_fold : ∀ (ws : List (List UInt8)) (n : Nat) (first : Bool) (r : List UInt8), printWs n first ws = some r → n ≤ 998 →
    ∃ l : List (Bool × List UInt8), l.map Prod.snd = ws ∧ r = foldW l ∧ fitW n l ∧ (first = true → (l.head?.map Prod.fst).getD false = false)
  | [], n, first, r, h, hn => by
    simp only [printWs, Option.some.injEq] at h
    exact ⟨[], rfl, by simp [foldW, ← h], hn, fun _ => rfl⟩
  | w :: ws, n, first, r, h, hn => by
    by_cases hfo : (!first && decide (76 < n + 1 + w.length)) = true
    · unfold printWs at h
      simp only [hfo, if_true] at h
      split at h
      · cases h
      rename_i hlong
      obtain ⟨r2, h1, h2⟩ := Option.map_eq_some_iff.1 h
      obtain ⟨l, a, b, c, _⟩ := print_fold ws _ _ _ h1 (by omega)
      refine ⟨(true, w) :: l, by simp [a], by simp [foldW, ← h2, b], ?_, ?_⟩
      · rw [fitW, if_pos rfl]
        refine ⟨hn, ?_⟩
        rwa [Nat.zero_add] at c
      · intro hf; subst hf; simp at hfo
    · have hfo : (!first && decide (76 < n + 1 + w.length)) = false := by simpa using hfo
      unfold printWs at h
      simp only [hfo, Bool.false_eq_true, if_false] at h
      split at h
      · cases h
      rename_i hlong
      obtain ⟨r2, h1, h2⟩ := Option.map_eq_some_iff.1 h
      obtain ⟨l, a, b, c, _⟩ := print_fold ws _ _ _ h1 (by omega)
      refine ⟨(false, w) :: l, by simp [a], by simp [foldW, ← h2, b], ?_, fun _ => rfl⟩
      rw [fitW, if_neg (by simp)]
      exact c
end Wb
namespace Wb
theorem splitS_ne : ∀ v : List UInt8, splitS v ≠ []
  | [] => by simp [splitS]
  | c :: l => by
    unfold splitS
    split
    · simp
    · cases h : splitS l <;> simp
theorem flat_split : ∀ v : List UInt8, flatW (splitS v) = 32 :: v
  | [] => rfl
  | c :: l => by
    have ih := flat_split l
    unfold splitS
    split
    · rename_i h; subst h
      rw [flatW, ih]; rfl
    · cases h : splitS l with
      | nil => exact absurd h (splitS_ne l)
      | cons w ws =>
        rw [h, flatW] at ih
        simp only [flatW, List.cons_append]
        simp only [List.cons.injEq, true_and] at ih
        rw [ih]
theorem flat_words (v : List UInt8) : flatW (wordsF v) = if v.isEmpty then [] else 32 :: v := by
  unfold wordsF
  split
  · rfl
  · exact flat_split v
theorem flat_mem : ∀ (ws : List (List UInt8)) (w : List UInt8), w ∈ ws → ∀ c ∈ w, c ∈ flatW ws
  | [], _, h, _, _ => by simp at h
  | x :: ws, w, h, c, hc => by
    rw [flatW]
    rcases List.mem_cons.1 h with rfl | h
    · simp [hc]
    · have := flat_mem ws w h c hc
      simp [this]
theorem prP_plain : ∀ (v : List UInt8) (p : Bool), prP p v = true → ∀ c ∈ v, 32 ≤ c.toNat ∧ c.toNat ≤ 126
  | [], _, _, _, h => by simp at h
  | c :: l, p, h, x, hx => by
    unfold prP at h
    simp only [Bool.and_eq_true, decide_eq_true_eq] at h
    rcases List.mem_cons.1 hx with rfl | hx
    · exact ⟨h.1.1.1, h.1.1.2⟩
    · exact prP_plain l _ h.2 x hx
theorem prP_head (c : UInt8) (l : List UInt8) (h : prP true (c :: l) = true) : blankB c = false := by
  unfold prP at h
  simp only [Bool.and_eq_true, decide_eq_true_eq, Bool.not_true, Bool.or_false] at h
  have h1 := h.1.1.1
  have h2 := h.1.2
  unfold blankB
  have h9 : (c == 9) = false := by
    apply Bool.eq_false_iff.2
    intro e
    have : c = 9 := by simpa using e
    subst this
    exact absurd h1 (by decide)
  have h3 : (c == 32) = false := by simpa using h2
  rw [h9, h3]; rfl
theorem words_range (v : List UInt8) (h : printableF v = true) : ∀ c ∈ flatW (wordsF v), 32 ≤ c.toNat ∧ c.toNat ≤ 126 := by
  rw [flat_words]
  cases v with
  | nil => intro c hc; simp at hc
  | cons c l =>
    have hp : prP true (c :: l) = true := by simpa [printableF] using h
    rw [if_neg (by simp)]
    intro x hx
    rcases List.mem_cons.1 hx with rfl | hx
    · decide
    · exact prP_plain _ _ hp x hx
theorem range_no13 (c : UInt8) (h : 32 ≤ c.toNat) : c ≠ 13 := fun e => by subst e; exact absurd h (by decide)
theorem named_facts (nm : List UInt8) (h : namedF nm = true) : nm ≠ [] ∧ nm.length ≤ 64 ∧ ∀ c ∈ nm, 33 ≤ c.toNat ∧ c.toNat ≤ 126 ∧ c ≠ 58 := by
  unfold namedF at h
  simp only [Bool.and_eq_true, decide_eq_true_eq, List.all_eq_true] at h
  refine ⟨fun e => by rw [e] at h; simp at h, h.2, fun c hc => ?_⟩
  have := h.1.1 c hc
  unfold nameC at this
  simp only [Bool.and_eq_true, decide_eq_true_eq, bne_iff_ne, ne_eq] at this
  exact ⟨this.1.1, this.1.2, this.2⟩
theorem fname_blank (c : UInt8) (h : 33 ≤ c.toNat) : blankB c = false := by
  unfold blankB
  have h9 : (c == 9) = false := by
    apply Bool.eq_false_iff.2
    intro e
    have : c = 9 := by simpa using e
    subst this
    exact absurd h (by decide)
  have h3 : (c == 32) = false := by
    apply Bool.eq_false_iff.2
    intro e
    have : c = 32 := by simpa using e
    subst this
    exact absurd h (by decide)
  rw [h9, h3]; rfl
theorem print_one (nm v t : List UInt8) (h : printF (nm, v) = some t) (hn : namedF nm = true) (hv : printableF v = true) :
    ∃ l : List (Bool × List UInt8), l.map Prod.snd = wordsF v ∧ t = (nm ++ [58]) ++ (foldW l ++ [13, 10]) ∧ fitW (nm ++ [58]).length l ∧ (∀ p ∈ l, ∀ c ∈ p.2, c ≠ 13) ∧ (∀ c ∈ nm ++ [58], c ≠ 13) := by
  obtain ⟨hne, h64, hc⟩ := named_facts nm hn
  unfold printF at h
  obtain ⟨r, h1, h2⟩ := Option.map_eq_some_iff.1 h
  obtain ⟨l, a, b, c, _⟩ := print_fold _ _ _ _ h1 (by simp; omega)
  refine ⟨l, a, by rw [← h2, b]; simp, by simpa using c, fun p hp x hx => ?_, fun x hx => ?_⟩
  · have := words_range v hv x (flat_mem _ p.2 (by rw [← a]; exact List.mem_map_of_mem hp) x hx)
    exact range_no13 x this.1
  · rcases List.mem_append.1 hx with hx | hx
    · exact range_no13 x (by have := (hc x hx).1; omega)
    · simp at hx; subst hx; decide
theorem parse_empty (f k : Nat) (h : 0 < f) : parseL f k [] = .error 2 := by
  obtain ⟨f, rfl⟩ : ∃ g, f = g + 1 := ⟨f - 1, by omega⟩
  rfl
end Wb
namespace Wb
def tkC (c : UInt8) : Bool := decide (33 ≤ c.toNat) && decide (c.toNat ≤ 126) && !([40, 41, 60, 62, 64, 44, 59, 58, 92, 34, 47, 91, 93, 63, 61] : List UInt8).contains c
def tokenF (s : List UInt8) : Bool := s.all tkC && !s.isEmpty
def lowC (c : UInt8) : UInt8 := if 65 ≤ c.toNat ∧ c.toNat ≤ 90 then c + 32 else c
def lowF (s : List UInt8) : List UInt8 := s.map lowC
def getF : List (List UInt8 × List UInt8) → List UInt8 → Option (List UInt8)
  | [], _ => none
  | f :: l, n => if lowF f.1 = lowF n then some f.2 else getF l n
def typeF (s : List UInt8) : Bool :=
  let a := s.takeWhile (fun c => c != 47)
  decide (a.length < s.length) && tokenF a && tokenF (s.drop (a.length + 1))
def quotedF : List UInt8 → Option (List UInt8 × List UInt8)
  | [] => none
  | c :: l => if c = 34 then some ([], l) else if c = 92 then match l with
      | [] => none
      | d :: l2 => if d = 34 ∨ d = 92 then match quotedF l2 with
          | some (v, r) => some (d :: v, r)
          | none => none
        else none
    else if plainC c = true then match quotedF l with
      | some (v, r) => some (c :: v, r)
      | none => none
    else none
def valueF : List UInt8 → Option (List UInt8 × List UInt8)
  | [] => none
  | c :: l => if c = 34 then quotedF l else if tkC c = true then some ((c :: l).takeWhile tkC, (c :: l).dropWhile tkC) else none
def hasF (out : List (List UInt8 × List UInt8)) (n : List UInt8) : Bool := out.any fun p => decide (lowF p.1 = lowF n)
def paramsF : Nat → List (List UInt8 × List UInt8) → List UInt8 → Except Int (List (List UInt8 × List UInt8))
  | 0, _, _ => .error 0
  | f + 1, out, s => match s.dropWhile blankB with
    | [] => .ok out
    | c :: r => if c ≠ 59 then .error 4 else
      let a := r.dropWhile blankB
      let nm := a.takeWhile tkC
      if nm = [] then .error 4 else match (a.dropWhile tkC).dropWhile blankB with
        | [] => .error 4
        | d :: r2 => if d ≠ 61 then .error 4 else match valueF (r2.dropWhile blankB) with
          | none => .error 4
          | some (v, r3) => if hasF out nm = true then .error 4 else paramsF f (out ++ [(lowF nm, v)]) r3
def headT (s : List UInt8) : List UInt8 × List UInt8 :=
  let a := s.dropWhile blankB
  match a.dropWhile tkC with
  | [] => (a.takeWhile tkC, [])
  | c :: r => if c = 47 then (a.takeWhile tkC ++ 47 :: r.takeWhile tkC, r.dropWhile tkC) else (a.takeWhile tkC, c :: r)
def parseT (s : List UInt8) : Except Int (List UInt8 × List (List UInt8 × List UInt8)) :=
  if typeF (headT s).1 = false then .error 31 else match paramsF (s.length + 1) [] (headT s).2 with
    | .ok l => .ok (lowF (headT s).1, l)
    | .error e => .error e
theorem quoted_end (R : List UInt8) : quotedF (34 :: R) = some ([], R) := by
  rw [quotedF.eq_def]
  simp
end Wb
namespace Wb
theorem low_low (c : UInt8) : lowC (lowC c) = lowC c := by
  unfold lowC
  by_cases h : 65 ≤ c.toNat ∧ c.toNat ≤ 90
  · have e : (c + 32).toNat = c.toNat + 32 := by rw [UInt8.toNat_add]; show (c.toNat + 32) % 256 = _; omega
    rw [if_pos h, if_neg (by omega)]
  · rw [if_neg h, if_neg h]
theorem lowF_low (s : List UInt8) : lowF (lowF s) = lowF s := by
  unfold lowF
  rw [List.map_map]
  exact List.map_congr_left fun c _ => low_low c
theorem lowF_len (s : List UInt8) : (lowF s).length = s.length := List.length_map ..
theorem split_len : ∀ v : List UInt8, (splitS v).length ≤ v.length + 1
  | [] => Nat.le_refl _
  | c :: l => by
    have ih := split_len l
    unfold splitS
    split
    · simp only [List.length_cons]; omega
    · cases h : splitS l with
      | nil => simp
      | cons w ws => rw [h] at ih; simp only [List.length_cons] at ih ⊢; omega
theorem fold_size : ∀ l : List (Bool × List UInt8), (foldW l).length ≤ (flatW (l.map Prod.snd)).length + 2 * l.length
  | [] => Nat.le_refl _
  | (b, w) :: l => by
    have ih := fold_size l
    rw [foldW, List.map_cons, flatW]
    cases b <;> simp only [List.length_cons, List.length_append, List.length_nil, if_true, Bool.false_eq_true, if_false] <;> omega
theorem print_size (nm v t : List UInt8) (h : printF (nm, v) = some t) (hn : namedF nm = true) (hv : printableF v = true) : t.length ≤ nm.length + 3 * v.length + 6 := by
  obtain ⟨l, a, b, _⟩ := print_one nm v t h hn hv
  have h1 := fold_size l
  have h2 : l.length ≤ v.length + 1 := by
    have : (l.map Prod.snd).length = l.length := List.length_map ..
    rw [← this, a]
    unfold wordsF
    split
    · simp
    · exact split_len v
  have h3 : (flatW (wordsF v)).length ≤ v.length + 1 := by rw [flat_words]; split <;> simp
  rw [a] at h1
  rw [b]
  simp only [List.length_append, List.length_cons, List.length_nil]
  omega
end Wb
namespace Wb
open Go
theorem lib_contains_cons (b : UInt8) (l sub : List UInt8) : Lib.contains (b :: l) sub = (sub.isPrefixOf (b :: l) || Lib.contains l sub) := by
  unfold Lib.contains
  rw [Lib.index]
  have := Lib.index_ge l sub
  cases h : sub.isPrefixOf (b :: l)
  · rw [Bool.false_or, if_neg (by simp)]
    by_cases hm : Lib.index l sub = -1
    · rw [hm]; rfl
    · rw [if_neg (by simpa using hm)]
      rw [decide_eq_true (show 0 ≤ Lib.index l sub + 1 by omega), decide_eq_true (show 0 ≤ Lib.index l sub by omega)]
  · simp
def dblS : List UInt8 → Bool
  | [] => false
  | a :: l => (a == 32 && (l.head?.map (· == 32)).getD false) || dblS l
theorem contains_dbl : ∀ v : List UInt8, Lib.contains v [32, 32] = dblS v
  | [] => rfl
  | a :: l => by
    rw [lib_contains_cons, contains_dbl l, dblS]
    congr 1
    cases l with
    | nil => simp [List.isPrefixOf]
    | cons b l =>
      simp only [List.isPrefixOf, List.head?_cons, Option.map_some, Option.getD_some, Bool.and_true]
      rw [show ((32 : UInt8) == a) = (a == 32) from Bool.beq_comm, show ((32 : UInt8) == b) = (b == 32) from Bool.beq_comm]
def rngC (c : UInt8) : Bool := decide (32 ≤ c.toNat) && decide (c.toNat ≤ 126)
def headP (p : Bool) (v : List UInt8) : Bool := !(p && (v.head?.map (· == 32)).getD false)
def lastP : Bool → List UInt8 → Bool
  | p, [] => !p
  | _, c :: l => lastP (c == 32) l
theorem prP_parts : ∀ (v : List UInt8) (p : Bool), prP p v = (v.all rngC && !dblS v && headP p v && lastP p v)
  | [], p => by simp [prP, dblS, headP, lastP]
  | c :: l, p => by
    rw [prP, prP_parts l, List.all_cons, dblS, lastP]
    unfold headP rngC
    simp only [List.head?_cons, Option.map_some, Option.getD_some, bne]
    cases (decide (32 ≤ c.toNat)) <;> cases (decide (c.toNat ≤ 126)) <;> cases (c == 32) <;> cases p <;> cases (dblS l) <;> cases (l.all fun c => decide (32 ≤ c.toNat) && decide (c.toNat ≤ 126)) <;> cases ((l.head?.map (· == 32)).getD false) <;> simp
theorem dropW_self (p : UInt8 → Bool) (l : List UInt8) : l.dropWhile p = l ↔ (l.head?.map p).getD false = false := by
  cases l with
  | nil => simp
  | cons c l =>
    rw [List.dropWhile_cons]
    cases h : p c
    · simp [h]
    · simp only [if_true, List.head?_cons, Option.map_some, h, Option.getD_some, Bool.true_eq_false, iff_false]
      intro e
      have := (List.dropWhile_suffix p (l := l)).length_le
      rw [e, List.length_cons] at this
      omega
theorem getLast_rev (l : List UInt8) : l.reverse.head? = l.getLast? := by rw [List.head?_reverse]
theorem trim_self (v : List UInt8) : Lib.trimB v 32 = v ↔ (v.head?.map (· == 32)).getD false = false ∧ (v.getLast?.map (· == 32)).getD false = false := by
  unfold Lib.trimB Lib.trimLeftB Lib.trimRightB
  constructor
  · intro h
    have h1 := (List.dropWhile_suffix (· == (32 : UInt8)) (l := (v.reverse.dropWhile (· == 32)).reverse)).length_le
    rw [h, List.length_reverse] at h1
    have h2 := List.dropWhile_suffix (· == (32 : UInt8)) (l := v.reverse)
    have h3 := h2.length_le
    rw [List.length_reverse] at h3
    have h4 : v.reverse.dropWhile (· == 32) = v.reverse := h2.eq_of_length (by rw [List.length_reverse]; omega)
    rw [h4, List.reverse_reverse] at h
    refine ⟨(dropW_self _ _).1 h, ?_⟩
    have := (dropW_self _ _).1 h4
    rwa [getLast_rev] at this
  · rintro ⟨h1, h2⟩
    rw [(dropW_self _ v.reverse).2 (by rw [getLast_rev]; exact h2), List.reverse_reverse, (dropW_self _ v).2 h1]
theorem lastP_last : ∀ (l : List UInt8) (p : Bool), lastP p l = !((l.getLast?.map (· == 32)).getD p)
  | [], p => by simp [lastP]
  | [c], p => by simp [lastP]
  | c :: d :: l, p => by
    rw [lastP, lastP_last (d :: l), List.getLast?_cons_cons]
    obtain ⟨x, hx⟩ : ∃ x, (d :: l).getLast? = some x := ⟨_, List.getLast?_cons⟩
    rw [hx]
    rfl
def progV (v : List UInt8) : Bool := !Lib.contains v [32, 32] && decide (Lib.trimB v 32 = v) && v.all (fun c => c != 9 && plainC c)
theorem rng_plain (c : UInt8) : (c != 9 && plainC c) = rngC c := by
  unfold plainC rngC
  by_cases h : c = 9
  · subst h; decide
  · rw [show (c == 9) = false by simpa using h, show (c != 9) = true by simpa using h]
    rfl
theorem prog_printable (v : List UInt8) : progV v = printableF v := by
  unfold progV printableF
  rw [contains_dbl, show (fun c => c != 9 && plainC c) = rngC from funext rng_plain]
  cases v with
  | nil => rfl
  | cons c l =>
    rw [prP_parts, lastP_last]
    unfold headP
    have e : decide (Lib.trimB (c :: l) 32 = c :: l) = (!(((c :: l).head?.map (· == 32)).getD false) && !(((c :: l).getLast?.map (· == 32)).getD true)) := by
      obtain ⟨x, hx⟩ : ∃ x, (c :: l).getLast? = some x := ⟨_, List.getLast?_cons⟩
      have h := trim_self (c :: l)
      rw [hx] at h ⊢
      simp only [List.head?_cons, Option.map_some, Option.getD_some] at h ⊢
      rw [Bool.eq_iff_iff, decide_eq_true_eq, h]
      simp
    rw [e]
    simp only [List.isEmpty_cons, Bool.false_or, Bool.true_and]
    cases dblS (c :: l) <;> cases (c :: l).all rngC <;> simp
theorem isSp_rng (c : UInt8) (h : rngC c = true) : Lib.isSp c = (c == 32) := by
  unfold rngC at h
  simp only [Bool.and_eq_true, decide_eq_true_eq] at h
  unfold Lib.isSp
  have n : ∀ k : UInt8, k.toNat < 32 → (c == k) = false := fun k hk => by
    rw [beq_eq_false_iff_ne]
    intro e
    subst e
    omega
  rw [n 9 (by decide), n 10 (by decide), n 11 (by decide), n 12 (by decide), n 13 (by decide)]
  simp
theorem fields_split : ∀ (v cur : List UInt8), prP cur.isEmpty v = true → ∃ a r, splitS v = a :: r ∧ Lib.fieldsGo cur v = (cur ++ a) :: r
  | [], cur, h => by
    cases cur with
    | nil => simp [prP] at h
    | cons x cur => exact ⟨[], [], rfl, by simp [Lib.fieldsGo]⟩
  | c :: l, cur, h => by
    rw [prP] at h
    simp only [Bool.and_eq_true] at h
    have hs := isSp_rng c (by unfold rngC; rw [h.1.1.1, h.1.1.2]; rfl)
    by_cases hc : c = 32
    · subst hc
      have hcur : cur ≠ [] := by
        intro e; subst e
        simp at h
      obtain ⟨a, r, h1, h2⟩ := fields_split l [] (by simpa using h.2)
      refine ⟨[], a :: r, by rw [splitS, if_pos rfl, h1], ?_⟩
      rw [Lib.fieldsGo_end cur 32 l (by rw [hs]; rfl) hcur, h2]
      simp
    · have hb : (c == 32) = false := by simpa using hc
      obtain ⟨a, r, h1, h2⟩ := fields_split l (cur ++ [c]) (by rw [show (cur ++ [c]).isEmpty = (c == 32) from by rw [hb]; cases cur <;> rfl]; exact h.2)
      refine ⟨c :: a, r, by rw [splitS, if_neg hc, h1], ?_⟩
      rw [Lib.fieldsGo_more cur c l (by rw [hs, hb]), h2]
      simp
theorem fields_words (v : List UInt8) (h : printableF v = true) : Lib.fields v = wordsF v := by
  unfold wordsF
  cases v with
  | nil => rfl
  | cons c l =>
    unfold printableF at h
    simp only [List.isEmpty_cons, Bool.false_or] at h
    obtain ⟨a, r, h1, h2⟩ := fields_split (c :: l) [] h
    rw [if_neg (by simp), h1, Lib.fields, h2]
    rfl
def foldG : List UInt8 → Bool → List (List UInt8) → List (List UInt8)
  | line, _, [] => [line]
  | line, first, w :: ws => if (!first && decide (76 < line.length + 1 + w.length)) = true then line :: foldG (32 :: w) false ws else foldG (line ++ 32 :: w) false ws
def longB (ls : List (List UInt8)) : Bool := ls.any fun l => decide (998 < l.length)
def endL (ls : List (List UInt8)) : List UInt8 := ls.flatMap fun l => l ++ [13, 10]
theorem foldG_long : ∀ (ws : List (List UInt8)) (line : List UInt8) (first : Bool), 998 < line.length → longB (foldG line first ws) = true
  | [], line, first, h => by simp [foldG, longB, h]
  | w :: ws, line, first, h => by
    rw [foldG]
    split
    · simp [longB, h]
    · exact foldG_long ws _ _ (by simp; omega)
theorem foldG_print : ∀ (ws : List (List UInt8)) (line : List UInt8) (first : Bool), line.length ≤ 998 →
    (printWs line.length first ws = none ∧ longB (foldG line first ws) = true) ∨ ∃ r, printWs line.length first ws = some r ∧ longB (foldG line first ws) = false ∧ endL (foldG line first ws) = line ++ (r ++ [13, 10])
  | [], line, first, h => Or.inr ⟨[], rfl, by simp [foldG, longB, h], by simp [foldG, endL]⟩
  | w :: ws, line, first, h => by
    rw [foldG, printWs]
    by_cases hf : (!first && decide (76 < line.length + 1 + w.length)) = true
    · simp only [hf, if_true]
      have e : (32 :: w).length = 0 + 1 + w.length := by simp; omega
      by_cases hl : 998 < 0 + 1 + w.length
      · rw [if_pos hl]
        exact Or.inl ⟨rfl, by rw [longB, List.any_cons, show (foldG (32 :: w) false ws).any _ = longB (foldG (32 :: w) false ws) from rfl, foldG_long ws _ false (by rw [e]; exact hl), Bool.or_true]⟩
      · rw [if_neg hl]
        rcases foldG_print ws (32 :: w) false (by omega) with ⟨h1, h2⟩ | ⟨r, h1, h2, h3⟩
        · rw [e] at h1
          exact Or.inl ⟨by rw [h1]; rfl, by rw [longB, List.any_cons, show (foldG (32 :: w) false ws).any _ = longB (foldG (32 :: w) false ws) from rfl, h2, Bool.or_true]⟩
        · rw [e] at h1
          refine Or.inr ⟨_, by rw [h1]; rfl, ?_, ?_⟩
          · rw [longB, List.any_cons, show (foldG (32 :: w) false ws).any _ = longB (foldG (32 :: w) false ws) from rfl, h2, decide_eq_false (by omega)]; rfl
          · rw [endL, List.flatMap_cons, show (foldG (32 :: w) false ws).flatMap _ = endL (foldG (32 :: w) false ws) from rfl, h3]; simp
    · simp only [hf, Bool.false_eq_true, if_false]
      have e : (line ++ 32 :: w).length = line.length + 1 + w.length := by simp; omega
      by_cases hl : 998 < line.length + 1 + w.length
      · rw [if_pos hl]
        exact Or.inl ⟨rfl, foldG_long ws _ false (by rw [e]; exact hl)⟩
      · rw [if_neg hl]
        rcases foldG_print ws (line ++ 32 :: w) false (by omega) with ⟨h1, h2⟩ | ⟨r, h1, h2, h3⟩
        · rw [e] at h1
          exact Or.inl ⟨by rw [h1]; rfl, h2⟩
        · rw [e] at h1
          exact Or.inr ⟨_, by rw [h1]; rfl, h2, by rw [h3]; simp⟩
def linesF (f : List UInt8 × List UInt8) : List (List UInt8) := foldG (f.1 ++ [58]) true (wordsF f.2)
theorem linesF_print (f : List UInt8 × List UInt8) (h : f.1.length ≤ 64) : (printF f = none ∧ longB (linesF f) = true) ∨ (∃ t, printF f = some t ∧ longB (linesF f) = false ∧ endL (linesF f) = t) := by
  unfold printF linesF
  have e : (f.1 ++ [58]).length = f.1.length + 1 := by simp
  rcases foldG_print (wordsF f.2) (f.1 ++ [58]) true (by omega) with ⟨h1, h2⟩ | ⟨r, h1, h2, h3⟩
  · rw [e] at h1
    exact Or.inl ⟨by rw [h1]; rfl, h2⟩
  · rw [e] at h1
    exact Or.inr ⟨_, by rw [h1]; rfl, h2, by rw [h3]; simp⟩
end Wb
