/- FdP FdQ FdR FdT. -/
namespace Wb
def blankB (c : UInt8) : Bool := c == 32 || c == 9
def nameC (c : UInt8) : Bool := decide (33 ≤ c.toNat) && decide (c.toNat ≤ 126) && c != 58
def namedF (s : List UInt8) : Bool := s.all nameC && decide (1 ≤ s.length) && decide (s.length ≤ 64)
def plainC (c : UInt8) : Bool := c == 9 || (decide (32 ≤ c.toNat) && decide (c.toNat ≤ 126))
def plainF (s : List UInt8) : Bool := s.all plainC
def prP (p : Bool) : List UInt8 → Bool
  | [] => !p
  | c :: l => decide (32 ≤ c.toNat) && decide (c.toNat ≤ 126) && (c != 32 || !p) && prP (c == 32) l
def printableF (s : List UInt8) : Bool := s.isEmpty || prP true s
def splitS : List UInt8 → List (List UInt8)
  | [] => [[]]
  | c :: l => if c = 32 then [] :: splitS l else match splitS l with
    | w :: ws => (c :: w) :: ws
    | [] => [[c]]
def wordsF (v : List UInt8) : List (List UInt8) := if v.isEmpty then [] else splitS v
def printWs : Nat → Bool → List (List UInt8) → Option (List UInt8)
  | _, _, [] => some []
  | line, first, w :: ws =>
    let fold := !first && decide (76 < line + 1 + w.length)
    let line2 := (if fold then 0 else line) + 1 + w.length
    if 998 < line2 then none else (printWs line2 false ws).map fun r => (if fold then [13, 10] else []) ++ 32 :: (w ++ r)
def printF (f : List UInt8 × List UInt8) : Option (List UInt8) := (printWs (f.1.length + 1) true (wordsF f.2)).map fun r => f.1 ++ 58 :: (r ++ [13, 10])
def printFs : List (List UInt8 × List UInt8) → Except Int (List UInt8)
  | [] => .ok [13, 10]
  | f :: l => if namedF f.1 = false then .error 12 else if printableF f.2 = false then .error 4 else match printF f with
    | none => .error 3
    | some t => match printFs l with
      | .ok s => .ok (t ++ s)
      | .error e => .error e
def lineC : List UInt8 → Option (List UInt8 × List UInt8)
  | [] => none
  | c :: l => match l with
    | [] => none
    | d :: l2 => if c = 13 ∧ d = 10 then some ([], l2) else match lineC l with
      | some (a, b) => some (c :: a, b)
      | none => none
def logL : Nat → List UInt8 → Option (List UInt8 × Bool × List UInt8)
  | 0, _ => none
  | f + 1, s => match lineC s with
    | none => none
    | some (a, r) => if (r.head?.map blankB).getD false = true then match logL f r with
        | some (b, lg, r2) => some (a ++ b, decide (998 < a.length) || lg, r2)
        | none => none
      else some (a, decide (998 < a.length), r)
def trimF (s : List UInt8) : List UInt8 := ((s.dropWhile blankB).reverse.dropWhile blankB).reverse
def parseL : Nat → Nat → List UInt8 → Except Int (List (List UInt8 × List UInt8) × List UInt8)
  | 0, _, _ => .error 0
  | f + 1, k, s => if s.take 2 = [13, 10] then .ok ([], s.drop 2) else match logL (s.length + 1) s with
    | none => .error 2
    | some (line, long, rest) => if k = 8 ∨ long = true then .error 3 else
      let nm := line.takeWhile (fun c => c != 58)
      if (line.head?.map blankB).getD false = true ∨ nm.length = line.length then .error 4 else if namedF nm = false then .error 12 else
      if plainF (line.drop (nm.length + 1)) = false then .error 4 else match parseL f (k + 1) rest with
        | .ok (l, r) => .ok ((nm, trimF (line.drop (nm.length + 1))) :: l, r)
        | .error e => .error e
def flatW : List (List UInt8) → List UInt8
  | [] => []
  | w :: ws => 32 :: (w ++ flatW ws)
end Wb
namespace Wb
def foldW : List (Bool × List UInt8) → List UInt8
  | [] => []
  | (b, w) :: l => (if b then [13, 10] else []) ++ 32 :: (w ++ foldW l)
def fitW : Nat → List (Bool × List UInt8) → Prop
  | n, [] => n ≤ 998
  | n, (b, w) :: l => if b then n ≤ 998 ∧ fitW (1 + w.length) l else fitW (n + 1 + w.length) l
theorem print_fold : ∀ (ws : List (List UInt8)) (n : Nat) (first : Bool) (r : List UInt8), printWs n first ws = some r → n ≤ 998 →
    ∃ l : List (Bool × List UInt8), l.map Prod.snd = ws ∧ r = foldW l ∧ fitW n l ∧ (first = true → (l.head?.map Prod.fst).getD false = false)
  | [], n, first, r, h, hn => by
    simp only [printWs, Option.some.injEq] at h
    exact ⟨[], rfl, by simp [foldW, ← h], hn, fun _ => rfl⟩
  | w :: ws, n, first, r, h, hn => by
    by_cases hfo : (!first && decide (76 < n + 1 + w.length)) = true
    · unfold printWs at h
      simp only [hfo, if_true] at h
      split at h
      · cases h
      rename_i hlong
      obtain ⟨r2, h1, h2⟩ := Option.map_eq_some_iff.1 h
      obtain ⟨l, a, b, c, _⟩ := print_fold ws _ _ _ h1 (by omega)
      refine ⟨(true, w) :: l, by simp [a], by simp [foldW, ← h2, b], ?_, ?_⟩
      · rw [fitW, if_pos rfl]
        refine ⟨hn, ?_⟩
        rwa [Nat.zero_add] at c
      · intro hf; subst hf; simp at hfo
    · have hfo : (!first && decide (76 < n + 1 + w.length)) = false := by simpa using hfo
      unfold printWs at h
      simp only [hfo, Bool.false_eq_true, if_false] at h
      split at h
      · cases h
      rename_i hlong
      obtain ⟨r2, h1, h2⟩ := Option.map_eq_some_iff.1 h
      obtain ⟨l, a, b, c, _⟩ := print_fold ws _ _ _ h1 (by omega)
      refine ⟨(false, w) :: l, by simp [a], by simp [foldW, ← h2, b], ?_, fun _ => rfl⟩
      rw [fitW, if_neg (by simp)]
      exact c
end Wb
namespace Wb
theorem splitS_ne : ∀ v : List UInt8, splitS v ≠ []
  | [] => by simp [splitS]
  | c :: l => by
    unfold splitS
    split
    · simp
    · cases h : splitS l <;> simp
theorem flat_split : ∀ v : List UInt8, flatW (splitS v) = 32 :: v
  | [] => rfl
  | c :: l => by
    have ih := flat_split l
    unfold splitS
    split
    · rename_i h; subst h
      rw [flatW, ih]; rfl
    · cases h : splitS l with
      | nil => exact absurd h (splitS_ne l)
      | cons w ws =>
        rw [h, flatW] at ih
        simp only [flatW, List.cons_append]
        simp only [List.cons.injEq, true_and] at ih
        rw [ih]
theorem flat_words (v : List UInt8) : flatW (wordsF v) = if v.isEmpty then [] else 32 :: v := by
  unfold wordsF
  split
  · rfl
  · exact flat_split v
theorem flat_mem : ∀ (ws : List (List UInt8)) (w : List UInt8), w ∈ ws → ∀ c ∈ w, c ∈ flatW ws
  | [], _, h, _, _ => by simp at h
  | x :: ws, w, h, c, hc => by
    rw [flatW]
    rcases List.mem_cons.1 h with rfl | h
    · simp [hc]
    · have := flat_mem ws w h c hc
      simp [this]
theorem prP_plain : ∀ (v : List UInt8) (p : Bool), prP p v = true → ∀ c ∈ v, 32 ≤ c.toNat ∧ c.toNat ≤ 126
  | [], _, _, _, h => by simp at h
  | c :: l, p, h, x, hx => by
    unfold prP at h
    simp only [Bool.and_eq_true, decide_eq_true_eq] at h
    rcases List.mem_cons.1 hx with rfl | hx
    · exact ⟨h.1.1.1, h.1.1.2⟩
    · exact prP_plain l _ h.2 x hx
theorem prP_head (c : UInt8) (l : List UInt8) (h : prP true (c :: l) = true) : blankB c = false := by
  unfold prP at h
  simp only [Bool.and_eq_true, decide_eq_true_eq, Bool.not_true, Bool.or_false] at h
  have h1 := h.1.1.1
  have h2 := h.1.2
  unfold blankB
  have h9 : (c == 9) = false := by
    apply Bool.eq_false_iff.2
    intro e
    have : c = 9 := by simpa using e
    subst this
    exact absurd h1 (by decide)
  have h3 : (c == 32) = false := by simpa using h2
  rw [h9, h3]; rfl
theorem words_range (v : List UInt8) (h : printableF v = true) : ∀ c ∈ flatW (wordsF v), 32 ≤ c.toNat ∧ c.toNat ≤ 126 := by
  rw [flat_words]
  cases v with
  | nil => intro c hc; simp at hc
  | cons c l =>
    have hp : prP true (c :: l) = true := by simpa [printableF] using h
    rw [if_neg (by simp)]
    intro x hx
    rcases List.mem_cons.1 hx with rfl | hx
    · decide
    · exact prP_plain _ _ hp x hx
theorem range_no13 (c : UInt8) (h : 32 ≤ c.toNat) : c ≠ 13 := fun e => by subst e; exact absurd h (by decide)
theorem named_facts (nm : List UInt8) (h : namedF nm = true) : nm ≠ [] ∧ nm.length ≤ 64 ∧ ∀ c ∈ nm, 33 ≤ c.toNat ∧ c.toNat ≤ 126 ∧ c ≠ 58 := by
  unfold namedF at h
  simp only [Bool.and_eq_true, decide_eq_true_eq, List.all_eq_true] at h
  refine ⟨fun e => by rw [e] at h; simp at h, h.2, fun c hc => ?_⟩
  have := h.1.1 c hc
  unfold nameC at this
  simp only [Bool.and_eq_true, decide_eq_true_eq, bne_iff_ne, ne_eq] at this
  exact ⟨this.1.1, this.1.2, this.2⟩
theorem fname_blank (c : UInt8) (h : 33 ≤ c.toNat) : blankB c = false := by
  unfold blankB
  have h9 : (c == 9) = false := by
    apply Bool.eq_false_iff.2
    intro e
    have : c = 9 := by simpa using e
    subst this
    exact absurd h (by decide)
  have h3 : (c == 32) = false := by
    apply Bool.eq_false_iff.2
    intro e
    have : c = 32 := by simpa using e
    subst this
    exact absurd h (by decide)
  rw [h9, h3]; rfl
theorem print_one (nm v t : List UInt8) (h : printF (nm, v) = some t) (hn : namedF nm = true) (hv : printableF v = true) :
    ∃ l : List (Bool × List UInt8), l.map Prod.snd = wordsF v ∧ t = (nm ++ [58]) ++ (foldW l ++ [13, 10]) ∧ fitW (nm ++ [58]).length l ∧ (∀ p ∈ l, ∀ c ∈ p.2, c ≠ 13) ∧ (∀ c ∈ nm ++ [58], c ≠ 13) := by
  obtain ⟨hne, h64, hc⟩ := named_facts nm hn
  unfold printF at h
  obtain ⟨r, h1, h2⟩ := Option.map_eq_some_iff.1 h
  obtain ⟨l, a, b, c, _⟩ := print_fold _ _ _ _ h1 (by simp; omega)
  refine ⟨l, a, by rw [← h2, b]; simp, by simpa using c, fun p hp x hx => ?_, fun x hx => ?_⟩
  · have := words_range v hv x (flat_mem _ p.2 (by rw [← a]; exact List.mem_map_of_mem hp) x hx)
    exact range_no13 x this.1
  · rcases List.mem_append.1 hx with hx | hx
    · exact range_no13 x (by have := (hc x hx).1; omega)
    · simp at hx; subst hx; decide
theorem parse_empty (f k : Nat) (h : 0 < f) : parseL f k [] = .error 2 := by
  obtain ⟨f, rfl⟩ : ∃ g, f = g + 1 := ⟨f - 1, by omega⟩
  rfl
end Wb
namespace Wb
def tkC (c : UInt8) : Bool := decide (33 ≤ c.toNat) && decide (c.toNat ≤ 126) && !([40, 41, 60, 62, 64, 44, 59, 58, 92, 34, 47, 91, 93, 63, 61] : List UInt8).contains c
def tokenF (s : List UInt8) : Bool := s.all tkC && !s.isEmpty
def lowC (c : UInt8) : UInt8 := if 65 ≤ c.toNat ∧ c.toNat ≤ 90 then c + 32 else c
def lowF (s : List UInt8) : List UInt8 := s.map lowC
def getF : List (List UInt8 × List UInt8) → List UInt8 → Option (List UInt8)
  | [], _ => none
  | f :: l, n => if lowF f.1 = lowF n then some f.2 else getF l n
def typeF (s : List UInt8) : Bool :=
  let a := s.takeWhile (fun c => c != 47)
  decide (a.length < s.length) && tokenF a && tokenF (s.drop (a.length + 1))
def escQ : List UInt8 → List UInt8
  | [] => []
  | c :: l => if c = 34 ∨ c = 92 then 92 :: c :: escQ l else c :: escQ l
def quoteF (v : List UInt8) : List UInt8 := if tokenF v = true then v else 34 :: (escQ v ++ [34])
def printPm (p : List UInt8 × List UInt8) : List UInt8 := 59 :: 32 :: (p.1 ++ 61 :: quoteF p.2)
def printPs : List (List UInt8 × List UInt8) → Except Int (List UInt8)
  | [] => .ok []
  | p :: l => if tokenF p.1 = false then .error 12 else if plainF p.2 = false then .error 4 else match printPs l with
    | .ok s => .ok (printPm p ++ s)
    | .error e => .error e
def printT (typ : List UInt8) (l : List (List UInt8 × List UInt8)) : Except Int (List UInt8) := if typeF typ = false then .error 31 else match printPs l with
  | .ok s => .ok (typ ++ s)
  | .error e => .error e
def quotedF : List UInt8 → Option (List UInt8 × List UInt8)
  | [] => none
  | c :: l => if c = 34 then some ([], l) else if c = 92 then match l with
      | [] => none
      | d :: l2 => if d = 34 ∨ d = 92 then match quotedF l2 with
          | some (v, r) => some (d :: v, r)
          | none => none
        else none
    else if plainC c = true then match quotedF l with
      | some (v, r) => some (c :: v, r)
      | none => none
    else none
def valueF : List UInt8 → Option (List UInt8 × List UInt8)
  | [] => none
  | c :: l => if c = 34 then quotedF l else if tkC c = true then some ((c :: l).takeWhile tkC, (c :: l).dropWhile tkC) else none
def hasF (out : List (List UInt8 × List UInt8)) (n : List UInt8) : Bool := out.any fun p => decide (lowF p.1 = lowF n)
def paramsF : Nat → List (List UInt8 × List UInt8) → List UInt8 → Except Int (List (List UInt8 × List UInt8))
  | 0, _, _ => .error 0
  | f + 1, out, s => match s.dropWhile blankB with
    | [] => .ok out
    | c :: r => if c ≠ 59 then .error 4 else
      let a := r.dropWhile blankB
      let nm := a.takeWhile tkC
      if nm = [] then .error 4 else match (a.dropWhile tkC).dropWhile blankB with
        | [] => .error 4
        | d :: r2 => if d ≠ 61 then .error 4 else match valueF (r2.dropWhile blankB) with
          | none => .error 4
          | some (v, r3) => if hasF out nm = true then .error 4 else paramsF f (out ++ [(lowF nm, v)]) r3
def headT (s : List UInt8) : List UInt8 × List UInt8 :=
  let a := s.dropWhile blankB
  match a.dropWhile tkC with
  | [] => (a.takeWhile tkC, [])
  | c :: r => if c = 47 then (a.takeWhile tkC ++ 47 :: r.takeWhile tkC, r.dropWhile tkC) else (a.takeWhile tkC, c :: r)
def parseT (s : List UInt8) : Except Int (List UInt8 × List (List UInt8 × List UInt8)) :=
  if typeF (headT s).1 = false then .error 31 else match paramsF (s.length + 1) [] (headT s).2 with
    | .ok l => .ok (lowF (headT s).1, l)
    | .error e => .error e
theorem while_all (p : UInt8 → Bool) : ∀ (a : List UInt8) (c : UInt8) (r : List UInt8), a.all p = true → p c = false → (a ++ c :: r).takeWhile p = a ∧ (a ++ c :: r).dropWhile p = c :: r
  | [], c, r, _, h => by simp [h]
  | x :: a, c, r, h, hc => by
    simp only [List.all_cons, Bool.and_eq_true] at h
    obtain ⟨h1, h2⟩ := while_all p a c r h.2 hc
    simp [h.1, h1, h2]
theorem token_facts (s : List UInt8) (h : tokenF s = true) : s.all tkC = true ∧ s ≠ [] := by
  unfold tokenF at h
  simp only [Bool.and_eq_true, Bool.not_eq_true', List.isEmpty_eq_false_iff] at h
  exact h
theorem tk_blank (c : UInt8) (h : tkC c = true) : blankB c = false := by
  unfold tkC at h
  simp only [Bool.and_eq_true, decide_eq_true_eq] at h
  exact fname_blank c h.1.1
theorem drop_token (s r : List UInt8) (h : tokenF s = true) : (s ++ r).dropWhile blankB = s ++ r := by
  obtain ⟨h1, h2⟩ := token_facts s h
  cases s with
  | nil => exact absurd rfl h2
  | cons c l =>
    simp only [List.all_cons, Bool.and_eq_true] at h1
    rw [List.cons_append, List.dropWhile_cons, if_neg (by rw [tk_blank c h1.1]; simp)]
theorem quoted_end (R : List UInt8) : quotedF (34 :: R) = some ([], R) := by
  rw [quotedF.eq_def]
  simp
theorem quoted_esc (c : UInt8) (R v r : List UInt8) (hc : c = 34 ∨ c = 92) (h : quotedF R = some (v, r)) : quotedF (92 :: c :: R) = some (c :: v, r) := by
  rw [quotedF.eq_def]
  simp only
  rw [if_neg (by decide), if_pos trivial, if_pos hc, h]
theorem quoted_plain (c : UInt8) (R v r : List UInt8) (hc : ¬ (c = 34 ∨ c = 92)) (hp : plainC c = true) (h : quotedF R = some (v, r)) : quotedF (c :: R) = some (c :: v, r) := by
  rw [quotedF.eq_def]
  simp only
  rw [if_neg (fun e => hc (Or.inl e)), if_neg (fun e => hc (Or.inr e)), if_pos hp, h]
theorem quoted_back : ∀ (v R : List UInt8), plainF v = true → quotedF (escQ v ++ 34 :: R) = some (v, R)
  | [], R, _ => by rw [escQ, List.nil_append, quoted_end]
  | c :: v, R, h => by
    have h : plainC c = true ∧ plainF v = true := by simpa [plainF] using h
    have ih := quoted_back v R h.2
    unfold escQ
    by_cases hc : c = 34 ∨ c = 92
    · rw [if_pos hc, List.cons_append, List.cons_append, quoted_esc c _ v R hc ih]
    · rw [if_neg hc, List.cons_append, quoted_plain c _ v R hc h.1 ih]
theorem value_back (v : List UInt8) (c : UInt8) (R : List UInt8) (h : plainF v = true) (hc : tkC c = false) : valueF (quoteF v ++ c :: R) = some (v, c :: R) := by
  unfold quoteF
  split
  · rename_i ht
    obtain ⟨h1, h2⟩ := token_facts v ht
    obtain ⟨h3, h4⟩ := while_all tkC v c R h1 hc
    cases v with
    | nil => exact absurd rfl h2
    | cons x l =>
      simp only [List.all_cons, Bool.and_eq_true] at h1
      rw [List.cons_append] at h3 h4 ⊢
      rw [valueF, if_neg (fun e => by rw [e] at h1; exact absurd h1.1 (by decide)), if_pos h1.1, h3, h4]
  · have e : (34 :: (escQ v ++ [34])) ++ c :: R = 34 :: (escQ v ++ 34 :: c :: R) := by simp
    rw [e, valueF, if_pos rfl, quoted_back v _ h]
theorem quote_blank (v R : List UInt8) : (quoteF v ++ R).dropWhile blankB = quoteF v ++ R := by
  unfold quoteF
  split
  · rename_i h; exact drop_token v R h
  · rw [List.cons_append, List.dropWhile_cons, if_neg (by decide)]
def dupF : List (List UInt8 × List UInt8) → List (List UInt8 × List UInt8) → Bool
  | _, [] => false
  | out, p :: l => hasF out p.1 || dupF (out ++ [(lowF p.1, p.2)]) l
theorem params_one (f : Nat) (out : List (List UInt8 × List UInt8)) (n v : List UInt8) (c : UInt8) (R : List UInt8) (hn : tokenF n = true) (hv : plainF v = true) (hc : tkC c = false) :
    paramsF (f + 1) out (printPm (n, v) ++ c :: R) = if hasF out n = true then .error 4 else paramsF f (out ++ [(lowF n, v)]) (c :: R) := by
  obtain ⟨h1, h2⟩ := token_facts n hn
  have e : printPm (n, v) ++ c :: R = 59 :: 32 :: (n ++ 61 :: (quoteF v ++ c :: R)) := by simp [printPm]
  obtain ⟨h3, h4⟩ := while_all tkC n 61 (quoteF v ++ c :: R) h1 (by decide)
  have e1 : (59 :: 32 :: (n ++ 61 :: (quoteF v ++ c :: R)) : List UInt8).dropWhile blankB = 59 :: 32 :: (n ++ 61 :: (quoteF v ++ c :: R)) := by rw [List.dropWhile_cons, if_neg (by decide)]
  have e2 : (32 :: (n ++ 61 :: (quoteF v ++ c :: R)) : List UInt8).dropWhile blankB = n ++ 61 :: (quoteF v ++ c :: R) := by rw [List.dropWhile_cons, if_pos (by decide), drop_token n _ hn]
  have e3 : (61 :: (quoteF v ++ c :: R) : List UInt8).dropWhile blankB = 61 :: (quoteF v ++ c :: R) := by rw [List.dropWhile_cons, if_neg (by decide)]
  rw [e, paramsF, e1]
  simp only
  rw [if_neg (by simp), e2, h3, h4, if_neg h2, e3]
  simp only
  rw [if_neg (by simp), quote_blank, value_back v c R hv hc]
theorem printPs_head (l : List (List UInt8 × List UInt8)) (s : List UInt8) (h : printPs l = .ok s) : ∃ c r, s ++ [32] = c :: r ∧ tkC c = false := by
  cases l with
  | nil => simp only [printPs, Except.ok.injEq] at h; subst h; exact ⟨32, [], rfl, by decide⟩
  | cons p l =>
    unfold printPs at h
    split at h
    · cases h
    split at h
    · cases h
    split at h
    · rename_i s' hs
      simp only [Except.ok.injEq] at h
      subst h
      exact ⟨59, 32 :: (p.1 ++ 61 :: quoteF p.2) ++ s' ++ [32], by simp [printPm], by decide⟩
    · cases h
theorem printPs_len : ∀ (l : List (List UInt8 × List UInt8)) (s : List UInt8), printPs l = .ok s → l.length ≤ s.length
  | [], _, _ => Nat.zero_le _
  | p :: l, s, h => by
    unfold printPs at h
    split at h
    · cases h
    split at h
    · cases h
    split at h
    · rename_i s' hs
      simp only [Except.ok.injEq] at h
      have := printPs_len l s' hs
      rw [← h]
      simp only [printPm, List.length_cons, List.length_append]
      omega
    · cases h
theorem params_back : ∀ (l : List (List UInt8 × List UInt8)) (s : List UInt8) (f : Nat) (out : List (List UInt8 × List UInt8)), printPs l = .ok s → l.length < f →
    paramsF f out (s ++ [32]) = if dupF out l = true then .error 4 else .ok (out ++ l.map fun p => (lowF p.1, p.2))
  | [], s, f, out, h, hf => by
    simp only [printPs, Except.ok.injEq] at h
    obtain ⟨f, rfl⟩ : ∃ g, f = g + 1 := ⟨f - 1, by omega⟩
    subst h
    rw [dupF, if_neg (by simp), paramsF]
    simp [blankB]
  | (n, v) :: l, s, f, out, h, hf => by
    obtain ⟨f, rfl⟩ : ∃ g, f = g + 1 := ⟨f - 1, by omega⟩
    unfold printPs at h
    split at h
    · cases h
    rename_i h1
    split at h
    · cases h
    rename_i h2
    split at h
    · rename_i s' hs
      simp only [Except.ok.injEq] at h
      obtain ⟨c, r, e0, hc⟩ := printPs_head l s' hs
      rw [← h, List.append_assoc, e0, params_one f out n v c r (by simpa using h1) (by simpa using h2) hc, ← e0, params_back l s' f _ hs (by simp at hf; omega), dupF]
      cases hasF out n <;> simp
    · cases h
theorem while_cut (p : UInt8 → Bool) : ∀ t : List UInt8, (t.takeWhile p).length < t.length → ∃ c r, t = t.takeWhile p ++ c :: r ∧ p c = false ∧ t.drop ((t.takeWhile p).length + 1) = r
  | [], h => by simp at h
  | x :: t, h => by
    by_cases hx : p x = true
    · rw [List.takeWhile_cons, if_pos hx] at h ⊢
      obtain ⟨c, r, h1, h2, h3⟩ := while_cut p t (by simpa using h)
      refine ⟨c, r, ?_, h2, ?_⟩
      · rw [List.cons_append, ← h1]
      · rw [List.length_cons, List.drop_succ_cons, h3]
    · rw [List.takeWhile_cons, if_neg hx] at h ⊢
      exact ⟨x, t, rfl, by simpa using hx, rfl⟩
theorem type_facts (t : List UInt8) (h : typeF t = true) : ∃ a b, t = a ++ 47 :: b ∧ tokenF a = true ∧ tokenF b = true := by
  unfold typeF at h
  simp only [Bool.and_eq_true, decide_eq_true_eq] at h
  obtain ⟨⟨h1, h2⟩, h3⟩ := h
  obtain ⟨c, r, e1, e2, e3⟩ := while_cut _ t h1
  have hc : c = 47 := by simpa using e2
  subst hc
  exact ⟨_, r, e1, h2, by rw [← e3]; exact h3⟩
theorem head_type (t : List UInt8) (c : UInt8) (r : List UInt8) (h : typeF t = true) (hc : tkC c = false) : headT (32 :: 9 :: (t ++ c :: r)) = (t, c :: r) := by
  obtain ⟨a, b, rfl, ha, hb⟩ := type_facts t h
  obtain ⟨a1, a2⟩ := token_facts a ha
  obtain ⟨b1, b2⟩ := token_facts b hb
  have e : (32 :: 9 :: (a ++ 47 :: b ++ c :: r)).dropWhile blankB = a ++ 47 :: (b ++ c :: r) := by
    rw [List.dropWhile_cons, if_pos (by decide), List.dropWhile_cons, if_pos (by decide), List.append_assoc, drop_token a _ ha]
    simp
  obtain ⟨h3, h4⟩ := while_all tkC a 47 (b ++ c :: r) a1 (by decide)
  obtain ⟨h5, h6⟩ := while_all tkC b c r b1 hc
  unfold headT
  rw [e]
  simp only
  rw [h4]
  simp only
  rw [if_pos trivial, h3, h5, h6]
theorem type_back (t s : List UInt8) (l : List (List UInt8 × List UInt8)) (h : printT t l = .ok s) :
    parseT (32 :: 9 :: (s ++ [32])) = if dupF [] l = true then .error 4 else .ok (lowF t, l.map fun p => (lowF p.1, p.2)) := by
  unfold printT at h
  split at h
  · cases h
  rename_i h1
  have h1 : typeF t = true := by simpa using h1
  split at h
  · rename_i s' hs
    simp only [Except.ok.injEq] at h
    obtain ⟨c, r, e0, hc⟩ := printPs_head l s' hs
    have e : s ++ [32] = t ++ c :: r := by rw [← h, List.append_assoc, e0]
    have hlen : l.length < (32 :: 9 :: (s ++ [32])).length + 1 := by
      have := printPs_len l s' hs
      rw [← h]
      simp only [List.length_cons, List.length_append]
      omega
    unfold parseT
    rw [e, head_type t c r h1 hc, ← e]
    simp only
    rw [if_neg (by rw [h1]; simp), ← e0, params_back l s' _ [] hs hlen]
    cases dupF [] l <;> simp
  · cases h
end Wb
