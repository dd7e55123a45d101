/- FdP FdQ FdR FdU. -/
namespace Wb
def blankB (c : UInt8) : Bool := c == 32 || c == 9
def nameC (c : UInt8) : Bool := decide (33 ≤ c.toNat) && decide (c.toNat ≤ 126) && c != 58
def namedF (s : List UInt8) : Bool := s.all nameC && decide (1 ≤ s.length) && decide (s.length ≤ 64)
def plainC (c : UInt8) : Bool := c == 9 || (decide (32 ≤ c.toNat) && decide (c.toNat ≤ 126))
def plainF (s : List UInt8) : Bool := s.all plainC
def prP (p : Bool) : List UInt8 → Bool
  | [] => !p
  | c :: l => decide (32 ≤ c.toNat) && decide (c.toNat ≤ 126) && (c != 32 || !p) && prP (c == 32) l
def printableF (s : List UInt8) : Bool := s.isEmpty || prP true s
def splitS : List UInt8 → List (List UInt8)
  | [] => [[]]
  | c :: l => if c = 32 then [] :: splitS l else match splitS l with
    | w :: ws => (c :: w) :: ws
    | [] => [[c]]
def wordsF (v : List UInt8) : List (List UInt8) := if v.isEmpty then [] else splitS v
def printWs : Nat → Bool → List (List UInt8) → Option (List UInt8)
  | _, _, [] => some []
  | line, first, w :: ws =>
    let fold := !first && decide (76 < line + 1 + w.length)
    let line2 := (if fold then 0 else line) + 1 + w.length
    if 998 < line2 then none else (printWs line2 false ws).map fun r => (if fold then [13, 10] else []) ++ 32 :: (w ++ r)
def printF (f : List UInt8 × List UInt8) : Option (List UInt8) := (printWs (f.1.length + 1) true (wordsF f.2)).map fun r => f.1 ++ 58 :: (r ++ [13, 10])
def printFs : List (List UInt8 × List UInt8) → Except Int (List UInt8)
  | [] => .ok [13, 10]
  | f :: l => if namedF f.1 = false then .error 12 else if printableF f.2 = false then .error 4 else match printF f with
    | none => .error 3
    | some t => match printFs l with
      | .ok s => .ok (t ++ s)
      | .error e => .error e
def lineC : List UInt8 → Option (List UInt8 × List UInt8)
  | [] => none
  | c :: l => match l with
    | [] => none
    | d :: l2 => if c = 13 ∧ d = 10 then some ([], l2) else match lineC l with
      | some (a, b) => some (c :: a, b)
      | none => none
def logL : Nat → List UInt8 → Option (List UInt8 × Bool × List UInt8)
  | 0, _ => none
  | f + 1, s => match lineC s with
    | none => none
    | some (a, r) => if (r.head?.map blankB).getD false = true then match logL f r with
        | some (b, lg, r2) => some (a ++ b, decide (998 < a.length) || lg, r2)
        | none => none
      else some (a, decide (998 < a.length), r)
def trimF (s : List UInt8) : List UInt8 := ((s.dropWhile blankB).reverse.dropWhile blankB).reverse
def parseL : Nat → Nat → List UInt8 → Except Int (List (List UInt8 × List UInt8) × List UInt8)
  | 0, _, _ => .error 0
  | f + 1, k, s => if s.take 2 = [13, 10] then .ok ([], s.drop 2) else match logL (s.length + 1) s with
    | none => .error 2
    | some (line, long, rest) => if k = 8 ∨ long = true then .error 3 else
      let nm := line.takeWhile (fun c => c != 58)
      if (line.head?.map blankB).getD false = true ∨ nm.length = line.length then .error 4 else if namedF nm = false then .error 12 else
      if plainF (line.drop (nm.length + 1)) = false then .error 4 else match parseL f (k + 1) rest with
        | .ok (l, r) => .ok ((nm, trimF (line.drop (nm.length + 1))) :: l, r)
        | .error e => .error e
def flatW : List (List UInt8) → List UInt8
  | [] => []
  | w :: ws => 32 :: (w ++ flatW ws)
end Wb
namespace Wb
def foldW : List (Bool × List UInt8) → List UInt8
  | [] => []
  | (b, w) :: l => (if b then [13, 10] else []) ++ 32 :: (w ++ foldW l)
def fitW : Nat → List (Bool × List UInt8) → Prop
  | n, [] => n ≤ 998
  | n, (b, w) :: l => if b then n ≤ 998 ∧ fitW (1 + w.length) l else fitW (n + 1 + w.length) l
theorem print_fold : ∀ (ws : List (List UInt8)) (n : Nat) (first : Bool) (r : List UInt8), printWs n first ws = some r → n ≤ 998 →
    ∃ l : List (Bool × List UInt8), l.map Prod.snd = ws ∧ r = foldW l ∧ fitW n l ∧ (first = true → (l.head?.map Prod.fst).getD false = false)
  | [], n, first, r, h, hn => by
    simp only [printWs, Option.some.injEq] at h
    exact ⟨[], rfl, by simp [foldW, ← h], hn, fun _ => rfl⟩
  | w :: ws, n, first, r, h, hn => by
    by_cases hfo : (!first && decide (76 < n + 1 + w.length)) = true
    · unfold printWs at h
      simp only [hfo, if_true] at h
      split at h
      · cases h
      rename_i hlong
      obtain ⟨r2, h1, h2⟩ := Option.map_eq_some_iff.1 h
      obtain ⟨l, a, b, c, _⟩ := print_fold ws _ _ _ h1 (by omega)
      refine ⟨(true, w) :: l, by simp [a], by simp [foldW, ← h2, b], ?_, ?_⟩
      · rw [fitW, if_pos rfl]
        refine ⟨hn, ?_⟩
        rwa [Nat.zero_add] at c
      · intro hf; subst hf; simp at hfo
    · have hfo : (!first && decide (76 < n + 1 + w.length)) = false := by simpa using hfo
      unfold printWs at h
      simp only [hfo, Bool.false_eq_true, if_false] at h
      split at h
      · cases h
      rename_i hlong
      obtain ⟨r2, h1, h2⟩ := Option.map_eq_some_iff.1 h
      obtain ⟨l, a, b, c, _⟩ := print_fold ws _ _ _ h1 (by omega)
      refine ⟨(false, w) :: l, by simp [a], by simp [foldW, ← h2, b], ?_, fun _ => rfl⟩
      rw [fitW, if_neg (by simp)]
      exact c
end Wb
namespace Wb
theorem splitS_ne : ∀ v : List UInt8, splitS v ≠ []
  | [] => by simp [splitS]
  | c :: l => by
    unfold splitS
    split
    · simp
    · cases h : splitS l <;> simp
theorem flat_split : ∀ v : List UInt8, flatW (splitS v) = 32 :: v
  | [] => rfl
  | c :: l => by
    have ih := flat_split l
    unfold splitS
    split
    · rename_i h; subst h
      rw [flatW, ih]; rfl
    · cases h : splitS l with
      | nil => exact absurd h (splitS_ne l)
      | cons w ws =>
        rw [h, flatW] at ih
        simp only [flatW, List.cons_append]
        simp only [List.cons.injEq, true_and] at ih
        rw [ih]
theorem flat_words (v : List UInt8) : flatW (wordsF v) = if v.isEmpty then [] else 32 :: v := by
  unfold wordsF
  split
  · rfl
  · exact flat_split v
theorem flat_mem : ∀ (ws : List (List UInt8)) (w : List UInt8), w ∈ ws → ∀ c ∈ w, c ∈ flatW ws
  | [], _, h, _, _ => by simp at h
  | x :: ws, w, h, c, hc => by
    rw [flatW]
    rcases List.mem_cons.1 h with rfl | h
    · simp [hc]
    · have := flat_mem ws w h c hc
      simp [this]
theorem prP_plain : ∀ (v : List UInt8) (p : Bool), prP p v = true → ∀ c ∈ v, 32 ≤ c.toNat ∧ c.toNat ≤ 126
  | [], _, _, _, h => by simp at h
  | c :: l, p, h, x, hx => by
    unfold prP at h
    simp only [Bool.and_eq_true, decide_eq_true_eq] at h
    rcases List.mem_cons.1 hx with rfl | hx
    · exact ⟨h.1.1.1, h.1.1.2⟩
    · exact prP_plain l _ h.2 x hx
theorem prP_head (c : UInt8) (l : List UInt8) (h : prP true (c :: l) = true) : blankB c = false := by
  unfold prP at h
  simp only [Bool.and_eq_true, decide_eq_true_eq, Bool.not_true, Bool.or_false] at h
  have h1 := h.1.1.1
  have h2 := h.1.2
  unfold blankB
  have h9 : (c == 9) = false := by
    apply Bool.eq_false_iff.2
    intro e
    have : c = 9 := by simpa using e
    subst this
    exact absurd h1 (by decide)
  have h3 : (c == 32) = false := by simpa using h2
  rw [h9, h3]; rfl
theorem words_range (v : List UInt8) (h : printableF v = true) : ∀ c ∈ flatW (wordsF v), 32 ≤ c.toNat ∧ c.toNat ≤ 126 := by
  rw [flat_words]
  cases v with
  | nil => intro c hc; simp at hc
  | cons c l =>
    have hp : prP true (c :: l) = true := by simpa [printableF] using h
    rw [if_neg (by simp)]
    intro x hx
    rcases List.mem_cons.1 hx with rfl | hx
    · decide
    · exact prP_plain _ _ hp x hx
theorem range_no13 (c : UInt8) (h : 32 ≤ c.toNat) : c ≠ 13 := fun e => by subst e; exact absurd h (by decide)
theorem named_facts (nm : List UInt8) (h : namedF nm = true) : nm ≠ [] ∧ nm.length ≤ 64 ∧ ∀ c ∈ nm, 33 ≤ c.toNat ∧ c.toNat ≤ 126 ∧ c ≠ 58 := by
  unfold namedF at h
  simp only [Bool.and_eq_true, decide_eq_true_eq, List.all_eq_true] at h
  refine ⟨fun e => by rw [e] at h; simp at h, h.2, fun c hc => ?_⟩
  have := h.1.1 c hc
  unfold nameC at this
  simp only [Bool.and_eq_true, decide_eq_true_eq, bne_iff_ne, ne_eq] at this
  exact ⟨this.1.1, this.1.2, this.2⟩
theorem fname_blank (c : UInt8) (h : 33 ≤ c.toNat) : blankB c = false := by
  unfold blankB
  have h9 : (c == 9) = false := by
    apply Bool.eq_false_iff.2
    intro e
    have : c = 9 := by simpa using e
    subst this
    exact absurd h (by decide)
  have h3 : (c == 32) = false := by
    apply Bool.eq_false_iff.2
    intro e
    have : c = 32 := by simpa using e
    subst this
    exact absurd h (by decide)
  rw [h9, h3]; rfl
theorem print_one (nm v t : List UInt8) (h : printF (nm, v) = some t) (hn : namedF nm = true) (hv : printableF v = true) :
    ∃ l : List (Bool × List UInt8), l.map Prod.snd = wordsF v ∧ t = (nm ++ [58]) ++ (foldW l ++ [13, 10]) ∧ fitW (nm ++ [58]).length l ∧ (∀ p ∈ l, ∀ c ∈ p.2, c ≠ 13) ∧ (∀ c ∈ nm ++ [58], c ≠ 13) := by
  obtain ⟨hne, h64, hc⟩ := named_facts nm hn
  unfold printF at h
  obtain ⟨r, h1, h2⟩ := Option.map_eq_some_iff.1 h
  obtain ⟨l, a, b, c, _⟩ := print_fold _ _ _ _ h1 (by simp; omega)
  refine ⟨l, a, by rw [← h2, b]; simp, by simpa using c, fun p hp x hx => ?_, fun x hx => ?_⟩
  · have := words_range v hv x (flat_mem _ p.2 (by rw [← a]; exact List.mem_map_of_mem hp) x hx)
    exact range_no13 x this.1
  · rcases List.mem_append.1 hx with hx | hx
    · exact range_no13 x (by have := (hc x hx).1; omega)
    · simp at hx; subst hx; decide
theorem parse_empty (f k : Nat) (h : 0 < f) : parseL f k [] = .error 2 := by
  obtain ⟨f, rfl⟩ : ∃ g, f = g + 1 := ⟨f - 1, by omega⟩
  rfl
end Wb
namespace Wb
def sizeF : List (List UInt8 × List UInt8) → Nat
  | [] => 0
  | p :: l => p.1.length + p.2.length + 1 + sizeF l
theorem split_len : ∀ v : List UInt8, (splitS v).length ≤ v.length + 1
  | [] => Nat.le_refl _
  | c :: l => by
    have ih := split_len l
    unfold splitS
    split
    · simp only [List.length_cons]; omega
    · cases h : splitS l with
      | nil => simp
      | cons w ws => rw [h] at ih; simp only [List.length_cons] at ih ⊢; omega
theorem fold_size : ∀ l : List (Bool × List UInt8), (foldW l).length ≤ (flatW (l.map Prod.snd)).length + 2 * l.length
  | [] => Nat.le_refl _
  | (b, w) :: l => by
    have ih := fold_size l
    rw [foldW, List.map_cons, flatW]
    cases b <;> simp only [List.length_cons, List.length_append, List.length_nil, if_true, Bool.false_eq_true, if_false] <;> omega
theorem print_size (nm v t : List UInt8) (h : printF (nm, v) = some t) (hn : namedF nm = true) (hv : printableF v = true) : t.length ≤ nm.length + 3 * v.length + 6 := by
  obtain ⟨l, a, b, _⟩ := print_one nm v t h hn hv
  have h1 := fold_size l
  have h2 : l.length ≤ v.length + 1 := by
    have : (l.map Prod.snd).length = l.length := List.length_map ..
    rw [← this, a]
    unfold wordsF
    split
    · simp
    · exact split_len v
  have h3 : (flatW (wordsF v)).length ≤ v.length + 1 := by rw [flat_words]; split <;> simp
  rw [a] at h1
  rw [b]
  simp only [List.length_append, List.length_cons, List.length_nil]
  omega
theorem printFs_size : ∀ (l : List (List UInt8 × List UInt8)) (s : List UInt8), printFs l = .ok s → s.length ≤ 6 * sizeF l + 2
  | [], s, h => by simp only [printFs, Except.ok.injEq] at h; subst h; exact Nat.le_refl _
  | (nm, v) :: l, s, h => by
    unfold printFs at h
    split at h
    · cases h
    rename_i h1
    split at h
    · cases h
    rename_i h2
    split at h
    · cases h
    rename_i t ht
    split at h
    · rename_i s' hs
      simp only [Except.ok.injEq] at h
      have h3 := printFs_size l s' hs
      have h4 := print_size nm v t ht (by simpa using h1) (by simpa using h2)
      rw [← h, sizeF]
      simp only [List.length_append]
      omega
    · cases h
end Wb
