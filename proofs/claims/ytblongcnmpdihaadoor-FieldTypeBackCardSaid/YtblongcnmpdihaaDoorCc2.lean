/- FdU FdV. -/
import Derived.Lib.IndexMore
import Derived.Lib.Fields
import Derived.Lib.TrimByte
import Derived.Lib.SlTrimSet
import Derived.Test.YtblongcnmpdihaaDoorCc1
namespace Wb
theorem low_low (c : UInt8) : lowC (lowC c) = lowC c := by
  unfold lowC
  by_cases h : 65 ≤ c.toNat ∧ c.toNat ≤ 90
  · have e : (c + 32).toNat = c.toNat + 32 := by rw [UInt8.toNat_add]; show (c.toNat + 32) % 256 = _; omega
    rw [if_pos h, if_neg (by omega)]
  · rw [if_neg h, if_neg h]
theorem lowF_low (s : List UInt8) : lowF (lowF s) = lowF s := by
  unfold lowF
  rw [List.map_map]
  exact List.map_congr_left fun c _ => low_low c
theorem lowF_len (s : List UInt8) : (lowF s).length = s.length := List.length_map ..
theorem has_false (out : List (List UInt8 × List UInt8)) (n : List UInt8) : hasF out n = false ↔ ∀ p ∈ out, lowF p.1 ≠ lowF n := by
  unfold hasF
  rw [List.any_eq_false]
  exact ⟨fun h p hp => by simpa using h p hp, fun h p hp => by simpa using h p hp⟩
theorem dup_false : ∀ (l out : List (List UInt8 × List UInt8)), dupF out l = false ↔ (∀ p ∈ l, hasF out p.1 = false) ∧ l.Pairwise (fun a b => lowF a.1 ≠ lowF b.1)
  | [], out => by simp [dupF]
  | p :: l, out => by
    rw [dupF, Bool.or_eq_false_iff, dup_false l, List.pairwise_cons]
    constructor
    · rintro ⟨h1, h2, h3⟩
      refine ⟨fun q hq => ?_, fun q hq => ?_, h3⟩
      · rcases List.mem_cons.1 hq with rfl | hq
        · exact h1
        · rw [has_false]
          exact fun x hx => (has_false _ _).1 (h2 q hq) x (by simp [hx])
      · have := (has_false _ _).1 (h2 q hq) (lowF p.1, p.2) (by simp)
        rwa [lowF_low] at this
    · rintro ⟨h1, h2, h3⟩
      refine ⟨h1 p (by simp), fun q hq => ?_, h3⟩
      rw [has_false]
      intro x hx
      rcases List.mem_append.1 hx with hx | hx
      · exact (has_false _ _).1 (h1 q (by simp [hq])) x hx
      · simp at hx
        subst hx
        rw [lowF_low]
        exact h2 q hq
theorem dup_iff (l : List (List UInt8 × List UInt8)) : dupF [] l = true ↔ ∃ (i k : Nat) (hi : i < l.length) (hk : k < i), lowF (l[i]).1 = lowF (l[k]'(by omega)).1 := by
  have h0 : dupF [] l = false ↔ l.Pairwise (fun a b => lowF a.1 ≠ lowF b.1) := by
    rw [dup_false]
    exact ⟨fun h => h.2, fun h => ⟨fun p _ => rfl, h⟩⟩
  rw [← Bool.not_eq_false, h0, List.pairwise_iff_getElem]
  constructor
  · intro h
    apply Classical.byContradiction
    intro hne
    apply h
    intro i j hi hj hij e
    exact hne ⟨j, i, hj, hij, e.symm⟩
  · rintro ⟨i, k, hi, hk, e⟩ h
    exact h k i (by omega) hi hk e.symm
def lowP (l : List (List UInt8 × List UInt8)) : List (List UInt8 × List UInt8) := l.map fun p => (lowF p.1, p.2)
theorem get_low : ∀ (l : List (List UInt8 × List UInt8)), dupF [] l = false → ∀ (i : Nat) (hi : i < l.length), getF (lowP l) (l[i]).1 = some (l[i]).2 := by
  intro l h
  have hp := ((dup_false l []).1 h).2
  clear h
  induction l with
  | nil => intro i hi; simp at hi
  | cons p l ih =>
    intro i hi
    rw [List.pairwise_cons] at hp
    cases i with
    | zero =>
      simp only [lowP, List.map_cons, getF, List.getElem_cons_zero]
      rw [if_pos (lowF_low _)]
    | succ i =>
      simp only [lowP, List.map_cons, getF, List.getElem_cons_succ]
      rw [lowF_low, if_neg (hp.1 _ (List.getElem_mem _))]
      exact ih hp.2 i (by simpa using hi)
def sizeF : List (List UInt8 × List UInt8) → Nat
  | [] => 0
  | p :: l => p.1.length + p.2.length + 1 + sizeF l
theorem escQ_len : ∀ v : List UInt8, (escQ v).length ≤ 2 * v.length
  | [] => Nat.le_refl _
  | c :: v => by
    have := escQ_len v
    unfold escQ
    split <;> simp only [List.length_cons] <;> omega
theorem quote_len (v : List UInt8) : (quoteF v).length ≤ 2 * v.length + 2 := by
  have := escQ_len v
  unfold quoteF
  split
  · omega
  · simp only [List.length_cons, List.length_append, List.length_nil]; omega
theorem printPs_size : ∀ (l : List (List UInt8 × List UInt8)) (s : List UInt8), printPs l = .ok s → s.length ≤ 5 * sizeF l
  | [], s, h => by simp only [printPs, Except.ok.injEq] at h; subst h; exact Nat.le_refl _
  | p :: l, s, h => by
    unfold printPs at h
    split at h
    · cases h
    split at h
    · cases h
    split at h
    · rename_i s' hs
      simp only [Except.ok.injEq] at h
      have h1 := printPs_size l s' hs
      have h2 := quote_len p.2
      rw [← h, sizeF]
      simp only [printPm, List.length_cons, List.length_append]
      omega
    · cases h
theorem split_len : ∀ v : List UInt8, (splitS v).length ≤ v.length + 1
  | [] => Nat.le_refl _
  | c :: l => by
    have ih := split_len l
    unfold splitS
    split
    · simp only [List.length_cons]; omega
    · cases h : splitS l with
      | nil => simp
      | cons w ws => rw [h] at ih; simp only [List.length_cons] at ih ⊢; omega
theorem fold_size : ∀ l : List (Bool × List UInt8), (foldW l).length ≤ (flatW (l.map Prod.snd)).length + 2 * l.length
  | [] => Nat.le_refl _
  | (b, w) :: l => by
    have ih := fold_size l
    rw [foldW, List.map_cons, flatW]
    cases b <;> simp only [List.length_cons, List.length_append, List.length_nil, if_true, Bool.false_eq_true, if_false] <;> omega
theorem print_size (nm v t : List UInt8) (h : printF (nm, v) = some t) (hn : namedF nm = true) (hv : printableF v = true) : t.length ≤ nm.length + 3 * v.length + 6 := by
  obtain ⟨l, a, b, _⟩ := print_one nm v t h hn hv
  have h1 := fold_size l
  have h2 : l.length ≤ v.length + 1 := by
    have : (l.map Prod.snd).length = l.length := List.length_map ..
    rw [← this, a]
    unfold wordsF
    split
    · simp
    · exact split_len v
  have h3 : (flatW (wordsF v)).length ≤ v.length + 1 := by rw [flat_words]; split <;> simp
  rw [a] at h1
  rw [b]
  simp only [List.length_append, List.length_cons, List.length_nil]
  omega
end Wb
namespace Wb
open Go
theorem lib_contains_cons (b : UInt8) (l sub : List UInt8) : Lib.contains (b :: l) sub = (sub.isPrefixOf (b :: l) || Lib.contains l sub) := by
  unfold Lib.contains
  rw [Lib.index]
  have := Lib.index_ge l sub
  cases h : sub.isPrefixOf (b :: l)
  · rw [Bool.false_or, if_neg (by simp)]
    by_cases hm : Lib.index l sub = -1
    · rw [hm]; rfl
    · rw [if_neg (by simpa using hm)]
      rw [decide_eq_true (show 0 ≤ Lib.index l sub + 1 by omega), decide_eq_true (show 0 ≤ Lib.index l sub by omega)]
  · simp
def dblS : List UInt8 → Bool
  | [] => false
  | a :: l => (a == 32 && (l.head?.map (· == 32)).getD false) || dblS l
theorem contains_dbl : ∀ v : List UInt8, Lib.contains v [32, 32] = dblS v
  | [] => rfl
  | a :: l => by
    rw [lib_contains_cons, contains_dbl l, dblS]
    congr 1
    cases l with
    | nil => simp [List.isPrefixOf]
    | cons b l =>
      simp only [List.isPrefixOf, List.head?_cons, Option.map_some, Option.getD_some, Bool.and_true]
      rw [show ((32 : UInt8) == a) = (a == 32) from Bool.beq_comm, show ((32 : UInt8) == b) = (b == 32) from Bool.beq_comm]
def rngC (c : UInt8) : Bool := decide (32 ≤ c.toNat) && decide (c.toNat ≤ 126)
def headP (p : Bool) (v : List UInt8) : Bool := !(p && (v.head?.map (· == 32)).getD false)
def lastP : Bool → List UInt8 → Bool
  | p, [] => !p
  | _, c :: l => lastP (c == 32) l
theorem prP_parts : ∀ (v : List UInt8) (p : Bool), prP p v = (v.all rngC && !dblS v && headP p v && lastP p v)
  | [], p => by simp [prP, dblS, headP, lastP]
  | c :: l, p => by
    rw [prP, prP_parts l, List.all_cons, dblS, lastP]
    unfold headP rngC
    simp only [List.head?_cons, Option.map_some, Option.getD_some, bne]
    cases (decide (32 ≤ c.toNat)) <;> cases (decide (c.toNat ≤ 126)) <;> cases (c == 32) <;> cases p <;> cases (dblS l) <;> cases (l.all fun c => decide (32 ≤ c.toNat) && decide (c.toNat ≤ 126)) <;> cases ((l.head?.map (· == 32)).getD false) <;> simp
theorem dropW_self (p : UInt8 → Bool) (l : List UInt8) : l.dropWhile p = l ↔ (l.head?.map p).getD false = false := by
  cases l with
  | nil => simp
  | cons c l =>
    rw [List.dropWhile_cons]
    cases h : p c
    · simp [h]
    · simp only [if_true, List.head?_cons, Option.map_some, h, Option.getD_some, Bool.true_eq_false, iff_false]
      intro e
      have := (List.dropWhile_suffix p (l := l)).length_le
      rw [e, List.length_cons] at this
      omega
theorem getLast_rev (l : List UInt8) : l.reverse.head? = l.getLast? := by rw [List.head?_reverse]
theorem trim_self (v : List UInt8) : Lib.trimB v 32 = v ↔ (v.head?.map (· == 32)).getD false = false ∧ (v.getLast?.map (· == 32)).getD false = false := by
  unfold Lib.trimB Lib.trimLeftB Lib.trimRightB
  constructor
  · intro h
    have h1 := (List.dropWhile_suffix (· == (32 : UInt8)) (l := (v.reverse.dropWhile (· == 32)).reverse)).length_le
    rw [h, List.length_reverse] at h1
    have h2 := List.dropWhile_suffix (· == (32 : UInt8)) (l := v.reverse)
    have h3 := h2.length_le
    rw [List.length_reverse] at h3
    have h4 : v.reverse.dropWhile (· == 32) = v.reverse := h2.eq_of_length (by rw [List.length_reverse]; omega)
    rw [h4, List.reverse_reverse] at h
    refine ⟨(dropW_self _ _).1 h, ?_⟩
    have := (dropW_self _ _).1 h4
    rwa [getLast_rev] at this
  · rintro ⟨h1, h2⟩
    rw [(dropW_self _ v.reverse).2 (by rw [getLast_rev]; exact h2), List.reverse_reverse, (dropW_self _ v).2 h1]
theorem lastP_last : ∀ (l : List UInt8) (p : Bool), lastP p l = !((l.getLast?.map (· == 32)).getD p)
  | [], p => by simp [lastP]
  | [c], p => by simp [lastP]
  | c :: d :: l, p => by
    rw [lastP, lastP_last (d :: l), List.getLast?_cons_cons]
    obtain ⟨x, hx⟩ : ∃ x, (d :: l).getLast? = some x := ⟨_, List.getLast?_cons⟩
    rw [hx]
    rfl
def progV (v : List UInt8) : Bool := !Lib.contains v [32, 32] && decide (Lib.trimB v 32 = v) && v.all (fun c => c != 9 && plainC c)
theorem rng_plain (c : UInt8) : (c != 9 && plainC c) = rngC c := by
  unfold plainC rngC
  by_cases h : c = 9
  · subst h; decide
  · rw [show (c == 9) = false by simpa using h, show (c != 9) = true by simpa using h]
    rfl
theorem prog_printable (v : List UInt8) : progV v = printableF v := by
  unfold progV printableF
  rw [contains_dbl, show (fun c => c != 9 && plainC c) = rngC from funext rng_plain]
  cases v with
  | nil => rfl
  | cons c l =>
    rw [prP_parts, lastP_last]
    unfold headP
    have e : decide (Lib.trimB (c :: l) 32 = c :: l) = (!(((c :: l).head?.map (· == 32)).getD false) && !(((c :: l).getLast?.map (· == 32)).getD true)) := by
      obtain ⟨x, hx⟩ : ∃ x, (c :: l).getLast? = some x := ⟨_, List.getLast?_cons⟩
      have h := trim_self (c :: l)
      rw [hx] at h ⊢
      simp only [List.head?_cons, Option.map_some, Option.getD_some] at h ⊢
      rw [Bool.eq_iff_iff, decide_eq_true_eq, h]
      simp
    rw [e]
    simp only [List.isEmpty_cons, Bool.false_or, Bool.true_and]
    cases dblS (c :: l) <;> cases (c :: l).all rngC <;> simp
theorem isSp_rng (c : UInt8) (h : rngC c = true) : Lib.isSp c = (c == 32) := by
  unfold rngC at h
  simp only [Bool.and_eq_true, decide_eq_true_eq] at h
  unfold Lib.isSp
  have n : ∀ k : UInt8, k.toNat < 32 → (c == k) = false := fun k hk => by
    rw [beq_eq_false_iff_ne]
    intro e
    subst e
    omega
  rw [n 9 (by decide), n 10 (by decide), n 11 (by decide), n 12 (by decide), n 13 (by decide)]
  simp
theorem fields_split : ∀ (v cur : List UInt8), prP cur.isEmpty v = true → ∃ a r, splitS v = a :: r ∧ Lib.fieldsGo cur v = (cur ++ a) :: r
  | [], cur, h => by
    cases cur with
    | nil => simp [prP] at h
    | cons x cur => exact ⟨[], [], rfl, by simp [Lib.fieldsGo]⟩
  | c :: l, cur, h => by
    rw [prP] at h
    simp only [Bool.and_eq_true] at h
    have hs := isSp_rng c (by unfold rngC; rw [h.1.1.1, h.1.1.2]; rfl)
    by_cases hc : c = 32
    · subst hc
      have hcur : cur ≠ [] := by
        intro e; subst e
        simp at h
      obtain ⟨a, r, h1, h2⟩ := fields_split l [] (by simpa using h.2)
      refine ⟨[], a :: r, by rw [splitS, if_pos rfl, h1], ?_⟩
      rw [Lib.fieldsGo_end cur 32 l (by rw [hs]; rfl) hcur, h2]
      simp
    · have hb : (c == 32) = false := by simpa using hc
      obtain ⟨a, r, h1, h2⟩ := fields_split l (cur ++ [c]) (by rw [show (cur ++ [c]).isEmpty = (c == 32) from by rw [hb]; cases cur <;> rfl]; exact h.2)
      refine ⟨c :: a, r, by rw [splitS, if_neg hc, h1], ?_⟩
      rw [Lib.fieldsGo_more cur c l (by rw [hs, hb]), h2]
      simp
theorem fields_words (v : List UInt8) (h : printableF v = true) : Lib.fields v = wordsF v := by
  unfold wordsF
  cases v with
  | nil => rfl
  | cons c l =>
    unfold printableF at h
    simp only [List.isEmpty_cons, Bool.false_or] at h
    obtain ⟨a, r, h1, h2⟩ := fields_split (c :: l) [] h
    rw [if_neg (by simp), h1, Lib.fields, h2]
    rfl
def foldG : List UInt8 → Bool → List (List UInt8) → List (List UInt8)
  | line, _, [] => [line]
  | line, first, w :: ws => if (!first && decide (76 < line.length + 1 + w.length)) = true then line :: foldG (32 :: w) false ws else foldG (line ++ 32 :: w) false ws
def longB (ls : List (List UInt8)) : Bool := ls.any fun l => decide (998 < l.length)
def endL (ls : List (List UInt8)) : List UInt8 := ls.flatMap fun l => l ++ [13, 10]
theorem foldG_long : ∀ (ws : List (List UInt8)) (line : List UInt8) (first : Bool), 998 < line.length → longB (foldG line first ws) = true
  | [], line, first, h => by simp [foldG, longB, h]
  | w :: ws, line, first, h => by
    rw [foldG]
    split
    · simp [longB, h]
    · exact foldG_long ws _ _ (by simp; omega)
theorem foldG_print : ∀ (ws : List (List UInt8)) (line : List UInt8) (first : Bool), line.length ≤ 998 →
    (printWs line.length first ws = none ∧ longB (foldG line first ws) = true) ∨ ∃ r, printWs line.length first ws = some r ∧ longB (foldG line first ws) = false ∧ endL (foldG line first ws) = line ++ (r ++ [13, 10])
  | [], line, first, h => Or.inr ⟨[], rfl, by simp [foldG, longB, h], by simp [foldG, endL]⟩
  | w :: ws, line, first, h => by
    rw [foldG, printWs]
    by_cases hf : (!first && decide (76 < line.length + 1 + w.length)) = true
    · simp only [hf, if_true]
      have e : (32 :: w).length = 0 + 1 + w.length := by simp; omega
      by_cases hl : 998 < 0 + 1 + w.length
      · rw [if_pos hl]
        exact Or.inl ⟨rfl, by rw [longB, List.any_cons, show (foldG (32 :: w) false ws).any _ = longB (foldG (32 :: w) false ws) from rfl, foldG_long ws _ false (by rw [e]; exact hl), Bool.or_true]⟩
      · rw [if_neg hl]
        rcases foldG_print ws (32 :: w) false (by omega) with ⟨h1, h2⟩ | ⟨r, h1, h2, h3⟩
        · rw [e] at h1
          exact Or.inl ⟨by rw [h1]; rfl, by rw [longB, List.any_cons, show (foldG (32 :: w) false ws).any _ = longB (foldG (32 :: w) false ws) from rfl, h2, Bool.or_true]⟩
        · rw [e] at h1
          refine Or.inr ⟨_, by rw [h1]; rfl, ?_, ?_⟩
          · rw [longB, List.any_cons, show (foldG (32 :: w) false ws).any _ = longB (foldG (32 :: w) false ws) from rfl, h2, decide_eq_false (by omega)]; rfl
          · rw [endL, List.flatMap_cons, show (foldG (32 :: w) false ws).flatMap _ = endL (foldG (32 :: w) false ws) from rfl, h3]; simp
    · simp only [hf, Bool.false_eq_true, if_false]
      have e : (line ++ 32 :: w).length = line.length + 1 + w.length := by simp; omega
      by_cases hl : 998 < line.length + 1 + w.length
      · rw [if_pos hl]
        exact Or.inl ⟨rfl, foldG_long ws _ false (by rw [e]; exact hl)⟩
      · rw [if_neg hl]
        rcases foldG_print ws (line ++ 32 :: w) false (by omega) with ⟨h1, h2⟩ | ⟨r, h1, h2, h3⟩
        · rw [e] at h1
          exact Or.inl ⟨by rw [h1]; rfl, h2⟩
        · rw [e] at h1
          exact Or.inr ⟨_, by rw [h1]; rfl, h2, by rw [h3]; simp⟩
def linesF (f : List UInt8 × List UInt8) : List (List UInt8) := foldG (f.1 ++ [58]) true (wordsF f.2)
theorem linesF_print (f : List UInt8 × List UInt8) (h : f.1.length ≤ 64) : (printF f = none ∧ longB (linesF f) = true) ∨ (∃ t, printF f = some t ∧ longB (linesF f) = false ∧ endL (linesF f) = t) := by
  unfold printF linesF
  have e : (f.1 ++ [58]).length = f.1.length + 1 := by simp
  rcases foldG_print (wordsF f.2) (f.1 ++ [58]) true (by omega) with ⟨h1, h2⟩ | ⟨r, h1, h2, h3⟩
  · rw [e] at h1
    exact Or.inl ⟨by rw [h1]; rfl, h2⟩
  · rw [e] at h1
    exact Or.inr ⟨_, by rw [h1]; rfl, h2, by rw [h3]; simp⟩
end Wb
