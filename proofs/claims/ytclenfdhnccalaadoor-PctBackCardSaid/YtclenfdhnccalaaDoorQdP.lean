
/- Bytes of URIs by percent signs, plainly: encoded, decoded, pieces. No program in sight. -/
import Derived.Test.YtclenfdhnccalaaDoorPlain2
namespace Wb
/-- Plain bytes. -/
def plC (c : UInt8) : Bool := (decide (97 ≤ c.toNat) && decide (c.toNat ≤ 122)) || (decide (65 ≤ c.toNat) && decide (c.toNat ≤ 90)) || (decide (48 ≤ c.toNat) && decide (c.toNat ≤ 57)) ||
  c == 45 || c == 46 || c == 95 || c == 126
/-- A digit to the base 16, great; its number. -/
def hexG (n : Nat) : UInt8 := if n < 10 then UInt8.ofNat (48 + n) else UInt8.ofNat (55 + n)
def dgV (c : UInt8) : Int :=
  if 48 ≤ c.toNat ∧ c.toNat ≤ 57 then c.toNat - 48 else if 65 ≤ c.toNat ∧ c.toNat ≤ 70 then c.toNat - 55 else if 97 ≤ c.toNat ∧ c.toNat ≤ 102 then c.toNat - 87 else -1
/-- Encoded. -/
def pctC (keep : List UInt8) (c : UInt8) : List UInt8 := if ((plC c || keep.contains c) && c != 37) = true then [c] else [37, hexG (c.toNat / 16), hexG (c.toNat % 16)]
def pctE (keep s : List UInt8) : List UInt8 := s.flatMap (pctC keep)
/-- Each escape as its byte. -/
def pctD : List UInt8 → Option (List UInt8)
  | [] => some []
  | c :: l => if c = 37 then
      match l with
      | a :: b :: r => if dgV a < 0 ∨ dgV b < 0 then none else (pctD r).map (UInt8.ofNat (dgV a * 16 + dgV b).toNat :: ·)
      | _ => none
    else (pctD l).map (c :: ·)
/-- Decoded, with the error's number. -/
def decP (s : List UInt8) : List UInt8 × Int := match pctD s with
  | none => ([], 32)
  | some t => if 0 ≤ chk t then ([], 10) else (t, 0)
/-- Pieces; what stands ahead of the next one is kept. -/
def pieceA (by_ : UInt8) : List UInt8 → List UInt8 → List (List UInt8)
  | cur, [] => [cur]
  | cur, c :: l => if c = by_ then cur :: pieceA by_ [] l else pieceA by_ (cur ++ [c]) l
def pieceF (by_ : UInt8) (s : List UInt8) : List (List UInt8) := pieceA by_ [] s
/-- Put together again. -/
def joinB (by_ : UInt8) : List (List UInt8) → List UInt8
  | [] => []
  | [x] => x
  | x :: y :: r => x ++ by_ :: joinB by_ (y :: r)

theorem pctD_one {c : UInt8} (l : List UInt8) (h : c ≠ 37) : pctD (c :: l) = (pctD l).map (c :: ·) := by
  match l with
  | [] => rw [pctD.eq_def]; simp only [h, if_false]
  | [x] => rw [pctD.eq_def]; simp only [h, if_false]
  | x :: y :: r => rw [pctD.eq_def]; simp only [h, if_false]
theorem pctD_esc (a b : UInt8) (r : List UInt8) : pctD (37 :: a :: b :: r) = if dgV a < 0 ∨ dgV b < 0 then none else (pctD r).map (UInt8.ofNat (dgV a * 16 + dgV b).toNat :: ·) := by
  rw [pctD, if_pos rfl]
theorem pctD_end {l : List UInt8} (h : l.length < 2) : pctD (37 :: l) = none := by
  match l, h with
  | [], _ => rfl
  | [x], _ => rfl
theorem dgV_bd (c : UInt8) : dgV c = -1 ∨ (0 ≤ dgV c ∧ dgV c ≤ 15) := by
  unfold dgV
  repeat' split
  all_goals omega
theorem hexG_nat (n : Nat) (h : n < 16) : (hexG n).toNat = if n < 10 then 48 + n else 55 + n := by
  unfold hexG
  split
  · rw [UInt8.toNat_ofNat']; omega
  · rw [UInt8.toNat_ofNat']; omega
theorem dgV_hex (n : Nat) (h : n < 16) : dgV (hexG n) = n := by
  have h2 := hexG_nat n h
  unfold dgV
  rw [h2]
  repeat' split
  all_goals omega
theorem plC_hex (n : Nat) (h : n < 16) : plC (hexG n) = true := by
  have h2 := hexG_nat n h
  unfold plC
  rw [h2]
  simp only [Bool.or_eq_true, Bool.and_eq_true, decide_eq_true_eq]
  split <;> omega
theorem byte_two (c : UInt8) : UInt8.ofNat (((c.toNat / 16 : Nat) : Int) * 16 + ((c.toNat % 16 : Nat) : Int)).toNat = c := by
  apply UInt8.toNat_inj.1
  have := c.toNat_lt
  rw [UInt8.toNat_ofNat']
  omega
theorem pctC_dec (keep l : List UInt8) (c : UInt8) : pctD (pctC keep c ++ l) = (pctD l).map (c :: ·) := by
  have hc := c.toNat_lt
  unfold pctC
  split
  · rename_i h
    have : c ≠ 37 := by
      rw [Bool.and_eq_true, bne_iff_ne] at h
      exact h.2
    rw [List.singleton_append, pctD_one _ this]
  · rw [List.cons_append, List.cons_append, List.cons_append, List.nil_append, pctD_esc]
    have h1 := dgV_hex (c.toNat / 16) (by omega)
    have h2 := dgV_hex (c.toNat % 16) (by omega)
    rw [h1, h2, if_neg (by omega), byte_two]
theorem pct_back (keep : List UInt8) : ∀ s : List UInt8, pctD (pctE keep s) = some s
  | [] => rfl
  | c :: l => by
    have := pct_back keep l
    unfold pctE at this ⊢
    rw [List.flatMap_cons, pctC_dec, this]
    rfl
theorem pctE_append (keep s t : List UInt8) : pctE keep (s ++ t) = pctE keep s ++ pctE keep t := by
  unfold pctE
  rw [List.flatMap_append]
theorem pctC_len (keep : List UInt8) (c : UInt8) : 1 ≤ (pctC keep c).length ∧ (pctC keep c).length ≤ 3 := by
  unfold pctC
  split <;> simp
theorem pctE_len (keep : List UInt8) : ∀ s : List UInt8, (pctE keep s).length ≤ 3 * s.length
  | [] => Nat.le_refl _
  | c :: l => by
    have := pctE_len keep l
    have h := (pctC_len keep c).2
    unfold pctE at this ⊢
    rw [List.flatMap_cons, List.length_append, List.length_cons]
    omega
/-- What an encoded text's bytes are. -/
theorem pctE_mem (keep s : List UInt8) : ∀ c ∈ pctE keep s, plC c = true ∨ c = 37 ∨ keep.contains c = true := by
  intro c h
  unfold pctE at h
  obtain ⟨d, _, h⟩ := List.mem_flatMap.1 h
  have hd := d.toNat_lt
  unfold pctC at h
  split at h
  · rename_i hk
    rw [List.mem_singleton] at h
    subst h
    rw [Bool.and_eq_true, Bool.or_eq_true] at hk
    exact hk.1.elim .inl fun h => .inr (.inr h)
  · simp only [List.mem_cons, List.not_mem_nil, or_false] at h
    rcases h with rfl | rfl | rfl
    · exact .inr (.inl rfl)
    · exact .inl (plC_hex _ (by omega))
    · exact .inl (plC_hex _ (by omega))
theorem plC_low {c : UInt8} (h : plC c = true) : c.toNat < 128 := by
  unfold plC at h
  simp only [Bool.or_eq_true, Bool.and_eq_true, decide_eq_true_eq, beq_iff_eq] at h
  rcases h with (((((h | h) | h) | rfl) | rfl) | rfl) | rfl
  · omega
  · omega
  · omega
  all_goals decide
theorem dec_low (c : UInt8) (l : List UInt8) (h : c.toNat < 128) : dec (c :: l) = ((c.toNat : Int), 1) := by
  have hs : sgn (c.toNat : Int) = true := (sgn_iff _).2 (by omega)
  have he : enc (c.toNat : Int) = [c] := by
    unfold enc
    rw [if_pos hs, if_pos (by omega), b8_of c _ rfl]
  have hl : slen (c.toNat : Int) = 1 := by
    unfold slen
    rw [if_pos hs, if_pos (by omega)]
  have := dec_enc (c.toNat : Int) hs l
  rw [he, hl] at this
  exact this
theorem chkL_low : ∀ (l : List UInt8) (f : Nat) (b : Int), (∀ c ∈ l, c.toNat < 128) → chkL f l b = -1
  | _, 0, _, _ => rfl
  | [], _ + 1, _, _ => rfl
  | c :: l, f + 1, b, h => by
    have hd := dec_low c l (h c List.mem_cons_self)
    rw [chkL, hd, if_neg (by omega)]
    exact chkL_low l f _ fun x hx => h x (List.mem_cons_of_mem _ hx)
/-- A text of bytes below 128 is signs throughout. -/
theorem chk_low {l : List UInt8} (h : ∀ c ∈ l, c.toNat < 128) : chk l = -1 := chkL_low l _ _ h
theorem chk_pct {keep : List UInt8} (s : List UInt8) (hk : ∀ c ∈ keep, c.toNat < 128) : chk (pctE keep s) = -1 := by
  refine chk_low fun c hc => ?_
  rcases pctE_mem keep s c hc with h | rfl | h
  · exact plC_low h
  · decide
  · exact hk c (List.contains_iff_mem.1 h)
/-- PctBack, plainly. -/
theorem decP_back (keep s : List UInt8) : decP (pctE keep s) = if 0 ≤ chk s then ([], 10) else (s, 0) := by
  unfold decP
  rw [pct_back]
theorem decP_again {keep : List UInt8} (s : List UInt8) (hk : ∀ c ∈ keep, c.toNat < 128) : decP (pctE keep (pctE keep s)) = (pctE keep s, 0) := by
  rw [decP_back, chk_pct s hk, if_neg (by omega)]
/-- Two texts that are decoded. -/
theorem pctD_append (t : List UInt8) : ∀ (n : Nat) (s a : List UInt8), s.length ≤ n → pctD s = some a → pctD (s ++ t) = (pctD t).map (a ++ ·)
  | _, [], a, _, h => by
    rw [pctD] at h
    cases h
    rw [List.nil_append]
    cases pctD t <;> rfl
  | 0, c :: l, _, hn, _ => by simp at hn
  | n + 1, c :: l, a, hn, h => by
    rw [List.length_cons] at hn
    by_cases hc : c = 37
    · subst hc
      match l, hn, h with
      | x :: y :: r, hn, h =>
        simp only [List.length_cons] at hn
        rw [pctD_esc] at h
        rw [List.cons_append, List.cons_append, List.cons_append, pctD_esc]
        split at h
        · cases h
        · rename_i hx
          rw [if_neg hx]
          obtain ⟨b, hb, rfl⟩ := Option.map_eq_some_iff.1 h
          rw [pctD_append t n r b (by omega) hb, Option.map_map]
          rfl
      | [x], _, h =>
        rw [pctD_end (by simp)] at h
        cases h
      | [], _, h =>
        rw [pctD_end (by simp)] at h
        cases h
    · rw [pctD_one _ hc] at h
      rw [List.cons_append, pctD_one _ hc]
      obtain ⟨b, hb, rfl⟩ := Option.map_eq_some_iff.1 h
      rw [pctD_append t n l b (by omega) hb, Option.map_map]
      rfl
theorem decP_ok {s a : List UInt8} {e : Int} (h : decP s = (a, e)) (he : e = 0) : pctD s = some a ∧ chk a = -1 := by
  unfold decP at h
  subst he
  split at h
  · cases h
  · rename_i t ht
    split at h
    · cases h
    · rename_i hc
      cases h
      refine ⟨ht, ?_⟩
      rcases chk_bd a with h | h
      · exact h
      · omega
theorem decP_append {s t a b : List UInt8} (h : decP s = (a, 0)) (h2 : decP t = (b, 0)) : decP (s ++ t) = (a ++ b, 0) := by
  obtain ⟨h3, h4⟩ := decP_ok h rfl
  obtain ⟨h5, h6⟩ := decP_ok h2 rfl
  unfold decP
  rw [pctD_append t _ s a (Nat.le_refl _) h3, h5]
  show (if 0 ≤ chk (a ++ b) then _ else _) = _
  rw [chk_two a b h4, h6]
  rfl
theorem pctD_len : ∀ (n : Nat) (s a : List UInt8), s.length ≤ n → pctD s = some a → a.length ≤ s.length
  | _, [], a, _, h => by
    rw [pctD] at h
    cases h
    exact Nat.le_refl _
  | 0, c :: l, _, hn, _ => by simp at hn
  | n + 1, c :: l, a, hn, h => by
    rw [List.length_cons] at hn ⊢
    by_cases hc : c = 37
    · subst hc
      match l, hn, h with
      | x :: y :: r, hn, h =>
        simp only [List.length_cons] at hn ⊢
        rw [pctD_esc] at h
        split at h
        · cases h
        · obtain ⟨b, hb, rfl⟩ := Option.map_eq_some_iff.1 h
          have := pctD_len n r b (by omega) hb
          rw [List.length_cons]
          omega
      | [x], _, h =>
        rw [pctD_end (by simp)] at h
        cases h
      | [], _, h =>
        rw [pctD_end (by simp)] at h
        cases h
    · rw [pctD_one _ hc] at h
      obtain ⟨b, hb, rfl⟩ := Option.map_eq_some_iff.1 h
      have := pctD_len n l b (by omega) hb
      rw [List.length_cons]
      omega
theorem decP_len (s : List UInt8) : (decP s).1.length ≤ s.length := by
  unfold decP
  split
  · simp
  · rename_i t ht
    split
    · simp
    · exact pctD_len _ s t (Nat.le_refl _) ht
end Wb
