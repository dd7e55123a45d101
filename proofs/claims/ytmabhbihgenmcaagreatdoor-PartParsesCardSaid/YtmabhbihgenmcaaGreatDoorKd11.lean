/- QaP QaQ QaR QaS QaT. -/
import Derived.Test.YtmabhbihgenmcaaGreatDoorKd10
namespace Wb
def bndC (c : UInt8) : Bool := (decide (48 ≤ c.toNat) && decide (c.toNat ≤ 57)) || (decide (65 ≤ c.toNat) && decide (c.toNat ≤ 90)) || (decide (97 ≤ c.toNat) && decide (c.toNat ≤ 122)) ||
  ([39, 40, 41, 43, 95, 44, 45, 46, 47, 58, 61, 63] : List UInt8).contains c
def bndF (b : List UInt8) : Bool := b.all bndC && decide (1 ≤ b.length) && decide (b.length ≤ 70)
def delB (b : List UInt8) : List UInt8 := 45 :: 45 :: b
def lineD (b : List UInt8) : List UInt8 := 13 :: 10 :: 45 :: 45 :: b
def inF (t : List UInt8) : List UInt8 → Bool
  | [] => t.isEmpty
  | c :: l => t.isPrefixOf (c :: l) || inF t l
abbrev Pt := List (List UInt8 × List UInt8) × List UInt8
def clashB (b body : List UInt8) : Bool := inF (lineD b) (13 :: 10 :: body)
def clashH (b : List UInt8) (fs : List (List UInt8 × List UInt8)) : Bool := fs.any fun f => (delB b).isPrefixOf (f.1 ++ [58])
def clashP (b : List UInt8) (p : Pt) : Bool := clashB b p.2 || clashH b p.1
def clashL (b : List UInt8) (l : List Pt) : Bool := l.any (clashP b)
def printH (fs : List (List UInt8 × List UInt8)) : Except Int (List UInt8) := if 8 < fs.length then .error 3 else printFs fs
def partsM (b : List UInt8) : List Pt → Except Int (List UInt8)
  | [] => .ok (delB b ++ [45, 45, 13, 10])
  | p :: l => match printH p.1 with
    | .error e => .error e
    | .ok h => match partsM b l with
      | .error e => .error e
      | .ok s => .ok (delB b ++ 13 :: 10 :: (h ++ (p.2 ++ 13 :: 10 :: s)))
def printM (b : List UInt8) (l : List Pt) : Except Int (List UInt8) :=
  if bndF b = false ∨ clashL b l = true then .error 30 else if 40 < l.length then .error 3 else if l.length = 0 then .error 2 else partsM b l
def findD (b : List UInt8) : List UInt8 → Option (List UInt8 × List UInt8)
  | [] => none
  | c :: l => if (lineD b).isPrefixOf (c :: l) = true then some ([], l.drop 1) else (findD b l).map fun r => (c :: r.1, r.2)
def nextD (b s : List UInt8) : Option (List UInt8 × List UInt8) := if (delB b).isPrefixOf s = true then some ([], s) else findD b s
def parsePs : Nat → List UInt8 → Nat → List UInt8 → Except Int (List Pt)
  | 0, _, _, _ => .error 0
  | f + 1, b, k, s =>
    let r := s.drop (2 + b.length)
    if ([45, 45] : List UInt8).isPrefixOf r = true then (if k = 0 then .error 2 else .ok []) else
    let r2 := r.dropWhile blankB
    if ([13, 10] : List UInt8).isPrefixOf r2 = false then .error 4 else match nextD b (r2.drop 2) with
    | none => .error 2
    | some (t, r3) => if k = 40 then .error 3 else match parseL (t.length + 1) 0 t with
      | .error e => .error e
      | .ok (fs, body) => match parsePs f b (k + 1) r3 with
        | .error e => .error e
        | .ok l => .ok ((fs, body) :: l)
def parseM (b s : List UInt8) : Except Int (List Pt) := if bndF b = false then .error 30 else match nextD b s with
  | none => .error 30
  | some (_, r) => parsePs (s.length + 1) b 0 r
theorem inF_cons {t : List UInt8} {c : UInt8} {l : List UInt8} : inF t (c :: l) = false ↔ t.isPrefixOf (c :: l) = false ∧ inF t l = false := by
  rw [inF, Bool.or_eq_false_iff]
theorem pre_len {t s : List UInt8} (h : t.isPrefixOf s = true) : t.length ≤ s.length := (List.isPrefixOf_iff_prefix.1 h).length_le
theorem pre_cut {b : List UInt8} (hb : ∀ c ∈ b, c ≠ 13) {U V : List UInt8} (hU : U ≠ []) (hn : (lineD b).isPrefixOf U = false) : (lineD b).isPrefixOf (U ++ 13 :: V) = false := by
  cases hq : (lineD b).isPrefixOf (U ++ 13 :: V)
  · rfl
  · exfalso
    have hp := List.isPrefixOf_iff_prefix.1 hq
    by_cases hl : (lineD b).length ≤ U.length
    · have h2 : lineD b <+: U := List.prefix_of_prefix_length_le hp (List.prefix_append _ _) hl
      rw [List.isPrefixOf_iff_prefix.2 h2] at hn
      cases hn
    · have hU1 : 1 ≤ U.length := by
        cases U with
        | nil => exact absurd rfl hU
        | cons a r => simp
      have hi : U.length < (lineD b).length := by omega
      have h1 := List.prefix_iff_getElem?.1 hp U.length hi
      rw [List.getElem?_append_right (by omega), Nat.sub_self] at h1
      simp only [List.getElem?_cons_zero, Option.some.injEq] at h1
      have hm : (lineD b)[U.length]? = some 13 := by rw [List.getElem?_eq_getElem hi, h1]
      have hk : ∃ j, U.length = j + 1 := ⟨U.length - 1, by omega⟩
      obtain ⟨j, hj⟩ := hk
      rw [hj] at hm
      unfold lineD at hm
      rw [List.getElem?_cons_succ] at hm
      have := List.mem_of_getElem? hm
      simp only [List.mem_cons] at this
      rcases this with h | h | h | h
      · cases h
      · cases h
      · cases h
      · exact hb 13 h rfl
end Wb
namespace Wb
theorem findD_two (b Y : List UInt8) : findD b (13 :: 10 :: Y) = if (delB b).isPrefixOf Y = true then some ([], 10 :: Y |>.drop 1) else (findD b Y).map fun r => (13 :: 10 :: r.1, r.2) := by
  rw [findD]
  have hl : (lineD b).isPrefixOf (13 :: 10 :: Y) = (delB b).isPrefixOf Y := by
    unfold lineD delB
    rw [List.isPrefixOf_cons_cons, List.isPrefixOf_cons_cons]
    rfl
  rw [hl]
  split
  · rfl
  · rw [findD, if_neg (by unfold lineD; rw [List.isPrefixOf_cons_cons, show ((13 : UInt8) == 10) = false from by decide]; simp)]
    cases findD b Y <;> rfl
theorem inF_none {b : List UInt8} : ∀ L : List UInt8, (∀ c ∈ L, c ≠ 13) → inF (lineD b) L = false
  | [], _ => rfl
  | c :: L, h => by
    rw [inF_cons]
    refine ⟨?_, inF_none L fun x hx => h x (by simp [hx])⟩
    unfold lineD
    rw [List.isPrefixOf_cons_cons]
    have : ((13 : UInt8) == c) = false := by
      rw [beq_eq_false_iff_ne]
      exact fun e => h c (by simp) e.symm
    rw [this]
    rfl
theorem inF_line {b L : List UInt8} (h : ∀ c ∈ L, c ≠ 13) (hd : (delB b).isPrefixOf L = false) : inF (lineD b) (13 :: 10 :: L) = false := by
  rw [inF_cons, inF_cons]
  refine ⟨?_, ?_, inF_none L h⟩
  · unfold lineD
    rw [List.isPrefixOf_cons_cons, List.isPrefixOf_cons_cons]
    unfold delB at hd
    rw [hd]
    rfl
  · unfold lineD
    rw [List.isPrefixOf_cons_cons]
    rfl
end Wb
namespace Wb
theorem delB_len (b : List UInt8) : (delB b).length = 2 + b.length := by unfold delB; simp; omega
end Wb
namespace Wb
def digs (n : Nat) : List UInt8 := if _h : n = 0 then [] else digs (n / 10) ++ [UInt8.ofNat (48 + n % 10)]
termination_by n
decreasing_by omega
def wbM (n : Nat) : List UInt8 := 119 :: 98 :: digs n
def valD (l : List UInt8) : Nat := l.foldl (fun a c => a * 10 + (c.toNat - 48)) 0
theorem dig_nat (n : Nat) : (UInt8.ofNat (48 + n % 10)).toNat = 48 + n % 10 := by
  rw [UInt8.toNat_ofNat']
  omega
theorem val_digs : ∀ n, valD (digs n) = n := by
  intro n
  induction n using Nat.strongRecOn with
  | _ n ih =>
    rw [digs]
    split
    · rename_i h; subst h; rfl
    · rename_i h
      have := ih (n / 10) (by omega)
      unfold valD at this ⊢
      rw [List.foldl_append, this]
      simp only [List.foldl_cons, List.foldl_nil, dig_nat]
      omega
theorem digs_len (n : Nat) : ∀ k, 10 ^ k ≤ n → n < 10 ^ (k + 1) → (digs n).length = k + 1 := by
  induction n using Nat.strongRecOn with
  | _ n ih =>
    intro k h1 h2
    have hp : 0 < 10 ^ k := Nat.pow_pos (by decide)
    rw [digs, dif_neg (by omega), List.length_append]
    cases k with
    | zero =>
      have : n / 10 = 0 := by
        have : n < 10 := by simpa using h2
        omega
      rw [this, digs, dif_pos rfl]
      rfl
    | succ k =>
      rw [Nat.pow_succ] at h1
      have h3 : 10 ^ (k + 1 + 1) = 10 ^ (k + 1) * 10 := Nat.pow_succ ..
      rw [h3] at h2
      have hq : 0 < 10 ^ k := Nat.pow_pos (by decide)
      have h4 : 10 ^ (k + 1) = 10 ^ k * 10 := Nat.pow_succ ..
      rw [ih (n / 10) (by omega) k (by omega) (by omega)]
      rfl
theorem digs_byte (n : Nat) : ∀ c ∈ digs n, 48 ≤ c.toNat ∧ c.toNat ≤ 57 := by
  induction n using Nat.strongRecOn with
  | _ n ih =>
    intro c hc
    rw [digs] at hc
    split at hc
    · cases hc
    · rename_i h
      rcases List.mem_append.1 hc with hc | hc
      · exact ih (n / 10) (by omega) c hc
      · rw [List.mem_singleton] at hc
        rw [hc, dig_nat]
        omega
theorem digs_le (n : Nat) : ∀ k, n < 10 ^ k → (digs n).length ≤ k := by
  induction n using Nat.strongRecOn with
  | _ n ih =>
    intro k h
    rw [digs]
    split
    · exact Nat.zero_le _
    · rename_i hn
      cases k with
      | zero => simp at h; omega
      | succ k =>
        rw [Nat.pow_succ] at h
        rw [List.length_append]
        have := ih (n / 10) (by omega) k (by omega)
        simp only [List.length_cons, List.length_nil]
        omega
theorem wb_bnd {n : Nat} (h : n < 10 ^ 6) : bndF (wbM n) = true := by
  unfold bndF wbM
  have hl := digs_le n 6 h
  rw [List.length_cons, List.length_cons, decide_eq_true (show 1 ≤ _ by omega), decide_eq_true (show _ ≤ 70 by omega)]
  simp only [Bool.and_true, List.all_cons]
  rw [show bndC 119 = true from by decide, show bndC 98 = true from by decide]
  simp only [Bool.true_and, List.all_eq_true]
  intro c hc
  have := digs_byte n c hc
  unfold bndC
  rw [decide_eq_true this.1, decide_eq_true this.2]
  rfl
end Wb
namespace Wb
def dAt (b s : List UInt8) (i : Nat) : Bool := (delB b).isPrefixOf (s.drop i) && (decide (i = 0) || (decide (2 ≤ i) && ([13, 10] : List UInt8).isPrefixOf (s.drop (i - 2))))
def NextIs (b s : List UInt8) (a : Nat) (r : Int) : Prop :=
  (r = -1 ∧ ∀ i, a ≤ i → dAt b s i = false) ∨ ∃ k : Nat, r = k ∧ a ≤ k ∧ dAt b s k = true ∧ ∀ i, a ≤ i → i < k → dAt b s i = false
theorem findD_spec (b : List UInt8) : ∀ L : List UInt8, (findD b L = none ∧ ∀ j, (lineD b).isPrefixOf (L.drop j) = false) ∨
    ∃ j, findD b L = some (L.take j, L.drop (j + 2)) ∧ (lineD b).isPrefixOf (L.drop j) = true ∧ ∀ i, i < j → (lineD b).isPrefixOf (L.drop i) = false
  | [] => .inl ⟨rfl, fun j => by rw [List.drop_nil]; rfl⟩
  | c :: l => by
    rw [findD]
    cases hp : (lineD b).isPrefixOf (c :: l)
    · rw [if_neg (by simp)]
      rcases findD_spec b l with ⟨h1, h2⟩ | ⟨j, h1, h2, h3⟩
      · refine .inl ⟨by rw [h1]; rfl, fun j => ?_⟩
        cases j with
        | zero => exact hp
        | succ j => exact h2 j
      · refine .inr ⟨j + 1, by rw [h1]; rfl, h2, fun i hi => ?_⟩
        cases i with
        | zero => exact hp
        | succ i => exact h3 i (by omega)
    · rw [if_pos rfl]
      exact .inr ⟨0, rfl, hp, fun i hi => by omega⟩
theorem line_del (b s : List UInt8) (i : Nat) : (lineD b).isPrefixOf (s.drop i) = (([13, 10] : List UInt8).isPrefixOf (s.drop i) && (delB b).isPrefixOf (s.drop (i + 2))) := by
  rw [show s.drop (i + 2) = (s.drop i).drop 2 from by rw [List.drop_drop]]
  generalize s.drop i = L
  match L with
  | [] => rfl
  | [c] =>
    unfold lineD
    rw [List.isPrefixOf_cons_cons, List.isPrefixOf_cons_cons]
    simp [List.isPrefixOf]
  | c :: d :: l =>
    unfold lineD delB
    rw [List.isPrefixOf_cons_cons, List.isPrefixOf_cons_cons, List.isPrefixOf_cons_cons, List.isPrefixOf_cons_cons]
    simp only [List.isPrefixOf_nil_left, Bool.and_true, List.drop_succ_cons, List.drop_zero, Bool.and_assoc]
def LineAt (s : List UInt8) (a : Nat) : Prop := a = 0 ∨ (2 ≤ a ∧ ([13, 10] : List UInt8).isPrefixOf (s.drop (a - 2)) = true)
theorem dAt_here {b s : List UInt8} {a : Nat} (h : LineAt s a) : dAt b s a = (delB b).isPrefixOf (s.drop a) := by
  unfold dAt
  rcases h with rfl | ⟨h1, h2⟩
  · simp
  · rw [h2, decide_eq_true h1]
    simp
theorem dAt_next {b s : List UInt8} {a : Nat} (h : LineAt s a) : dAt b s (a + 1) = false := by
  unfold dAt
  rw [decide_eq_false (by omega), Bool.false_or]
  rcases h with rfl | ⟨h1, h2⟩
  · rw [decide_eq_false (by omega)]
    simp
  · have e : (([13, 10] : List UInt8).isPrefixOf (s.drop (a + 1 - 2))) = false := by
      cases hq : ([13, 10] : List UInt8).isPrefixOf (s.drop (a + 1 - 2))
      · rfl
      · exfalso
        have p1 := List.prefix_iff_getElem?.1 (List.isPrefixOf_iff_prefix.1 h2) 1 (by decide)
        have p2 := List.prefix_iff_getElem?.1 (List.isPrefixOf_iff_prefix.1 hq) 0 (by decide)
        rw [List.getElem?_drop] at p1 p2
        rw [show a - 2 + 1 = a + 1 - 2 + 0 from by omega, p2] at p1
        simp at p1
    rw [e]
    simp
theorem dAt_far {b s : List UInt8} {a j : Nat} : dAt b s (a + j + 2) = (lineD b).isPrefixOf ((s.drop a).drop j) := by
  rw [List.drop_drop, line_del]
  unfold dAt
  rw [decide_eq_false (by omega), decide_eq_true (show 2 ≤ a + j + 2 by omega), show a + j + 2 - 2 = a + j from by omega]
  simp [Bool.and_comm]
theorem next_D {b s : List UInt8} {a : Nat} {r : Int} (hl : LineAt s a) (h : NextIs b s a r) :
    (r = -1 ∧ nextD b (s.drop a) = none) ∨ ∃ k : Nat, r = k ∧ a ≤ k ∧ dAt b s k = true ∧ LineAt s k ∧ nextD b (s.drop a) = some ((s.drop a).take (k - 2 - a), s.drop k) := by
  unfold nextD
  rcases h with ⟨rfl, h⟩ | ⟨k, rfl, h1, h2, h3⟩
  · left
    refine ⟨rfl, ?_⟩
    have h0 := h a (Nat.le_refl _)
    rw [dAt_here hl] at h0
    rw [if_neg (by rw [h0]; simp)]
    rcases findD_spec b (s.drop a) with ⟨g, _⟩ | ⟨j, _, g2, _⟩
    · exact g
    · have := h (a + j + 2) (by omega)
      rw [dAt_far, g2] at this
      cases this
  · right
    have hlk : LineAt s k := by
      unfold dAt at h2
      simp only [Bool.and_eq_true, Bool.or_eq_true, decide_eq_true_eq] at h2
      exact h2.2
    refine ⟨k, rfl, h1, h2, hlk, ?_⟩
    by_cases hk : k = a
    · subst hk
      rw [dAt_here hl] at h2
      rw [if_pos h2]
      rw [show k - 2 - k = 0 from by omega]
      rfl
    · have h0 := h3 a (Nat.le_refl _) (by omega)
      rw [dAt_here hl] at h0
      rw [if_neg (by rw [h0]; simp)]
      have hk1 : k ≠ a + 1 := fun e => by rw [e, dAt_next hl] at h2; cases h2
      obtain ⟨j, rfl⟩ : ∃ j, k = a + j + 2 := ⟨k - a - 2, by omega⟩
      rw [dAt_far] at h2
      rcases findD_spec b (s.drop a) with ⟨_, g⟩ | ⟨i, g1, g2, g3⟩
      · rw [g j] at h2; cases h2
      · have hij : i = j := by
          rcases Nat.lt_trichotomy i j with hlt | heq | hgt
          · have := h3 (a + i + 2) (by omega) (by omega)
            rw [dAt_far, g2] at this
            cases this
          · exact heq
          · rw [g3 j hgt] at h2; cases h2
        subst hij
        rw [g1, show a + i + 2 - 2 - a = i from by omega, List.drop_drop]
        rfl
end Wb
