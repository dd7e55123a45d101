/- QaS QaT. -/
import Derived.Test.YtmabhbihgenmcaaGreatDoorKa12
namespace Wb
def digs (n : Nat) : List UInt8 := if _h : n = 0 then [] else digs (n / 10) ++ [UInt8.ofNat (48 + n % 10)]
termination_by n
decreasing_by omega
def wbM (n : Nat) : List UInt8 := 119 :: 98 :: digs n
def valD (l : List UInt8) : Nat := l.foldl (fun a c => a * 10 + (c.toNat - 48)) 0
theorem dig_nat (n : Nat) : (UInt8.ofNat (48 + n % 10)).toNat = 48 + n % 10 := by
  rw [UInt8.toNat_ofNat']
  omega
theorem val_digs : ∀ n, valD (digs n) = n := by
  intro n
  induction n using Nat.strongRecOn with
  | _ n ih =>
    rw [digs]
    split
    · rename_i h; subst h; rfl
    · rename_i h
      have := ih (n / 10) (by omega)
      unfold valD at this ⊢
      rw [List.foldl_append, this]
      simp only [List.foldl_cons, List.foldl_nil, dig_nat]
      omega
theorem digs_len (n : Nat) : ∀ k, 10 ^ k ≤ n → n < 10 ^ (k + 1) → (digs n).length = k + 1 := by
  induction n using Nat.strongRecOn with
  | _ n ih =>
    intro k h1 h2
    have hp : 0 < 10 ^ k := Nat.pow_pos (by decide)
    rw [digs, dif_neg (by omega), List.length_append]
    cases k with
    | zero =>
      have : n / 10 = 0 := by
        have : n < 10 := by simpa using h2
        omega
      rw [this, digs, dif_pos rfl]
      rfl
    | succ k =>
      rw [Nat.pow_succ] at h1
      have h3 : 10 ^ (k + 1 + 1) = 10 ^ (k + 1) * 10 := Nat.pow_succ ..
      rw [h3] at h2
      have hq : 0 < 10 ^ k := Nat.pow_pos (by decide)
      have h4 : 10 ^ (k + 1) = 10 ^ k * 10 := Nat.pow_succ ..
      rw [ih (n / 10) (by omega) k (by omega) (by omega)]
      rfl
theorem digs_byte (n : Nat) : ∀ c ∈ digs n, 48 ≤ c.toNat ∧ c.toNat ≤ 57 := by
  induction n using Nat.strongRecOn with
  | _ n ih =>
    intro c hc
    rw [digs] at hc
    split at hc
    · cases hc
    · rename_i h
      rcases List.mem_append.1 hc with hc | hc
      · exact ih (n / 10) (by omega) c hc
      · rw [List.mem_singleton] at hc
        rw [hc, dig_nat]
        omega
theorem digs_le (n : Nat) : ∀ k, n < 10 ^ k → (digs n).length ≤ k := by
  induction n using Nat.strongRecOn with
  | _ n ih =>
    intro k h
    rw [digs]
    split
    · exact Nat.zero_le _
    · rename_i hn
      cases k with
      | zero => simp at h; omega
      | succ k =>
        rw [Nat.pow_succ] at h
        rw [List.length_append]
        have := ih (n / 10) (by omega) k (by omega)
        simp only [List.length_cons, List.length_nil]
        omega
theorem wb_bnd {n : Nat} (h : n < 10 ^ 6) : bndF (wbM n) = true := by
  unfold bndF wbM
  have hl := digs_le n 6 h
  rw [List.length_cons, List.length_cons, decide_eq_true (show 1 ≤ _ by omega), decide_eq_true (show _ ≤ 70 by omega)]
  simp only [Bool.and_true, List.all_cons]
  rw [show bndC 119 = true from by decide, show bndC 98 = true from by decide]
  simp only [Bool.true_and, List.all_eq_true]
  intro c hc
  have := digs_byte n c hc
  unfold bndC
  rw [decide_eq_true this.1, decide_eq_true this.2]
  rfl
theorem wb_colon (n : Nat) : ∀ c ∈ wbM n, c ≠ 58 := by
  intro c hc
  unfold wbM at hc
  simp only [List.mem_cons] at hc
  rcases hc with rfl | rfl | hc
  · decide
  · decide
  · have := digs_byte n c hc
    rintro rfl
    have h := this.2
    revert h; decide
def sufs : List UInt8 → List (List UInt8)
  | [] => [[]]
  | c :: l => (c :: l) :: sufs l
theorem sufs_len : ∀ l, (sufs l).length = l.length + 1
  | [] => rfl
  | c :: l => by rw [sufs, List.length_cons, sufs_len l, List.length_cons]
theorem inF_suf {t : List UInt8} (ht : t ≠ []) : ∀ s, inF t s = true → ∃ u ∈ sufs s, t <+: u
  | [], h => by
    unfold inF at h
    cases t with
    | nil => exact absurd rfl ht
    | cons a r => cases h
  | c :: l, h => by
    rw [inF, Bool.or_eq_true] at h
    rcases h with h | h
    · exact ⟨c :: l, by simp [sufs], List.isPrefixOf_iff_prefix.1 h⟩
    · obtain ⟨u, hu, hp⟩ := inF_suf ht l h
      exact ⟨u, by simp [sufs, hu], hp⟩
def numAt (k : Nat) (t : List UInt8) : Nat := valD ((t.drop k).take 6)
theorem num_pre {a u : List UInt8} {n : Nat} (h6 : (digs n).length = 6) (h : a ++ digs n <+: u) : numAt a.length u = n := by
  obtain ⟨x, rfl⟩ := h
  unfold numAt
  rw [List.append_assoc, List.drop_left, List.take_append_of_le_length (by omega), List.take_of_length_le (by omega), val_digs]
def covP (p : Pt) : List Nat := (sufs (13 :: 10 :: p.2)).map (numAt 6) ++ p.1.map fun f => numAt 4 (f.1 ++ [58])
def covL (l : List Pt) : List Nat := l.flatMap covP
theorem covP_len (p : Pt) : (covP p).length = p.2.length + 3 + p.1.length := by
  unfold covP
  rw [List.length_append, List.length_map, List.length_map, sufs_len]
  simp only [List.length_cons]
theorem cov_clash {l : List Pt} {n : Nat} (h6 : (digs n).length = 6) (h : clashL (wbM n) l = true) : n ∈ covL l := by
  unfold clashL at h
  obtain ⟨p, hp, h⟩ := List.any_eq_true.1 h
  refine List.mem_flatMap.2 ⟨p, hp, ?_⟩
  unfold clashP at h
  rw [Bool.or_eq_true] at h
  unfold covP
  rcases h with h | h
  · unfold clashB at h
    obtain ⟨u, hu, hpre⟩ := inF_suf (by unfold lineD; simp) _ h
    refine List.mem_append.2 (.inl (List.mem_map.2 ⟨u, hu, ?_⟩))
    exact num_pre (a := [13, 10, 45, 45, 119, 98]) h6 hpre
  · unfold clashH at h
    obtain ⟨f, hf, hpre⟩ := List.any_eq_true.1 h
    refine List.mem_append.2 (.inr (List.mem_map.2 ⟨f, hf, ?_⟩))
    exact num_pre (a := [45, 45, 119, 98]) h6 (List.isPrefixOf_iff_prefix.1 hpre)
theorem sub_len : ∀ (L C : List Nat), L.Nodup → (∀ x ∈ L, x ∈ C) → L.length ≤ C.length
  | [], _, _, _ => Nat.zero_le _
  | a :: L, C, hn, hs => by
    rw [List.nodup_cons] at hn
    have ha := hs a (by simp)
    have := sub_len L (C.erase a) hn.2 (fun x hx => by
      have hne : x ≠ a := fun e => hn.1 (e ▸ hx)
      exact (List.mem_erase_of_ne hne).2 (hs x (by simp [hx])))
    rw [List.length_erase_of_mem ha] at this
    have h1 : 1 ≤ C.length := List.length_pos_of_mem ha
    rw [List.length_cons]
    omega
theorem some_free {l : List Pt} (h : (covL l).length < 900000) : ∃ n, 100000 ≤ n ∧ n < 1000000 ∧ clashL (wbM n) l = false := by
  apply Classical.byContradiction
  intro hno
  have hall : ∀ x ∈ List.range' 100000 900000, x ∈ covL l := by
    intro x hx
    rw [List.mem_range'_1] at hx
    refine cov_clash (digs_len x 5 (by omega) (by omega)) ?_
    cases hq : clashL (wbM x) l
    · exact absurd ⟨x, by omega, by omega, hq⟩ hno
    · rfl
  have := sub_len _ _ (List.nodup_range' ..) hall
  rw [List.length_range'] at this
  omega
def chooseF (l : List Pt) : Nat → Nat → Nat
  | 0, n => n
  | f + 1, n => if clashL (wbM n) l = true then chooseF l f (n + 1) else n
theorem chooseF_free (l : List Pt) : ∀ (f n m : Nat), n ≤ m → m < n + f → clashL (wbM m) l = false → clashL (wbM (chooseF l f n)) l = false ∧ n ≤ chooseF l f n ∧ chooseF l f n ≤ m ∧ ∀ k, n ≤ k → k < chooseF l f n → clashL (wbM k) l = true
  | 0, n, m, h1, h2, _ => by omega
  | f + 1, n, m, h1, h2, h3 => by
    rw [chooseF]
    by_cases hc : clashL (wbM n) l = true
    · rw [if_pos hc]
      have hne : n ≠ m := fun e => by rw [e, h3] at hc; cases hc
      obtain ⟨a1, a2, a3, a4⟩ := chooseF_free l f (n + 1) m (by omega) (by omega) h3
      refine ⟨a1, by omega, a3, fun k hk hk2 => ?_⟩
      by_cases hkn : k = n
      · rw [hkn]; exact hc
      · exact a4 k (by omega) hk2
    · rw [if_neg hc]
      exact ⟨by simpa using hc, Nat.le_refl _, h1, fun k hk hk2 => by omega⟩
end Wb
namespace Wb
def dAt (b s : List UInt8) (i : Nat) : Bool := (delB b).isPrefixOf (s.drop i) && (decide (i = 0) || (decide (2 ≤ i) && ([13, 10] : List UInt8).isPrefixOf (s.drop (i - 2))))
def NextIs (b s : List UInt8) (a : Nat) (r : Int) : Prop :=
  (r = -1 ∧ ∀ i, a ≤ i → dAt b s i = false) ∨ ∃ k : Nat, r = k ∧ a ≤ k ∧ dAt b s k = true ∧ ∀ i, a ≤ i → i < k → dAt b s i = false
theorem findD_spec (b : List UInt8) : ∀ L : List UInt8, (findD b L = none ∧ ∀ j, (lineD b).isPrefixOf (L.drop j) = false) ∨
    ∃ j, findD b L = some (L.take j, L.drop (j + 2)) ∧ (lineD b).isPrefixOf (L.drop j) = true ∧ ∀ i, i < j → (lineD b).isPrefixOf (L.drop i) = false
  | [] => .inl ⟨rfl, fun j => by rw [List.drop_nil]; rfl⟩
  | c :: l => by
    rw [findD]
    cases hp : (lineD b).isPrefixOf (c :: l)
    · rw [if_neg (by simp)]
      rcases findD_spec b l with ⟨h1, h2⟩ | ⟨j, h1, h2, h3⟩
      · refine .inl ⟨by rw [h1]; rfl, fun j => ?_⟩
        cases j with
        | zero => exact hp
        | succ j => exact h2 j
      · refine .inr ⟨j + 1, by rw [h1]; rfl, h2, fun i hi => ?_⟩
        cases i with
        | zero => exact hp
        | succ i => exact h3 i (by omega)
    · rw [if_pos rfl]
      exact .inr ⟨0, rfl, hp, fun i hi => by omega⟩
theorem line_del (b s : List UInt8) (i : Nat) : (lineD b).isPrefixOf (s.drop i) = (([13, 10] : List UInt8).isPrefixOf (s.drop i) && (delB b).isPrefixOf (s.drop (i + 2))) := by
  rw [show s.drop (i + 2) = (s.drop i).drop 2 from by rw [List.drop_drop]]
  generalize s.drop i = L
  match L with
  | [] => rfl
  | [c] =>
    unfold lineD
    rw [List.isPrefixOf_cons_cons, List.isPrefixOf_cons_cons]
    simp [List.isPrefixOf]
  | c :: d :: l =>
    unfold lineD delB
    rw [List.isPrefixOf_cons_cons, List.isPrefixOf_cons_cons, List.isPrefixOf_cons_cons, List.isPrefixOf_cons_cons]
    simp only [List.isPrefixOf_nil_left, Bool.and_true, List.drop_succ_cons, List.drop_zero, Bool.and_assoc]
def LineAt (s : List UInt8) (a : Nat) : Prop := a = 0 ∨ (2 ≤ a ∧ ([13, 10] : List UInt8).isPrefixOf (s.drop (a - 2)) = true)
theorem dAt_here {b s : List UInt8} {a : Nat} (h : LineAt s a) : dAt b s a = (delB b).isPrefixOf (s.drop a) := by
  unfold dAt
  rcases h with rfl | ⟨h1, h2⟩
  · simp
  · rw [h2, decide_eq_true h1]
    simp
theorem dAt_next {b s : List UInt8} {a : Nat} (h : LineAt s a) : dAt b s (a + 1) = false := by
  unfold dAt
  rw [decide_eq_false (by omega), Bool.false_or]
  rcases h with rfl | ⟨h1, h2⟩
  · rw [decide_eq_false (by omega)]
    simp
  · have e : (([13, 10] : List UInt8).isPrefixOf (s.drop (a + 1 - 2))) = false := by
      cases hq : ([13, 10] : List UInt8).isPrefixOf (s.drop (a + 1 - 2))
      · rfl
      · exfalso
        have p1 := List.prefix_iff_getElem?.1 (List.isPrefixOf_iff_prefix.1 h2) 1 (by decide)
        have p2 := List.prefix_iff_getElem?.1 (List.isPrefixOf_iff_prefix.1 hq) 0 (by decide)
        rw [List.getElem?_drop] at p1 p2
        rw [show a - 2 + 1 = a + 1 - 2 + 0 from by omega, p2] at p1
        simp at p1
    rw [e]
    simp
theorem dAt_far {b s : List UInt8} {a j : Nat} : dAt b s (a + j + 2) = (lineD b).isPrefixOf ((s.drop a).drop j) := by
  rw [List.drop_drop, line_del]
  unfold dAt
  rw [decide_eq_false (by omega), decide_eq_true (show 2 ≤ a + j + 2 by omega), show a + j + 2 - 2 = a + j from by omega]
  simp [Bool.and_comm]
theorem next_D {b s : List UInt8} {a : Nat} {r : Int} (hl : LineAt s a) (h : NextIs b s a r) :
    (r = -1 ∧ nextD b (s.drop a) = none) ∨ ∃ k : Nat, r = k ∧ a ≤ k ∧ dAt b s k = true ∧ LineAt s k ∧ nextD b (s.drop a) = some ((s.drop a).take (k - 2 - a), s.drop k) := by
  unfold nextD
  rcases h with ⟨rfl, h⟩ | ⟨k, rfl, h1, h2, h3⟩
  · left
    refine ⟨rfl, ?_⟩
    have h0 := h a (Nat.le_refl _)
    rw [dAt_here hl] at h0
    rw [if_neg (by rw [h0]; simp)]
    rcases findD_spec b (s.drop a) with ⟨g, _⟩ | ⟨j, _, g2, _⟩
    · exact g
    · have := h (a + j + 2) (by omega)
      rw [dAt_far, g2] at this
      cases this
  · right
    have hlk : LineAt s k := by
      unfold dAt at h2
      simp only [Bool.and_eq_true, Bool.or_eq_true, decide_eq_true_eq] at h2
      exact h2.2
    refine ⟨k, rfl, h1, h2, hlk, ?_⟩
    by_cases hk : k = a
    · subst hk
      rw [dAt_here hl] at h2
      rw [if_pos h2]
      rw [show k - 2 - k = 0 from by omega]
      rfl
    · have h0 := h3 a (Nat.le_refl _) (by omega)
      rw [dAt_here hl] at h0
      rw [if_neg (by rw [h0]; simp)]
      have hk1 : k ≠ a + 1 := fun e => by rw [e, dAt_next hl] at h2; cases h2
      obtain ⟨j, rfl⟩ : ∃ j, k = a + j + 2 := ⟨k - a - 2, by omega⟩
      rw [dAt_far] at h2
      rcases findD_spec b (s.drop a) with ⟨_, g⟩ | ⟨i, g1, g2, g3⟩
      · rw [g j] at h2; cases h2
      · have hij : i = j := by
          rcases Nat.lt_trichotomy i j with hlt | heq | hgt
          · have := h3 (a + i + 2) (by omega) (by omega)
            rw [dAt_far, g2] at this
            cases this
          · exact heq
          · rw [g3 j hgt] at h2; cases h2
        subst hij
        rw [g1, show a + i + 2 - 2 - a = i from by omega, List.drop_drop]
        rfl
end Wb
