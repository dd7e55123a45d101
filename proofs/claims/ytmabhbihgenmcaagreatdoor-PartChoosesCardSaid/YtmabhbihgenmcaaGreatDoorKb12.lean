/- QaT QaU. -/
import Derived.Lib.Split
import Derived.Test.YtmabhbihgenmcaaGreatDoorKb11
namespace Wb
def dAt (b s : List UInt8) (i : Nat) : Bool := (delB b).isPrefixOf (s.drop i) && (decide (i = 0) || (decide (2 ≤ i) && ([13, 10] : List UInt8).isPrefixOf (s.drop (i - 2))))
def NextIs (b s : List UInt8) (a : Nat) (r : Int) : Prop :=
  (r = -1 ∧ ∀ i, a ≤ i → dAt b s i = false) ∨ ∃ k : Nat, r = k ∧ a ≤ k ∧ dAt b s k = true ∧ ∀ i, a ≤ i → i < k → dAt b s i = false
theorem findD_spec (b : List UInt8) : ∀ L : List UInt8, (findD b L = none ∧ ∀ j, (lineD b).isPrefixOf (L.drop j) = false) ∨
    ∃ j, findD b L = some (L.take j, L.drop (j + 2)) ∧ (lineD b).isPrefixOf (L.drop j) = true ∧ ∀ i, i < j → (lineD b).isPrefixOf (L.drop i) = false
  | [] => .inl ⟨rfl, fun j => by rw [List.drop_nil]; rfl⟩
  | c :: l => by
    rw [findD]
    cases hp : (lineD b).isPrefixOf (c :: l)
    · rw [if_neg (by simp)]
      rcases findD_spec b l with ⟨h1, h2⟩ | ⟨j, h1, h2, h3⟩
      · refine .inl ⟨by rw [h1]; rfl, fun j => ?_⟩
        cases j with
        | zero => exact hp
        | succ j => exact h2 j
      · refine .inr ⟨j + 1, by rw [h1]; rfl, h2, fun i hi => ?_⟩
        cases i with
        | zero => exact hp
        | succ i => exact h3 i (by omega)
    · rw [if_pos rfl]
      exact .inr ⟨0, rfl, hp, fun i hi => by omega⟩
theorem line_del (b s : List UInt8) (i : Nat) : (lineD b).isPrefixOf (s.drop i) = (([13, 10] : List UInt8).isPrefixOf (s.drop i) && (delB b).isPrefixOf (s.drop (i + 2))) := by
  rw [show s.drop (i + 2) = (s.drop i).drop 2 from by rw [List.drop_drop]]
  generalize s.drop i = L
  match L with
  | [] => rfl
  | [c] =>
    unfold lineD
    rw [List.isPrefixOf_cons_cons, List.isPrefixOf_cons_cons]
    simp [List.isPrefixOf]
  | c :: d :: l =>
    unfold lineD delB
    rw [List.isPrefixOf_cons_cons, List.isPrefixOf_cons_cons, List.isPrefixOf_cons_cons, List.isPrefixOf_cons_cons]
    simp only [List.isPrefixOf_nil_left, Bool.and_true, List.drop_succ_cons, List.drop_zero, Bool.and_assoc]
def LineAt (s : List UInt8) (a : Nat) : Prop := a = 0 ∨ (2 ≤ a ∧ ([13, 10] : List UInt8).isPrefixOf (s.drop (a - 2)) = true)
theorem dAt_here {b s : List UInt8} {a : Nat} (h : LineAt s a) : dAt b s a = (delB b).isPrefixOf (s.drop a) := by
  unfold dAt
  rcases h with rfl | ⟨h1, h2⟩
  · simp
  · rw [h2, decide_eq_true h1]
    simp
theorem dAt_next {b s : List UInt8} {a : Nat} (h : LineAt s a) : dAt b s (a + 1) = false := by
  unfold dAt
  rw [decide_eq_false (by omega), Bool.false_or]
  rcases h with rfl | ⟨h1, h2⟩
  · rw [decide_eq_false (by omega)]
    simp
  · have e : (([13, 10] : List UInt8).isPrefixOf (s.drop (a + 1 - 2))) = false := by
      cases hq : ([13, 10] : List UInt8).isPrefixOf (s.drop (a + 1 - 2))
      · rfl
      · exfalso
        have p1 := List.prefix_iff_getElem?.1 (List.isPrefixOf_iff_prefix.1 h2) 1 (by decide)
        have p2 := List.prefix_iff_getElem?.1 (List.isPrefixOf_iff_prefix.1 hq) 0 (by decide)
        rw [List.getElem?_drop] at p1 p2
        rw [show a - 2 + 1 = a + 1 - 2 + 0 from by omega, p2] at p1
        simp at p1
    rw [e]
    simp
theorem dAt_far {b s : List UInt8} {a j : Nat} : dAt b s (a + j + 2) = (lineD b).isPrefixOf ((s.drop a).drop j) := by
  rw [List.drop_drop, line_del]
  unfold dAt
  rw [decide_eq_false (by omega), decide_eq_true (show 2 ≤ a + j + 2 by omega), show a + j + 2 - 2 = a + j from by omega]
  simp [Bool.and_comm]
theorem next_D {b s : List UInt8} {a : Nat} {r : Int} (hl : LineAt s a) (h : NextIs b s a r) :
    (r = -1 ∧ nextD b (s.drop a) = none) ∨ ∃ k : Nat, r = k ∧ a ≤ k ∧ dAt b s k = true ∧ LineAt s k ∧ nextD b (s.drop a) = some ((s.drop a).take (k - 2 - a), s.drop k) := by
  unfold nextD
  rcases h with ⟨rfl, h⟩ | ⟨k, rfl, h1, h2, h3⟩
  · left
    refine ⟨rfl, ?_⟩
    have h0 := h a (Nat.le_refl _)
    rw [dAt_here hl] at h0
    rw [if_neg (by rw [h0]; simp)]
    rcases findD_spec b (s.drop a) with ⟨g, _⟩ | ⟨j, _, g2, _⟩
    · exact g
    · have := h (a + j + 2) (by omega)
      rw [dAt_far, g2] at this
      cases this
  · right
    have hlk : LineAt s k := by
      unfold dAt at h2
      simp only [Bool.and_eq_true, Bool.or_eq_true, decide_eq_true_eq] at h2
      exact h2.2
    refine ⟨k, rfl, h1, h2, hlk, ?_⟩
    by_cases hk : k = a
    · subst hk
      rw [dAt_here hl] at h2
      rw [if_pos h2]
      rw [show k - 2 - k = 0 from by omega]
      rfl
    · have h0 := h3 a (Nat.le_refl _) (by omega)
      rw [dAt_here hl] at h0
      rw [if_neg (by rw [h0]; simp)]
      have hk1 : k ≠ a + 1 := fun e => by rw [e, dAt_next hl] at h2; cases h2
      obtain ⟨j, rfl⟩ : ∃ j, k = a + j + 2 := ⟨k - a - 2, by omega⟩
      rw [dAt_far] at h2
      rcases findD_spec b (s.drop a) with ⟨_, g⟩ | ⟨i, g1, g2, g3⟩
      · rw [g j] at h2; cases h2
      · have hij : i = j := by
          rcases Nat.lt_trichotomy i j with hlt | heq | hgt
          · have := h3 (a + i + 2) (by omega) (by omega)
            rw [dAt_far, g2] at this
            cases this
          · exact heq
          · rw [g3 j hgt] at h2; cases h2
        subst hij
        rw [g1, show a + i + 2 - 2 - a = i from by omega, List.drop_drop]
        rfl
end Wb
namespace Wb
open Go
def takesF : Nat → List UInt8 → List Nat
  | _, [] => []
  | n, c :: l => if c.toNat < 48 ∨ 57 < c.toNat then [] else
    if 10 * n + (c.toNat - 48) = 0 ∨ 2147483648 < 10 * n + (c.toNat - 48) then [] else (10 * n + (c.toNat - 48)) :: takesF (10 * n + (c.toNat - 48)) l
theorem digs_step {n v : Nat} (hv : v < 10) (h : 10 * n + v ≠ 0) : digs (10 * n + v) = digs n ++ [UInt8.ofNat (48 + v)] := by
  rw [digs, dif_neg h, show (10 * n + v) / 10 = n from by omega, show (10 * n + v) % 10 = v from by omega]
theorem digs_c {c : UInt8} (h1 : 48 ≤ c.toNat) (h2 : c.toNat ≤ 57) : UInt8.ofNat (48 + (c.toNat - 48)) = c := by
  apply UInt8.toNat_inj.1
  rw [UInt8.toNat_ofNat']
  omega
theorem valD_app (a b : List UInt8) : valD a ≤ valD (a ++ b) := by
  unfold valD
  rw [List.foldl_append]
  generalize List.foldl _ 0 a = x
  induction b generalizing x with
  | nil => exact Nat.le_refl _
  | cons c b ih =>
    rw [List.foldl_cons]
    refine Nat.le_trans ?_ (ih _)
    omega
theorem digs_head {k : Nat} {c : UInt8} {l : List UInt8} (h : digs k = c :: l) : c ≠ 48 := by
  induction k using Nat.strongRecOn generalizing c l with
  | _ k ih =>
    rw [digs] at h
    split at h
    · cases h
    · rename_i hk
      by_cases h0 : k / 10 = 0
      · rw [h0, digs, dif_pos rfl, List.nil_append] at h
        injection h with h _
        rw [← h]
        intro e
        have e2 := congrArg UInt8.toNat e
        rw [dig_nat] at e2
        have : (48 : UInt8).toNat = 48 := rfl
        omega
      · obtain ⟨d, r, hd⟩ : ∃ d r, digs (k / 10) = d :: r := by
          cases hq : digs (k / 10) with
          | nil =>
            have := val_digs (k / 10)
            rw [hq] at this
            exact absurd this.symm h0
          | cons d r => exact ⟨d, r, rfl⟩
        rw [hd, List.cons_append] at h
        injection h with h _
        rw [← h]
        exact ih (k / 10) (by omega) hd
theorem takes_iff : ∀ (l : List UInt8) (n k : Nat), k ≤ 2147483648 → (k ∈ takesF n l ↔ ∃ d, d ≠ [] ∧ digs n ++ d = digs k ∧ d <+: l)
  | [], n, k, hk => by
    refine ⟨fun h => (by cases h), ?_⟩
    rintro ⟨d, h1, _, h3⟩
    exact absurd (List.prefix_nil.1 h3) h1
  | c :: l, n, k, hk => by
    rw [takesF]
    constructor
    · intro h
      split at h
      · cases h
      · rename_i hc
        split at h
        · cases h
        · rename_i hm
          have hst := digs_step (n := n) (v := c.toNat - 48) (by omega) (by omega)
          rw [digs_c (by omega) (by omega)] at hst
          rcases List.mem_cons.1 h with rfl | h
          · exact ⟨[c], by simp, hst.symm, ⟨l, rfl⟩⟩
          · obtain ⟨d, h1, h2, h3⟩ := (takes_iff l _ k hk).1 h
            refine ⟨c :: d, by simp, ?_, List.cons_prefix_cons.2 ⟨rfl, h3⟩⟩
            rw [← h2, hst, List.append_assoc]
            rfl
    · rintro ⟨d, h1, h2, h3⟩
      cases d with
      | nil => exact absurd rfl h1
      | cons c' d =>
        obtain ⟨hcc, h4⟩ := List.cons_prefix_cons.1 h3
        subst hcc
        clear h3
        have hb := digs_byte k c' (by rw [← h2]; simp)
        have hv : valD (digs n ++ [c']) = 10 * n + (c'.toNat - 48) := by
          have := val_digs n
          unfold valD at this ⊢
          rw [List.foldl_append, this]
          simp only [List.foldl_cons, List.foldl_nil]
          omega
        have hle : 10 * n + (c'.toNat - 48) ≤ k := by
          have := valD_app (digs n ++ [c']) d
          rw [hv, List.append_assoc] at this
          have e : digs n ++ ([c'] ++ d) = digs k := h2
          rw [e, val_digs] at this
          exact this
        have hne : 10 * n + (c'.toNat - 48) ≠ 0 := by
          intro h0
          have hn : n = 0 := by omega
          subst hn
          rw [show digs 0 = [] from by rw [digs, dif_pos rfl], List.nil_append] at h2
          refine digs_head h2.symm (UInt8.toNat_inj.1 ?_)
          have : (48 : UInt8).toNat = 48 := rfl
          omega
        rw [if_neg (by omega), if_neg (by omega)]
        have hst := digs_step (n := n) (v := c'.toNat - 48) (by omega) hne
        rw [digs_c (by omega) (by omega)] at hst
        rw [List.mem_cons]
        by_cases hd : d = []
        · subst hd
          left
          rw [← val_digs k, ← h2, hv]
        · right
          refine (takes_iff l _ k hk).2 ⟨d, hd, ?_, h4⟩
          rw [hst, ← h2, List.append_assoc]
          rfl
theorem takes_zero {l : List UInt8} {k : Nat} (h1 : 1 ≤ k) (hk : k ≤ 2147483648) : k ∈ takesF 0 l ↔ digs k <+: l := by
  rw [takes_iff l 0 k hk]
  have h0 : digs 0 = [] := by rw [digs, dif_pos rfl]
  constructor
  · rintro ⟨d, _, h2, h3⟩
    rw [h0, List.nil_append] at h2
    rw [← h2]; exact h3
  · intro h
    refine ⟨digs k, ?_, by rw [h0]; rfl, h⟩
    intro e
    have := val_digs k
    rw [e] at this
    have h : (0 : Nat) = k := this
    omega
theorem takes_len : ∀ (l : List UInt8) (n : Nat), (takesF n l).length ≤ l.length
  | [], _ => Nat.le_refl _
  | c :: l, n => by
    rw [takesF]
    split
    · exact Nat.zero_le _
    · split
      · exact Nat.zero_le _
      · have := takes_len l (10 * n + (c.toNat - 48))
        rw [List.length_cons, List.length_cons]
        omega
theorem inF_iff {t : List UInt8} (ht : t ≠ []) : ∀ s, inF t s = true ↔ ∃ j, t <+: s.drop j
  | [] => by
    constructor
    · intro h
      unfold inF at h
      cases t with
      | nil => exact absurd rfl ht
      | cons a r => cases h
    · rintro ⟨j, h⟩
      rw [List.drop_nil] at h
      exact absurd (List.prefix_nil.1 h) ht
  | c :: l => by
    rw [inF, Bool.or_eq_true, inF_iff ht l]
    constructor
    · rintro (h | ⟨j, h⟩)
      · exact ⟨0, List.isPrefixOf_iff_prefix.1 h⟩
      · exact ⟨j + 1, h⟩
    · rintro ⟨j, h⟩
      cases j with
      | zero => exact .inl (List.isPrefixOf_iff_prefix.2 h)
      | succ j => exact .inr ⟨j, h⟩
def sepW : List UInt8 := [13, 10, 45, 45, 119, 98]
theorem line_wb (k : Nat) : lineD (wbM k) = sepW ++ digs k := rfl
theorem split_miss {s : List UInt8} (h : Lib.index s sepW = -1) : Lib.split s sepW = [s] := by
  unfold Lib.split
  rw [Lib.count_miss h]
  rfl
theorem split_hit {s : List UInt8} {i : Nat} (h : Lib.index s sepW = i) : Lib.split s sepW = s.take i :: Lib.split (s.drop (i + 6)) sepW := by
  unfold Lib.split
  rw [Lib.count_hit (by decide) h, Nat.add_comm, Lib.splitK, if_neg (by rw [h]; simp)]
  rw [h]
  rfl
theorem split_first {k : Nat} (s : List UInt8) : ∃ p ps, Lib.split s sepW = p :: ps ∧ (digs k <+: p ↔ digs k <+: s) := by
  rcases Lib.index_spec s sepW with ⟨h, _⟩ | ⟨i, h, hi, ho, _⟩
  · exact ⟨s, [], split_miss h, Iff.rfl⟩
  · refine ⟨s.take i, _, split_hit h, fun hp => hp.trans (List.take_prefix _ _), fun hp => ?_⟩
    rw [List.prefix_take_iff]
    refine ⟨hp, ?_⟩
    cases Nat.lt_or_ge i (digs k).length with
    | inr h' => exact h'
    | inl h' =>
      exfalso
      have h13 := Lib.occAt_head (c := 13) (t := [10, 45, 45, 119, 98]) rfl ho
      have h1 := List.prefix_iff_getElem?.1 hp i h'
      rw [h13] at h1
      have hm : (13 : UInt8) ∈ digs k := by
        injection h1 with h1
        rw [h1]
        exact List.getElem_mem _
      have := (digs_byte k 13 hm).1
      revert this; decide
theorem split_iff {k : Nat} : ∀ (f : Nat) (s : List UInt8), s.length < f → ((∃ p ∈ (Lib.split s sepW).drop 1, digs k <+: p) ↔ inF (lineD (wbM k)) s = true)
  | 0, _, h => by omega
  | f + 1, s, hf => by
    have hne : lineD (wbM k) ≠ [] := by unfold lineD; simp
    rw [inF_iff hne, line_wb]
    rcases Lib.index_spec s sepW with ⟨h, hno⟩ | ⟨i, h, hi, ho, hno⟩
    · rw [split_miss h]
      constructor
      · rintro ⟨p, hp, _⟩; simp at hp
      · rintro ⟨j, hj⟩
        exfalso
        have h2 : sepW <+: s.drop j := (List.prefix_append _ _).trans hj
        have hl := h2.length_le
        rw [List.length_drop] at hl
        have h6 : sepW.length = 6 := rfl
        have := hno j (by omega)
        unfold Lib.occAt at this
        rw [List.isPrefixOf_iff_prefix.2 h2] at this
        cases this
    · rw [split_hit h]
      have ho' : sepW <+: s.drop i := List.isPrefixOf_iff_prefix.1 ho
      have hl := ho'.length_le
      rw [List.length_drop] at hl
      have h6 : sepW.length = 6 := rfl
      have ih := split_iff (k := k) f (s.drop (i + 6)) (by rw [List.length_drop]; omega)
      rw [inF_iff hne, line_wb] at ih
      obtain ⟨p, ps, hps, hpf⟩ := split_first (k := k) (s.drop (i + 6))
      have hsplit : s.drop i = sepW ++ s.drop (i + 6) := by
        obtain ⟨x, hx⟩ := ho'
        rw [← hx, show i + 6 = i + sepW.length from rfl, ← List.drop_drop, ← hx, List.drop_left]
      rw [List.drop_succ_cons, List.drop_zero]
      rw [hps, List.drop_succ_cons, List.drop_zero] at ih
      rw [hps]
      constructor
      · rintro ⟨q, hq, hd⟩
        rcases List.mem_cons.1 hq with rfl | hq
        · refine ⟨i, ?_⟩
          rw [hsplit, List.prefix_append_right_inj]
          exact hpf.1 hd
        · obtain ⟨j, hj⟩ := ih.1 ⟨q, hq, hd⟩
          rw [List.drop_drop] at hj
          exact ⟨i + 6 + j, hj⟩
      · rintro ⟨j, hj⟩
        have h2 : sepW <+: s.drop j := (List.prefix_append _ _).trans hj
        have hji : i ≤ j := by
          cases Nat.lt_or_ge j i with
          | inr h' => exact h'
          | inl h' =>
            exfalso
            have := hno j h'
            unfold Lib.occAt at this
            rw [List.isPrefixOf_iff_prefix.2 h2] at this
            cases this
        by_cases hj0 : j = i
        · subst hj0
          rw [hsplit, List.prefix_append_right_inj] at hj
          exact ⟨p, List.mem_cons_self .., hpf.2 hj⟩
        · by_cases hj6 : i + 6 ≤ j
          · obtain ⟨q, hq, hd⟩ := ih.2 ⟨j - (i + 6), by rw [List.drop_drop, show i + 6 + (j - (i + 6)) = j from by omega]; exact hj⟩
            exact ⟨q, List.mem_cons_of_mem _ hq, hd⟩
          · exfalso
            have h13 : s[j]? = some 13 := by
              have := List.prefix_iff_getElem?.1 h2 0 (by decide)
              rw [List.getElem?_drop] at this
              exact this
            obtain ⟨d, rfl⟩ : ∃ d, j = i + d := ⟨j - i, by omega⟩
            have hd : (sepW ++ s.drop (i + 6))[d]? = some 13 := by rw [← hsplit, List.getElem?_drop]; exact h13
            rw [List.getElem?_append_left (by omega)] at hd
            have hd5 : d = 1 ∨ d = 2 ∨ d = 3 ∨ d = 4 ∨ d = 5 := by omega
            rcases hd5 with rfl | rfl | rfl | rfl | rfl <;> (revert hd; decide)
def takenH (n : List UInt8) : List Nat := if ([45, 45, 119, 98] : List UInt8).isPrefixOf n = true then takesF 0 (n.drop 4) else []
def takenB (body : List UInt8) : List Nat := ((Lib.split (13 :: 10 :: body) sepW).drop 1).flatMap (takesF 0)
def takenP (p : Pt) : List Nat := p.1.flatMap (fun f => takenH f.1) ++ takenB p.2
def takenL (l : List Pt) : List Nat := l.flatMap takenP
theorem takenH_iff {n : List UInt8} {k : Nat} (h1 : 1 ≤ k) (hk : k ≤ 2147483648) : k ∈ takenH n ↔ (delB (wbM k)).isPrefixOf (n ++ [58]) = true := by
  have e : delB (wbM k) = [45, 45, 119, 98] ++ digs k := rfl
  rw [List.isPrefixOf_iff_prefix, e]
  have hx : [45, 45, 119, 98] ++ digs k <+: n ++ [58] ↔ [45, 45, 119, 98] ++ digs k <+: n := by
    refine ⟨fun h => ?_, fun h => h.trans (List.prefix_append _ _)⟩
    rcases List.prefix_concat_iff.1 h with h | h
    · exfalso
      have : (58 : UInt8) ∈ [45, 45, 119, 98] ++ digs k := by rw [h]; simp
      rcases List.mem_append.1 this with h | h
      · revert h; decide
      · have := (digs_byte k 58 h).2
        revert this; decide
    · exact h
  rw [hx]
  clear hx e
  unfold takenH
  split
  · rename_i hp
    rw [takes_zero h1 hk]
    obtain ⟨x, rfl⟩ := List.isPrefixOf_iff_prefix.1 hp
    have e4 : ([45, 45, 119, 98] ++ x).drop 4 = x := rfl
    rw [e4]
    exact (List.prefix_append_right_inj [45, 45, 119, 98]).symm
  · rename_i hp
    refine ⟨fun h => (by cases h), fun h => absurd (List.isPrefixOf_iff_prefix.2 ((List.prefix_append _ _).trans h)) hp⟩
theorem takenB_iff {b : List UInt8} {k : Nat} (h1 : 1 ≤ k) (hk : k ≤ 2147483648) : k ∈ takenB b ↔ clashB (wbM k) b = true := by
  unfold takenB clashB
  rw [← split_iff (k := k) ((13 :: 10 :: b).length + 1) _ (Nat.lt_succ_self _), List.mem_flatMap]
  constructor
  · rintro ⟨p, hp, h⟩
    exact ⟨p, hp, (takes_zero h1 hk).1 h⟩
  · rintro ⟨p, hp, h⟩
    exact ⟨p, hp, (takes_zero h1 hk).2 h⟩
theorem taken_iff {l : List Pt} {k : Nat} (h1 : 1 ≤ k) (hk : k ≤ 2147483648) : k ∈ takenL l ↔ clashL (wbM k) l = true := by
  unfold takenL clashL
  rw [List.mem_flatMap, List.any_eq_true]
  refine exists_congr fun p => and_congr_right fun _ => ?_
  unfold takenP clashP clashH
  rw [List.mem_append, Bool.or_eq_true, takenB_iff h1 hk, List.mem_flatMap, List.any_eq_true, or_comm]
  refine or_congr Iff.rfl (exists_congr fun f => and_congr_right fun _ => ?_)
  exact takenH_iff h1 hk
end Wb
