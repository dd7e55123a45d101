/- ScA QdF QdG QdH. -/
import Derived.Lib.IndexMore
import Derived.Lib.Strings
import Derived.Lib.ParseIntBCases
import Derived.Deep.Draws
import Derived.Lib.Split
import Derived.Lib.IndexBytes
import Derived.Test.YtbeglliabpflpaaGreatDoorCU12
namespace Wb
open Go
theorem one_pre {c x : UInt8} (l : List UInt8) (hx : x ≠ c) : ([c] : List UInt8).isPrefixOf (x :: l) = false := by
  simp only [List.isPrefixOf, Bool.and_true]
  exact beq_eq_false_iff_ne.2 (Ne.symm hx)
theorem index_at1 {c : UInt8} (b : List UInt8) : ∀ {a : List UInt8}, (∀ x ∈ a, x ≠ c) → Lib.index (a ++ c :: b) [c] = (a.length : Int)
  | [], _ => by
    rw [List.nil_append, Lib.index]
    simp [List.isPrefixOf]
  | x :: a, h => by
    have ih := index_at1 b (a := a) fun y hy => h y (by simp [hy])
    rw [List.cons_append, Lib.index, ih, one_pre _ (h x (by simp))]
    have : (((a.length : Nat) : Int) == -1) = false := by rw [beq_eq_false_iff_ne]; omega
    simp [this]
theorem index_no1 {c : UInt8} : ∀ {a : List UInt8}, (∀ x ∈ a, x ≠ c) → Lib.index a [c] = -1
  | [], _ => rfl
  | x :: a, h => by
    rw [Lib.index, index_no1 (fun y hy => h y (by simp [hy])), one_pre _ (h x (by simp))]
    rfl
theorem cutC_free {c : UInt8} {s : List UInt8} (h : cutC c s = none) : ∀ x ∈ s, x ≠ c := by
  unfold cutC at h
  split at h
  · cases h
  · rename_i hn
    intro x hx e
    subst e
    exact hn (List.contains_iff_mem.2 hx)
theorem cut_some1 {c : UInt8} {s a b : List UInt8} (h : cutC c s = some (a, b)) : Lib.cut s [c] = (a, b, true) := by
  obtain ⟨rfl, hf⟩ := cutC_some h
  unfold Lib.cut
  rw [index_at1 b hf, if_pos (by omega)]
  simp
theorem cut_none1 {c : UInt8} {s : List UInt8} (h : cutC c s = none) : Lib.cut s [c] = (s, [], false) := by
  unfold Lib.cut
  rw [index_no1 (cutC_free h), if_neg (by omega)]
theorem pre_take' : ∀ (p s : List UInt8), Lib.hasPrefix s p = decide (s.take p.length = p)
  | [], s => by simp [Lib.hasPrefix]
  | c :: p, [] => by simp [Lib.hasPrefix, List.isPrefixOf]
  | c :: p, x :: s => by
    have := pre_take' p s
    unfold Lib.hasPrefix at this ⊢
    rw [List.isPrefixOf, this, List.length_cons, List.take_succ_cons]
    by_cases h : c = x
    · subst h; simp
    · rw [beq_eq_false_iff_ne.2 h]
      simp [Ne.symm h]
theorem nm_41 {n : List UInt8} (h : nameB n = true) : ∀ b ∈ n, b ≠ 41 := fun b hb e => by
  have := (nm_nameC h b hb).1
  subst e
  revert this
  decide
def bindQ (s : List UInt8) : Option ((List UInt8 × List UInt8) × List UInt8) :=
  if s.take 6 = sBindK then match cutC 61 (s.drop 6) with
    | none => none
    | some (n, t) => match cutC 41 t with
      | none => none
      | some (sp, r) => if nameB n = true then some ((n, sp), r) else none
  else none
theorem bindQ_is (s : List UInt8) : bindQ s = bind1 s := by
  apply Option.ext
  rintro ⟨⟨n, sp⟩, r⟩
  constructor
  · intro h
    unfold bindQ at h
    split at h
    · rename_i h6
      split at h
      · cases h
      · rename_i n' t h61
        obtain ⟨e1, f1⟩ := cutC_some h61
        split at h
        · cases h
        · rename_i sp' r' h41
          obtain ⟨e2, f2⟩ := cutC_some h41
          split at h
          · rename_i hn
            injection h with h
            injection h with h h2
            injection h with h h1
            subst h h1 h2
            have es : s = sBindK ++ (n' ++ 61 :: sp') ++ 41 :: r' := by
              rw [List.append_assoc, List.append_assoc, List.cons_append, ← e2, ← e1, ← h6, List.take_append_drop]
            rw [es]
            refine bind1_is r' hn f1 fun x hx => ?_
            rcases List.mem_append.1 hx with hx | hx
            · exact nm_41 hn x hx
            · rcases List.mem_cons.1 hx with rfl | hx
              · decide
              · exact f2 x hx
          · cases h
    · cases h
  · intro h
    obtain ⟨_, es, hn, h61, h41⟩ := bind1_len h
    unfold bindQ
    have e6 : s.take 6 = sBindK := by rw [es, List.append_assoc]; rfl
    have ed : s.drop 6 = n ++ 61 :: (sp ++ 41 :: r) := by rw [es, List.append_assoc]; simp [sBindK]
    rw [if_pos e6, ed, cutC_at _ h61]
    simp only
    rw [cutC_at r fun x hx => h41 x (by simp [hx])]
    simp only
    rw [if_pos hn]
theorem bind1_more {s bl : List UInt8} (hb : ∀ x ∈ bl, blkU x = true) : bind1 (s ++ bl) = (bind1 s).map fun x => (x.1, x.2 ++ bl) := by
  apply Option.ext
  rintro ⟨⟨n, sp⟩, r⟩
  constructor
  · intro h
    obtain ⟨_, es, hn, h61, h41⟩ := bind1_len h
    have es' : s ++ bl = (sBindK ++ (n ++ 61 :: sp) ++ [41]) ++ r := by rw [es]; simp
    rcases List.append_eq_append_iff.1 es' with ⟨a, h1, h2⟩ | ⟨a, h1, h2⟩
    · rcases List.eq_nil_or_concat a with rfl | ⟨a', x, rfl⟩
      · rw [List.append_nil] at h1
        rw [List.nil_append] at h2
        rw [← h1, show sBindK ++ (n ++ 61 :: sp) ++ [41] = sBindK ++ (n ++ 61 :: sp) ++ 41 :: [] from rfl, bind1_is [] hn h61 h41, h2]
        rfl
      · have h3 := congrArg List.getLast? h1
        simp only [List.concat_eq_append, ← List.append_assoc, List.getLast?_append, List.getLast?_singleton, Option.some_or, Option.some.injEq] at h3
        have := hb x (by rw [h2]; simp)
        rw [← h3] at this
        exact absurd this (by decide)
    · rw [h1, show sBindK ++ (n ++ 61 :: sp) ++ [41] ++ a = sBindK ++ (n ++ 61 :: sp) ++ 41 :: a by simp, bind1_is a hn h61 h41, h2]
      rfl
  · intro h
    rw [Option.map_eq_some_iff] at h
    obtain ⟨⟨⟨n', sp'⟩, r'⟩, h, e⟩ := h
    injection e with e1 e2
    injection e1 with e1 e3
    simp only at e1 e2 e3
    subst e1 e2 e3
    obtain ⟨_, es, hn, h61, h41⟩ := bind1_len h
    rw [es, show sBindK ++ (n' ++ 61 :: sp') ++ 41 :: r' ++ bl = sBindK ++ (n' ++ 61 :: sp') ++ 41 :: (r' ++ bl) by simp]
    exact bind1_is _ hn h61 h41
theorem dw_all {p : UInt8 → Bool} : ∀ {l : List UInt8}, l.dropWhile p = [] → ∀ x ∈ l, p x = true
  | [], _, x, hx => by cases hx
  | y :: l, h, x, hx => by
    rw [List.dropWhile_cons] at h
    split at h
    · rename_i hy
      rcases List.mem_cons.1 hx with rfl | hx
      · exact hy
      · exact dw_all h x hx
    · cases h
theorem dw_none {p : UInt8 → Bool} : ∀ {l : List UInt8}, (∀ x ∈ l, p x = true) → l.dropWhile p = []
  | [], _ => rfl
  | x :: l, h => by
    rw [List.dropWhile_cons, if_pos (h x (by simp))]
    exact dw_none fun y hy => h y (by simp [hy])
theorem dw_more {p : UInt8 → Bool} (bl : List UInt8) : ∀ {l : List UInt8}, l.dropWhile p ≠ [] → (l ++ bl).dropWhile p = l.dropWhile p ++ bl
  | [], h => absurd rfl h
  | x :: l, h => by
    rw [List.dropWhile_cons] at h
    rw [List.cons_append, List.dropWhile_cons, List.dropWhile_cons]
    split
    · rename_i hx
      rw [if_pos hx] at h
      exact dw_more bl h
    · rfl
theorem dw_twice {p : UInt8 → Bool} : ∀ l : List UInt8, (l.dropWhile p).dropWhile p = l.dropWhile p
  | [] => rfl
  | x :: l => by
    rw [List.dropWhile_cons]
    split
    · exact dw_twice l
    · rename_i hx
      rw [List.dropWhile_cons, if_neg hx]
theorem binds_more {bl : List UInt8} (hb : ∀ x ∈ bl, blkU x = true) : ∀ (f : Nat) (s : List UInt8) (out : List Pr), bindsL f (s ++ bl) out = bindsL f s out
  | 0, _, _ => rfl
  | f + 1, s, out => by
    by_cases h : s.dropWhile blkU = []
    · rw [bindsL_end h, bindsL_end]
      exact dw_none fun x hx => by
        rcases List.mem_append.1 hx with hx | hx
        · exact dw_all h x hx
        · exact hb x hx
    · have hm := dw_more bl h
      have h' : (s ++ bl).dropWhile blkU ≠ [] := by rw [hm]; simp [h]
      cases h1 : bind1 (s.dropWhile blkU) with
      | none =>
        rw [bindsL_none h h1, bindsL_none h']
        rw [hm, bind1_more hb, h1]
        rfl
      | some x =>
        obtain ⟨⟨n, sp⟩, r⟩ := x
        rw [bindsL_some h h1, bindsL_some h' (n := n) (sp := sp) (r := r ++ bl) (by rw [hm, bind1_more hb, h1]; rfl), binds_more hb f r]
theorem binds_skip (f : Nat) (s : List UInt8) (out : List Pr) : bindsL f (s.dropWhile blkU) out = bindsL f s out := by
  cases f with
  | zero => rfl
  | succ f =>
    by_cases h : s.dropWhile blkU = []
    · rw [bindsL_end h, bindsL_end (by rw [dw_twice, h])]
    · cases h1 : bind1 (s.dropWhile blkU) with
      | none => rw [bindsL_none h h1, bindsL_none (by rw [dw_twice]; exact h) (by rw [dw_twice]; exact h1)]
      | some x =>
        obtain ⟨⟨n, sp⟩, r⟩ := x
        rw [bindsL_some h h1, bindsL_some (by rw [dw_twice]; exact h) (by rw [dw_twice]; exact h1)]
theorem tr_split (s : List UInt8) : ∃ bl, s.dropWhile blkU = trimL s ++ bl ∧ ∀ x ∈ bl, blkU x = true := by
  refine ⟨((s.dropWhile blkU).reverse.takeWhile blkU).reverse, ?_, fun x hx => ?_⟩
  · unfold trimL
    rw [← List.reverse_append, List.takeWhile_append_dropWhile, List.reverse_reverse]
  · exact tw_each blkU _ x (List.mem_reverse.1 hx)
theorem binds_trim (f : Nat) (s : List UInt8) (out : List Pr) : bindsL f (trimL s) out = bindsL f s out := by
  obtain ⟨bl, h1, h2⟩ := tr_split s
  rw [← binds_skip f s, h1, binds_more h2]
theorem trim_head (s : List UInt8) : (trimL s).dropWhile blkU = trimL s := by
  obtain ⟨bl, h1, h2⟩ := tr_split s
  cases ht : trimL s with
  | nil => rfl
  | cons x l =>
    rw [ht] at h1
    have := dw_twice (p := blkU) s
    rw [h1, List.cons_append, List.dropWhile_cons] at this
    rw [List.dropWhile_cons]
    split at this
    · have h3 := congrArg List.length this
      have h4 := dw_len (p := blkU) (l ++ bl)
      rw [List.length_cons] at h3
      omega
    · rename_i hx
      rw [if_neg hx]
theorem trim_len (s : List UInt8) : (trimL s).length ≤ s.length := by
  obtain ⟨bl, h1, h2⟩ := tr_split s
  have := dw_len (p := blkU) s
  rw [h1, List.length_append] at this
  omega
theorem pm_ok {M : Nat} : ∀ (l : List UInt8) (acc u : Nat), Lib.parseUintM M acc l = .ok u → (∀ c ∈ l, 48 ≤ c.toNat ∧ c.toNat ≤ 57) ∧ u = l.foldl (fun a c => a * 10 + (c.toNat - 48)) acc
  | [], acc, u, h => by
    simp only [Lib.parseUintM] at h
    injection h with h
    exact ⟨by simp, by simp [h]⟩
  | c :: l, acc, u, h => by
    simp only [Lib.parseUintM] at h
    split at h
    · rename_i hc
      split at h
      · cases h
      · split at h
        · cases h
        · obtain ⟨h1, h2⟩ := pm_ok l _ u h
          refine ⟨fun x hx => ?_, by rw [h2, List.foldl_cons]⟩
          rcases List.mem_cons.1 hx with rfl | hx
          · exact hc
          · exact h1 x hx
    · cases h
theorem fold_ge : ∀ (l : List UInt8) (acc : Nat), acc * 10 ^ l.length ≤ l.foldl (fun a c => a * 10 + (c.toNat - 48)) acc
  | [], acc => by simp
  | c :: l, acc => by
    have := fold_ge l (acc * 10 + (c.toNat - 48))
    rw [List.foldl_cons, List.length_cons, Nat.pow_succ]
    refine Nat.le_trans ?_ this
    rw [Nat.mul_comm (10 ^ l.length) 10, ← Nat.mul_assoc]
    exact Nat.mul_le_mul_right _ (by omega)
theorem fold_acc (l : List UInt8) (acc : Nat) : acc ≤ l.foldl (fun a c => a * 10 + (c.toNat - 48)) acc := by
  refine Nat.le_trans ?_ (fold_ge l acc)
  exact Nat.le_mul_of_pos_right _ (Nat.pow_pos (by decide))
theorem pm_small : ∀ (l : List UInt8) (acc : Nat), (∀ c ∈ l, 48 ≤ c.toNat ∧ c.toNat ≤ 57) → l.foldl (fun a c => a * 10 + (c.toNat - 48)) acc ≤ 9999 → Lib.parseUintM (2 ^ 64 - 1) acc l = .ok (l.foldl (fun a c => a * 10 + (c.toNat - 48)) acc)
  | [], acc, _, _ => by simp [Lib.parseUintM]
  | c :: l, acc, hd, hl => by
    rw [List.foldl_cons] at hl ⊢
    have h1 := fold_acc l (acc * 10 + (c.toNat - 48))
    simp only [Lib.parseUintM]
    rw [if_pos (hd c (by simp)), if_neg (by omega), if_neg (by omega)]
    exact pm_small l _ (fun x hx => hd x (by simp [hx])) hl
theorem pos_ok {t : List UInt8} {u : Nat} (h : Lib.parseUintB 64 t = .ok u) : t ≠ [] ∧ posP t = if 9999 < u ∨ t.head? = some 48 then 0 else u := by
  unfold Lib.parseUintB at h
  split at h
  · cases h
  · rename_i hne
    obtain ⟨h1, h2⟩ := pm_ok t 0 u h
    refine ⟨hne, ?_⟩
    by_cases hp : posP t = 0
    · rw [hp]
      split
      · rfl
      · rename_i hc
        simp only [not_or] at hc
        unfold posP at hp
        split at hp
        · rw [h2]
          exact hp.symm
        · rename_i hq
          exfalso
          refine hq ⟨?_, ?_, hc.2, h1⟩
          · cases t with
            | nil => exact absurd rfl hne
            | cons c r => simp
          · cases t with
            | nil => exact absurd rfl hne
            | cons c r =>
              have hc0 := h1 c (by simp)
              have hc8 : c ≠ 48 := fun e => hc.2 (by rw [e]; rfl)
              have : c.toNat ≠ 48 := fun e => hc8 (UInt8.toNat_inj.1 e)
              rw [List.foldl_cons] at h2
              have h3 := fold_ge r (0 * 10 + (c.toNat - 48))
              rw [← h2] at h3
              by_cases hr : r.length < 4
              · rw [List.length_cons]; omega
              · exfalso
                have h4 : 10 ^ 4 ≤ 10 ^ r.length := Nat.pow_le_pow_right (by decide) (by omega)
                have h5 : 10 ^ 4 = 10000 := rfl
                have h6 : 1 * 10 ^ r.length ≤ (0 * 10 + (c.toNat - 48)) * 10 ^ r.length := Nat.mul_le_mul_right _ (by omega)
                omega
    · have hle := posP_le t
      unfold posP at hp hle ⊢
      split at hp
      · rename_i hq
        rw [if_pos hq] at hle ⊢
        have e : valN t = u := h2.symm
        rw [e] at hle ⊢
        rw [if_neg]
        rintro (h | h)
        · omega
        · exact hq.2.2.1 h
      · exact absurd rfl hp
theorem pos_bad {t : List UInt8} (h : ∀ u, Lib.parseUintB 64 t ≠ .ok u) : posP t = 0 := by
  have hle := posP_le t
  unfold posP at hle ⊢
  split
  · rename_i hq
    rw [if_pos hq] at hle
    exfalso
    refine h (valN t) ?_
    unfold Lib.parseUintB
    rw [if_neg (by rintro rfl; exact absurd hq.1 (by simp))]
    exact pm_small t 0 hq.2.2.2 hle
  · rfl
def cposP (s : List UInt8) : Nat × List UInt8 :=
  if s.take 1 = [91] then match cutC 93 (s.drop 1) with
    | none => (0, s)
    | some (t, r) => if posP t = 0 then (0, s) else (posP t, r)
  else (0, s)
theorem posP_at (t : List UInt8) : posP (64 :: t) = 0 := by
  unfold posP
  rw [if_neg]
  intro h
  have := (h.2.2.2 64 (by simp)).2
  revert this
  decide
theorem head_rest (d : List UInt8) : (headP d).2 = [] ∨ ∃ r, (headP d).2 = 91 :: r := by
  unfold headP
  cases h : d.dropWhile (· != 91) with
  | nil => exact .inl rfl
  | cons x r =>
    right
    have := List.head_dropWhile_not (p := (· != 91)) (l := d) (by rw [h]; simp)
    have e : (d.dropWhile (· != 91)).head (by rw [h]; simp) = x := by simp [h]
    rw [e] at this
    exact ⟨r, by simpa using this⟩
theorem cpos_none {r : List UInt8} (hp : posnP r = none) : (cposP r).2 ≠ [] ∧ testP (cposP r).2 = none := by
  unfold posnP at hp
  split at hp
  · cases hp
  · rename_i hc
    simp only [not_or] at hc
    have e : cposP r = (0, r) := by
      unfold cposP
      split
      · split at hp
        · rename_i h1
          rw [h1]
        · rename_i t r' h1
          rw [h1]
          simp only
          split at hp
          · rename_i h0
            rw [if_pos h0]
          · cases hp
      · rfl
    rw [e]
    refine ⟨hc.1, ?_⟩
    unfold testP
    rw [if_neg hc.2]
theorem cpos_some {r r' : List UInt8} {p : Nat} (h : r = [] ∨ ∃ q, r = 91 :: q) (hp : posnP r = some (p, r')) : cposP r = (p, r') := by
  unfold posnP at hp
  rcases h with rfl | ⟨q, rfl⟩
  · rw [if_pos (.inl rfl)] at hp
    exact (show cposP [] = (0, []) from rfl).trans (Option.some.inj hp)
  · split at hp
    · rename_i hc
      injection hp with hp
      rw [← hp]
      rcases hc with hc | hc
      · cases hc
      · cases q with
        | nil => simp at hc
        | cons x q =>
          simp only [List.take_succ_cons, List.take_zero, List.cons.injEq, and_true, true_and] at hc
          subst hc
          unfold cposP
          rw [if_pos (show List.take 1 (91 :: 64 :: q) = [91] from rfl)]
          simp only [List.drop_succ_cons, List.drop_zero]
          split
          · rfl
          · rename_i t r' h1
            obtain ⟨e, _⟩ := cutC_some h1
            cases t with
            | nil =>
              rw [List.nil_append] at e
              injection e with e _
              exact absurd e (by decide)
            | cons y t =>
              rw [List.cons_append] at e
              injection e with e _
              subst e
              rw [posP_at, if_pos rfl]
    · split at hp
      · cases hp
      · rename_i t r'' h1
        split at hp
        · cases hp
        · rename_i h0
          injection hp with hp
          rw [← hp]
          unfold cposP
          rw [if_pos (show List.take 1 (91 :: q) = [91] from rfl), h1]
          simp only
          rw [if_neg h0]
end Wb
namespace Wb
open Go
theorem pieceA_miss (c : UInt8) : ∀ (s cur : List UInt8), Lib.indexByte s c = -1 → pieceA c cur s = [cur ++ s]
  | [], cur, _ => by rw [pieceA, List.append_nil]
  | b :: l, cur, h => by
    rw [Lib.indexByte] at h
    rw [pieceA]
    split at h
    · cases h
    · rename_i hb
      have hbc : b ≠ c := by simpa using hb
      rw [if_neg hbc]
      have hl : Lib.indexByte l c = -1 := by
        split at h
        · rename_i h2; simpa using h2
        · have := Lib.indexByte_ge l c
          rename_i h2
          have h2 : Lib.indexByte l c ≠ -1 := by simpa using h2
          omega
      rw [pieceA_miss c l _ hl, List.append_assoc]
      rfl
theorem pieceA_hit (c : UInt8) : ∀ (s cur : List UInt8) (i : Nat), Lib.indexByte s c = i → pieceA c cur s = (cur ++ s.take i) :: pieceA c [] (s.drop (i + 1))
  | [], cur, i, h => by rw [Lib.indexByte] at h; omega
  | b :: l, cur, i, h => by
    rw [Lib.indexByte] at h
    rw [pieceA]
    split at h
    · rename_i hb
      have hbc : b = c := by simpa using hb
      obtain rfl : i = 0 := by omega
      rw [if_pos hbc, List.take_zero, List.append_nil]
      rfl
    · rename_i hb
      have hbc : b ≠ c := by simpa using hb
      rw [if_neg hbc]
      split at h
      · omega
      · rename_i h2
        have h2 : Lib.indexByte l c ≠ -1 := by simpa using h2
        have := Lib.indexByte_ge l c
        obtain ⟨k, rfl⟩ : ∃ k, i = k + 1 := ⟨i - 1, by omega⟩
        rw [pieceA_hit c l _ k (by omega), List.append_assoc]
        rfl
theorem split_piece (c : UInt8) : ∀ (n : Nat) (s : List UInt8), s.length ≤ n → Lib.split s [c] = pieceF c s
  | n, s, hn => by
    have hge := Lib.indexByte_ge s c
    by_cases h : Lib.indexByte s c = -1
    · have hi : Lib.index s [c] = -1 := by rw [Lib.index_one]; exact h
      unfold Lib.split
      rw [Lib.count_miss hi]
      show [s] = _
      unfold pieceF
      rw [pieceA_miss c s [] h]
      rfl
    · obtain ⟨i, hi⟩ : ∃ i : Nat, Lib.indexByte s c = i := ⟨(Lib.indexByte s c).toNat, by omega⟩
      have hi2 : Lib.index s [c] = i := by rw [Lib.index_one]; exact hi
      have hls : s ≠ [] := by
        rintro rfl
        rw [Lib.indexByte] at hi
        omega
      obtain ⟨m, rfl⟩ : ∃ m, n = m + 1 := ⟨n - 1, by
        cases s with
        | nil => exact absurd rfl hls
        | cons a r => rw [List.length_cons] at hn; omega⟩
      have hr := split_piece c m (s.drop (i + 1)) (by
        rw [List.length_drop]
        omega)
      unfold Lib.split at hr ⊢
      have hl : [c].length = 1 := rfl
      rw [Lib.count_hit (by simp) hi2, hl, Nat.add_comm 1, Lib.splitK, hi2, if_neg (by simp), hl]
      show s.take ((i : Int).toNat + 0) :: Lib.splitK [c] 0 (Lib.count (s.drop (i + 1)) [c]) (s.drop ((i : Int).toNat + 1)) = _
      rw [Int.toNat_natCast, hr]
      unfold pieceF
      rw [pieceA_hit c s [] i hi]
      rfl
theorem split_pieces (c : UInt8) (s : ByteArray) : Lib.splitB ⟨#[c]⟩ 0 (Lib.countB s ⟨#[c]⟩) s = pcsB c s := by
  have h := Lib.splitB_data ⟨#[c]⟩ 0 (Lib.countB s ⟨#[c]⟩) s
  have h2 : Lib.splitK (⟨#[c]⟩ : ByteArray).data.toList 0 (Lib.countB s ⟨#[c]⟩) s.data.toList = pieceF c s.data.toList := split_piece c _ s.data.toList (Nat.le_refl _)
  rw [h2] at h
  unfold pcsB
  rw [← h, List.map_map]
  have : ((fun l : List UInt8 => (⟨l.toArray⟩ : ByteArray)) ∘ fun x : ByteArray => x.data.toList) = id := by
    funext x
    simp
  rw [this, List.map_id]
theorem piece_cnt (c : UInt8) : ∀ (n : Nat) (s : List UInt8), s.length ≤ n → (pieceF c s).length = Lib.count s [c] + 1
  | n, s, hn => by
    have hge := Lib.indexByte_ge s c
    by_cases h : Lib.indexByte s c = -1
    · have hi : Lib.index s [c] = -1 := by rw [Lib.index_one]; exact h
      rw [Lib.count_miss hi]
      unfold pieceF
      rw [pieceA_miss c s [] h]
      rfl
    · obtain ⟨i, hi⟩ : ∃ i : Nat, Lib.indexByte s c = i := ⟨(Lib.indexByte s c).toNat, by omega⟩
      have hi2 : Lib.index s [c] = i := by rw [Lib.index_one]; exact hi
      have hls : s ≠ [] := by
        rintro rfl
        rw [Lib.indexByte] at hi
        omega
      obtain ⟨m, rfl⟩ : ∃ m, n = m + 1 := ⟨n - 1, by
        cases s with
        | nil => exact absurd rfl hls
        | cons a r => rw [List.length_cons] at hn; omega⟩
      have hr := piece_cnt c m (s.drop (i + 1)) (by
        rw [List.length_drop]
        omega)
      unfold pieceF at hr ⊢
      have hl : [c].length = 1 := rfl
      rw [pieceA_hit c s [] i hi, List.length_cons, hr, Lib.count_hit (by simp) hi2, hl]
      omega
theorem pcs_cnt (c : UInt8) (s : ByteArray) : (pcsB c s).length = Lib.countB s ⟨#[c]⟩ + 1 := by
  unfold pcsB
  rw [List.length_map, piece_cnt c _ s.data.toList (Nat.le_refl _)]
def arrB (f : Nat → Bool) : Array Value := Array.ofFn (n := 256) fun i => .bool (f i.val)
theorem arrB_size (f : Nat → Bool) : (arrB f).size = 256 := by simp [arrB]
theorem arrB_at (f : Nat → Bool) {j : Nat} (h : j < 256) : (arrB f)[j]? = some (.bool (f j)) := by
  unfold arrB
  rw [Array.getElem?_ofFn, dif_pos h]
theorem arrB_congr {f g : Nat → Bool} (h : ∀ j, j < 256 → f j = g j) : arrB f = arrB g := by
  unfold arrB
  congr 1
  funext i
  rw [h i.val i.isLt]
theorem arrB_set (f : Nat → Bool) {i : Nat} (h : i < 256) (b : Bool) : (arrB f).setIfInBounds i (.bool b) = arrB fun j => if j = i then b else f j := by
  apply Array.ext_getElem?
  intro j
  rw [Array.getElem?_setIfInBounds]
  unfold arrB
  rw [Array.getElem?_ofFn, Array.getElem?_ofFn, Array.size_ofFn]
  by_cases hj : j < 256
  · rw [dif_pos hj, dif_pos hj]
    by_cases e : i = j
    · subst e
      simp [h]
    · have e2 : ¬ j = i := fun h => e h.symm
      simp [e, e2]
  · have : i ≠ j := by omega
    rw [dif_neg hj, dif_neg hj, if_neg this]
theorem arrB_one (f : Nat → Bool) : (arrB f).all (·.oneCell') = true := by
  rw [Array.all_eq_true_iff_forall_mem]
  intro v hv
  unfold arrB at hv
  rw [Array.mem_ofFn] at hv
  obtain ⟨i, rfl⟩ := hv
  rfl
theorem arrB_false : Array.replicate 256 (Value.bool false) = arrB fun _ => false := by
  apply Array.ext_getElem?
  intro j
  unfold arrB
  rw [Array.getElem?_replicate, Array.getElem?_ofFn]
  by_cases h : j < 256 <;> simp [h]
def fP (i j : Nat) : Bool := decide (j < i) && plC (UInt8.ofNat j)
def fK (keep : List UInt8) (i j : Nat) : Bool := plC (UInt8.ofNat j) || (keep.take i).contains (UInt8.ofNat j)
def fA (keep : List UInt8) (j : Nat) : Bool := if j = 37 then false else fK keep keep.length j
theorem fP_zero : arrB (fP 0) = Array.replicate 256 (Value.bool false) := by
  rw [arrB_false]
  exact arrB_congr fun j _ => by unfold fP; simp
theorem fP_step {i : Nat} (h : i < 256) : (arrB (fP i)).setIfInBounds i (.bool (plC (UInt8.ofNat i))) = arrB (fP (i + 1)) := by
  rw [arrB_set _ h]
  refine arrB_congr fun j hj => ?_
  by_cases e : j = i
  · subst e
    rw [if_pos rfl]
    unfold fP
    simp
  · rw [if_neg e]
    unfold fP
    congr 1
    rw [decide_eq_decide]
    omega
theorem fP_end (keep : List UInt8) : arrB (fP 256) = arrB (fK keep 0) := arrB_congr fun j hj => by unfold fP fK; simp [hj]
theorem fK_step {keep : List UInt8} {i : Nat} {c : UInt8} (h : keep[i]? = some c) : (arrB (fK keep i)).setIfInBounds c.toNat (.bool true) = arrB (fK keep (i + 1)) := by
  rw [arrB_set _ c.toNat_lt]
  refine arrB_congr fun j hj => ?_
  unfold fK
  rw [List.take_add_one, h]
  show _ = (plC _ || (keep.take i ++ [c]).contains _)
  rw [List.contains_append]
  by_cases e : j = c.toNat
  · subst e
    rw [if_pos rfl]
    simp
  · rw [if_neg e]
    have : ([c] : List UInt8).contains (UInt8.ofNat j) = false := by
      rw [List.contains_cons, List.contains_nil, Bool.or_false, beq_eq_false_iff_ne]
      intro h2
      apply e
      rw [← h2, UInt8.toNat_ofNat']
      omega
    rw [this, Bool.or_false]
theorem fA_step (keep : List UInt8) : (arrB (fK keep keep.length)).setIfInBounds 37 (.bool false) = arrB (fA keep) := by
  rw [arrB_set _ (by decide)]
  rfl
theorem fA_at (keep : List UInt8) (c : UInt8) : fA keep c.toNat = ((plC c || keep.contains c) && c != 37) := by
  unfold fA fK
  rw [List.take_of_length_le (Nat.le_refl _), UInt8.ofNat_toNat]
  by_cases e : c = 37
  · subst e
    simp
  · have : c.toNat ≠ 37 := fun h => e (by
      apply UInt8.toNat_inj.1
      rw [h]
      rfl)
    rw [if_neg this]
    have e2 : (c != 37) = true := by rw [bne_iff_ne]; exact e
    rw [e2, Bool.and_true]
end Wb
namespace Wb
def escV (s : List UInt8) : UInt8 := match s with
  | a :: b :: _ => if dgV a < 0 ∨ dgV b < 0 then 0 else UInt8.ofNat (dgV a * 16 + dgV b).toNat
  | _ => 0
def escO (s : List UInt8) : Bool := match s with
  | a :: b :: _ => !decide (dgV a < 0 ∨ dgV b < 0)
  | _ => false
end Wb
namespace Go.Proofs.YtbeglliabpflpaaGreatDoor
open Go.RowKit Wb
set_option maxRecDepth 100000 in
set_option maxHeartbeats 4000000 in
theorem pplain_any (c : UInt8) (w : World) :
    Calls Tryz.prog 92 #[.int .u8 c.toNat] w fun e w' => e = .returned (.bool (plC c)) ∧ w = w' := by
  have hv : ∀ b : Bool, (plC c = b ↔ ((97 ≤ c.toNat ∧ c.toNat ≤ 122) ∨ (65 ≤ c.toNat ∧ c.toNat ≤ 90) ∨ (48 ≤ c.toNat ∧ c.toNat ≤ 57) ∨ c.toNat = 45 ∨ c.toNat = 46 ∨ c.toNat = 95 ∨ c.toNat = 126 ↔ b = true)) := by
    intro b
    unfold plC
    rw [Bool.eq_iff_iff]
    have e : ∀ d : UInt8, (c == d) = true ↔ c.toNat = d.toNat := fun d => by rw [beq_iff_eq, UInt8.toNat_inj]
    simp only [Bool.or_eq_true, Bool.and_eq_true, decide_eq_true_eq, or_assoc, e]
    rfl
  have hr : (plC c = true ∧ 97 ≤ c.toNat ∧ c.toNat ≤ 122) ∨ (plC c = true ∧ 65 ≤ c.toNat ∧ c.toNat ≤ 90) ∨ (plC c = true ∧ 48 ≤ c.toNat ∧ c.toNat ≤ 57) ∨
      (plC c = true ∧ (c.toNat = 45 ∨ c.toNat = 46 ∨ c.toNat = 95 ∨ c.toNat = 126)) ∨
      (plC c = false ∧ c.toNat < 48 ∧ c.toNat ≠ 45 ∧ c.toNat ≠ 46) ∨ (plC c = false ∧ 57 < c.toNat ∧ c.toNat < 65) ∨ (plC c = false ∧ 90 < c.toNat ∧ c.toNat < 97 ∧ c.toNat ≠ 95) ∨ (plC c = false ∧ 122 < c.toNat ∧ c.toNat ≠ 126) := by
    rw [hv true, hv false]
    simp only [Bool.false_eq_true, iff_false, iff_true]
    omega
  clear hv
  go_enter Tryz.func92, Tryz.ntmps92
  rcases hr with ⟨hr, h1, h2⟩ | ⟨hr, h1, h2⟩ | ⟨hr, h1, h2⟩ | ⟨hr, h1 | h1 | h1 | h1⟩ | ⟨hr, h1, h2, h3⟩ | ⟨hr, h1, h2⟩ | ⟨hr, h1, h2, h3⟩ | ⟨hr, h1, h2⟩
  all_goals
    rw [hr]
    clear hr
    go_wp2
    go_ret
  all_goals first
    | exact ⟨rfl, rfl⟩
    | (refine ⟨?_, rfl⟩; simp; omega)
    | (refine ⟨?_, rfl⟩; simp [h1])
def dgO (c : UInt8) : Bool := decide (0 ≤ dgV c)
def dgW (c : UInt8) : Int := if dgV c < 0 then 0 else dgV c
set_option maxRecDepth 100000 in
set_option maxHeartbeats 4000000 in
theorem pdigit_any (c : UInt8) (w : World) :
    Calls Tryz.prog 75 #[.int .u8 c.toNat] w fun e w' => e = .returned (.tuple #[.int .u8 (dgW c), .bool (dgO c)]) ∧ w = w' := by
  have hr : (dgW c = c.toNat - 48 ∧ dgO c = true ∧ 48 ≤ c.toNat ∧ c.toNat ≤ 57) ∨ (dgW c = c.toNat - 55 ∧ dgO c = true ∧ 65 ≤ c.toNat ∧ c.toNat ≤ 70) ∨ (dgW c = c.toNat - 87 ∧ dgO c = true ∧ 97 ≤ c.toNat ∧ c.toNat ≤ 102) ∨
      (dgW c = 0 ∧ dgO c = false ∧ c.toNat < 48) ∨ (dgW c = 0 ∧ dgO c = false ∧ 57 < c.toNat ∧ c.toNat < 65) ∨ (dgW c = 0 ∧ dgO c = false ∧ 70 < c.toNat ∧ c.toNat < 97) ∨ (dgW c = 0 ∧ dgO c = false ∧ 102 < c.toNat) := by
    have hd : (dgV c = c.toNat - 48 ∧ 48 ≤ c.toNat ∧ c.toNat ≤ 57) ∨ (dgV c = c.toNat - 55 ∧ 65 ≤ c.toNat ∧ c.toNat ≤ 70) ∨ (dgV c = c.toNat - 87 ∧ 97 ≤ c.toNat ∧ c.toNat ≤ 102) ∨
        (dgV c = -1 ∧ c.toNat < 48) ∨ (dgV c = -1 ∧ 57 < c.toNat ∧ c.toNat < 65) ∨ (dgV c = -1 ∧ 70 < c.toNat ∧ c.toNat < 97) ∨ (dgV c = -1 ∧ 102 < c.toNat) := by
      unfold dgV
      repeat' split
      all_goals omega
    unfold dgW dgO
    rcases hd with ⟨h, h1, h2⟩ | ⟨h, h1, h2⟩ | ⟨h, h1, h2⟩ | ⟨h, h1⟩ | ⟨h, h1, h2⟩ | ⟨h, h1, h2⟩ | ⟨h, h1⟩
    · refine .inl ⟨?_, ?_, h1, h2⟩
      · rw [if_neg (by omega)]; exact h
      · rw [decide_eq_true_eq]; omega
    · refine .inr (.inl ⟨?_, ?_, h1, h2⟩)
      · rw [if_neg (by omega)]; exact h
      · rw [decide_eq_true_eq]; omega
    · refine .inr (.inr (.inl ⟨?_, ?_, h1, h2⟩))
      · rw [if_neg (by omega)]; exact h
      · rw [decide_eq_true_eq]; omega
    all_goals have hz : (if dgV c < 0 then (0 : Int) else dgV c) = 0 ∧ decide (0 ≤ dgV c) = false := ⟨by rw [if_pos (by omega)], by rw [decide_eq_false_iff_not]; omega⟩
    · exact .inr (.inr (.inr (.inl ⟨hz.1, hz.2, h1⟩)))
    · exact .inr (.inr (.inr (.inr (.inl ⟨hz.1, hz.2, h1, h2⟩))))
    · exact .inr (.inr (.inr (.inr (.inr (.inl ⟨hz.1, hz.2, h1, h2⟩)))))
    · exact .inr (.inr (.inr (.inr (.inr (.inr ⟨hz.1, hz.2, h1⟩)))))
  have hk := c.toNat_lt
  go_enter Tryz.func75, Tryz.ntmps75
  rcases hr with ⟨hr, hq, h1, h2⟩ | ⟨hr, hq, h1, h2⟩ | ⟨hr, hq, h1, h2⟩ | ⟨hr, hq, h1⟩ | ⟨hr, hq, h1, h2⟩ | ⟨hr, hq, h1, h2⟩ | ⟨hr, hq, h1⟩
  all_goals
    rw [hr, hq]
    clear hr hq
    go_wp2
    go_ret2
  all_goals first
    | exact ⟨rfl, rfl⟩
    | (refine ⟨?_, rfl⟩; go_num)
end Go.Proofs.YtbeglliabpflpaaGreatDoor
namespace Wb
theorem esc_short {s : List UInt8} (h : s.length < 2) : escV s = 0 ∧ escO s = false := by
  match s, h with
  | [], _ => exact ⟨rfl, rfl⟩
  | [x], _ => exact ⟨rfl, rfl⟩
theorem esc_two {s : List UInt8} {a b : UInt8} (h : 2 ≤ s.length) (h0 : s[0] = a) (h1 : s[1] = b) : escV s = (if dgV a < 0 ∨ dgV b < 0 then 0 else UInt8.ofNat (dgV a * 16 + dgV b).toNat) ∧ escO s = !decide (dgV a < 0 ∨ dgV b < 0) := by
  match s, h with
  | x :: y :: r, _ =>
    subst h0
    subst h1
    exact ⟨rfl, rfl⟩
theorem u8_hl (x y : Nat) (hx : x < 16) (hy : y < 16) : Go.bits .or .u8 ((x : Int) * 16) (y : Int) = ((x * 16 + y : Nat) : Int) := by
  have := u8_or_base x 4 (x * 16) 16 (y : Int) rfl rfl (by omega) (by omega) (by omega)
  rw [show ((x : Int) * 16) = ((x * 16 : Nat) : Int) by omega, this]
  omega
end Wb
namespace Go.Proofs.YtbeglliabpflpaaGreatDoor
open Go.RowKit Wb
set_option maxRecDepth 100000 in
set_option maxHeartbeats 4000000 in
theorem pescaped_any (s : ByteArray) (w : World) :
    Calls Tryz.prog 39 #[.string s] w fun e w' => e = .returned (.tuple #[.int .u8 (escV s.data.toList).toNat, .bool (escO s.data.toList)]) ∧ w = w' := by
  by_cases h2 : s.size < 2
  · obtain ⟨e1, e2⟩ := esc_short (s := s.data.toList) (by simpa using h2)
    rw [e1, e2]
    clear e1 e2
    go_enter Tryz.func39, Tryz.ntmps39
    go_wp2
    go_ret2
    exact ⟨rfl, rfl⟩
  · have h2 : 2 ≤ s.size := by omega
    obtain ⟨a, ha⟩ : ∃ a, s[0] = a := ⟨_, rfl⟩
    obtain ⟨b, hb⟩ : ∃ b, s[1] = b := ⟨_, rfl⟩
    obtain ⟨e1, e2⟩ := esc_two (s := s.data.toList) (a := a) (b := b) (by simpa using h2) ha hb
    have h0 : 0 < s.size := by omega
    have h1 : 1 < s.size := by omega
    have d1 := fun v => pdigit_any a v
    have d2 := fun v => pdigit_any b v
    have b1 := dgV_bd a
    have b2 := dgV_bd b
    by_cases ha0 : dgV a < 0
    · rw [if_pos (.inl ha0)] at e1
      rw [decide_eq_true (.inl ha0)] at e2
      rw [show dgO a = false by unfold dgO; rw [decide_eq_false_iff_not]; omega] at d1
      rw [e1, e2]
      generalize dgW a = wa at *
      generalize dgW b = wb at *
      generalize dgO b = ob at *
      clear e1 e2 b1 b2 ha0
      have H2 := Lib.hid d2
      clear d2
      go_enter Tryz.func39, Tryz.ntmps39
      go_wp2_with fail
      (try rw [ha])
      refine (d1 _).mono ?_
      rintro e w2 ⟨rfl, rfl⟩
      clear d1
      go_wp2_with fail
      (try rw [hb])
      refine (H2.out _).mono ?_
      rintro e w2 ⟨rfl, rfl⟩
      clear H2
      go_wp2
      go_ret2
      exact ⟨rfl, rfl⟩
    · rw [show dgO a = true by unfold dgO; rw [decide_eq_true_eq]; omega] at d1
      by_cases hb0 : dgV b < 0
      · rw [if_pos (.inr hb0)] at e1
        rw [decide_eq_true (.inr hb0)] at e2
        rw [show dgO b = false by unfold dgO; rw [decide_eq_false_iff_not]; omega] at d2
        rw [e1, e2]
        generalize dgW a = wa at *
        generalize dgW b = wb at *
        clear e1 e2 b1 b2 ha0 hb0
        have H2 := Lib.hid d2
        clear d2
        go_enter Tryz.func39, Tryz.ntmps39
        go_wp2_with fail
        (try rw [ha])
        refine (d1 _).mono ?_
        rintro e w2 ⟨rfl, rfl⟩
        clear d1
        go_wp2_with fail
        (try rw [hb])
        refine (H2.out _).mono ?_
        rintro e w2 ⟨rfl, rfl⟩
        clear H2
        go_wp2
        go_ret2
        exact ⟨rfl, rfl⟩
      · rw [if_neg (by omega)] at e1
        rw [decide_eq_false (by omega)] at e2
        rw [show dgO b = true by unfold dgO; rw [decide_eq_true_eq]; omega] at d2
        obtain ⟨x, hx⟩ : ∃ x : Nat, dgV a = x := ⟨(dgV a).toNat, by omega⟩
        obtain ⟨y, hy⟩ : ∃ y : Nat, dgV b = y := ⟨(dgV b).toNat, by omega⟩
        rw [show dgW a = x by unfold dgW; rw [if_neg (by omega)]; exact hx] at d1
        rw [show dgW b = y by unfold dgW; rw [if_neg (by omega)]; exact hy] at d2
        have hx16 : x < 16 := by omega
        have hy16 : y < 16 := by omega
        have e3 : ((escV s.data.toList).toNat : Int) = ((x * 16 + y : Nat) : Int) := by
          rw [e1, hx, hy, UInt8.toNat_ofNat']
          omega
        rw [e2, e3]
        have hor := u8_hl x y hx16 hy16
        clear e1 e2 e3 b1 b2 ha0 hb0 hx hy
        have H2 := Lib.hid d2
        clear d2
        go_enter Tryz.func39, Tryz.ntmps39
        go_wp2_with fail
        (try rw [ha])
        refine (d1 _).mono ?_
        rintro e w2 ⟨rfl, rfl⟩
        clear d1
        go_wp2_with fail
        (try rw [hb])
        refine (H2.out _).mono ?_
        rintro e w2 ⟨rfl, rfl⟩
        clear H2
        go_wp2
        go_ret2
        refine ⟨?_, rfl⟩
        rfl
end Go.Proofs.YtbeglliabpflpaaGreatDoor
