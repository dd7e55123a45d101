/- Open FdY QaP QaQ QaR QaS. -/
import Derived.Deep.SlicePairs
import Derived.Carry
import Derived.Lib.Replace
import Derived.Lib.CountLaws
import Derived.Lib.IndexLaws
import Derived.Lib.IndexBytes
import Derived.Test.YtmabhbihgenmcaaGreatDoorKb3
import Derived.Test.YtmabhbihgenmcaaGreatDoorKb4
namespace Wb
open Go Go.RowKit Go.Deep Go.ChangeShapes Go.WideShapes
def strOf : Value → ByteArray
  | .string s => s
  | _ => ⟨#[]⟩
section
variable {H : Type} {enc : TypeId × Value → H} {P : Program} {W : World} {base : Nat} {spare : Nat → Bool} {held : Bool}
theorem sl2_of_trod {t e : TypeId} {f0 f1 : Field} {A : Option Addr} {len cap : Nat} {d : DataW H} {p : List MemPlace} (ht : P.underlying t = some (.slice e)) (he : P.underlying e = some (.struct #[f0, f1]))
    (ce : P.cellsOf e = 2) (o0 : f0.offset = 0) (o1 : f1.offset = 1) (c0 : P.cellsOf f0.type = 1) (c1 : P.cellsOf f1.type = 1) (s0 : P.underlying f0.type = some .string) (s1 : P.underlying f1.type = some .string)
    (h : DataW.Trod enc P W base spare held t (.slice A len cap) d p) : ∃ l : List Pr, len = l.length ∧ Sl2 W A l := by
  obtain ⟨fuel, hf⟩ := h
  rcases open_slice_pairs ht he ce o0 o1 c0 c1 hf with ⟨hcs, _⟩ | ⟨a, ln, cp, m, n, V0, V1, D0, D1, P0, P1, hcs, _, hlc, _, hm, _, hi⟩
  · simp [Value.cells] at hcs
    obtain ⟨rfl, rfl, rfl⟩ := hcs
    exact ⟨[], rfl, Sl2.nil _ _⟩
  · simp [Value.cells] at hcs
    obtain ⟨rfl, rfl, rfl⟩ := hcs
    have hlm : len ≤ m := by rw [hm]; split <;> omega
    have hs : ∀ i, i < len → W.cell? (a.add (i * 2)) = some (.string (strOf (V0 i))) ∧ W.cell? (a.add (i * 2 + 1)) = some (.string (strOf (V1 i))) := by
      intro i hil
      obtain ⟨h1, h2, h3, h4⟩ := hi i (by omega)
      obtain ⟨x, hx, _⟩ := DataW.trod_string s0 h3
      obtain ⟨y, hy, _⟩ := DataW.trod_string s1 h4
      simp only [List.cons.injEq, and_true] at hx hy
      rw [h1, h2, hx, hy]
      exact ⟨rfl, rfl⟩
    refine ⟨(List.range len).map fun i => (strOf (V0 i), strOf (V1 i)), by simp, cells2_length _, fun hn => ?_⟩
    simp only [List.length_map, List.length_range] at hn
    have hb : a.block < W.heap.size := by
      have := World.block_lt_of_cell? W _ (hs 0 hn).1
      rw [add_block] at this
      exact this
    refine ⟨a, rfl, hb, fun j u hu => ?_⟩
    have hj : j < len * 2 := by
      have := (List.getElem?_eq_some_iff.1 hu).1
      rw [cells2_length] at this
      simpa using this
    have hx : ((List.range len).map fun i => (strOf (V0 i), strOf (V1 i)))[j / 2]? = some (strOf (V0 (j / 2)), strOf (V1 (j / 2))) := by
      rw [List.getElem?_map, List.getElem?_range (by omega)]; rfl
    obtain ⟨g1, g2⟩ := cells2_at _ _ _ hx
    obtain ⟨h1, h2⟩ := hs (j / 2) (by omega)
    rcases (by omega : j = j / 2 * 2 ∨ j = j / 2 * 2 + 1) with e | e
    · rw [e] at hu ⊢
      rw [g1] at hu
      rw [h1, hu]
    · rw [e] at hu ⊢
      rw [g2] at hu
      rw [h2, hu]
end
end Wb
namespace Wb
open Go
theorem rpl_nil {o n : List UInt8} (ho : o ≠ []) (hn : o ≠ n) : Lib.replaceAll [] o n = [] := by
  have hi : Lib.index [] o = -1 := by
    unfold Lib.index
    cases o with
    | nil => exact absurd rfl ho
    | cons c l => rfl
  unfold Lib.replaceAll Lib.replace Lib.replaceNum
  rw [if_neg (by simpa using hn), if_pos (.inl (by omega)), Lib.count_miss hi]
  rfl
def idxG {α : Type} (p : α → Bool) : List α → Int
  | [] => -1
  | a :: l => if p a = true then 0 else if idxG p l < 0 then -1 else idxG p l + 1
theorem idxG_ge {α : Type} (p : α → Bool) : ∀ l, -1 ≤ idxG p l
  | [] => by simp [idxG]
  | a :: l => by
    have := idxG_ge p l
    unfold idxG
    split
    · omega
    · split <;> omega
theorem idxG_any {α : Type} (p : α → Bool) : ∀ l, decide (0 ≤ idxG p l) = l.any p
  | [] => rfl
  | a :: l => by
    have ih := idxG_any p l
    have := idxG_ge p l
    unfold idxG
    rw [List.any_cons]
    cases h : p a
    · rw [if_neg (by simp), Bool.false_or, ← ih]
      by_cases hn : idxG p l < 0
      · rw [if_pos hn, decide_eq_false (by omega), decide_eq_false (by omega)]
      · rw [if_neg hn, decide_eq_true (by omega), decide_eq_true (by omega)]
    · rw [if_pos rfl]; rfl
theorem idxG_drop {α : Type} {p : α → Bool} {l : List α} {i : Nat} {a : α} (h : l[i]? = some a) : idxG p (l.drop i) = if p a = true then 0 else if idxG p (l.drop (i + 1)) < 0 then -1 else idxG p (l.drop (i + 1)) + 1 := by
  obtain ⟨hi, e⟩ := List.getElem?_eq_some_iff.1 h
  rw [List.drop_eq_getElem_cons hi, e]
  rfl
end Wb
namespace Wb
def bndC (c : UInt8) : Bool := (decide (48 ≤ c.toNat) && decide (c.toNat ≤ 57)) || (decide (65 ≤ c.toNat) && decide (c.toNat ≤ 90)) || (decide (97 ≤ c.toNat) && decide (c.toNat ≤ 122)) ||
  ([39, 40, 41, 43, 95, 44, 45, 46, 47, 58, 61, 63] : List UInt8).contains c
def bndF (b : List UInt8) : Bool := b.all bndC && decide (1 ≤ b.length) && decide (b.length ≤ 70)
def delB (b : List UInt8) : List UInt8 := 45 :: 45 :: b
def lineD (b : List UInt8) : List UInt8 := 13 :: 10 :: 45 :: 45 :: b
def inF (t : List UInt8) : List UInt8 → Bool
  | [] => t.isEmpty
  | c :: l => t.isPrefixOf (c :: l) || inF t l
abbrev Pt := List (List UInt8 × List UInt8) × List UInt8
def clashB (b body : List UInt8) : Bool := inF (lineD b) (13 :: 10 :: body)
def clashH (b : List UInt8) (fs : List (List UInt8 × List UInt8)) : Bool := fs.any fun f => (delB b).isPrefixOf (f.1 ++ [58])
def clashP (b : List UInt8) (p : Pt) : Bool := clashB b p.2 || clashH b p.1
def clashL (b : List UInt8) (l : List Pt) : Bool := l.any (clashP b)
def printH (fs : List (List UInt8 × List UInt8)) : Except Int (List UInt8) := if 8 < fs.length then .error 3 else printFs fs
def partsM (b : List UInt8) : List Pt → Except Int (List UInt8)
  | [] => .ok (delB b ++ [45, 45, 13, 10])
  | p :: l => match printH p.1 with
    | .error e => .error e
    | .ok h => match partsM b l with
      | .error e => .error e
      | .ok s => .ok (delB b ++ 13 :: 10 :: (h ++ (p.2 ++ 13 :: 10 :: s)))
def printM (b : List UInt8) (l : List Pt) : Except Int (List UInt8) :=
  if bndF b = false ∨ clashL b l = true then .error 30 else if 40 < l.length then .error 3 else if l.length = 0 then .error 2 else partsM b l
def findD (b : List UInt8) : List UInt8 → Option (List UInt8 × List UInt8)
  | [] => none
  | c :: l => if (lineD b).isPrefixOf (c :: l) = true then some ([], l.drop 1) else (findD b l).map fun r => (c :: r.1, r.2)
def nextD (b s : List UInt8) : Option (List UInt8 × List UInt8) := if (delB b).isPrefixOf s = true then some ([], s) else findD b s
def parsePs : Nat → List UInt8 → Nat → List UInt8 → Except Int (List Pt)
  | 0, _, _, _ => .error 0
  | f + 1, b, k, s =>
    let r := s.drop (2 + b.length)
    if ([45, 45] : List UInt8).isPrefixOf r = true then (if k = 0 then .error 2 else .ok []) else
    let r2 := r.dropWhile blankB
    if ([13, 10] : List UInt8).isPrefixOf r2 = false then .error 4 else match nextD b (r2.drop 2) with
    | none => .error 2
    | some (t, r3) => if k = 40 then .error 3 else match parseL (t.length + 1) 0 t with
      | .error e => .error e
      | .ok (fs, body) => match parsePs f b (k + 1) r3 with
        | .error e => .error e
        | .ok l => .ok ((fs, body) :: l)
def parseM (b s : List UInt8) : Except Int (List Pt) := if bndF b = false then .error 30 else match nextD b s with
  | none => .error 30
  | some (_, r) => parsePs (s.length + 1) b 0 r
theorem inF_cons {t : List UInt8} {c : UInt8} {l : List UInt8} : inF t (c :: l) = false ↔ t.isPrefixOf (c :: l) = false ∧ inF t l = false := by
  rw [inF, Bool.or_eq_false_iff]
theorem pre_len {t s : List UInt8} (h : t.isPrefixOf s = true) : t.length ≤ s.length := (List.isPrefixOf_iff_prefix.1 h).length_le
theorem pre_cut {b : List UInt8} (hb : ∀ c ∈ b, c ≠ 13) {U V : List UInt8} (hU : U ≠ []) (hn : (lineD b).isPrefixOf U = false) : (lineD b).isPrefixOf (U ++ 13 :: V) = false := by
  cases hq : (lineD b).isPrefixOf (U ++ 13 :: V)
  · rfl
  · exfalso
    have hp := List.isPrefixOf_iff_prefix.1 hq
    by_cases hl : (lineD b).length ≤ U.length
    · have h2 : lineD b <+: U := List.prefix_of_prefix_length_le hp (List.prefix_append _ _) hl
      rw [List.isPrefixOf_iff_prefix.2 h2] at hn
      cases hn
    · have hU1 : 1 ≤ U.length := by
        cases U with
        | nil => exact absurd rfl hU
        | cons a r => simp
      have hi : U.length < (lineD b).length := by omega
      have h1 := List.prefix_iff_getElem?.1 hp U.length hi
      rw [List.getElem?_append_right (by omega), Nat.sub_self] at h1
      simp only [List.getElem?_cons_zero, Option.some.injEq] at h1
      have hm : (lineD b)[U.length]? = some 13 := by rw [List.getElem?_eq_getElem hi, h1]
      have hk : ∃ j, U.length = j + 1 := ⟨U.length - 1, by omega⟩
      obtain ⟨j, hj⟩ := hk
      rw [hj] at hm
      unfold lineD at hm
      rw [List.getElem?_cons_succ] at hm
      have := List.mem_of_getElem? hm
      simp only [List.mem_cons] at this
      rcases this with h | h | h | h
      · cases h
      · cases h
      · cases h
      · exact hb 13 h rfl
end Wb
namespace Wb
theorem findD_two (b Y : List UInt8) : findD b (13 :: 10 :: Y) = if (delB b).isPrefixOf Y = true then some ([], 10 :: Y |>.drop 1) else (findD b Y).map fun r => (13 :: 10 :: r.1, r.2) := by
  rw [findD]
  have hl : (lineD b).isPrefixOf (13 :: 10 :: Y) = (delB b).isPrefixOf Y := by
    unfold lineD delB
    rw [List.isPrefixOf_cons_cons, List.isPrefixOf_cons_cons]
    rfl
  rw [hl]
  split
  · rfl
  · rw [findD, if_neg (by unfold lineD; rw [List.isPrefixOf_cons_cons, show ((13 : UInt8) == 10) = false from by decide]; simp)]
    cases findD b Y <;> rfl
theorem inF_none {b : List UInt8} : ∀ L : List UInt8, (∀ c ∈ L, c ≠ 13) → inF (lineD b) L = false
  | [], _ => rfl
  | c :: L, h => by
    rw [inF_cons]
    refine ⟨?_, inF_none L fun x hx => h x (by simp [hx])⟩
    unfold lineD
    rw [List.isPrefixOf_cons_cons]
    have : ((13 : UInt8) == c) = false := by
      rw [beq_eq_false_iff_ne]
      exact fun e => h c (by simp) e.symm
    rw [this]
    rfl
theorem inF_line {b L : List UInt8} (h : ∀ c ∈ L, c ≠ 13) (hd : (delB b).isPrefixOf L = false) : inF (lineD b) (13 :: 10 :: L) = false := by
  rw [inF_cons, inF_cons]
  refine ⟨?_, ?_, inF_none L h⟩
  · unfold lineD
    rw [List.isPrefixOf_cons_cons, List.isPrefixOf_cons_cons]
    unfold delB at hd
    rw [hd]
    rfl
  · unfold lineD
    rw [List.isPrefixOf_cons_cons]
    rfl
end Wb
namespace Wb
theorem delB_len (b : List UInt8) : (delB b).length = 2 + b.length := by unfold delB; simp; omega
end Wb
namespace Wb
def digs (n : Nat) : List UInt8 := if _h : n = 0 then [] else digs (n / 10) ++ [UInt8.ofNat (48 + n % 10)]
termination_by n
decreasing_by omega
def wbM (n : Nat) : List UInt8 := 119 :: 98 :: digs n
def valD (l : List UInt8) : Nat := l.foldl (fun a c => a * 10 + (c.toNat - 48)) 0
theorem dig_nat (n : Nat) : (UInt8.ofNat (48 + n % 10)).toNat = 48 + n % 10 := by
  rw [UInt8.toNat_ofNat']
  omega
theorem val_digs : ∀ n, valD (digs n) = n := by
  intro n
  induction n using Nat.strongRecOn with
  | _ n ih =>
    rw [digs]
    split
    · rename_i h; subst h; rfl
    · rename_i h
      have := ih (n / 10) (by omega)
      unfold valD at this ⊢
      rw [List.foldl_append, this]
      simp only [List.foldl_cons, List.foldl_nil, dig_nat]
      omega
theorem digs_len (n : Nat) : ∀ k, 10 ^ k ≤ n → n < 10 ^ (k + 1) → (digs n).length = k + 1 := by
  induction n using Nat.strongRecOn with
  | _ n ih =>
    intro k h1 h2
    have hp : 0 < 10 ^ k := Nat.pow_pos (by decide)
    rw [digs, dif_neg (by omega), List.length_append]
    cases k with
    | zero =>
      have : n / 10 = 0 := by
        have : n < 10 := by simpa using h2
        omega
      rw [this, digs, dif_pos rfl]
      rfl
    | succ k =>
      rw [Nat.pow_succ] at h1
      have h3 : 10 ^ (k + 1 + 1) = 10 ^ (k + 1) * 10 := Nat.pow_succ ..
      rw [h3] at h2
      have hq : 0 < 10 ^ k := Nat.pow_pos (by decide)
      have h4 : 10 ^ (k + 1) = 10 ^ k * 10 := Nat.pow_succ ..
      rw [ih (n / 10) (by omega) k (by omega) (by omega)]
      rfl
theorem digs_byte (n : Nat) : ∀ c ∈ digs n, 48 ≤ c.toNat ∧ c.toNat ≤ 57 := by
  induction n using Nat.strongRecOn with
  | _ n ih =>
    intro c hc
    rw [digs] at hc
    split at hc
    · cases hc
    · rename_i h
      rcases List.mem_append.1 hc with hc | hc
      · exact ih (n / 10) (by omega) c hc
      · rw [List.mem_singleton] at hc
        rw [hc, dig_nat]
        omega
theorem digs_le (n : Nat) : ∀ k, n < 10 ^ k → (digs n).length ≤ k := by
  induction n using Nat.strongRecOn with
  | _ n ih =>
    intro k h
    rw [digs]
    split
    · exact Nat.zero_le _
    · rename_i hn
      cases k with
      | zero => simp at h; omega
      | succ k =>
        rw [Nat.pow_succ] at h
        rw [List.length_append]
        have := ih (n / 10) (by omega) k (by omega)
        simp only [List.length_cons, List.length_nil]
        omega
theorem wb_bnd {n : Nat} (h : n < 10 ^ 6) : bndF (wbM n) = true := by
  unfold bndF wbM
  have hl := digs_le n 6 h
  rw [List.length_cons, List.length_cons, decide_eq_true (show 1 ≤ _ by omega), decide_eq_true (show _ ≤ 70 by omega)]
  simp only [Bool.and_true, List.all_cons]
  rw [show bndC 119 = true from by decide, show bndC 98 = true from by decide]
  simp only [Bool.true_and, List.all_eq_true]
  intro c hc
  have := digs_byte n c hc
  unfold bndC
  rw [decide_eq_true this.1, decide_eq_true this.2]
  rfl
def sufs : List UInt8 → List (List UInt8)
  | [] => [[]]
  | c :: l => (c :: l) :: sufs l
theorem sufs_len : ∀ l, (sufs l).length = l.length + 1
  | [] => rfl
  | c :: l => by rw [sufs, List.length_cons, sufs_len l, List.length_cons]
theorem inF_suf {t : List UInt8} (ht : t ≠ []) : ∀ s, inF t s = true → ∃ u ∈ sufs s, t <+: u
  | [], h => by
    unfold inF at h
    cases t with
    | nil => exact absurd rfl ht
    | cons a r => cases h
  | c :: l, h => by
    rw [inF, Bool.or_eq_true] at h
    rcases h with h | h
    · exact ⟨c :: l, by simp [sufs], List.isPrefixOf_iff_prefix.1 h⟩
    · obtain ⟨u, hu, hp⟩ := inF_suf ht l h
      exact ⟨u, by simp [sufs, hu], hp⟩
def numAt (k : Nat) (t : List UInt8) : Nat := valD ((t.drop k).take 6)
theorem num_pre {a u : List UInt8} {n : Nat} (h6 : (digs n).length = 6) (h : a ++ digs n <+: u) : numAt a.length u = n := by
  obtain ⟨x, rfl⟩ := h
  unfold numAt
  rw [List.append_assoc, List.drop_left, List.take_append_of_le_length (by omega), List.take_of_length_le (by omega), val_digs]
def covP (p : Pt) : List Nat := (sufs (13 :: 10 :: p.2)).map (numAt 6) ++ p.1.map fun f => numAt 4 (f.1 ++ [58])
def covL (l : List Pt) : List Nat := l.flatMap covP
theorem covP_len (p : Pt) : (covP p).length = p.2.length + 3 + p.1.length := by
  unfold covP
  rw [List.length_append, List.length_map, List.length_map, sufs_len]
  simp only [List.length_cons]
theorem cov_clash {l : List Pt} {n : Nat} (h6 : (digs n).length = 6) (h : clashL (wbM n) l = true) : n ∈ covL l := by
  unfold clashL at h
  obtain ⟨p, hp, h⟩ := List.any_eq_true.1 h
  refine List.mem_flatMap.2 ⟨p, hp, ?_⟩
  unfold clashP at h
  rw [Bool.or_eq_true] at h
  unfold covP
  rcases h with h | h
  · unfold clashB at h
    obtain ⟨u, hu, hpre⟩ := inF_suf (by unfold lineD; simp) _ h
    refine List.mem_append.2 (.inl (List.mem_map.2 ⟨u, hu, ?_⟩))
    exact num_pre (a := [13, 10, 45, 45, 119, 98]) h6 hpre
  · unfold clashH at h
    obtain ⟨f, hf, hpre⟩ := List.any_eq_true.1 h
    refine List.mem_append.2 (.inr (List.mem_map.2 ⟨f, hf, ?_⟩))
    exact num_pre (a := [45, 45, 119, 98]) h6 (List.isPrefixOf_iff_prefix.1 hpre)
theorem sub_len : ∀ (L C : List Nat), L.Nodup → (∀ x ∈ L, x ∈ C) → L.length ≤ C.length
  | [], _, _, _ => Nat.zero_le _
  | a :: L, C, hn, hs => by
    rw [List.nodup_cons] at hn
    have ha := hs a (by simp)
    have := sub_len L (C.erase a) hn.2 (fun x hx => by
      have hne : x ≠ a := fun e => hn.1 (e ▸ hx)
      exact (List.mem_erase_of_ne hne).2 (hs x (by simp [hx])))
    rw [List.length_erase_of_mem ha] at this
    have h1 : 1 ≤ C.length := List.length_pos_of_mem ha
    rw [List.length_cons]
    omega
theorem some_free {l : List Pt} (h : (covL l).length < 900000) : ∃ n, 100000 ≤ n ∧ n < 1000000 ∧ clashL (wbM n) l = false := by
  apply Classical.byContradiction
  intro hno
  have hall : ∀ x ∈ List.range' 100000 900000, x ∈ covL l := by
    intro x hx
    rw [List.mem_range'_1] at hx
    refine cov_clash (digs_len x 5 (by omega) (by omega)) ?_
    cases hq : clashL (wbM x) l
    · exact absurd ⟨x, by omega, by omega, hq⟩ hno
    · rfl
  have := sub_len _ _ (List.nodup_range' ..) hall
  rw [List.length_range'] at this
  omega
def chooseF (l : List Pt) : Nat → Nat → Nat
  | 0, n => n
  | f + 1, n => if clashL (wbM n) l = true then chooseF l f (n + 1) else n
theorem chooseF_free (l : List Pt) : ∀ (f n m : Nat), n ≤ m → m < n + f → clashL (wbM m) l = false → clashL (wbM (chooseF l f n)) l = false ∧ n ≤ chooseF l f n ∧ chooseF l f n ≤ m ∧ ∀ k, n ≤ k → k < chooseF l f n → clashL (wbM k) l = true
  | 0, n, m, h1, h2, _ => by omega
  | f + 1, n, m, h1, h2, h3 => by
    rw [chooseF]
    by_cases hc : clashL (wbM n) l = true
    · rw [if_pos hc]
      have hne : n ≠ m := fun e => by rw [e, h3] at hc; cases hc
      obtain ⟨a1, a2, a3, a4⟩ := chooseF_free l f (n + 1) m (by omega) (by omega) h3
      refine ⟨a1, by omega, a3, fun k hk hk2 => ?_⟩
      by_cases hkn : k = n
      · rw [hkn]; exact hc
      · exact a4 k (by omega) hk2
    · rw [if_neg hc]
      exact ⟨by simpa using hc, Nat.le_refl _, h1, fun k hk hk2 => by omega⟩
end Wb
