/- Open FdY QaP. -/
import Derived.Deep.SlicePairs
import Derived.Carry
import Derived.Lib.Replace
import Derived.Lib.CountLaws
import Derived.Lib.IndexLaws
import Derived.Lib.IndexBytes
import Derived.Test.YtmabhbihgenmcaaGreatDoorKa3
import Derived.Test.YtmabhbihgenmcaaGreatDoorKa4
namespace Wb
open Go Go.RowKit Go.Deep Go.ChangeShapes Go.WideShapes
def strOf : Value → ByteArray
  | .string s => s
  | _ => ⟨#[]⟩
section
variable {H : Type} {enc : TypeId × Value → H} {P : Program} {W : World} {base : Nat} {spare : Nat → Bool} {held : Bool}
theorem sl2_of_trod {t e : TypeId} {f0 f1 : Field} {A : Option Addr} {len cap : Nat} {d : DataW H} {p : List MemPlace} (ht : P.underlying t = some (.slice e)) (he : P.underlying e = some (.struct #[f0, f1]))
    (ce : P.cellsOf e = 2) (o0 : f0.offset = 0) (o1 : f1.offset = 1) (c0 : P.cellsOf f0.type = 1) (c1 : P.cellsOf f1.type = 1) (s0 : P.underlying f0.type = some .string) (s1 : P.underlying f1.type = some .string)
    (h : DataW.Trod enc P W base spare held t (.slice A len cap) d p) : ∃ l : List Pr, len = l.length ∧ Sl2 W A l := by
  obtain ⟨fuel, hf⟩ := h
  rcases open_slice_pairs ht he ce o0 o1 c0 c1 hf with ⟨hcs, _⟩ | ⟨a, ln, cp, m, n, V0, V1, D0, D1, P0, P1, hcs, _, hlc, _, hm, _, hi⟩
  · simp [Value.cells] at hcs
    obtain ⟨rfl, rfl, rfl⟩ := hcs
    exact ⟨[], rfl, Sl2.nil _ _⟩
  · simp [Value.cells] at hcs
    obtain ⟨rfl, rfl, rfl⟩ := hcs
    have hlm : len ≤ m := by rw [hm]; split <;> omega
    have hs : ∀ i, i < len → W.cell? (a.add (i * 2)) = some (.string (strOf (V0 i))) ∧ W.cell? (a.add (i * 2 + 1)) = some (.string (strOf (V1 i))) := by
      intro i hil
      obtain ⟨h1, h2, h3, h4⟩ := hi i (by omega)
      obtain ⟨x, hx, _⟩ := DataW.trod_string s0 h3
      obtain ⟨y, hy, _⟩ := DataW.trod_string s1 h4
      simp only [List.cons.injEq, and_true] at hx hy
      rw [h1, h2, hx, hy]
      exact ⟨rfl, rfl⟩
    refine ⟨(List.range len).map fun i => (strOf (V0 i), strOf (V1 i)), by simp, cells2_length _, fun hn => ?_⟩
    simp only [List.length_map, List.length_range] at hn
    have hb : a.block < W.heap.size := by
      have := World.block_lt_of_cell? W _ (hs 0 hn).1
      rw [add_block] at this
      exact this
    refine ⟨a, rfl, hb, fun j u hu => ?_⟩
    have hj : j < len * 2 := by
      have := (List.getElem?_eq_some_iff.1 hu).1
      rw [cells2_length] at this
      simpa using this
    have hx : ((List.range len).map fun i => (strOf (V0 i), strOf (V1 i)))[j / 2]? = some (strOf (V0 (j / 2)), strOf (V1 (j / 2))) := by
      rw [List.getElem?_map, List.getElem?_range (by omega)]; rfl
    obtain ⟨g1, g2⟩ := cells2_at _ _ _ hx
    obtain ⟨h1, h2⟩ := hs (j / 2) (by omega)
    rcases (by omega : j = j / 2 * 2 ∨ j = j / 2 * 2 + 1) with e | e
    · rw [e] at hu ⊢
      rw [g1] at hu
      rw [h1, hu]
    · rw [e] at hu ⊢
      rw [g2] at hu
      rw [h2, hu]
end
end Wb
namespace Wb
open Go
theorem rpl_nil {o n : List UInt8} (ho : o ≠ []) (hn : o ≠ n) : Lib.replaceAll [] o n = [] := by
  have hi : Lib.index [] o = -1 := by
    unfold Lib.index
    cases o with
    | nil => exact absurd rfl ho
    | cons c l => rfl
  unfold Lib.replaceAll Lib.replace Lib.replaceNum
  rw [if_neg (by simpa using hn), if_pos (.inl (by omega)), Lib.count_miss hi]
  rfl
def idxG {α : Type} (p : α → Bool) : List α → Int
  | [] => -1
  | a :: l => if p a = true then 0 else if idxG p l < 0 then -1 else idxG p l + 1
theorem idxG_ge {α : Type} (p : α → Bool) : ∀ l, -1 ≤ idxG p l
  | [] => by simp [idxG]
  | a :: l => by
    have := idxG_ge p l
    unfold idxG
    split
    · omega
    · split <;> omega
theorem idxG_any {α : Type} (p : α → Bool) : ∀ l, decide (0 ≤ idxG p l) = l.any p
  | [] => rfl
  | a :: l => by
    have ih := idxG_any p l
    have := idxG_ge p l
    unfold idxG
    rw [List.any_cons]
    cases h : p a
    · rw [if_neg (by simp), Bool.false_or, ← ih]
      by_cases hn : idxG p l < 0
      · rw [if_pos hn, decide_eq_false (by omega), decide_eq_false (by omega)]
      · rw [if_neg hn, decide_eq_true (by omega), decide_eq_true (by omega)]
    · rw [if_pos rfl]; rfl
theorem idxG_drop {α : Type} {p : α → Bool} {l : List α} {i : Nat} {a : α} (h : l[i]? = some a) : idxG p (l.drop i) = if p a = true then 0 else if idxG p (l.drop (i + 1)) < 0 then -1 else idxG p (l.drop (i + 1)) + 1 := by
  obtain ⟨hi, e⟩ := List.getElem?_eq_some_iff.1 h
  rw [List.drop_eq_getElem_cons hi, e]
  rfl
end Wb
namespace Wb
def bndC (c : UInt8) : Bool := (decide (48 ≤ c.toNat) && decide (c.toNat ≤ 57)) || (decide (65 ≤ c.toNat) && decide (c.toNat ≤ 90)) || (decide (97 ≤ c.toNat) && decide (c.toNat ≤ 122)) ||
  ([39, 40, 41, 43, 95, 44, 45, 46, 47, 58, 61, 63] : List UInt8).contains c
def bndF (b : List UInt8) : Bool := b.all bndC && decide (1 ≤ b.length) && decide (b.length ≤ 70)
def delB (b : List UInt8) : List UInt8 := 45 :: 45 :: b
def lineD (b : List UInt8) : List UInt8 := 13 :: 10 :: 45 :: 45 :: b
def inF (t : List UInt8) : List UInt8 → Bool
  | [] => t.isEmpty
  | c :: l => t.isPrefixOf (c :: l) || inF t l
abbrev Pt := List (List UInt8 × List UInt8) × List UInt8
def clashB (b body : List UInt8) : Bool := inF (lineD b) (13 :: 10 :: body)
def clashH (b : List UInt8) (fs : List (List UInt8 × List UInt8)) : Bool := fs.any fun f => (delB b).isPrefixOf (f.1 ++ [58])
def clashP (b : List UInt8) (p : Pt) : Bool := clashB b p.2 || clashH b p.1
def clashL (b : List UInt8) (l : List Pt) : Bool := l.any (clashP b)
def printH (fs : List (List UInt8 × List UInt8)) : Except Int (List UInt8) := if 8 < fs.length then .error 3 else printFs fs
def partsM (b : List UInt8) : List Pt → Except Int (List UInt8)
  | [] => .ok (delB b ++ [45, 45, 13, 10])
  | p :: l => match printH p.1 with
    | .error e => .error e
    | .ok h => match partsM b l with
      | .error e => .error e
      | .ok s => .ok (delB b ++ 13 :: 10 :: (h ++ (p.2 ++ 13 :: 10 :: s)))
def printM (b : List UInt8) (l : List Pt) : Except Int (List UInt8) :=
  if bndF b = false ∨ clashL b l = true then .error 30 else if 40 < l.length then .error 3 else if l.length = 0 then .error 2 else partsM b l
def findD (b : List UInt8) : List UInt8 → Option (List UInt8 × List UInt8)
  | [] => none
  | c :: l => if (lineD b).isPrefixOf (c :: l) = true then some ([], l.drop 1) else (findD b l).map fun r => (c :: r.1, r.2)
def nextD (b s : List UInt8) : Option (List UInt8 × List UInt8) := if (delB b).isPrefixOf s = true then some ([], s) else findD b s
def parsePs : Nat → List UInt8 → Nat → List UInt8 → Except Int (List Pt)
  | 0, _, _, _ => .error 0
  | f + 1, b, k, s =>
    let r := s.drop (2 + b.length)
    if ([45, 45] : List UInt8).isPrefixOf r = true then (if k = 0 then .error 2 else .ok []) else
    let r2 := r.dropWhile blankB
    if ([13, 10] : List UInt8).isPrefixOf r2 = false then .error 4 else match nextD b (r2.drop 2) with
    | none => .error 2
    | some (t, r3) => if k = 40 then .error 3 else match parseL (t.length + 1) 0 t with
      | .error e => .error e
      | .ok (fs, body) => match parsePs f b (k + 1) r3 with
        | .error e => .error e
        | .ok l => .ok ((fs, body) :: l)
def parseM (b s : List UInt8) : Except Int (List Pt) := if bndF b = false then .error 30 else match nextD b s with
  | none => .error 30
  | some (_, r) => parsePs (s.length + 1) b 0 r
theorem bnd_no (b : List UInt8) (h : bndF b = true) : ∀ c ∈ b, c ≠ 13 ∧ c ≠ 10 ∧ c ≠ 32 ∧ c ≠ 9 := by
  unfold bndF at h
  simp only [Bool.and_eq_true, List.all_eq_true] at h
  intro c hc
  have h1 := h.1.1 c hc
  refine ⟨?_, ?_, ?_, ?_⟩ <;> (rintro rfl; revert h1; decide)
theorem inF_cons {t : List UInt8} {c : UInt8} {l : List UInt8} : inF t (c :: l) = false ↔ t.isPrefixOf (c :: l) = false ∧ inF t l = false := by
  rw [inF, Bool.or_eq_false_iff]
theorem lineD_len (b : List UInt8) : (lineD b).length = 4 + b.length := by unfold lineD; simp; omega
theorem pre_len {t s : List UInt8} (h : t.isPrefixOf s = true) : t.length ≤ s.length := (List.isPrefixOf_iff_prefix.1 h).length_le
theorem findD_short {b : List UInt8} : ∀ {s : List UInt8}, s.length < 4 + b.length → findD b s = none
  | [], _ => rfl
  | c :: l, h => by
    have hp : (lineD b).isPrefixOf (c :: l) = false := by
      cases hq : (lineD b).isPrefixOf (c :: l)
      · rfl
      · have := pre_len hq
        rw [lineD_len] at this
        omega
    rw [findD, if_neg (by rw [hp]; simp), findD_short (by simp at h; omega)]
    rfl
theorem pre_cut {b : List UInt8} (hb : ∀ c ∈ b, c ≠ 13) {U V : List UInt8} (hU : U ≠ []) (hn : (lineD b).isPrefixOf U = false) : (lineD b).isPrefixOf (U ++ 13 :: V) = false := by
  cases hq : (lineD b).isPrefixOf (U ++ 13 :: V)
  · rfl
  · exfalso
    have hp := List.isPrefixOf_iff_prefix.1 hq
    by_cases hl : (lineD b).length ≤ U.length
    · have h2 : lineD b <+: U := List.prefix_of_prefix_length_le hp (List.prefix_append _ _) hl
      rw [List.isPrefixOf_iff_prefix.2 h2] at hn
      cases hn
    · have hU1 : 1 ≤ U.length := by
        cases U with
        | nil => exact absurd rfl hU
        | cons a r => simp
      have hi : U.length < (lineD b).length := by omega
      have h1 := List.prefix_iff_getElem?.1 hp U.length hi
      rw [List.getElem?_append_right (by omega), Nat.sub_self] at h1
      simp only [List.getElem?_cons_zero, Option.some.injEq] at h1
      have hm : (lineD b)[U.length]? = some 13 := by rw [List.getElem?_eq_getElem hi, h1]
      have hk : ∃ j, U.length = j + 1 := ⟨U.length - 1, by omega⟩
      obtain ⟨j, hj⟩ := hk
      rw [hj] at hm
      unfold lineD at hm
      rw [List.getElem?_cons_succ] at hm
      have := List.mem_of_getElem? hm
      simp only [List.mem_cons] at this
      rcases this with h | h | h | h
      · cases h
      · cases h
      · cases h
      · exact hb 13 h rfl
end Wb
