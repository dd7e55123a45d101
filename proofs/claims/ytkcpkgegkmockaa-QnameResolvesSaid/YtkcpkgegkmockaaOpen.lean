
/- An argument that is a slice of structs of two texts, as the walks take it. Of no program. -/
import Derived.Test.YtkcpkgegkmockaaMem
import Derived.Deep.SlicePairs
import Derived.Carry
namespace Wb
open Go Go.RowKit Go.Deep Go.ChangeShapes Go.WideShapes

def strOf : Value → ByteArray
  | .string s => s
  | _ => ⟨#[]⟩

section
variable {H : Type} {enc : TypeId × Value → H} {P : Program} {W : World} {base : Nat} {spare : Nat → Bool} {held : Bool}

theorem sl2_of_trod {t e : TypeId} {f0 f1 : Field} {A : Option Addr} {len cap : Nat} {d : DataW H} {p : List MemPlace} (ht : P.underlying t = some (.slice e)) (he : P.underlying e = some (.struct #[f0, f1]))
    (ce : P.cellsOf e = 2) (o0 : f0.offset = 0) (o1 : f1.offset = 1) (c0 : P.cellsOf f0.type = 1) (c1 : P.cellsOf f1.type = 1) (s0 : P.underlying f0.type = some .string) (s1 : P.underlying f1.type = some .string)
    (h : DataW.Trod enc P W base spare held t (.slice A len cap) d p) : ∃ l : List Pr, len = l.length ∧ Sl2 W A l := by
  obtain ⟨fuel, hf⟩ := h
  rcases open_slice_pairs ht he ce o0 o1 c0 c1 hf with ⟨hcs, _⟩ | ⟨a, ln, cp, m, n, V0, V1, D0, D1, P0, P1, hcs, _, hlc, _, hm, _, hi⟩
  · simp [Value.cells] at hcs
    obtain ⟨rfl, rfl, rfl⟩ := hcs
    exact ⟨[], rfl, Sl2.nil _ _⟩
  · simp [Value.cells] at hcs
    obtain ⟨rfl, rfl, rfl⟩ := hcs
    have hlm : len ≤ m := by rw [hm]; split <;> omega
    have hs : ∀ i, i < len → W.cell? (a.add (i * 2)) = some (.string (strOf (V0 i))) ∧ W.cell? (a.add (i * 2 + 1)) = some (.string (strOf (V1 i))) := by
      intro i hil
      obtain ⟨h1, h2, h3, h4⟩ := hi i (by omega)
      obtain ⟨x, hx, _⟩ := DataW.trod_string s0 h3
      obtain ⟨y, hy, _⟩ := DataW.trod_string s1 h4
      simp only [List.cons.injEq, and_true] at hx hy
      rw [h1, h2, hx, hy]
      exact ⟨rfl, rfl⟩
    refine ⟨(List.range len).map fun i => (strOf (V0 i), strOf (V1 i)), by simp, cells2_length _, fun hn => ?_⟩
    simp only [List.length_map, List.length_range] at hn
    have hb : a.block < W.heap.size := by
      have := World.block_lt_of_cell? W _ (hs 0 hn).1
      rw [add_block] at this
      exact this
    refine ⟨a, rfl, hb, fun j u hu => ?_⟩
    have hj : j < len * 2 := by
      have := (List.getElem?_eq_some_iff.1 hu).1
      rw [cells2_length] at this
      simpa using this
    have hx : ((List.range len).map fun i => (strOf (V0 i), strOf (V1 i)))[j / 2]? = some (strOf (V0 (j / 2)), strOf (V1 (j / 2))) := by
      rw [List.getElem?_map, List.getElem?_range (by omega)]; rfl
    obtain ⟨g1, g2⟩ := cells2_at _ _ _ hx
    obtain ⟨h1, h2⟩ := hs (j / 2) (by omega)
    rcases (by omega : j = j / 2 * 2 ∨ j = j / 2 * 2 + 1) with e | e
    · rw [e] at hu ⊢
      rw [g1] at hu
      rw [h1, hu]
    · rw [e] at hu ⊢
      rw [g2] at hu
      rw [h2, hu]
end
end Wb
