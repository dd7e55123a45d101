
/- The set of names that came already: a map whose keys are structs of two texts; contract of its add. -/
import Derived.Test.YtkcpkgegkmockaaQnG
import Derived.DeepKeys4
namespace Go.Proofs.Ytkcpkgegkmockaa
open Go.RowKit Wb Go.Maps

/-! ### the set of names -/
theorem laidOut : laidOutB Try.prog = true := by kernel_rfl
theorem name_row : (40 : TypeId) < Try.prog.types.size := of_decide_eq_true (by kernel_rfl)
theorem name_wide : (match Try.prog.underlying 40 with | some (.array _ _) | some (.struct _) => true | _ => false) = true := by kernel_rfl
theorem name_law : Keyed Try.prog 40 := Keyed.of_law (deep_law_laid laidOut (m := 3) (by omega) name_row (by kernel_rfl) name_wide)
theorem name_kt : Try.prog.keyType 40 = true := by kernel_rfl
theorem name_cells : Try.prog.cellsOf 40 = 2 := by kernel_rfl

def litN (x : Pr) : Lit := .string (keyBytes [.string x.1.data.toList, .string x.2.data.toList])

theorem str_cells : Try.prog.cellsOf 9 = 1 := by kernel_rfl
theorem many_types : (2 : Nat) ≤ Try.prog.types.size := of_decide_eq_true (by kernel_rfl)
theorem key_str (m : Nat) (s : ByteArray) (h : s.size ≤ maxLen) : Try.prog.keyLits (m + 1) 9 [.string s] = some [.string s.data.toList] := by
  unfold Program.keyLits
  rw [Try.underlying9]
  simp [h]

theorem name_key (x : Pr) (h1 : x.1.size ≤ maxLen) (h2 : x.2.size ≤ maxLen) : keyOf Try.prog 40 (.agg #[.string x.1, .string x.2]) = some (litN x) := by
  have hf : (Value.agg #[.string x.1, .string x.2]).formed Try.prog 40 = true := by
    simp [Value.formed, Try.underlying40, name_cells]
  unfold keyOf
  rw [Try.underlying40]
  simp only [name_kt, hf, Bool.and_self, if_true]
  obtain ⟨m, hm⟩ : ∃ m, Try.prog.types.size + 1 = m + 2 := ⟨Try.prog.types.size - 1, by have := many_types; omega⟩
  rw [hm]
  unfold Program.keyLits
  rw [Try.underlying40]
  simp [Value.cells, name_cells, str_cells, key_str _ _ h1, key_str _ _ h2, litN]

theorem litN_inj {x y : Pr} (h1 : x.1.size ≤ maxLen) (h2 : x.2.size ≤ maxLen) (h3 : y.1.size ≤ maxLen) (h4 : y.2.size ≤ maxLen) (h : litN x = litN y) : x = y := by
  have := name_law.inj (name_key x h1 h2) (h ▸ name_key y h3 h4)
  simp only [Value.agg.injEq, Array.mk.injEq, List.cons.injEq, Value.string.injEq, and_true] at this
  exact Prod.ext this.1 this.2

/-- Block b is a set that holds just the names of the list. -/
def SetW (w : World) (b n : Nat) (l : List Pr) : Prop :=
  ∃ D : DataW Unit, w.ownsMap Try.prog 40 unitElem b n D ∧ (∀ y ∈ l, y.1.size ≤ maxLen ∧ y.2.size ≤ maxLen) ∧
    ∀ x : Pr, x.1.size ≤ maxLen → x.2.size ≤ maxLen → Maps.has D (litN x) = l.any (fun y => eqP y x)

theorem SetW.made (w : World) : SetW (w.alloc (.map #[] 0)) w.heap.size 0 [] :=
  ⟨.map [], World.ownsMap_made _ _ _ _, by simp, fun x _ _ => by simp [has_eq]⟩
theorem SetW.below {w w2 : World} {b n : Nat} {l : List Pr} (h : SetW w b n l) (hb : Below w.heap.size w w2) : SetW w2 b n l := by
  obtain ⟨D, ⟨es, clock, h1, h2⟩, h3⟩ := h
  exact ⟨D, ⟨es, clock, still_block h1 hb, h2⟩, h3⟩
theorem SetW.grown {w w2 : World} {b n : Nat} {l : List Pr} {row : Option Nat} (h : SetW w b n l) (hg : w.grownBy w2 row) (hne : some b ≠ row) : SetW w2 b n l := by
  obtain ⟨D, h1, h3⟩ := h
  exact ⟨D, h1.kept hg hne, h3⟩
theorem SetW.mono {w : World} {b n n' : Nat} {l : List Pr} (h : SetW w b n l) (hn : n ≤ n') : SetW w b n' l := by
  obtain ⟨D, h1, h3⟩ := h
  exact ⟨D, h1.mono hn, h3⟩

theorem zero_unit (w : World) : (zeroValue 81).run Try.prog w = .ok (.agg #[]) w := by kernel_rfl

/-- What add leaves. -/
def AddedPost (w : World) (b n : Nat) (l : List Pr) (x : Pr) (e : Ending) (w' : World) : Prop :=
  w.grownBy w' (some b) ∧ ∃ c, e = .returned (.bool c) ∧ c = !(l.any fun y => eqP y x) ∧ (c = true → SetW w' b (n + 1) (l ++ [x]))

theorem SetW.put {w : World} {b n : Nat} {l : List Pr} {D : DataW Unit} {x : Pr} (hown : w.ownsMap Try.prog 40 unitElem b n (D.put (litN x) (.agg []))) (hD : IsMap D)
    (hsz : ∀ y ∈ l, y.1.size ≤ maxLen ∧ y.2.size ≤ maxLen) (h1 : x.1.size ≤ maxLen) (h2 : x.2.size ≤ maxLen)
    (hhas : ∀ x : Pr, x.1.size ≤ maxLen → x.2.size ≤ maxLen → Maps.has D (litN x) = l.any (fun y => eqP y x)) : SetW w b n (l ++ [x]) := by
  refine ⟨_, hown, ?_, fun y k1 k2 => ?_⟩
  · intro y hy
    rcases List.mem_append.1 hy with h | h
    · exact hsz y h
    · rw [List.mem_singleton.1 h]; exact ⟨h1, h2⟩
  · rw [List.any_append, ← hhas y k1 k2]
    by_cases e : y = x
    · subst e
      rw [has_put_same hD (show WideAt.IsKeyLit (litN y) from trivial), List.any_cons, (eqP_iff y y).2 rfl]
      simp
    · rw [has_put_other (fun h => e (litN_inj k1 k2 h1 h2 h))]
      have : eqP x y = false := by
        cases h : eqP x y
        · rfl
        · exact absurd ((eqP_iff _ _).1 h).symm e
      simp [this]

set_option maxHeartbeats 1000000 in
set_option maxRecDepth 100000 in
theorem nadd_any (b n : Nat) (l : List Pr) (x1 x2 : ByteArray) (w : World) (hS : SetW w b n l) (hn : n < 1000000000) (h1 : x1.size ≤ 1000000000) (h2 : x2.size ≤ 1000000000) :
    Calls Try.prog 33 #[.map (some b), .agg #[.string x1, .string x2]] w (AddedPost w b n l (x1, x2)) := by
  obtain ⟨D, hown, hsz, hhas⟩ := hS
  have k1 : x1.size ≤ maxLen := by simp only [maxLen]; omega
  have k2 : x2.size ≤ maxLen := by simp only [maxLen]; omega
  have hkey := name_key (x1, x2) k1 k2
  have HH := Lib.hid (hhas (x1, x2) k1 k2)
  have HA := Lib.hid hhas
  have HM := Lib.hid hown.isMap
  clear hhas
  go_enter Try.func33, Try.ntmps33
  go_wp2_with (first
    | (at_lookup; refine wpList_lookup_own_unit _ rfl _ _ _ rfl 40 81 name_law Try.underlying68 (zero_unit _) b n D rfl (hown.alloc _) _ _ rfl hkey ?_)
    | (at_mapUpdate; refine wpList_mapUpdate_own _ rfl _ _ _ _ rfl 40 81 name_law Try.underlying68 unitElem b n D rfl ((hown.alloc _).alloc _) (by simp only [maxLen]; omega) _ _ (litN (x1, x2)) rfl rfl hkey (.agg []) [] unitElem_mk ?_; intro w1 hown1 hg1))
  · have ht : has D (litN (x1, x2)) = true := by assumption
    go_ret
    refine ⟨?_, _, rfl, ?_, fun h => by cases h⟩
    · exact (World.grownBy_alloc w _ _).trans (World.grownBy_alloc _ _ _)
    · rw [← HH.out, ht]; rfl
  · have ht : has D (litN (x1, x2)) = false := by assumption
    go_ret
    refine ⟨?_, _, rfl, ?_, fun _ => ?_⟩
    · exact ((World.grownBy_alloc w _ _).trans (World.grownBy_alloc _ _ _)).trans hg1
    · rw [← HH.out, ht]; rfl
    · exact SetW.put hown1 HM.out hsz k1 k2 HA.out
end Go.Proofs.Ytkcpkgegkmockaa
