
/- More helper words for memory, of no program. -/
import Derived.Test.YtclenfdhnccalaaDoorMem
namespace Wb
open Go Go.RowKit

theorem own_below {w w2 : World} {base sz n : Nat} {e : TypeId} {v : Value} {xs : List Value} (h : w.ownsRow base e sz v n xs) (hb : Below w.heap.size w w2) : w2.ownsRow base e sz v n xs := by
  refine ⟨h.1, ?_⟩
  rcases h.2 with hn | ⟨g, cap, cur, rfl, hbg, hg, rest⟩
  · exact .inl hn
  · exact .inr ⟨g, cap, cur, rfl, hbg, still_block hg hb, rest⟩
theorem grown_block {w w2 : World} {g : Nat} {o : Obj} {row : Option Nat} (h : w.heap[g]? = some o) (hg : w.grownBy w2 row) (hne : some g ≠ row) : w2.heap[g]? = some o :=
  (hg.block g (Array.getElem?_eq_some_iff.1 h).1 hne).trans h

theorem own_ne {w : World} {base sz n g : Nat} {e : TypeId} {v : Value} {xs : List Value} (h : w.ownsRow base e sz v n xs) (hg : g < base) : v.ownBlock = none ∨ v.ownBlock ≠ some g := by
  cases hv : v.ownBlock with
  | none => exact .inl rfl
  | some k =>
    refine .inr (fun e => ?_)
    have := (h.lt k hv).1
    injection e with e
    omega
theorem own_types_ne {w : World} {base base' sz sz' n n' g : Nat} {e e' : TypeId} {v v' : Value} {xs xs' : List Value} (h : w.ownsRow base e sz v n xs) (h' : w.ownsRow base' e' sz' v' n' xs') (hne : e ≠ e') (hv : v.ownBlock = some g) :
    v'.ownBlock ≠ some g := by
  intro hv'
  rcases h.2 with ⟨rfl, _⟩ | ⟨k, cap, cur, rfl, _, hk, _⟩
  · simp [Value.ownBlock] at hv
  · rcases h'.2 with ⟨rfl, _⟩ | ⟨k', cap', cur', rfl, _, hk', _⟩
    · simp [Value.ownBlock] at hv'
    · simp [Value.ownBlock] at hv hv'
      subst hv
      subst hv'
      rw [hk] at hk'
      injection hk' with hk'
      injection hk' with _ ht
      exact hne ht
/-- A row keeps what it owns while another row, of another element type, is written. -/
theorem own_beside {w w2 : World} {base base' sz sz' n n' : Nat} {e e' : TypeId} {v v' : Value} {xs xs' : List Value} (h : w.ownsRow base e sz v n xs) (h' : w.ownsRow base' e' sz' v' n' xs') (hne : e ≠ e') (hg : w.grownBy w2 v'.ownBlock) :
    w2.ownsRow base e sz v n xs := by
  refine h.kept hg ?_
  cases hv : v.ownBlock with
  | none => exact .inl rfl
  | some k => exact .inr (fun e => own_types_ne h h' hne hv e.symm)

theorem Sl.grown {w w2 : World} {sz n : Nat} {A : Option Addr} {xs : List Value} {row : Option Nat} (h : Sl w sz A n xs) (hg : w.grownBy w2 row) (hne : 0 < n → ∀ ad, A = some ad → some ad.block ≠ row) : Sl w2 sz A n xs := by
  refine ⟨h.1, fun hn => ?_⟩
  obtain ⟨ad, rfl, hb, hc⟩ := h.2 hn
  refine ⟨ad, rfl, Nat.lt_of_lt_of_le hb hg.size, fun j u hu => ?_⟩
  exact (World.cell?_of_block (hg.block _ (by rw [add_block]; exact hb) (by rw [add_block]; exact hne hn ad rfl))).trans (hc j u hu)

/-- The slice at A (of n elements) does not lie in the row of v. -/
def Apart (A : Option Addr) (n : Nat) (v : Value) : Prop := 0 < n → ∀ ad, A = some ad → v.ownBlock ≠ some ad.block
theorem Apart.nil (A : Option Addr) (n : Nat) : Apart A n (.slice none 0 0) := fun _ ad _ => by simp [Value.ownBlock]
theorem Apart.next {w : World} {A : Option Addr} {n sz H : Nat} {xs : List Value} {v v' : Value} (h : Apart A n v) (hS : Sl w sz A n xs) (hat : v'.ownBlock = v.ownBlock ∨ v'.ownBlock = some H) (hH : w.heap.size ≤ H) : Apart A n v' := by
  intro hn ad e
  obtain ⟨ad', e', hb, _⟩ := hS.2 hn
  rw [e] at e'
  injection e' with e'
  subst e'
  rcases hat with hat | hat
  · rw [hat]; exact h hn ad e
  · rw [hat]; intro he; injection he with he; omega
theorem Apart.ne {A : Option Addr} {n : Nat} {v : Value} (h : Apart A n v) : 0 < n → ∀ ad, A = some ad → some ad.block ≠ v.ownBlock := fun hn ad e he => h hn ad e he.symm

/-! ### lists of texts -/
def cells1 (l : List ByteArray) : List Value := l.map Value.string
theorem cells1_at (l : List ByteArray) (k : Nat) (x : ByteArray) (h : l[k]? = some x) : (cells1 l)[k]? = some (.string x) := by
  unfold cells1; rw [List.getElem?_map, h]; rfl
theorem cells1_one (l : List ByteArray) : ∀ u ∈ cells1 l, u.oneCell' = true := by
  intro u hu
  obtain ⟨x, _, rfl⟩ := List.mem_map.1 hu
  rfl
theorem cells1_append (a b : List ByteArray) : cells1 (a ++ b) = cells1 a ++ cells1 b := by simp [cells1]
/-- A slice of texts. -/
def Sl1 (w : World) (A : Option Addr) (l : List ByteArray) : Prop := Sl w 1 A l.length (cells1 l)
theorem Sl1.below {w w' : World} {A : Option Addr} {l : List ByteArray} (h : Sl1 w A l) (hb : Below w.heap.size w w') : Sl1 w' A l := Sl.below h hb
theorem Sl1.at_ {w : World} {A : Option Addr} {l : List ByteArray} (h : Sl1 w A l) {k : Nat} {x : ByteArray} (hx : l[k]? = some x) :
    ∃ ad, A = some ad ∧ ad.block < w.heap.size ∧ w.cell? (ad.add k) = some (.string x) := by
  have hk : k < l.length := (List.getElem?_eq_some_iff.1 hx).1
  obtain ⟨ad, e, hb, hc⟩ := h.2 (by omega)
  exact ⟨ad, e, hb, hc _ _ (cells1_at l k x hx)⟩
end Wb
