
/- Contracts: what texts cost (bytes). -/
import Derived.Test.YtobmjcompkkeaaaDoorProg
import Derived.Test.YtobmjcompkkeaaaDoorKit
import Derived.Test.YtobmjcompkkeaaaDoorMgP
import Derived.Test.YtobmjcompkkeaaaDoorTrF
import Derived.Test.YtobmjcompkkeaaaDoorMgU
import Derived.Laws.ComplexArith
import Derived.Laws.Cover2
import Derived.Laws.Cover3
namespace Go.Proofs.YtobmjcompkkeaaaDoor
open Go.RowKit Wb

/-- A cost: so many nodes, so many bytes. -/
def cst (a b : Nat) : Value := .complex .f64 (dbl a) (dbl b)
theorem cst_add (P : Program) {a b c d : Nat} (h1 : a + c < 2 ^ 53) (h2 : b + d < 2 ^ 53) (t : TypeId) (w : World) :
    (binOp .add t (cst a b) (cst c d)).run P w = .ok (cst (a + c) (b + d)) w := by
  refine run_complex_sum w .add (.inl rfl) t .f64 _ _ _ _ _ _ ?_
  unfold cSumBits floatBits
  show (Option.bind (Ieee.double.add (dbl a) (dbl c)) fun re => Option.bind (Ieee.double.add (dbl b) (dbl d)) fun im => some (re, im)) = _
  rw [add_dbl h1, add_dbl h2]
  rfl
theorem cst_zero : cst 0 0 = .complex .f64 0 0 := by unfold cst; rw [dbl_zero]
theorem dbl_one : dbl 1 = 4607182418800017408 := by decide +kernel
theorem cst_one : cst 1 0 = .complex .f64 4607182418800017408 0 := by unfold cst; rw [dbl_zero, dbl_one]
theorem cst_bytes (n : Nat) : (Value.complex .f64 0 (floatOfInt .f64 (n : Int))) = cst 0 n := by unfold cst; rw [dbl_zero]; rfl

def sumSz (l : List ByteArray) : Nat := (l.map ByteArray.size).sum
theorem sumSz_step {l : List ByteArray} {k : Nat} {s : ByteArray} (h : l[k]? = some s) : sumSz (l.take (k + 1)) = sumSz (l.take k) + s.size := by
  unfold sumSz
  rw [List.take_add_one, h]
  simp
theorem sumSz_le (l : List ByteArray) (k : Nat) : sumSz (l.take k) ≤ sumSz l := by
  unfold sumSz
  conv => rhs; rw [← List.take_append_drop k l]
  rw [List.map_append, List.sum_append]
  omega
def cells1 (l : List ByteArray) : List Value := l.map .string

end Go.Proofs.YtobmjcompkkeaaaDoor

namespace Go.Proofs.YtobmjcompkkeaaaDoor
open Go.RowKit Wb

/-- A slice of texts that was just built. -/
theorem Sl1.built (w : World) (l : List ByteArray) (T : TypeId) : Sl (w.alloc (.cells (cells1 l).toArray T)) 1 (some ⟨w.heap.size, 0, none⟩) l.length (cells1 l) := by
  refine ⟨by simp [cells1], fun _ => ⟨_, rfl, by simp, fun j u hu => ?_⟩⟩
  have e : (⟨w.heap.size, 0, none⟩ : Addr).add j = ⟨w.heap.size, j, none⟩ := by unfold Addr.add; split <;> simp_all
  rw [e]
  have hj := (List.getElem?_eq_some_iff.1 hu).1
  have hblk : (w.alloc (.cells (cells1 l).toArray T)).heap[w.heap.size]? = some (.cells (cells1 l).toArray T (0, 0)) := by
    show (w.heap.push _)[w.heap.size]? = _
    simp
  simp only [World.cell?, hblk]
  simpa using hu

theorem attrsS_step {l : List Tr} {k : Nat} {x : Tr} (h : l[k]? = some x) : attrsS (l.take (k + 1)) = attrsS (l.take k) + (x.1.1.size + x.1.2.size + x.2.size) := by
  unfold attrsS
  rw [List.take_add_one, h]
  simp [attrS]
theorem attrsS_le (l : List Tr) (k : Nat) : attrsS (l.take k) ≤ attrsS l := by
  unfold attrsS
  conv => rhs; rw [← List.take_append_drop k l]
  rw [List.map_append, List.sum_append]
  omega

end Go.Proofs.YtobmjcompkkeaaaDoor

namespace Go.Proofs.YtobmjcompkkeaaaDoor
open Go.RowKit Wb

end Go.Proofs.YtobmjcompkkeaaaDoor

