
/- Contracts of length, Char, Start, Part of packages utf and watchbillref01: tables of spans that the call makes and goes through. -/
import Derived.Test.YtclenfdhnccalaaDoorUtfA
namespace Go.Proofs.YtclenfdhnccalaaDoor
open Go.RowKit Wb

def flatV (kd : IntKind) : List (Int × Int) → List Value
  | [] => []
  | x :: l => .int kd x.1 :: .int kd x.2 :: flatV kd l

theorem flatV_at (kd : IntKind) : ∀ (l : List (Int × Int)) (k : Nat) (h : k < l.length),
    (flatV kd l)[2 * k]? = some (.int kd l[k].1) ∧ (flatV kd l)[2 * k + 1]? = some (.int kd l[k].2)
  | [], k, h => absurd h (by simp)
  | x :: l, 0, _ => ⟨rfl, rfl⟩
  | x :: l, k + 1, h => by
    have := flatV_at kd l k (by simpa using h)
    simpa [flatV, Nat.mul_add] using this

theorem spans_at (kd : IntKind) (cs : Array Value) (T : TypeId) (w : World) (l : List (Int × Int)) (e : cs = (flatV kd l).toArray) (k : Nat) (h : k < l.length) :
    (w.alloc (.cells cs T)).cell? ⟨w.heap.size, k * 2, none⟩ = some (.int kd l[k].1) ∧ (w.alloc (.cells cs T)).cell? ⟨w.heap.size, k * 2 + 1, none⟩ = some (.int kd l[k].2) := by
  have hf := flatV_at kd l k h
  have hh := heap_alloc_new w (.cells cs T)
  rw [cell_of_row _ _ _ cs T (0, 0) hh, cell_of_row _ _ _ cs T (0, 0) hh, e]
  rw [Nat.mul_comm k 2]
  simpa using hf

theorem below_alloc_trans {w w' : World} {o : Obj} (h : Below (w.alloc o).heap.size (w.alloc o) w') : Below w.heap.size w w' :=
  ((Below.refl _ _).alloc (Nat.le_refl _) o).trans (h.mono (by simp))

set_option maxHeartbeats 400000 in
theorem length_any (r : Int) (w : World) :
    Calls Tryd.prog 31 #[.int .i32 r] w fun e w' => e = .returned (.int .i64 (slen r)) ∧ Below w.heap.size w w' := by
  cases hs : sgn r
  all_goals
    have HL := Lib.hid (show slen r = if sgn r = true then (if r < 128 then 1 else if r < 2048 then 2 else if r < 65536 then 3 else 4) else 0 from rfl)
    rw [hs] at HL
    have HS := Lib.hid hs
    clear hs
    go_enter Tryd.func31, Tryd.ntmps31
    go_wp2_with fail
    refine (within_any r signS _ 2 _ rfl (by omega) (by simp) (spans_at .i32 _ _ w signS rfl)).mono ?_
    rw [inS_sign, HS.out]
    rintro e w1 ⟨rfl, hb1⟩
    go_wp2
    all_goals
      go_ret
      refine ⟨ret_i ?_, below_alloc_trans hb1⟩
      rw [HL.out]
      repeat (first | rfl | (rw [if_pos (by first | trivial | omega)]) | (rw [if_neg (by first | omega | decide)]))

end Go.Proofs.YtclenfdhnccalaaDoor
