import Derived.Test.YtjohfljkhlkjoaaGreatDoorMgU
import Derived.Test.YtjohfljkhlkjoaaGreatDoorMgM
import Derived.Recover
import Derived.Laws.Pointers
namespace Go.Proofs.YtjohfljkhlkjoaaGreatDoor
open Go.RowKit Wb
def flt (p c : Int) : PanicEntry := { v := .iface 61 (.agg #[.int .i64 p, .int .i64 c]), recovered := false }
theorem fail_any (p c : Int) (w : World) :
    Calls Tryz.prog 65 #[.int .i64 p, .int .i64 c] w fun e w' => e = .panicked [flt p c] ∧ w = w' := by
  go_enter Tryz.func65, Tryz.ntmps65
  go_wp2
  exact ⟨rfl, rfl, rfl⟩
theorem assert_flt (v : Value) (w : World) : (Instr.typeAssert (.iface 61 v) 20 61 false).run Tryz.prog w = .ok v w := by
  kernel_rfl
theorem field_flt0 (a b : Value) (w : World) : (Instr.field 61 (.agg #[a, b]) 0).run Tryz.prog w = .ok a w := by
  kernel_rfl
theorem field_flt1 (a b : Value) (w : World) : (Instr.field 61 (.agg #[a, b]) 1).run Tryz.prog w = .ok b w := by
  kernel_rfl
theorem tcatch_idle (b0 b1 b2 : Addr) (w : World) :
    CallsD Tryz.prog 53 #[.pointer (some b0), .pointer (some b1), .pointer (some b2)] .returning w fun e u' w' => e = .returned (.tuple #[]) ∧ u' = .returning ∧ w' = w := by
  refine callsD_of_wpS Tryz.func53 rfl fun c₀ cs hu => ?_
  apply wpS_seq
  apply wpS_region
  simp [wpOpsS, go_sem, recoverD, hu, Tryz.ntmps53, Exit.thenS]
  refine wpS_of_wp ?_
  go_wp2
  cases c₀
  simp_all [bodyPostS, results, Tryz.results53]
theorem tcatch_up (b0 b1 b2 : Nat) (v0 v1 v2 : Value) (t0 t1 t2 : TypeId) (p c : Int) (older : List PanicEntry) (w : World) (h0 : w.heap[b0]? = some (.cells #[v0] t0 (0, 0))) (h1 : w.heap[b1]? = some (.cells #[v1] t1 (0, 0))) (h2 : w.heap[b2]? = some (.cells #[v2] t2 (0, 0)))
    (n1 : b1 ≠ b0) (n2 : b2 ≠ b0) (n3 : b2 ≠ b1) :
    CallsD Tryz.prog 53 #[.pointer (some ⟨b0, 0, none⟩), .pointer (some ⟨b1, 0, none⟩), .pointer (some ⟨b2, 0, none⟩)] (.panicking (flt p c :: older)) w fun e u' w' =>
      e = .returned (.tuple #[]) ∧ u' = .panicking ({ flt p c with recovered := true } :: older) ∧ w' = (((w.setCell ⟨b0, 0, none⟩ (.slice none 0 0)).setCell ⟨b1, 0, none⟩ (.int .i64 p)).setCell ⟨b2, 0, none⟩ (.int .i64 c)).drew := by
  have c0 : w.cell? ⟨b0, 0, none⟩ = some v0 := blk_cell h0 0
  have c1 : w.cell? ⟨b1, 0, none⟩ = some v1 := blk_cell h1 0
  have c2 : w.cell? ⟨b2, 0, none⟩ = some v2 := blk_cell h2 0
  have f0 := blk_free h0 0
  have f1 := blk_free h1 0
  have f2 := blk_free h2 0
  have hta := assert_flt
  have hf0 := field_flt0
  have hf1 := field_flt1
  refine callsD_of_wpS Tryz.func53 rfl fun c₀ cs hu => ?_
  apply wpS_seq
  apply wpS_region
  simp [wpOpsS, go_sem, recoverD, hu, flt, Tryz.ntmps53, Exit.thenS]
  refine wpS_of_wp ?_
  change Code.wp _ _ _ { tmps := #[.pointer (some ⟨b0, 0, none⟩), .pointer (some ⟨b1, 0, none⟩), .pointer (some ⟨b2, 0, none⟩), .iface 61 (.agg #[.int .i64 p, .int .i64 c]), .iface 61 (.agg #[.int .i64 p, .int .i64 c]), undef, undef, undef, undef, undef, undef, undef, undef], defers := [] } w
  go_wp2
  go_region
  go_wp2
  exact ⟨rfl, _, rfl, .tuple #[], by simp [results, Tryz.results53], rfl, rfl, rfl⟩
end Go.Proofs.YtjohfljkhlkjoaaGreatDoor
