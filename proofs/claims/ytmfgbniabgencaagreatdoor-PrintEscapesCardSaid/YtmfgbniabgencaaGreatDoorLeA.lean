
/- Contracts of the landed lex: giving up (a panic with a place and a code), and what is deferred in Unescape. -/
import Derived.Test.YtmfgbniabgencaaGreatDoorMgU
import Derived.Test.YtmfgbniabgencaaGreatDoorMgM
import Derived.Recover
import Derived.Laws.Pointers
namespace Go.Proofs.YtmfgbniabgencaaGreatDoor
open Go.RowKit Wb

/-- What is given up with: a place and a code. -/
def flt (p c : Int) : PanicEntry := { v := .iface 66 (.agg #[.int .i64 p, .int .i64 c]), recovered := false }

theorem fail_any (p c : Int) (w : World) :
    Calls Tryz.prog 69 #[.int .i64 p, .int .i64 c] w fun e w' => e = .panicked [flt p c] ∧ w = w' := by
  go_enter Tryz.func69, Tryz.ntmps69
  go_wp2
  exact ⟨rfl, rfl, rfl⟩

theorem assert_flt (v : Value) (w : World) : (Instr.typeAssert (.iface 66 v) 20 66 false).run Tryz.prog w = .ok v w := by
  kernel_rfl

theorem field_flt0 (a b : Value) (w : World) : (Instr.field 66 (.agg #[a, b]) 0).run Tryz.prog w = .ok a w := by
  kernel_rfl
theorem field_flt1 (a b : Value) (w : World) : (Instr.field 66 (.agg #[a, b]) 1).run Tryz.prog w = .ok b w := by
  kernel_rfl

theorem catch_idle (b0 b1 b2 : Addr) (w : World) :
    CallsD Tryz.prog 34 #[.pointer (some b0), .pointer (some b1), .pointer (some b2)] .returning w fun e u' w' => e = .returned (.tuple #[]) ∧ u' = .returning ∧ w' = w := by
  refine callsD_of_wpS Tryz.func34 rfl fun c₀ cs hu => ?_
  apply wpS_seq
  apply wpS_region
  simp [wpOpsS, go_sem, recoverD, hu, Tryz.ntmps34, Exit.thenS]
  refine wpS_of_wp ?_
  go_wp2
  cases c₀
  simp_all [bodyPostS, results, Tryz.results34]

theorem catch_up (b0 b1 b2 : Nat) (v0 v1 v2 : Value) (t0 t1 t2 : TypeId) (p c : Int) (older : List PanicEntry) (w : World) (h0 : w.heap[b0]? = some (.cells #[v0] t0 (0, 0))) (h1 : w.heap[b1]? = some (.cells #[v1] t1 (0, 0))) (h2 : w.heap[b2]? = some (.cells #[v2] t2 (0, 0)))
    (n1 : b1 ≠ b0) (n2 : b2 ≠ b0) (n3 : b2 ≠ b1) :
    CallsD Tryz.prog 34 #[.pointer (some ⟨b0, 0, none⟩), .pointer (some ⟨b1, 0, none⟩), .pointer (some ⟨b2, 0, none⟩)] (.panicking (flt p c :: older)) w fun e u' w' =>
      e = .returned (.tuple #[]) ∧ u' = .panicking ({ flt p c with recovered := true } :: older) ∧ w' = (((w.setCell ⟨b0, 0, none⟩ (.string ⟨#[]⟩)).setCell ⟨b1, 0, none⟩ (.int .i64 p)).setCell ⟨b2, 0, none⟩ (.int .i64 c)).drew := by
  have c0 : w.cell? ⟨b0, 0, none⟩ = some v0 := blk_cell h0 0
  have c1 : w.cell? ⟨b1, 0, none⟩ = some v1 := blk_cell h1 0
  have c2 : w.cell? ⟨b2, 0, none⟩ = some v2 := blk_cell h2 0
  have f0 := blk_free h0 0
  have f1 := blk_free h1 0
  have f2 := blk_free h2 0
  have hta := assert_flt
  have hf0 := field_flt0
  have hf1 := field_flt1
  refine callsD_of_wpS Tryz.func34 rfl fun c₀ cs hu => ?_
  apply wpS_seq
  apply wpS_region
  simp [wpOpsS, go_sem, recoverD, hu, flt, Tryz.ntmps34, Exit.thenS]
  refine wpS_of_wp ?_
  change Code.wp _ _ _ { tmps := #[.pointer (some ⟨b0, 0, none⟩), .pointer (some ⟨b1, 0, none⟩), .pointer (some ⟨b2, 0, none⟩), .iface 66 (.agg #[.int .i64 p, .int .i64 c]), .iface 66 (.agg #[.int .i64 p, .int .i64 c]), undef, undef, undef, undef, undef, undef, undef, undef], defers := [] } w
  go_wp2
  go_region
  go_wp2
  exact ⟨rfl, _, rfl, .tuple #[], by simp [results, Tryz.results34], rfl, rfl, rfl⟩

theorem tcatch_idle (b0 b1 b2 : Addr) (w : World) :
    CallsD Tryz.prog 57 #[.pointer (some b0), .pointer (some b1), .pointer (some b2)] .returning w fun e u' w' => e = .returned (.tuple #[]) ∧ u' = .returning ∧ w' = w := by
  refine callsD_of_wpS Tryz.func57 rfl fun c₀ cs hu => ?_
  apply wpS_seq
  apply wpS_region
  simp [wpOpsS, go_sem, recoverD, hu, Tryz.ntmps57, Exit.thenS]
  refine wpS_of_wp ?_
  go_wp2
  cases c₀
  simp_all [bodyPostS, results, Tryz.results57]

theorem tcatch_up (b0 b1 b2 : Nat) (v0 v1 v2 : Value) (t0 t1 t2 : TypeId) (p c : Int) (older : List PanicEntry) (w : World) (h0 : w.heap[b0]? = some (.cells #[v0] t0 (0, 0))) (h1 : w.heap[b1]? = some (.cells #[v1] t1 (0, 0))) (h2 : w.heap[b2]? = some (.cells #[v2] t2 (0, 0)))
    (n1 : b1 ≠ b0) (n2 : b2 ≠ b0) (n3 : b2 ≠ b1) :
    CallsD Tryz.prog 57 #[.pointer (some ⟨b0, 0, none⟩), .pointer (some ⟨b1, 0, none⟩), .pointer (some ⟨b2, 0, none⟩)] (.panicking (flt p c :: older)) w fun e u' w' =>
      e = .returned (.tuple #[]) ∧ u' = .panicking ({ flt p c with recovered := true } :: older) ∧ w' = (((w.setCell ⟨b0, 0, none⟩ (.slice none 0 0)).setCell ⟨b1, 0, none⟩ (.int .i64 p)).setCell ⟨b2, 0, none⟩ (.int .i64 c)).drew := by
  have c0 : w.cell? ⟨b0, 0, none⟩ = some v0 := blk_cell h0 0
  have c1 : w.cell? ⟨b1, 0, none⟩ = some v1 := blk_cell h1 0
  have c2 : w.cell? ⟨b2, 0, none⟩ = some v2 := blk_cell h2 0
  have f0 := blk_free h0 0
  have f1 := blk_free h1 0
  have f2 := blk_free h2 0
  have hta := assert_flt
  have hf0 := field_flt0
  have hf1 := field_flt1
  refine callsD_of_wpS Tryz.func57 rfl fun c₀ cs hu => ?_
  apply wpS_seq
  apply wpS_region
  simp [wpOpsS, go_sem, recoverD, hu, flt, Tryz.ntmps57, Exit.thenS]
  refine wpS_of_wp ?_
  change Code.wp _ _ _ { tmps := #[.pointer (some ⟨b0, 0, none⟩), .pointer (some ⟨b1, 0, none⟩), .pointer (some ⟨b2, 0, none⟩), .iface 66 (.agg #[.int .i64 p, .int .i64 c]), .iface 66 (.agg #[.int .i64 p, .int .i64 c]), undef, undef, undef, undef, undef, undef, undef, undef], defers := [] } w
  go_wp2
  go_region
  go_wp2
  exact ⟨rfl, _, rfl, .tuple #[], by simp [results, Tryz.results57], rfl, rfl, rfl⟩

end Go.Proofs.YtmfgbniabgencaaGreatDoor
