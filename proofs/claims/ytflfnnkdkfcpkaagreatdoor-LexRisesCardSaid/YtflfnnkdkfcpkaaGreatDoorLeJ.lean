
/- Contract: Unescape (it recovers what was given up). -/
import Derived.Test.YtflfnnkdkfcpkaaGreatDoorLeI
namespace Go.Proofs.YtflfnnkdkfcpkaaGreatDoor
open Go.RowKit Wb

theorem heap3 (w : World) (o0 o1 o2 : Obj) : (((w.alloc o0).alloc o1).alloc o2).heap[w.heap.size]? = some o0 ∧ (((w.alloc o0).alloc o1).alloc o2).heap[w.heap.size + 1]? = some o1 ∧
    (((w.alloc o0).alloc o1).alloc o2).heap[w.heap.size + 1 + 1]? = some o2 ∧ (((w.alloc o0).alloc o1).alloc o2).heap.size = w.heap.size + 3 := by
  have e : (((w.alloc o0).alloc o1).alloc o2).heap = ((w.heap.push o0).push o1).push o2 := rfl
  rw [e]
  refine ⟨?_, ?_, ?_, ?_⟩
  · rw [Array.getElem?_push, if_neg (by simp; omega), Array.getElem?_push, if_neg (by simp), Array.getElem?_push, if_pos rfl]
  · rw [Array.getElem?_push, if_neg (by simp), Array.getElem?_push, if_pos (by simp)]
  · rw [Array.getElem?_push, if_pos (by simp)]
  · simp

theorem set_other {w : World} {g : Nat} {o : Obj} (h : w.heap[g]? = some o) {b : Nat} (hb : g ≠ b) (v : Value) : (w.setCell ⟨b, 0, none⟩ v).heap[g]? = some o := by
  rw [Below.heap_setCell _ _ _ _ (by simpa using hb)]; exact h

/-- Three results that lie in blocks of their own. -/
theorem results3 {P : Program} {fn : Func} {p0 p1 p2 : Tmp} {t0 t1 t2 : TypeId} (h : fn.results = #[.cell p0 t0, .cell p1 t1, .cell p2 t2]) (tmps : Array Value) (w : World) (b0 b1 b2 : Nat) (u0 u1 u2 : TypeId) (v0 v1 v2 : Value)
    (e0 : tmps[p0]?.getD undef = .pointer (some ⟨b0, 0, none⟩)) (e1 : tmps[p1]?.getD undef = .pointer (some ⟨b1, 0, none⟩)) (e2 : tmps[p2]?.getD undef = .pointer (some ⟨b2, 0, none⟩))
    (h0 : w.heap[b0]? = some (.cells #[v0] u0 (0, 0))) (h1 : w.heap[b1]? = some (.cells #[v1] u1 (0, 0))) (h2 : w.heap[b2]? = some (.cells #[v2] u2 (0, 0)))
    (a0 : ∀ w, (isAgg t0).run P w = .ok false w) (a1 : ∀ w, (isAgg t1).run P w = .ok false w) (a2 : ∀ w, (isAgg t2).run P w = .ok false w) :
    (results fn tmps).run P w = .ok (.tuple #[v0, v1, v2]) w := by
  have c0 : w.cell? ⟨b0, 0, none⟩ = some v0 := blk_cell h0 0
  have c1 : w.cell? ⟨b1, 0, none⟩ = some v1 := blk_cell h1 0
  have c2 : w.cell? ⟨b2, 0, none⟩ = some v2 := blk_cell h2 0
  unfold results
  rw [h]
  simp [go_sem, e0, e1, e2, c0, c1, c2, a0, a1, a2]

set_option maxRecDepth 100000 in
theorem Unescape_any (s : ByteArray) (attr : Bool) (w : World) (hG : Gv w) (hs : s.size ≤ 100000000) :
    Calls Tryz.prog 13 #[.string s, .bool attr] w fun e w' => e = .returned (.tuple #[.string (unB s attr).1, .int .i64 (unB s attr).2.1, .int .i64 (unB s attr).2.2]) ∧ Below w.heap.size w w' := by
  have hmf : ∀ (fn : Fn) (first cap : Array Value) (w : World), (Instr.makeFunc fn first cap).run Tryz.prog w = .ok (.func fn first cap) w := fun _ _ _ _ => rfl
  obtain ⟨g0, g1, g2, gs⟩ := heap3 w (.cells #[.string ⟨#[]⟩] 9) (.cells #[.int .i64 0] 3) (.cells #[.int .i64 0] 26)
  have hG3 : Gv (((w.alloc (.cells #[.string ⟨#[]⟩] 9)).alloc (.cells #[.int .i64 0] 3)).alloc (.cells #[.int .i64 0] 26)) := ((hG.alloc _).alloc _).alloc _
  have hB3 : Below w.heap.size w (((w.alloc (.cells #[.string ⟨#[]⟩] 9)).alloc (.cells #[.int .i64 0] 3)).alloc (.cells #[.int .i64 0] 26)) :=
    (((Below.refl _ w).alloc (Nat.le_refl _) _).alloc (by simp) _).alloc (by simp; omega) _
  have hun := unescape_any s attr 0
  have next : ∀ w1, Below (((w.alloc (.cells #[.string ⟨#[]⟩] 9)).alloc (.cells #[.int .i64 0] 3)).alloc (.cells #[.int .i64 0] 26)).heap.size (((w.alloc (.cells #[.string ⟨#[]⟩] 9)).alloc (.cells #[.int .i64 0] 3)).alloc (.cells #[.int .i64 0] 26)) w1 →
      w1.heap[w.heap.size]? = some (.cells #[.string ⟨#[]⟩] 9 (0, 0)) ∧ w1.heap[w.heap.size + 1]? = some (.cells #[.int .i64 0] 3 (0, 0)) ∧ w1.heap[w.heap.size + 1 + 1]? = some (.cells #[.int .i64 0] 26 (0, 0)) ∧ Below w.heap.size w w1 := fun w1 hb =>
    ⟨(hb.block _ (by omega)).trans g0, (hb.block _ (by omega)).trans g1, (hb.block _ (by omega)).trans g2, hB3.trans (hb.mono (by omega))⟩
  cases hu : unL attr (s.size + 1) s.data.toList 0 with
  | ok x =>
    rw [unB_ok hu]
    rw [hu] at hun
    clear hu g0 g1 g2 hB3
    go_enter_defers Tryz.func13, Tryz.ntmps13
    go_wp2_with fail
    refine (hun _ hG3 hs (by omega)).mono ?_
    rintro e w1 ⟨h1, hb1⟩
    obtain rfl := h1
    obtain ⟨h0, h1, h2, hB⟩ := next w1 hb1
    clear next hb1 gs
    have HB := Lib.hid hB
    have H0 := Lib.hid h0
    have H1 := Lib.hid h1
    have H2 := Lib.hid h2
    have c0 : w1.cell? ⟨w.heap.size, 0, none⟩ = some (.string ⟨#[]⟩) := blk_cell h0 0
    have c1 : w1.cell? ⟨w.heap.size + 1, 0, none⟩ = some (.int .i64 0) := blk_cell h1 0
    have c2 : w1.cell? ⟨w.heap.size + 1 + 1, 0, none⟩ = some (.int .i64 0) := blk_cell h2 0
    have f0 := blk_free h0 0
    have f1 := blk_free h1 0
    have f2 := blk_free h2 0
    clear h0 h1 h2 hB
    go_wp2
    refine leaves_cons (f := 30) (args := #[.pointer (some ⟨w.heap.size, 0, none⟩), .pointer (some ⟨w.heap.size + 1, 0, none⟩), .pointer (some ⟨w.heap.size + 1 + 1, 0, none⟩)]) (by simp) (by simp [go_sem]) ?_
    refine (catch_idle _ _ _ _).mono ?_
    rintro e u' w2 ⟨rfl, rfl, rfl⟩
    refine ⟨_, results3 Tryz.results13 _ _ w.heap.size (w.heap.size + 1) (w.heap.size + 1 + 1) 9 3 26 (.string ⟨x.toArray⟩) (.int .i64 0) (.int .i64 0) rfl rfl rfl ?_ ?_ ?_ Tryz.isAgg9 Tryz.isAgg3 Tryz.isAgg26, rfl, ?_⟩
    · exact set_other (set_other (blk_set H0.out 0 _) (by omega) _) (by omega) _
    · exact set_other (blk_set (set_other H1.out (by omega) _) 0 _) (by omega) _
    · exact blk_set (set_other (set_other H2.out (by omega) _) (by omega) _) 0 _
    · exact ((HB.out.setCell (Nat.le_refl _) _).setCell (by simp) _).setCell (by simp; omega) _
  | error p =>
    rw [unB_bad hu]
    rw [hu] at hun
    clear hu g0 g1 g2 hB3
    go_enter_defers Tryz.func13, Tryz.ntmps13
    go_wp2_with fail
    refine (hun _ hG3 hs (by omega)).mono ?_
    rintro e w1 ⟨h1, hb1⟩
    obtain rfl := h1
    obtain ⟨h0, h1, h2, hB⟩ := next w1 hb1
    refine leaves_cons (f := 30) (args := #[.pointer (some ⟨w.heap.size, 0, none⟩), .pointer (some ⟨w.heap.size + 1, 0, none⟩), .pointer (some ⟨w.heap.size + 1 + 1, 0, none⟩)]) (by simp) (by simp [go_sem]) ?_
    refine (catch_up _ _ _ _ _ _ _ _ _ p 16 [] w1 h0 h1 h2 (by omega) (by omega) (by omega)).mono ?_
    rintro e u' w2 ⟨rfl, rfl, rfl⟩
    refine ⟨_, results3 Tryz.results13 _ _ w.heap.size (w.heap.size + 1) (w.heap.size + 1 + 1) 9 3 26 (.string ⟨#[]⟩) (.int .i64 p) (.int .i64 16) rfl rfl rfl ?_ ?_ ?_ Tryz.isAgg9 Tryz.isAgg3 Tryz.isAgg26, rfl, ?_⟩
    · exact set_other (set_other (blk_set h0 0 _) (by omega) _) (by omega) _
    · exact set_other (blk_set (set_other h1 (by omega) _) 0 _) (by omega) _
    · exact blk_set (set_other (set_other h2 (by omega) _) (by omega) _) 0 _
    · exact (((hB.setCell (Nat.le_refl _) _).setCell (by simp) _).setCell (by simp; omega) _).drew
end Go.Proofs.YtflfnnkdkfcpkaaGreatDoor
