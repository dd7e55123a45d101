/- PrB TrA Take. -/
import Derived.Test.YtlcjepnaljfpkaaGreatDoorProg
import Derived.Lib.Builder
import Derived.Lib.AppendStr
import Derived.Lib.UnsafeStr
import GoSem.Core.Float
import Derived.Laws.ComplexArith
import Derived.Laws.Cover2
import Derived.Laws.Cover3
import Derived.Deep.RegionHeld2
import Derived.Test.YtlcjepnaljfpkaaGreatDoorQp1
import Derived.Test.YtlcjepnaljfpkaaGreatDoorQp6
import Derived.Test.YtlcjepnaljfpkaaGreatDoorQp8
import Derived.Test.YtlcjepnaljfpkaaGreatDoorQp9
import Derived.Test.YtlcjepnaljfpkaaGreatDoorQp10
namespace Go.Proofs.YtlcjepnaljfpkaaGreatDoor
open Go.RowKit Wb
def isU8 (w : World) (k : Nat) : Prop := ∃ cs f, w.heap[k]? = some (.cells cs 5 f)
def PgS (base b : Nat) (w : World) : Nat → Prop := fun k => base ≤ k ∧ (k = b ∨ isU8 w k)
def PgK (base b : Nat) (w w' : World) : Prop := Keep (PgS base b w) w w'
theorem PgK.refl (base b : Nat) (w : World) : PgK base b w w := Keep.refl _ w
theorem PgK.trans {base b : Nat} {w w' w2 : World} (h : PgK base b w w') (k : PgK base b w' w2) : PgK base b w w2 :=
  ⟨k.os.trans h.os, k.tape.trans h.tape, k.output.trans h.output, Nat.le_trans h.size k.size, fun i hi hs => by
    have e := h.block i hi hs
    have hs' : ¬ PgS base b w' i := fun ⟨h1, h2⟩ => hs ⟨h1, h2.imp id (fun ⟨cs, f, e'⟩ => ⟨cs, f, e.symm.trans e'⟩)⟩
    exact (k.block i (Nat.lt_of_lt_of_le hi h.size) hs').trans e⟩
theorem PgK.of_below {base b : Nat} {w w' : World} (h : Below w.heap.size w w') : PgK base b w w' := Keep.of_below _ h
theorem PgK.alloc {base b : Nat} (w : World) (o : Obj) : PgK base b w (w.alloc o) := PgK.of_below ((Below.refl _ w).alloc (Nat.le_refl _) o)
theorem PgK.drew {base b : Nat} {w w' : World} (h : PgK base b w w') : PgK base b w w'.drew := h.trans (PgK.of_below (Below.refl _ w').drew)
theorem PgK.below {base b : Nat} {w w' : World} (h : PgK base b w w') (hb : base ≤ w.heap.size) : Below base w w' := Keep.below h (fun _ hs => hs.1) hb
theorem PgK.own {base base' b sz n : Nat} {e : TypeId} {v : Value} {xs : List Value} {w w' : World} (hk : PgK base b w w') (h : w.ownsRow base' e sz v n xs) (he : e ≠ 5) (hb : v.ownBlock ≠ some b) : w'.ownsRow base' e sz v n xs := by
  refine own_blk h fun k hv => hk.block k (own_in h hv).2 ?_
  rintro ⟨_, rfl | ⟨cs, f, hx⟩⟩
  · exact hb hv
  · rcases h.2 with ⟨rfl, _⟩ | ⟨g, cap, cur, rfl, _, hg, _⟩
    · simp [Value.ownBlock] at hv
    · simp only [Value.ownBlock, Option.some.injEq] at hv
      subst hv
      rw [hg] at hx
      injection hx with hx
      injection hx with _ hx
      exact he hx
theorem PgK.blk {base b g : Nat} {cs : Array Value} {t : TypeId} {f : Nat × Nat} {w w' : World} (hk : PgK base b w w') (h : w.heap[g]? = some (.cells cs t f)) (ht : t ≠ 5) (hb : g ≠ b) : w'.heap[g]? = some (.cells cs t f) := by
  refine (hk.block g (blk_in h) ?_).trans h
  rintro ⟨_, rfl | ⟨cs', f', hx⟩⟩
  · exact hb rfl
  · rw [h] at hx
    injection hx with hx
    injection hx with _ hx
    exact ht hx
def PgP (base b : Nat) (p : Value) (bs : List UInt8) (most : Int) (over : Bool) (w : World) : Prop :=
  base ≤ b ∧ ∃ v, w.heap[b]? = some (.cells #[p, v, .int .i64 most, .bool over] 73 (0, 0)) ∧ w.ownsRow base 5 1 v bs.length (Lib.byteCells bs) ∧ v.ownBlock ≠ some b
def PgAt (base b : Nat) (bs : List UInt8) (most : Int) (over : Bool) (w : World) : Prop :=
  PgP base b (.pointer none) bs most over w ∨ PgP base b (.pointer (some ⟨b, 0, none⟩)) bs most over w
theorem PgAt.raw {base b : Nat} {bs : List UInt8} {most : Int} {over : Bool} {w : World} (h : PgAt base b bs most over w) : ∃ p, (p = .pointer none ∨ p = .pointer (some ⟨b, 0, none⟩)) ∧ PgP base b p bs most over w := by
  rcases h with h | h
  · exact ⟨_, .inl rfl, h⟩
  · exact ⟨_, .inr rfl, h⟩
theorem PgAt.of_raw {base b : Nat} {p : Value} {bs : List UInt8} {most : Int} {over : Bool} {w : World} (hp : p = .pointer none ∨ p = .pointer (some ⟨b, 0, none⟩)) (h : PgP base b p bs most over w) : PgAt base b bs most over w := by
  rcases hp with rfl | rfl
  · exact .inl h
  · exact .inr h
theorem PgAt.lt {base b : Nat} {bs : List UInt8} {most : Int} {over : Bool} {w : World} (h : PgAt base b bs most over w) : base ≤ b ∧ b < w.heap.size := by
  obtain ⟨_, _, h1, _, h2, _⟩ := h.raw
  exact ⟨h1, blk_in h2⟩
theorem PgAt.other {base b : Nat} {bs : List UInt8} {most : Int} {over : Bool} {w w' : World} (h : PgAt base b bs most over w) (hb : Below w.heap.size w w') : PgAt base b bs most over w' := by
  obtain ⟨p, hp, h1, v, h2, h3, h4⟩ := h.raw
  exact .of_raw hp ⟨h1, v, still_block h2 hb, own_below h3 hb, h4⟩
theorem PgAt.beside {base b : Nat} {bs : List UInt8} {most : Int} {over : Bool} {w w' : World} {S : Nat → Prop} (h : PgAt base b bs most over w) (hk : Keep S w w') (h1 : ¬ S b) (h2 : ∀ k, S k → ¬ isU8 w k) : PgAt base b bs most over w' := by
  obtain ⟨p, hp, a1, v, a2, a3, a4⟩ := h.raw
  refine .of_raw hp ⟨a1, v, (hk.block b (blk_in a2) h1).trans a2, own_blk a3 fun k hv => hk.block k (own_in a3 hv).2 fun hs => h2 k hs ?_, a4⟩
  rcases a3.2 with ⟨rfl, _⟩ | ⟨g, cap, cur, rfl, _, hg, _⟩
  · simp [Value.ownBlock] at hv
  · simp only [Value.ownBlock, Option.some.injEq] at hv
    subst hv
    exact ⟨_, _, hg⟩
theorem lies_page : liesAt Tryz.prog Tryz.prog.depth 73 (4 / Tryz.prog.cellsOf 73) 0 71 1 = true := by kernel_rfl
theorem size_builder : (Tryz.prog.info? 71).map (·.size) = some 2 := by kernel_rfl
theorem no_escape (x : Value) (w : World) : (callFunc 117 #[x]).run Tryz.prog w = .ok (.value x) w := by
  rw [run_callFunc_extern (P := Tryz.prog) (f := 117) (fn := Tryz.f117) (e := Extern.AbiNoEscape.same) (by kernel_rfl) (by kernel_rfl) (by kernel_rfl) (by kernel_rfl) (by kernel_rfl), Lib.run_noEscape]
  rfl
set_option maxHeartbeats 1000000 in
set_option maxRecDepth 100000 in
theorem page_check {base b : Nat} {bs : List UInt8} {most : Int} {over : Bool} {w : World} (h : PgAt base b bs most over w) :
    Calls Tryz.prog 81 #[.pointer (some ⟨b, 0, none⟩)] w fun e w' => e = .returned (.tuple #[]) ∧ PgP base b (.pointer (some ⟨b, 0, none⟩)) bs most over w' ∧ PgK base b w w' := by
  obtain ⟨j, hj, hjs⟩ := Option.map_eq_some_iff.1 size_builder
  rcases h with ⟨h1, v, h2, h3, h4⟩ | ⟨h1, v, h2, h3, h4⟩
  · have h0 : w.cell? ⟨b, 0, none⟩ = some (.pointer none) := blk_cell h2 0
    have hfz := blk_free h2 0
    have hsh : w.shape? b = some (73, 4) := by simp [World.shape?, h2]
    have e1 : (convert 68 149 (.pointer (some ⟨b, 0, none⟩))).run Tryz.prog w = .ok (.pointer (some ⟨b, 0, none⟩)) w := Lib.run_to_unsafe w ⟨b, 0, none⟩ Tryz.underlying68 Tryz.underlying149 hj (by rw [hjs]; decide) hsh (by show 0 < 4; omega)
    have e2 : (convert 149 68 (.pointer (some ⟨b, 0, none⟩))).run Tryz.prog w = .ok (.pointer (some ⟨b, 0, none⟩)) w := Lib.run_from_unsafe w ⟨b, 0, none⟩ Tryz.underlying149 Tryz.underlying68 hj hsh lies_page
    have e3 := no_escape
    have hfin : PgP base b (.pointer (some ⟨b, 0, none⟩)) bs most over (w.setCell ⟨b, 0, none⟩ (.pointer (some ⟨b, 0, none⟩))) ∧ PgK base b w (w.setCell ⟨b, 0, none⟩ (.pointer (some ⟨b, 0, none⟩))) := by
      refine ⟨⟨h1, v, by simpa using blk_set h2 0 (.pointer (some ⟨b, 0, none⟩)), own_blk h3 fun k hv => Below.heap_setCell _ _ _ _ (fun e => h4 (by rw [hv]; simpa using e)), h4⟩, (Keep.refl _ w).setCell (p := ⟨b, 0, none⟩) ⟨h1, .inl rfl⟩ _⟩
    have HF := Lib.hid hfin
    clear hfin h3 h4 hsh hj hjs h2
    go_enter Tryz.func81, Tryz.ntmps81
    go_wp2
    go_end0
    exact ⟨rfl, HF.out⟩
  · have h0 : w.cell? ⟨b, 0, none⟩ = some (.pointer (some ⟨b, 0, none⟩)) := blk_cell h2 0
    have hfin : PgP base b (.pointer (some ⟨b, 0, none⟩)) bs most over w ∧ PgK base b w w := ⟨⟨h1, v, h2, h3, h4⟩, PgK.refl _ _ _⟩
    have HF := Lib.hid hfin
    have hpe := fun (v : World) => Lib.run_neq_ptr_same (P := Tryz.prog) v ⟨b, 0, none⟩ Tryz.underlying68 hj
    clear hfin h3 h4 hj hjs h2
    go_enter Tryz.func81, Tryz.ntmps81
    go_wp2
    go_end0
    exact ⟨rfl, HF.out⟩
theorem page_len {base b : Nat} {bs : List UInt8} {most : Int} {over : Bool} {w : World} (h : PgAt base b bs most over w) :
    Calls Tryz.prog 87 #[.pointer (some ⟨b, 0, none⟩)] w fun e w' => e = .returned (.int .i64 bs.length) ∧ w' = w := by
  obtain ⟨p, _, h1, v, h2, h3, h4⟩ := h.raw
  obtain ⟨A, c, rfl⟩ := own_shape h3
  have c1 : w.cell? ⟨b, 1, none⟩ = some (.slice A bs.length c) := blk_cell h2 1
  clear h h2 h3 h4
  go_enter Tryz.func87, Tryz.ntmps87
  go_wp2
  go_ret
  exact ⟨rfl, rfl⟩
set_option maxHeartbeats 2000000 in
set_option maxRecDepth 100000 in
theorem page_write {base b : Nat} {bs : List UInt8} {most : Int} {over : Bool} {w : World} (s : ByteArray) (h : PgAt base b bs most over w) (hlen : bs.length + s.size ≤ 140737488355328) :
    Calls Tryz.prog 46 #[.pointer (some ⟨b, 0, none⟩), .string s] w fun e w' => e = .returned (.tuple #[.int .i64 s.size, .nilIface]) ∧ PgAt base b (bs ++ s.data.toList) most over w' ∧ PgK base b w w' := by
  obtain ⟨i0, hi, hz0, hz1, hz2⟩ := info_parts byte_info
  have hc := page_check h
  have hl := h.lt
  clear h
  go_enter Tryz.func46, Tryz.ntmps46
  go_wp2_with fail
  refine hc.mono ?_
  rintro e w1 ⟨rfl, ⟨a1, v, a2, a3, a4⟩, hk1⟩
  have c0 : w1.cell? ⟨b, 0, none⟩ = some (.pointer (some ⟨b, 0, none⟩)) := blk_cell a2 0
  have c1 : w1.cell? ⟨b, 1, none⟩ = some v := blk_cell a2 1
  have hb1 := blk_in a2
  have A2 := Lib.hid a2
  have A4 := Lib.hid a4
  have K1 := Lib.hid hk1
  have hm : bs.length + s.size ≤ maxLen := by unfold maxLen; omega
  have hbw : base ≤ w1.heap.size := by omega
  clear hc hk1 a2 a4
  go_wp2_with (at_builtin; refine Lib.wpList_append_own_string _ rfl _ _ 69 9 rfl base 5 i0 Tryz.underlying69 Tryz.underlying9 hi hz0 hz1 hz2 _ _ _ rfl a3 s rfl hm hlen hbw ?_)
  intro v' w2 hown' hgrow _
  obtain ⟨A, c, rfl⟩ := own_shape hown'
  have hne : some b ≠ v.ownBlock := fun e => A4.out e.symm
  have hb2 := grown_block A2.out hgrow hne
  have d0 : w2.cell? ⟨b, 0, none⟩ = some (.pointer (some ⟨b, 0, none⟩)) := blk_cell hb2 0
  have d1 : w2.cell? ⟨b, 1, none⟩ = some v := blk_cell hb2 1
  have f1 := blk_free hb2 1
  have hk2 : PgK base b w1 (w2.setCell ⟨b, 1, none⟩ (.slice A (bs.length + s.size) c)) := by
    refine ((Keep.refl (PgS base b w1) w1).grown hgrow (fun k hv => ?_)).setCell (p := ⟨b, 1, none⟩) ⟨hl.1, .inl rfl⟩ _
    refine ⟨(own_in a3 hv).1, .inr ?_⟩
    rcases a3.2 with ⟨rfl, _⟩ | ⟨g, cap, cur, rfl, _, hg, _⟩
    · simp [Value.ownBlock] at hv
    · simp only [Value.ownBlock, Option.some.injEq] at hv
      subst hv
      exact ⟨_, _, hg⟩
  have hne2 : (Value.slice A (bs.length + s.size) c).ownBlock ≠ some b := by
    intro e
    rcases hown'.2 with ⟨h0, _⟩ | ⟨g, cap, cur, hv, _, hg, _⟩
    · rw [h0] at e; simp [Value.ownBlock] at e
    · rw [hv] at e
      simp only [Value.ownBlock, Option.some.injEq] at e
      subst e
      rw [hb2] at hg
      injection hg with hg
      injection hg with _ hg
      exact absurd hg (by decide)
  have hfin : PgAt base b (bs ++ s.data.toList) most over (w2.setCell ⟨b, 1, none⟩ (.slice A (bs.length + s.size) c)) := by
    refine .inr ⟨hl.1, _, by simpa using blk_set hb2 1 (.slice A (bs.length + s.size) c), ?_, hne2⟩
    have := own_blk (w' := w2.setCell ⟨b, 1, none⟩ (.slice A (bs.length + s.size) c)) hown' fun k hv => Below.heap_setCell _ _ _ _ (fun e => hne2 (by rw [hv]; simpa using e))
    rw [Lib.strCells_eq, ← Lib.byteCells_append] at this
    rw [List.length_append, ← Lib.size_eq]
    exact this
  have HF := Lib.hid hfin
  have K2 := Lib.hid (K1.out.trans hk2)
  clear hfin hk2 hown' hgrow hb2 hne2 a3 hne
  go_wp2
  go_ret2
  exact ⟨rfl, HF.out, K2.out⟩
set_option maxHeartbeats 2000000 in
set_option maxRecDepth 100000 in
theorem page_string {base b : Nat} {bs : List UInt8} {most : Int} {over : Bool} {w : World} (h : PgAt base b bs most over w) :
    Calls Tryz.prog 31 #[.pointer (some ⟨b, 0, none⟩)] w fun e w' => e = .returned (.string ⟨bs.toArray⟩) ∧ Below base w w' := by
  obtain ⟨hbb, hbw⟩ := h.lt
  obtain ⟨p, _, h1, v, h2, h3, h4⟩ := h.raw
  have hUS := fun (W : World) (q : Option Addr) => Lib.run_unsafeString_none (P := Tryz.prog) W 104 3 9 q
  have hU0 : ∀ (W : World), (Builtin.unsafeSliceData_ #[69] 104 #[.slice none 0 0]).run Tryz.prog W = .ok (.pointer none) W := fun _ => rfl
  have hbs : base ≤ w.heap.size := by omega
  rcases h3.2 with ⟨rfl, h0⟩ | ⟨g, cap, cur, rfl, hbg, hg, hnc, hcm, hcs, htake⟩
  · obtain rfl : bs = [] := List.eq_nil_of_length_eq_zero h0
    have c1 : w.drew.cell? ⟨b, 1, none⟩ = some (.slice none 0 0) := blk_cell (w := w.drew) h2 1
    clear h h2 h3 h4
    go_enter Tryz.func31, Tryz.ntmps31
    go_wp2
    go_region
    all_goals (go_wp2; go_ret; exact ⟨rfl, Below.drew (Below.refl base w)⟩)
  · by_cases h0 : bs = []
    · subst h0
      by_cases hc0 : cap = 0
      · subst hc0
        have c1 : w.drew.cell? ⟨b, 1, none⟩ = some (.slice (some ⟨g, 0, none⟩) 0 0) := blk_cell (w := w.drew) h2 1
        have c0 : w.cell? ⟨b, 1, none⟩ = some (.slice (some ⟨g, 0, none⟩) 0 0) := c1
        have hSD : (Builtin.unsafeSliceData_ #[69] 104 #[.slice (some ⟨g, 0, none⟩) 0 0]).run Tryz.prog w.drew = .ok (.pointer (some ⟨w.drew.heap.size, 0, none⟩)) (w.drew.alloc (.view ⟨g, 0, none⟩ 5)) :=
          Lib.run_unsafeSliceData_zero w.drew _ _ 5 Tryz.underlying104 ⟨g, 0, none⟩ 0 (5, cur.size) (by have hg' : w.drew.heap[g]? = some (.cells cur 5 (0, 0)) := hg; simp [World.shape?, hg'])
        have c2 : (w.drew.alloc (.view ⟨g, 0, none⟩ 5)).cell? ⟨b, 1, none⟩ = some (.slice (some ⟨g, 0, none⟩) 0 0) := by
          have : (w.drew.alloc (.view ⟨g, 0, none⟩ 5)).heap[b]? = _ := (Lib.alloc_old w.drew _ b hbw).trans h2
          exact blk_cell this 1
        have c3 : (w.alloc (.view ⟨g, 0, none⟩ 5)).drew.cell? ⟨b, 1, none⟩ = some (.slice (some ⟨g, 0, none⟩) 0 0) := c2
        clear h h2 h3 h4 hg hcs htake
        go_enter Tryz.func31, Tryz.ntmps31
        go_wp2
        go_region
        all_goals (go_wp2; go_ret; exact ⟨rfl, (Below.drew (Below.refl base w)).alloc hbs _⟩)
      · have c1 : w.drew.cell? ⟨b, 1, none⟩ = some (.slice (some ⟨g, 0, none⟩) 0 cap) := blk_cell (w := w.drew) h2 1
        have hSD : (Builtin.unsafeSliceData_ #[69] 104 #[.slice (some ⟨g, 0, none⟩) 0 cap]).run Tryz.prog w.drew = .ok (.pointer (some ⟨g, 0, none⟩)) w.drew :=
          Lib.run_unsafeSliceData_row _ _ _ _ _ _ hc0
        clear h h2 h3 h4 hg hcs htake hc0 hcm hnc
        go_enter Tryz.func31, Tryz.ntmps31
        go_wp2
        go_region
        all_goals (go_wp2; go_ret; exact ⟨rfl, Below.drew (Below.refl base w)⟩)
    · have hl0 : bs.length ≠ 0 := by simpa using h0
      have c1 : w.drew.cell? ⟨b, 1, none⟩ = some (.slice (some ⟨g, 0, none⟩) bs.length cap) := blk_cell (w := w.drew) h2 1
      have hSD : (Builtin.unsafeSliceData_ #[69] 104 #[.slice (some ⟨g, 0, none⟩) bs.length cap]).run Tryz.prog w.drew = .ok (.pointer (some ⟨g, 0, none⟩)) w.drew :=
        Lib.run_unsafeSliceData_row _ _ _ _ _ _ (by omega)
      have hU2 : (Builtin.unsafeString_ #[104, 3] 9 #[.pointer (some ⟨g, 0, none⟩), .int .i64 bs.length]).run Tryz.prog w.drew = .ok (.string ⟨bs.toArray⟩) (w.drew.freeze ⟨g, 0, none⟩ bs.length) := by
        refine Lib.run_unsafeString_row w.drew 104 3 9 5 Tryz.underlying104 (by kernel_rfl) g cur.size (by have hg' : w.drew.heap[g]? = some (.cells cur 5 (0, 0)) := hg; simp [World.shape?, hg']) bs h0 (by omega) (by unfold maxLen at hcm; omega) ?_
        intro j x hx
        have := h3.cells (g := g) rfl j (.int .u8 x.toNat) (by simp [Lib.byteCells, hx])
        exact this
      clear h h2 h3 h4 hg hcs htake hcm hnc hUS
      go_enter Tryz.func31, Tryz.ntmps31
      go_wp2
      go_region
      all_goals (go_wp2; go_ret; exact ⟨rfl, Lib.below_freeze (Below.drew (Below.refl base w)) (p := ⟨g, 0, none⟩) hbg _⟩)
end Go.Proofs.YtlcjepnaljfpkaaGreatDoor
namespace Go.Proofs.YtlcjepnaljfpkaaGreatDoor
open Go.RowKit Wb
def cells1 (l : List ByteArray) : List Value := l.map .string
end Go.Proofs.YtlcjepnaljfpkaaGreatDoor
namespace Wb
open Go Go.RowKit
theorem op_at {ops : Array Oper} {i : Nat} {oi : Oper} {rest : List Oper} (h : ops.toList.drop i = oi :: rest) : ops[i]? = some oi := by
  have h2 : (ops.toList.drop i)[0]? = some oi := by rw [h]; rfl
  rw [List.getElem?_drop] at h2
  simpa using h2
theorem takeW {P : Program} {md : Region.Mode} {ops : Array Oper} {Q : Exit → Act → World → Prop} {S : World → Prop} {oi : Oper} {rest : List Oper} {v : Value} {fuel : Nat} {listed : Array Bool} {a : Act} {w : World} (i : Nat)
    (h : wpAnyH P md ops Q S fuel (listed.setIfInBounds i true) (a.put oi.dst v) w) (hi : ops.toList.drop i = oi :: rest := by rfl)
    (hy : ∀ w, S w → (execOp a.eval oi).run P w = .ok (.value v) w := by (intro w' hSw; (try dsimp only at hSw); go_simp; (try with_reducible rfl)))
    (hs : Region.noSelect ops = true := by kernel_rfl) (hf : Region.free md ops listed i = true := by kernel_rfl) (hr : (Region.ready md ops listed).contains i = true := by kernel_rfl)
    (hQ : ∀ c a w, Q (.panic c) (a.put oi.dst v) w → Q (.panic c) a w := by exact fun _ _ _ h => h) (hw : Region.wanted oi (yielded ops a.tmps) = true := by rfl) (hS : S w := by assumption) : wpAnyH P md ops Q S (fuel + 1) listed a w :=
  wpAnyH_take (op_at hi) hs hf hr hQ (.inl ⟨hw, hy⟩) hS h
theorem takeU {P : Program} {md : Region.Mode} {ops : Array Oper} {Q : Exit → Act → World → Prop} {S : World → Prop} {oi : Oper} {rest : List Oper} {fuel : Nat} {listed : Array Bool} {a : Act} {w : World} (i : Nat)
    (h : wpAnyH P md ops Q S fuel (listed.setIfInBounds i true) (a.put oi.dst undef) w)
    (hi : ops.toList.drop i = oi :: rest := by rfl) (hs : Region.noSelect ops = true := by kernel_rfl) (hf : Region.free md ops listed i = true := by kernel_rfl) (hr : (Region.ready md ops listed).contains i = true := by kernel_rfl)
    (hQ : ∀ c a w, Q (.panic c) (a.put oi.dst undef) w → Q (.panic c) a w := by exact fun _ _ _ h => h) (hw : Region.wanted oi (yielded ops a.tmps) = false := by rfl) (hS : S w := by assumption) : wpAnyH P md ops Q S (fuel + 1) listed a w :=
  wpAnyH_take (op_at hi) hs hf hr hQ (.inr ⟨hw, rfl⟩) hS h
end Wb
