/- PrB PrC. -/
import Derived.Test.YtbdamneophbnnaaGreatDoorProg
import Derived.Lib.Builder
import Derived.Lib.AppendStr
import Derived.Lib.UnsafeStr
import Derived.Deep.Cut
import Derived.Deep.RegionHeld
import Derived.Test.YtbdamneophbnnaaGreatDoorCU2
import Derived.Test.YtbdamneophbnnaaGreatDoorCU3
import Derived.Test.YtbdamneophbnnaaGreatDoorCU7
import Derived.Test.YtbdamneophbnnaaGreatDoorCU8
import Derived.Test.YtbdamneophbnnaaGreatDoorCU9
import Derived.Test.YtbdamneophbnnaaGreatDoorCU10
namespace Go.Proofs.YtbdamneophbnnaaGreatDoor
open Go.RowKit Wb
def isU8 (w : World) (k : Nat) : Prop := ∃ cs f, w.heap[k]? = some (.cells cs 5 f)
def PgS (base b : Nat) (w : World) : Nat → Prop := fun k => base ≤ k ∧ (k = b ∨ isU8 w k)
def PgK (base b : Nat) (w w' : World) : Prop := Keep (PgS base b w) w w'
theorem PgK.refl (base b : Nat) (w : World) : PgK base b w w := Keep.refl _ w
theorem PgK.trans {base b : Nat} {w w' w2 : World} (h : PgK base b w w') (k : PgK base b w' w2) : PgK base b w w2 :=
  ⟨k.os.trans h.os, k.tape.trans h.tape, k.output.trans h.output, Nat.le_trans h.size k.size, fun i hi hs => by
    have e := h.block i hi hs
    have hs' : ¬ PgS base b w' i := fun ⟨h1, h2⟩ => hs ⟨h1, h2.imp id (fun ⟨cs, f, e'⟩ => ⟨cs, f, e.symm.trans e'⟩)⟩
    exact (k.block i (Nat.lt_of_lt_of_le hi h.size) hs').trans e⟩
theorem PgK.of_below {base b : Nat} {w w' : World} (h : Below w.heap.size w w') : PgK base b w w' := Keep.of_below _ h
theorem PgK.alloc {base b : Nat} (w : World) (o : Obj) : PgK base b w (w.alloc o) := PgK.of_below ((Below.refl _ w).alloc (Nat.le_refl _) o)
theorem PgK.drew {base b : Nat} {w w' : World} (h : PgK base b w w') : PgK base b w w'.drew := h.trans (PgK.of_below (Below.refl _ w').drew)
theorem PgK.below {base b : Nat} {w w' : World} (h : PgK base b w w') (hb : base ≤ w.heap.size) : Below base w w' := Keep.below h (fun _ hs => hs.1) hb
theorem PgK.blk {base b g : Nat} {cs : Array Value} {t : TypeId} {f : Nat × Nat} {w w' : World} (hk : PgK base b w w') (h : w.heap[g]? = some (.cells cs t f)) (ht : t ≠ 5) (hb : g ≠ b) : w'.heap[g]? = some (.cells cs t f) := by
  refine (hk.block g (blk_in h) ?_).trans h
  rintro ⟨_, rfl | ⟨cs', f', hx⟩⟩
  · exact hb rfl
  · rw [h] at hx
    injection hx with hx
    injection hx with _ hx
    exact ht hx
def PgP (base b : Nat) (p : Value) (bs : List UInt8) (most : Int) (over : Bool) (w : World) : Prop :=
  base ≤ b ∧ ∃ v, w.heap[b]? = some (.cells #[p, v, .int .i64 most, .bool over] 166 (0, 0)) ∧ w.ownsRow base 5 1 v bs.length (Lib.byteCells bs) ∧ v.ownBlock ≠ some b
def PgAt (base b : Nat) (bs : List UInt8) (most : Int) (over : Bool) (w : World) : Prop :=
  PgP base b (.pointer none) bs most over w ∨ PgP base b (.pointer (some ⟨b, 0, none⟩)) bs most over w
theorem PgAt.raw {base b : Nat} {bs : List UInt8} {most : Int} {over : Bool} {w : World} (h : PgAt base b bs most over w) : ∃ p, (p = .pointer none ∨ p = .pointer (some ⟨b, 0, none⟩)) ∧ PgP base b p bs most over w := by
  rcases h with h | h
  · exact ⟨_, .inl rfl, h⟩
  · exact ⟨_, .inr rfl, h⟩
theorem PgAt.of_raw {base b : Nat} {p : Value} {bs : List UInt8} {most : Int} {over : Bool} {w : World} (hp : p = .pointer none ∨ p = .pointer (some ⟨b, 0, none⟩)) (h : PgP base b p bs most over w) : PgAt base b bs most over w := by
  rcases hp with rfl | rfl
  · exact .inl h
  · exact .inr h
theorem PgAt.lt {base b : Nat} {bs : List UInt8} {most : Int} {over : Bool} {w : World} (h : PgAt base b bs most over w) : base ≤ b ∧ b < w.heap.size := by
  obtain ⟨_, _, h1, _, h2, _⟩ := h.raw
  exact ⟨h1, blk_in h2⟩
theorem PgAt.other {base b : Nat} {bs : List UInt8} {most : Int} {over : Bool} {w w' : World} (h : PgAt base b bs most over w) (hb : Below w.heap.size w w') : PgAt base b bs most over w' := by
  obtain ⟨p, hp, h1, v, h2, h3, h4⟩ := h.raw
  exact .of_raw hp ⟨h1, v, still_block h2 hb, own_below h3 hb, h4⟩
theorem lies_page : liesAt Tryz.prog Tryz.prog.depth 166 (4 / Tryz.prog.cellsOf 166) 0 89 1 = true := by kernel_rfl
theorem size_builder : (Tryz.prog.info? 89).map (·.size) = some 2 := by kernel_rfl
theorem no_escape (x : Value) (w : World) : (callFunc 103 #[x]).run Tryz.prog w = .ok (.value x) w := by
  rw [run_callFunc_extern (P := Tryz.prog) (f := 103) (fn := Tryz.f103) (e := Extern.AbiNoEscape.same) (by kernel_rfl) (by kernel_rfl) (by kernel_rfl) (by kernel_rfl) (by kernel_rfl), Lib.run_noEscape]
  rfl
set_option maxHeartbeats 1000000 in
set_option maxRecDepth 100000 in
theorem page_check {base b : Nat} {bs : List UInt8} {most : Int} {over : Bool} {w : World} (h : PgAt base b bs most over w) :
    Calls Tryz.prog 75 #[.pointer (some ⟨b, 0, none⟩)] w fun e w' => e = .returned (.tuple #[]) ∧ PgP base b (.pointer (some ⟨b, 0, none⟩)) bs most over w' ∧ PgK base b w w' := by
  obtain ⟨j, hj, hjs⟩ := Option.map_eq_some_iff.1 size_builder
  rcases h with ⟨h1, v, h2, h3, h4⟩ | ⟨h1, v, h2, h3, h4⟩
  · have h0 : w.cell? ⟨b, 0, none⟩ = some (.pointer none) := blk_cell h2 0
    have hfz := blk_free h2 0
    have hsh : w.shape? b = some (166, 4) := by simp [World.shape?, h2]
    have e1 : (convert 87 140 (.pointer (some ⟨b, 0, none⟩))).run Tryz.prog w = .ok (.pointer (some ⟨b, 0, none⟩)) w := Lib.run_to_unsafe w ⟨b, 0, none⟩ Tryz.underlying87 Tryz.underlying140 hj (by rw [hjs]; decide) hsh (by show 0 < 4; omega)
    have e2 : (convert 140 87 (.pointer (some ⟨b, 0, none⟩))).run Tryz.prog w = .ok (.pointer (some ⟨b, 0, none⟩)) w := Lib.run_from_unsafe w ⟨b, 0, none⟩ Tryz.underlying140 Tryz.underlying87 hj hsh lies_page
    have e3 := no_escape
    have hfin : PgP base b (.pointer (some ⟨b, 0, none⟩)) bs most over (w.setCell ⟨b, 0, none⟩ (.pointer (some ⟨b, 0, none⟩))) ∧ PgK base b w (w.setCell ⟨b, 0, none⟩ (.pointer (some ⟨b, 0, none⟩))) := by
      refine ⟨⟨h1, v, by simpa using blk_set h2 0 (.pointer (some ⟨b, 0, none⟩)), own_blk h3 fun k hv => Below.heap_setCell _ _ _ _ (fun e => h4 (by rw [hv]; simpa using e)), h4⟩, (Keep.refl _ w).setCell (p := ⟨b, 0, none⟩) ⟨h1, .inl rfl⟩ _⟩
    have HF := Lib.hid hfin
    clear hfin h3 h4 hsh hj hjs h2
    go_enter Tryz.func75, Tryz.ntmps75
    go_wp2
    go_end0
    exact ⟨rfl, HF.out⟩
  · have h0 : w.cell? ⟨b, 0, none⟩ = some (.pointer (some ⟨b, 0, none⟩)) := blk_cell h2 0
    have hfin : PgP base b (.pointer (some ⟨b, 0, none⟩)) bs most over w ∧ PgK base b w w := ⟨⟨h1, v, h2, h3, h4⟩, PgK.refl _ _ _⟩
    have HF := Lib.hid hfin
    have hpe := fun (v : World) => Lib.run_neq_ptr_same (P := Tryz.prog) v ⟨b, 0, none⟩ Tryz.underlying87 hj
    clear hfin h3 h4 hj hjs h2
    go_enter Tryz.func75, Tryz.ntmps75
    go_wp2
    go_end0
    exact ⟨rfl, HF.out⟩
theorem page_len {base b : Nat} {bs : List UInt8} {most : Int} {over : Bool} {w : World} (h : PgAt base b bs most over w) :
    Calls Tryz.prog 167 #[.pointer (some ⟨b, 0, none⟩)] w fun e w' => e = .returned (.int .i64 bs.length) ∧ w' = w := by
  obtain ⟨p, _, h1, v, h2, h3, h4⟩ := h.raw
  obtain ⟨A, c, rfl⟩ := own_shape h3
  have c1 : w.cell? ⟨b, 1, none⟩ = some (.slice A bs.length c) := blk_cell h2 1
  clear h h2 h3 h4
  go_enter Tryz.func167, Tryz.ntmps167
  go_wp2
  go_ret
  exact ⟨rfl, rfl⟩
set_option maxHeartbeats 2000000 in
set_option maxRecDepth 100000 in
theorem page_write {base b : Nat} {bs : List UInt8} {most : Int} {over : Bool} {w : World} (s : ByteArray) (h : PgAt base b bs most over w) (hlen : bs.length + s.size ≤ 140737488355328) :
    Calls Tryz.prog 111 #[.pointer (some ⟨b, 0, none⟩), .string s] w fun e w' => e = .returned (.tuple #[.int .i64 s.size, .nilIface]) ∧ PgAt base b (bs ++ s.data.toList) most over w' ∧ PgK base b w w' := by
  obtain ⟨i0, hi, hz0, hz1, hz2⟩ := info_parts byte_info
  have hc := page_check h
  have hl := h.lt
  clear h
  go_enter Tryz.func111, Tryz.ntmps111
  go_wp2_with fail
  refine hc.mono ?_
  rintro e w1 ⟨rfl, ⟨a1, v, a2, a3, a4⟩, hk1⟩
  have c0 : w1.cell? ⟨b, 0, none⟩ = some (.pointer (some ⟨b, 0, none⟩)) := blk_cell a2 0
  have c1 : w1.cell? ⟨b, 1, none⟩ = some v := blk_cell a2 1
  have hb1 := blk_in a2
  have A2 := Lib.hid a2
  have A4 := Lib.hid a4
  have K1 := Lib.hid hk1
  have hm : bs.length + s.size ≤ maxLen := by unfold maxLen; omega
  have hbw : base ≤ w1.heap.size := by omega
  clear hc hk1 a2 a4
  go_wp2_with (at_builtin; refine Lib.wpList_append_own_string _ rfl _ _ 74 9 rfl base 5 i0 Tryz.underlying74 Tryz.underlying9 hi hz0 hz1 hz2 _ _ _ rfl a3 s rfl hm hlen hbw ?_)
  intro v' w2 hown' hgrow _
  obtain ⟨A, c, rfl⟩ := own_shape hown'
  have hne : some b ≠ v.ownBlock := fun e => A4.out e.symm
  have hb2 := grown_block A2.out hgrow hne
  have d0 : w2.cell? ⟨b, 0, none⟩ = some (.pointer (some ⟨b, 0, none⟩)) := blk_cell hb2 0
  have d1 : w2.cell? ⟨b, 1, none⟩ = some v := blk_cell hb2 1
  have f1 := blk_free hb2 1
  have hk2 : PgK base b w1 (w2.setCell ⟨b, 1, none⟩ (.slice A (bs.length + s.size) c)) := by
    refine ((Keep.refl (PgS base b w1) w1).grown hgrow (fun k hv => ?_)).setCell (p := ⟨b, 1, none⟩) ⟨hl.1, .inl rfl⟩ _
    refine ⟨(own_in a3 hv).1, .inr ?_⟩
    rcases a3.2 with ⟨rfl, _⟩ | ⟨g, cap, cur, rfl, _, hg, _⟩
    · simp [Value.ownBlock] at hv
    · simp only [Value.ownBlock, Option.some.injEq] at hv
      subst hv
      exact ⟨_, _, hg⟩
  have hne2 : (Value.slice A (bs.length + s.size) c).ownBlock ≠ some b := by
    intro e
    rcases hown'.2 with ⟨h0, _⟩ | ⟨g, cap, cur, hv, _, hg, _⟩
    · rw [h0] at e; simp [Value.ownBlock] at e
    · rw [hv] at e
      simp only [Value.ownBlock, Option.some.injEq] at e
      subst e
      rw [hb2] at hg
      injection hg with hg
      injection hg with _ hg
      exact absurd hg (by decide)
  have hfin : PgAt base b (bs ++ s.data.toList) most over (w2.setCell ⟨b, 1, none⟩ (.slice A (bs.length + s.size) c)) := by
    refine .inr ⟨hl.1, _, by simpa using blk_set hb2 1 (.slice A (bs.length + s.size) c), ?_, hne2⟩
    have := own_blk (w' := w2.setCell ⟨b, 1, none⟩ (.slice A (bs.length + s.size) c)) hown' fun k hv => Below.heap_setCell _ _ _ _ (fun e => hne2 (by rw [hv]; simpa using e))
    rw [Lib.strCells_eq, ← Lib.byteCells_append] at this
    rw [List.length_append, ← Lib.size_eq]
    exact this
  have HF := Lib.hid hfin
  have K2 := Lib.hid (K1.out.trans hk2)
  clear hfin hk2 hown' hgrow hb2 hne2 a3 hne
  go_wp2
  go_ret2
  exact ⟨rfl, HF.out, K2.out⟩
set_option maxHeartbeats 2000000 in
set_option maxRecDepth 100000 in
theorem page_string {base b : Nat} {bs : List UInt8} {most : Int} {over : Bool} {w : World} (h : PgAt base b bs most over w) :
    Calls Tryz.prog 50 #[.pointer (some ⟨b, 0, none⟩)] w fun e w' => e = .returned (.string ⟨bs.toArray⟩) ∧ Below base w w' := by
  obtain ⟨hbb, hbw⟩ := h.lt
  obtain ⟨p, _, h1, v, h2, h3, h4⟩ := h.raw
  have hUS := fun (W : World) (q : Option Addr) => Lib.run_unsafeString_none (P := Tryz.prog) W 119 3 9 q
  have hU0 : ∀ (W : World), (Builtin.unsafeSliceData_ #[74] 119 #[.slice none 0 0]).run Tryz.prog W = .ok (.pointer none) W := fun _ => rfl
  have hbs : base ≤ w.heap.size := by omega
  rcases h3.2 with ⟨rfl, h0⟩ | ⟨g, cap, cur, rfl, hbg, hg, hnc, hcm, hcs, htake⟩
  · obtain rfl : bs = [] := List.eq_nil_of_length_eq_zero h0
    have c1 : w.drew.cell? ⟨b, 1, none⟩ = some (.slice none 0 0) := blk_cell (w := w.drew) h2 1
    clear h h2 h3 h4
    go_enter Tryz.func50, Tryz.ntmps50
    go_wp2
    go_region
    all_goals (go_wp2; go_ret; exact ⟨rfl, Below.drew (Below.refl base w)⟩)
  · by_cases h0 : bs = []
    · subst h0
      by_cases hc0 : cap = 0
      · subst hc0
        have c1 : w.drew.cell? ⟨b, 1, none⟩ = some (.slice (some ⟨g, 0, none⟩) 0 0) := blk_cell (w := w.drew) h2 1
        have c0 : w.cell? ⟨b, 1, none⟩ = some (.slice (some ⟨g, 0, none⟩) 0 0) := c1
        have hSD : (Builtin.unsafeSliceData_ #[74] 119 #[.slice (some ⟨g, 0, none⟩) 0 0]).run Tryz.prog w.drew = .ok (.pointer (some ⟨w.drew.heap.size, 0, none⟩)) (w.drew.alloc (.view ⟨g, 0, none⟩ 5)) :=
          Lib.run_unsafeSliceData_zero w.drew _ _ 5 Tryz.underlying119 ⟨g, 0, none⟩ 0 (5, cur.size) (by have hg' : w.drew.heap[g]? = some (.cells cur 5 (0, 0)) := hg; simp [World.shape?, hg'])
        have c2 : (w.drew.alloc (.view ⟨g, 0, none⟩ 5)).cell? ⟨b, 1, none⟩ = some (.slice (some ⟨g, 0, none⟩) 0 0) := by
          have : (w.drew.alloc (.view ⟨g, 0, none⟩ 5)).heap[b]? = _ := (Lib.alloc_old w.drew _ b hbw).trans h2
          exact blk_cell this 1
        have c3 : (w.alloc (.view ⟨g, 0, none⟩ 5)).drew.cell? ⟨b, 1, none⟩ = some (.slice (some ⟨g, 0, none⟩) 0 0) := c2
        clear h h2 h3 h4 hg hcs htake
        go_enter Tryz.func50, Tryz.ntmps50
        go_wp2
        go_region
        all_goals (go_wp2; go_ret; exact ⟨rfl, (Below.drew (Below.refl base w)).alloc hbs _⟩)
      · have c1 : w.drew.cell? ⟨b, 1, none⟩ = some (.slice (some ⟨g, 0, none⟩) 0 cap) := blk_cell (w := w.drew) h2 1
        have hSD : (Builtin.unsafeSliceData_ #[74] 119 #[.slice (some ⟨g, 0, none⟩) 0 cap]).run Tryz.prog w.drew = .ok (.pointer (some ⟨g, 0, none⟩)) w.drew :=
          Lib.run_unsafeSliceData_row _ _ _ _ _ _ hc0
        clear h h2 h3 h4 hg hcs htake hc0 hcm hnc
        go_enter Tryz.func50, Tryz.ntmps50
        go_wp2
        go_region
        all_goals (go_wp2; go_ret; exact ⟨rfl, Below.drew (Below.refl base w)⟩)
    · have hl0 : bs.length ≠ 0 := by simpa using h0
      have c1 : w.drew.cell? ⟨b, 1, none⟩ = some (.slice (some ⟨g, 0, none⟩) bs.length cap) := blk_cell (w := w.drew) h2 1
      have hSD : (Builtin.unsafeSliceData_ #[74] 119 #[.slice (some ⟨g, 0, none⟩) bs.length cap]).run Tryz.prog w.drew = .ok (.pointer (some ⟨g, 0, none⟩)) w.drew :=
        Lib.run_unsafeSliceData_row _ _ _ _ _ _ (by omega)
      have hU2 : (Builtin.unsafeString_ #[119, 3] 9 #[.pointer (some ⟨g, 0, none⟩), .int .i64 bs.length]).run Tryz.prog w.drew = .ok (.string ⟨bs.toArray⟩) (w.drew.freeze ⟨g, 0, none⟩ bs.length) := by
        refine Lib.run_unsafeString_row w.drew 119 3 9 5 Tryz.underlying119 (by kernel_rfl) g cur.size (by have hg' : w.drew.heap[g]? = some (.cells cur 5 (0, 0)) := hg; simp [World.shape?, hg']) bs h0 (by omega) (by unfold maxLen at hcm; omega) ?_
        intro j x hx
        have := h3.cells (g := g) rfl j (.int .u8 x.toNat) (by simp [Lib.byteCells, hx])
        exact this
      clear h h2 h3 h4 hg hcs htake hcm hnc hUS
      go_enter Tryz.func50, Tryz.ntmps50
      go_wp2
      go_region
      all_goals (go_wp2; go_ret; exact ⟨rfl, Lib.below_freeze (Below.drew (Below.refl base w)) (p := ⟨g, 0, none⟩) hbg _⟩)
end Go.Proofs.YtbdamneophbnnaaGreatDoor
namespace Wb
def flatS (l : List ByteArray) : List UInt8 := l.flatMap (·.data.toList)
theorem flatS_take {l : List ByteArray} {k : Nat} {s : ByteArray} (h : l[k]? = some s) : flatS (l.take (k + 1)) = flatS (l.take k) ++ s.data.toList := by
  rw [List.take_add_one, h]
  simp [flatS]
theorem flatS_len (l : List ByteArray) (k : Nat) : (flatS (l.take k)).length ≤ (flatS l).length := by
  conv => rhs; rw [← List.take_append_drop k l]
  unfold flatS
  rw [List.flatMap_append, List.length_append]
  omega
theorem wrap_sub {a b : Int} (h0 : -9223372036854775808 ≤ a - b) (h1 : a - b ≤ 9223372036854775807) : Go.IntKind.i64.wrap (a - b) = a - b := by
  simp [Go.IntKind.wrap, Go.IntKind.bits, Go.IntKind.signed]
  omega
def Room (most n : Nat) : Prop := most ≤ 140737488355328 ∨ n ≤ 140737488355328
theorem Room.le {most n m : Nat} (h : Room most n) (hm : m ≤ n) : Room most m := h.imp id (fun h => Nat.le_trans hm h)
end Wb
namespace Go.Proofs.YtbdamneophbnnaaGreatDoor
open Go.RowKit Wb
def PgT (base b : Nat) (t : List UInt8) (most : Nat) (w : World) : Prop :=
  (t.length ≤ most ∧ PgAt base b t most false w) ∨ (most < t.length ∧ ∃ bs : List UInt8, bs.length ≤ most ∧ PgAt base b bs most true w)
theorem PgT.lt {base b most : Nat} {t : List UInt8} {w : World} (h : PgT base b t most w) : base ≤ b ∧ b < w.heap.size := by
  rcases h with ⟨_, h⟩ | ⟨_, _, _, h⟩
  · exact h.lt
  · exact h.lt
theorem PgT.other {base b most : Nat} {t : List UInt8} {w w' : World} (h : PgT base b t most w) (hb : Below w.heap.size w w') : PgT base b t most w' := by
  rcases h with ⟨h1, h⟩ | ⟨h1, bs, h2, h⟩
  · exact .inl ⟨h1, h.other hb⟩
  · exact .inr ⟨h1, bs, h2, h.other hb⟩
theorem PgT.alloc {base b most : Nat} {t : List UInt8} {w : World} (h : PgT base b t most w) (o : Obj) : PgT base b t most (w.alloc o) := h.other ((Below.refl _ w).alloc (Nat.le_refl _) o)
theorem PgAt.cells {base b : Nat} {bs : List UInt8} {most : Int} {over : Bool} {w : World} (h : PgAt base b bs most over w) : w.cell? ⟨b, 2, none⟩ = some (.int .i64 most) ∧ w.cell? ⟨b, 3, none⟩ = some (.bool over) ∧ w.frozen? ⟨b, 3, none⟩ = false := by
  obtain ⟨p, _, _, v, h2, _⟩ := h.raw
  exact ⟨blk_cell h2 2, blk_cell h2 3, blk_free h2 3⟩
theorem PgAt.set_over {base b : Nat} {bs : List UInt8} {most : Int} {over : Bool} {w : World} (h : PgAt base b bs most over w) : PgAt base b bs most true (w.setCell ⟨b, 3, none⟩ (.bool true)) ∧ PgK base b w (w.setCell ⟨b, 3, none⟩ (.bool true)) := by
  obtain ⟨p, hp, h1, v, h2, h3, h4⟩ := h.raw
  refine ⟨.of_raw hp ⟨h1, v, by simpa using blk_set h2 3 (.bool true), own_blk h3 fun k hv => Below.heap_setCell _ _ _ _ (fun e => h4 (by rw [hv]; simpa using e)), h4⟩, (Keep.refl _ w).setCell (p := ⟨b, 3, none⟩) ⟨h1, .inl rfl⟩ _⟩
set_option maxHeartbeats 2000000 in
set_option maxRecDepth 100000 in
theorem pput_any {base b most g : Nat} {t : List UInt8} {w : World} (l : List ByteArray) (c : Nat) (h : PgT base b t most w) (hg : w.heap[g]? = some (.cells (cells1 l).toArray 9 (0, 0))) (hgb : g ≠ b) (hl : l.length ≤ 1000) (hm : most ≤ 9223372036854775807) (hr : Room most (t.length + (flatS l).length)) :
    Calls Tryz.prog 150 #[.pointer (some ⟨b, 0, none⟩), .slice (some ⟨g, 0, none⟩) l.length c] w fun e w' => e = .returned (.tuple #[]) ∧ PgT base b (t ++ flatS l) most w' ∧ PgK base b w w' := by
  have H0 := Lib.hid h
  have HG := Lib.hid hg
  clear h hg
  go_enter Tryz.func150, Tryz.ntmps150
  go_wp2
  go_loopw [8] (fun vi wr => ∃ k : Nat, k ≤ l.length ∧ vi = .int .i64 k ∧ Hid (PgT base b (t ++ flatS (l.take k)) most wr) ∧ Hid (PgK base b w wr)) (fun vi _ => ((l.length : Int) - intOf vi).toNat)
  case atStart => exact ⟨0, by omega, rfl, Lib.hid (by simpa [flatS] using H0.out), Lib.hid (PgK.refl _ _ _)⟩
  case round =>
    obtain ⟨k, hk, rfl, HP, HK⟩ := hrel
    by_cases h0 : k < l.length
    · obtain ⟨s, he⟩ : ∃ s, l[k]? = some s := ⟨l[k], List.getElem?_eq_getElem h0⟩
      have hgr := HK.out.blk HG.out (by decide) hgb
      have hc : wr.cell? ⟨g, k, none⟩ = some (.string s) := (blk_cell hgr k).trans (by simp [cells1, he])
      have hft := flatS_take he
      have hfl := flatS_len l (k + 1)
      have hfull := flatS_len l l.length
      rw [List.take_length] at hfull
      clear hgr
      rcases HP.out with ⟨h1, hp0⟩ | ⟨h1, bs, h2, hp0⟩
      · have hp : PgAt base b (t ++ flatS (l.take k)) most false wr.drew := hp0.other (Below.refl _ wr).drew
        obtain ⟨c2, c3, f3⟩ := hp.cells
        have hlen := page_len hp
        have HKd := Lib.hid HK.out.drew
        have hc2 := hc
        by_cases hfit : (t ++ flatS (l.take k)).length + s.size ≤ most
        · have hwr := page_write s hp (by rcases hr with hr | hr <;> (rw [hft] at hfl; simp only [List.length_append, ← Lib.size_eq] at hfit hfl ⊢; omega))
          have hpost : Hid (∀ w2, PgAt base b (t ++ flatS (l.take k) ++ s.data.toList) most false w2 → PgT base b (t ++ flatS (l.take (k + 1))) most w2) := Lib.hid (fun w2 h => .inl ⟨by rw [hft, ← List.append_assoc, List.length_append, ← Lib.size_eq]; exact hfit, by rw [hft, ← List.append_assoc]; exact h⟩)
          have hnf : ¬ ((most : Int) - ((t ++ flatS (l.take k)).length : Int) < (s.size : Int)) := by omega
          have hln0 : ((t ++ flatS (l.take k)).length : Int) ≤ most := by omega
          clear hft hfl hp hp0 he hfit hfull hc2
          generalize (t ++ flatS (l.take k)).length = n at *
          have hwp : IntKind.i64.wrap ((most : Int) - (n : Int)) = (most : Int) - (n : Int) := wrap_sub (by omega) (by omega)
          go_wp2_with fail
          (try simp only [List.append])
          refine wp_region_held_drew (S := (fun v => v.cell? ⟨b, 2, none⟩ = some (.int .i64 most) ∧ v.cell? ⟨b, 3, none⟩ = some (.bool false))) (by kernel_rfl) (⟨c2, c3⟩) (fun hHeld => ?_)
          refine takeW 0 ?_
          refine takeW 1 ?_
          refine takeW 2 ?_
          refine takeW 3 ?_
          (try simp only [Act.put, List.setIfInBounds_toArray, List.set_cons_zero, List.set_cons_succ])
          refine takeW 4 ?_
          refine takeW 5 ?_
          refine takeW 6 ?_
          refine takeW 7 ?_
          (try simp only [Act.put, List.setIfInBounds_toArray, List.set_cons_zero, List.set_cons_succ])
          refine takeW 8 ?_
          refine takeW 9 ?_
          refine takeW 10 ?_
          refine takeW 11 ?_
          (try simp only [Act.put, List.setIfInBounds_toArray, List.set_cons_zero, List.set_cons_succ])
          refine takeW 12 ?_
          refine takeW 13 ?_
          (try simp only [Act.put, List.setIfInBounds_toArray, List.set_cons_zero, List.set_cons_succ])
          refine wpAnyH_ready (rs := [14]) (by kernel_rfl) (by simp) ?_
          refine AllReadyH.cons rfl (fun K2 hK2 => ?_) AllReadyH.nil
          go_simp
          refine hlen.mono ?_
          rintro e w2 ⟨rfl, rfl⟩
          refine hK2.out _ _ hHeld (fun hHeld2 => ?_)
          refine takeW 15 ?_
          refine takeW 16 ?_
          (try simp only [Act.put, List.setIfInBounds_toArray, List.set_cons_zero, List.set_cons_succ])
          refine takeW 17 ?_
          (try simp only [Act.put, List.setIfInBounds_toArray, List.set_cons_zero, List.set_cons_succ])
          refine wpAnyH_done (by kernel_rfl) ?_ _
          go_wp2_with fail
          refine hwr.mono ?_
          rintro e w3 ⟨rfl, hp3, hk3⟩
          have HP3 := Lib.hid (hpost.out _ hp3)
          have HK3 := Lib.hid (HKd.out.trans hk3)
          clear hlen hwr hp3 hk3 hpost
          go_wp2
          go_roundw
          case rel => exact ⟨k + 1, by omega, by go_num, HP3, HK3⟩
          case measure => simp [intOf]; omega
        · obtain ⟨hs1, hs2⟩ := hp.set_over
          have hpost : Hid (PgT base b (t ++ flatS l) most (wr.drew.setCell ⟨b, 3, none⟩ (.bool true))) := Lib.hid (.inr ⟨by rw [hft] at hfl; simp only [List.length_append, ← Lib.size_eq] at hfit hfl ⊢; omega, _, h1, hs1⟩)
          have HK2 := Lib.hid (HKd.out.trans hs2)
          have hnf : (most : Int) - ((t ++ flatS (l.take k)).length : Int) < (s.size : Int) := by omega
          have hln0 : ((t ++ flatS (l.take k)).length : Int) ≤ most := by omega
          clear hft hfl hp hp0 he hfit hfull hs1 hs2 hc2
          generalize (t ++ flatS (l.take k)).length = n at *
          have hwp : IntKind.i64.wrap ((most : Int) - (n : Int)) = (most : Int) - (n : Int) := wrap_sub (by omega) (by omega)
          go_wp2_with fail
          (try simp only [List.append])
          refine wp_region_held_drew (S := (fun v => v.cell? ⟨b, 2, none⟩ = some (.int .i64 most) ∧ v.cell? ⟨b, 3, none⟩ = some (.bool false))) (by kernel_rfl) (⟨c2, c3⟩) (fun hHeld => ?_)
          refine takeW 0 ?_
          refine takeW 1 ?_
          refine takeW 2 ?_
          refine takeW 3 ?_
          (try simp only [Act.put, List.setIfInBounds_toArray, List.set_cons_zero, List.set_cons_succ])
          refine takeW 4 ?_
          refine takeW 5 ?_
          refine takeW 6 ?_
          refine takeW 7 ?_
          (try simp only [Act.put, List.setIfInBounds_toArray, List.set_cons_zero, List.set_cons_succ])
          refine takeW 8 ?_
          refine takeW 9 ?_
          refine takeW 10 ?_
          refine takeW 11 ?_
          (try simp only [Act.put, List.setIfInBounds_toArray, List.set_cons_zero, List.set_cons_succ])
          refine takeW 12 ?_
          refine takeW 13 ?_
          (try simp only [Act.put, List.setIfInBounds_toArray, List.set_cons_zero, List.set_cons_succ])
          refine wpAnyH_ready (rs := [14]) (by kernel_rfl) (by simp) ?_
          refine AllReadyH.cons rfl (fun K2 hK2 => ?_) AllReadyH.nil
          go_simp
          refine hlen.mono ?_
          rintro e w2 ⟨rfl, rfl⟩
          refine hK2.out _ _ hHeld (fun hHeld2 => ?_)
          refine takeW 15 ?_
          refine takeW 16 ?_
          (try simp only [Act.put, List.setIfInBounds_toArray, List.set_cons_zero, List.set_cons_succ])
          refine takeW 17 ?_
          (try simp only [Act.put, List.setIfInBounds_toArray, List.set_cons_zero, List.set_cons_succ])
          refine wpAnyH_done (by kernel_rfl) ?_ _
          clear hlen
          go_wp2
          refine bodyPost_ret (results_none rfl _ _ _) rfl ?_
          exact ⟨rfl, hpost.out, HK2.out⟩
      · have hp : PgAt base b bs most true wr.drew := hp0.other (Below.refl _ wr).drew
        obtain ⟨c2, c3, f3⟩ := hp.cells
        obtain ⟨hs1, hs2⟩ := hp.set_over
        have hpost : Hid (PgT base b (t ++ flatS l) most (wr.drew.setCell ⟨b, 3, none⟩ (.bool true))) := Lib.hid (.inr ⟨by have := flatS_len l k; simp only [List.length_append] at h1 ⊢; omega, _, h2, hs1⟩)
        have HK2 := Lib.hid (HK.out.drew.trans hs2)
        clear hft hfl hp hp0 he hfull hs1 hs2 h1 h2
        go_wp2_with fail
        (try simp only [List.append])
        refine wp_region_held_drew (S := (fun v => v.cell? ⟨b, 2, none⟩ = some (.int .i64 most) ∧ v.cell? ⟨b, 3, none⟩ = some (.bool true))) (by kernel_rfl) (⟨c2, c3⟩) (fun hHeld => ?_)
        refine takeW 0 ?_
        refine takeW 1 ?_
        refine takeW 2 ?_
        refine takeW 3 ?_
        (try simp only [Act.put, List.setIfInBounds_toArray, List.set_cons_zero, List.set_cons_succ])
        refine takeW 4 ?_
        refine takeU 5 ?_
        refine takeU 6 ?_
        refine takeU 7 ?_
        (try simp only [Act.put, List.setIfInBounds_toArray, List.set_cons_zero, List.set_cons_succ])
        refine takeU 8 ?_
        refine takeU 9 ?_
        refine takeU 10 ?_
        refine takeU 11 ?_
        (try simp only [Act.put, List.setIfInBounds_toArray, List.set_cons_zero, List.set_cons_succ])
        refine takeU 12 ?_
        refine takeU 13 ?_
        (try simp only [Act.put, List.setIfInBounds_toArray, List.set_cons_zero, List.set_cons_succ])
        refine wpAnyH_ready (rs := [14]) (by kernel_rfl) (by simp) ?_
        refine AllReadyH.cons rfl (fun K2 hK2 => ?_) AllReadyH.nil
        go_simp
        refine hK2.out _ _ (by assumption) (fun hHeld2 => ?_)
        refine takeU 15 ?_
        refine takeU 16 ?_
        (try simp only [Act.put, List.setIfInBounds_toArray, List.set_cons_zero, List.set_cons_succ])
        refine takeW 17 ?_
        (try simp only [Act.put, List.setIfInBounds_toArray, List.set_cons_zero, List.set_cons_succ])
        refine wpAnyH_done (by kernel_rfl) ?_ _
        go_wp2
        refine bodyPost_ret (results_none rfl _ _ _) rfl ?_
        exact ⟨rfl, hpost.out, HK2.out⟩
    · have : k = l.length := by omega
      subst this
      rw [List.take_length] at HP
      go_wp2
      go_end0
      exact ⟨rfl, HP.out, HK.out⟩
theorem pref_any (c : UInt8) (attr : Bool) (w : World) : Calls Tryz.prog 149 #[.int .u8 c.toNat, .bool attr] w fun e w' => e = .returned (.string ⟨(refB attr c).toArray⟩) ∧ w' = w := by
  have eqc : ∀ k : UInt8, c = k ↔ (c.toNat : Int) = k.toNat := fun k => ⟨fun h => by rw [h], fun h => UInt8.toNat_inj.1 (by omega)⟩
  have hR : (refB attr c) = if (c.toNat : Int) = 38 then [38, 97, 109, 112, 59] else if (c.toNat : Int) = 60 then [38, 108, 116, 59] else if (c.toNat : Int) = 62 ∧ attr = false then [38, 103, 116, 59]
      else if (c.toNat : Int) = 34 ∧ attr = true then [38, 113, 117, 111, 116, 59] else if (c.toNat : Int) = 13 then [38, 35, 49, 51, 59]
      else if (c.toNat : Int) = 10 ∧ attr = true then [38, 35, 49, 48, 59] else if (c.toNat : Int) = 9 ∧ attr = true then [38, 35, 57, 59] else [] := by
    unfold refB
    simp only [eqc]
    rfl
  rw [hR]
  generalize (c.toNat : Int) = z
  clear hR eqc
  cases attr
  all_goals
    by_cases h1 : z = 38
    · subst h1
      go_enter Tryz.func149, Tryz.ntmps149
      go_wp2
      go_ret
      exact ⟨rfl, rfl⟩
    by_cases h2 : z = 60
    · subst h2
      go_enter Tryz.func149, Tryz.ntmps149
      go_wp2
      go_ret
      exact ⟨rfl, rfl⟩
    by_cases h3 : z = 62
    · subst h3
      go_enter Tryz.func149, Tryz.ntmps149
      go_wp2
      go_ret
      exact ⟨rfl, rfl⟩
    by_cases h4 : z = 34
    · subst h4
      go_enter Tryz.func149, Tryz.ntmps149
      go_wp2
      go_ret
      exact ⟨rfl, rfl⟩
    by_cases h5 : z = 13
    · subst h5
      go_enter Tryz.func149, Tryz.ntmps149
      go_wp2
      go_ret
      exact ⟨rfl, rfl⟩
    by_cases h6 : z = 10
    · subst h6
      go_enter Tryz.func149, Tryz.ntmps149
      go_wp2
      go_ret
      exact ⟨rfl, rfl⟩
    by_cases h7 : z = 9
    · subst h7
      go_enter Tryz.func149, Tryz.ntmps149
      go_wp2
      go_ret
      exact ⟨rfl, rfl⟩
    have e1 : (z == 38) = false := by simpa using h1
    have e2 : (z == 60) = false := by simpa using h2
    have e3 : (z == 62) = false := by simpa using h3
    have e4 : (z == 34) = false := by simpa using h4
    have e5 : (z == 13) = false := by simpa using h5
    have e6 : (z == 10) = false := by simpa using h6
    have e7 : (z == 9) = false := by simpa using h7
    go_enter Tryz.func149, Tryz.ntmps149
    go_wp2
    go_ret
    exact ⟨rfl, rfl⟩
theorem esc_step {s : ByteArray} {attr : Bool} {dn k : Nat} (hdk : dn ≤ k) (hk : k < s.size) (hp : ∀ j (h : j < s.size), dn ≤ j → j < k → refB attr s[j] = []) (hne : refB attr s[k] ≠ []) :
    escL attr (s.data.toList.take dn) ++ ((s.extract dn k).data.toList ++ refB attr s[k]) = escL attr (s.data.toList.take (k + 1)) := by
  have e1 : s.data.toList.take (k + 1) = s.data.toList.take dn ++ ((s.data.toList.drop dn).take (k - dn) ++ [s[k]]) := by
    rw [List.take_add_one, show s.data.toList[k]? = some s[k] from by rw [Array.getElem?_toList]; exact Array.getElem?_eq_getElem (by simpa using hk)]
    show _ ++ [s[k]] = _
    rw [← List.append_assoc]
    congr 1
    rw [← List.take_add]
    congr 1
    omega
  rw [e1, escL_app, escL_app, extract_L]
  congr 2
  · rw [escL_plain]
    intro c hc
    obtain ⟨j, hj, rfl⟩ := List.mem_iff_getElem.1 hc
    rw [List.length_take, List.length_drop, ← Lib.size_eq] at hj
    rw [List.getElem_take, List.getElem_drop]
    exact hp (dn + j) (by omega) (by omega) (by omega)
  · simp only [escL, List.append_nil]
    unfold escB
    rw [if_neg hne]
theorem esc_last {s : ByteArray} {attr : Bool} {dn : Nat} (hdk : dn ≤ s.size) (hp : ∀ j (h : j < s.size), dn ≤ j → refB attr s[j] = []) :
    escL attr (s.data.toList.take dn) ++ (s.extract dn s.size).data.toList = escL attr s.data.toList := by
  conv => rhs; rw [← List.take_append_drop dn s.data.toList, escL_app]
  rw [extract_L]
  congr 1
  rw [List.take_of_length_le (by rw [List.length_drop, ← Lib.size_eq]; exact Nat.le_refl _), escL_plain]
  intro c hc
  obtain ⟨j, hj, rfl⟩ := List.mem_iff_getElem.1 hc
  rw [List.length_drop, ← Lib.size_eq] at hj
  rw [List.getElem_drop]
  exact hp (dn + j) (by omega) (by omega)
theorem esc_take_len (attr : Bool) (l : List UInt8) (k : Nat) : (escL attr (l.take k)).length ≤ (escL attr l).length := by
  conv => rhs; rw [← List.take_append_drop k l, escL_app, List.length_append]
  omega
set_option maxHeartbeats 2000000 in
set_option maxRecDepth 100000 in
theorem pescape_any {base b most : Nat} {t : List UInt8} {w : World} (s : ByteArray) (attr : Bool) (h : PgT base b t most w) (hm : most ≤ 9223372036854775807) (hs : s.size ≤ 1000000000) (hr : Room most (t.length + (escL attr s.data.toList).length)) :
    Calls Tryz.prog 132 #[.pointer (some ⟨b, 0, none⟩), .string s, .bool attr] w fun e w' => e = .returned (.tuple #[]) ∧ PgT base b (t ++ escL attr s.data.toList) most w' ∧ PgK base b w w' := by
  have H0 := Lib.hid h
  clear h
  go_enter Tryz.func132, Tryz.ntmps132
  go_wp2
  go_loopw [6, 11] (fun vd vi wr => ∃ dn k : Nat, dn ≤ k ∧ k ≤ s.size ∧ vd = .int .i64 dn ∧ vi = .int .i64 k ∧ Hid (PgT base b (t ++ escL attr (s.data.toList.take dn)) most wr) ∧ Hid (PgK base b w wr) ∧ Hid (∀ j (h : j < s.size), dn ≤ j → j < k → refB attr s[j] = [])) (fun _ vi _ => ((s.size : Int) - intOf vi).toNat)
  case atStart => exact ⟨0, 0, by omega, by omega, rfl, rfl, Lib.hid (by simpa [escL] using H0.out), Lib.hid (PgK.refl _ _ _), Lib.hid (fun j _ _ h => by omega)⟩
  case round =>
    obtain ⟨dn, k, hdk, hk, rfl, rfl, HP, HK, HR⟩ := hrel
    by_cases h0 : k < s.size
    · have hrf := pref_any s[k] attr wr
      by_cases hrb : refB attr s[k] = []
      · rw [hrb] at hrf
        have HR2 : Hid (∀ j (h : j < s.size), dn ≤ j → j < k + 1 → refB attr s[j] = []) := Lib.hid (fun j h h1 h2 => by
          by_cases e : j = k
          · subst e; exact hrb
          · exact HR.out j h h1 (by omega))
        clear hrb HR
        go_wp2_with fail
        refine hrf.mono ?_
        rintro e w2 ⟨rfl, rfl⟩
        clear hrf
        go_wp2
        go_roundw
        case rel => exact ⟨dn, k + 1, by omega, by omega, rfl, by go_num, HP, HK, HR2⟩
        case measure => simp [intOf]; omega
      · have hst := esc_step hdk h0 HR.out hrb
        have hle := esc_take_len attr s.data.toList (k + 1)
        have hbl := HP.out.lt
        have hfl : flatS [s.extract dn k, ⟨(refB attr s[k]).toArray⟩] = (s.extract dn k).data.toList ++ refB attr s[k] := by simp [flatS]
        have hput := pput_any [s.extract dn k, ⟨(refB attr s[k]).toArray⟩] 2 (HP.out.alloc (.cells #[.string (s.extract dn k), .string ⟨(refB attr s[k]).toArray⟩] 9)) (g := wr.heap.size) (heap_alloc_new wr _) (by omega) (by simp) hm (by
          rw [hfl]
          refine hr.le ?_
          rw [← hst] at hle
          simp only [List.length_append] at hle ⊢
          omega)
        rw [hfl, List.append_assoc, hst] at hput
        have hne : ((ByteArray.mk (refB attr s[k]).toArray).toList.isEmpty) = false := by
          rw [ByteArray.toList_eq]
          simpa using hrb
        have HKa := Lib.hid (HK.out.trans (PgK.alloc (base := base) (b := b) wr (.cells #[.string (s.extract dn k), .string ⟨(refB attr s[k]).toArray⟩] 9)))
        clear hst hle hfl hrb HR HP
        generalize (ByteArray.mk (refB attr s[k]).toArray) = rb at *
        go_wp2_with fail
        refine hrf.mono ?_
        rintro e w2 ⟨rfl, rfl⟩
        clear hrf
        go_wp2_with fail
        refine hput.mono ?_
        rintro e w3 ⟨rfl, hp3, hk3⟩
        have HP3 := Lib.hid hp3
        have HK3 := Lib.hid (HKa.out.trans hk3)
        clear hput hp3 hk3 hne
        go_wp2
        go_roundw
        case rel => exact ⟨k + 1, k + 1, by omega, by omega, by go_num, by go_num, HP3, HK3, Lib.hid (fun j _ _ h => by omega)⟩
        case measure => simp [intOf]; omega
    · have : k = s.size := by omega
      subst this
      have hst := esc_last (attr := attr) hdk (fun j h h1 => HR.out j h h1 h)
      have hbl := HP.out.lt
      have hfl : flatS [s.extract dn s.size] = (s.extract dn s.size).data.toList := by simp [flatS]
      have hput := pput_any [s.extract dn s.size] 1 (HP.out.alloc (.cells #[.string (s.extract dn s.size)] 9)) (g := wr.heap.size) (heap_alloc_new wr _) (by omega) (by simp) hm (by
        rw [hfl]
        refine hr.le ?_
        have hst2 := congrArg List.length hst
        simp only [List.length_append] at hst2 ⊢
        omega)
      rw [hfl, List.append_assoc, hst] at hput
      have HKa := Lib.hid (HK.out.trans (PgK.alloc (base := base) (b := b) wr (.cells #[.string (s.extract dn s.size)] 9)))
      clear hst hfl HR HP
      go_wp2_with fail
      refine hput.mono ?_
      rintro e w3 ⟨rfl, hp3, hk3⟩
      have HP3 := Lib.hid hp3
      have HK3 := Lib.hid (HKa.out.trans hk3)
      clear hput hp3 hk3
      go_wp2
      go_end0
      exact ⟨rfl, HP3.out, HK3.out⟩
end Go.Proofs.YtbdamneophbnnaaGreatDoor
