/- LeP Scope. -/
import Derived.Deep.RegionHeld2
import Derived.Deep.DeepCutAuto
import Derived.Scope
import Derived.ScopeJumps
import Derived.WalkMore
import Derived.Test.YtlcjepnaljfpkaaGreatDoorQl16
namespace Go.Proofs.YtlcjepnaljfpkaaGreatDoor
open Go.RowKit Wb
def tokZ (k p : Int) (n x : ByteArray) : Array Value := #[.int .i64 k, .int .i64 p, .string n, .slice none 0 0, .string x]
theorem DocW.alloc {w : World} {D : Nat} {s : ByteArray} {fr at_ : Nat} (h : DocW w D s fr at_) (o : Obj) : DocW (w.alloc o) D s fr at_ := h.below ((Below.refl _ w).alloc (Nat.le_refl _) o)
theorem Keeps.alloc {D : Nat} {a w : World} (h : Keeps D a w) (o : Obj) : Keeps D a (w.alloc o) := h.next ((Below.refl _ w).alloc (Nat.le_refl _) o)
theorem Keeps.other {D : Nat} {a w : World} (h : Keeps D a w) {b : Nat} (hb : a.heap.size ≤ b) (o : Nat) (v : Value) : Keeps D a (w.setCell ⟨b, o, none⟩ v) :=
  ⟨h.os, h.tape, h.output, Nat.le_trans h.size (by simp [World.setCell]), fun k hk hd => (Below.heap_setCell _ _ _ _ (by simp; omega)).trans (h.block k hk hd)⟩
theorem DocW.other {w : World} {D : Nat} {s : ByteArray} {fr at_ : Nat} (h : DocW w D s fr at_) {b : Nat} (hb : D ≠ b) (o : Nat) (v : Value) : DocW (w.setCell ⟨b, o, none⟩ v) D s fr at_ :=
  (Below.heap_setCell _ _ _ _ (by simpa using hb)).trans h
theorem DocW.five {w : World} {D : Nat} {s : ByteArray} {fr at_ : Nat} (h : DocW w D s fr at_) {b : Nat} (hb : D ≠ b) (v0 v1 v2 v3 v4 : Value) :
    DocW (((((w.setCell ⟨b, 0, none⟩ v0).setCell ⟨b, 1, none⟩ v1).setCell ⟨b, 2, none⟩ v2).setCell ⟨b, 3, none⟩ v3).setCell ⟨b, 4, none⟩ v4) D s fr at_ :=
  ((((h.other hb _ _).other hb _ _).other hb _ _).other hb _ _).other hb _ _
theorem five_set {w : World} {b : Nat} {u0 u1 u2 u3 u4 : Value} {t : TypeId} (h : w.heap[b]? = some (.cells #[u0, u1, u2, u3, u4] t (0, 0))) (v0 v1 v2 v3 v4 : Value) :
    (((((w.setCell ⟨b, 0, none⟩ v0).setCell ⟨b, 1, none⟩ v1).setCell ⟨b, 2, none⟩ v2).setCell ⟨b, 3, none⟩ v3).setCell ⟨b, 4, none⟩ v4).heap[b]? = some (.cells #[v0, v1, v2, v3, v4] t (0, 0)) :=
  blk_set (blk_set (blk_set (blk_set (blk_set h 0 v0) 1 v1) 2 v2) 3 v3) 4 v4
theorem five_other {w : World} {b g : Nat} (hg : g ≠ b) (v0 v1 v2 v3 v4 : Value) :
    (((((w.setCell ⟨b, 0, none⟩ v0).setCell ⟨b, 1, none⟩ v1).setCell ⟨b, 2, none⟩ v2).setCell ⟨b, 3, none⟩ v3).setCell ⟨b, 4, none⟩ v4).heap[g]? = w.heap[g]? := by
  rw [Below.heap_setCell _ _ _ _ (by simpa using hg), Below.heap_setCell _ _ _ _ (by simpa using hg), Below.heap_setCell _ _ _ _ (by simpa using hg), Below.heap_setCell _ _ _ _ (by simpa using hg), Below.heap_setCell _ _ _ _ (by simpa using hg)]
theorem Keeps.five {D : Nat} {w w' : World} (h : Keeps D w w') {b : Nat} {u0 u1 u2 u3 u4 : Value} {t : TypeId} (hb : w.heap[b]? = some (.cells #[u0, u1, u2, u3, u4] t (0, 0))) (hl : b < w.heap.size) (hd : b ≠ D) :
    w'.heap[b]? = some (.cells #[u0, u1, u2, u3, u4] t (0, 0)) := (h.block b hl hd).trans hb
theorem five_cells {w : World} {b : Nat} {u0 u1 u2 u3 u4 : Value} {t : TypeId} (h : w.heap[b]? = some (.cells #[u0, u1, u2, u3, u4] t (0, 0))) :
    w.cell? ⟨b, 0, none⟩ = some u0 ∧ w.cell? ⟨b, 1, none⟩ = some u1 ∧ w.cell? ⟨b, 2, none⟩ = some u2 ∧ w.cell? ⟨b, 3, none⟩ = some u3 ∧ w.cell? ⟨b, 4, none⟩ = some u4 ∧
    w.frozen? ⟨b, 0, none⟩ = false ∧ w.frozen? ⟨b, 1, none⟩ = false ∧ w.frozen? ⟨b, 2, none⟩ = false ∧ w.frozen? ⟨b, 3, none⟩ = false ∧ w.frozen? ⟨b, 4, none⟩ = false :=
  ⟨blk_cell h 0, blk_cell h 1, blk_cell h 2, blk_cell h 3, blk_cell h 4, blk_free h 0, blk_free h 1, blk_free h 2, blk_free h 3, blk_free h 4⟩
theorem second_block (w : World) (o1 o2 : Obj) : ((w.alloc o1).alloc o2).drew.heap[w.heap.size + 1]? = some o2 := by
  show ((w.heap.push o1).push o2)[w.heap.size + 1]? = some o2
  rw [Array.getElem?_push, if_pos (by simp)]
theorem first_block (w : World) (o1 : Obj) : (w.alloc o1).heap[w.heap.size]? = some o1 := kept_block (Below.refl _ _)
theorem first_block2 (w : World) (o1 o2 : Obj) : ((w.alloc o1).alloc o2).drew.heap[w.heap.size]? = some o1 := by
  show ((w.heap.push o1).push o2)[w.heap.size]? = some o1
  rw [Array.getElem?_push, if_neg (by simp), Array.getElem?_push, if_pos rfl]
theorem named_two (D : Nat) (s p : ByteArray) (fr at_ : Nat) (w : World) (h : DocW w D s fr at_) (hat : at_ + p.size ≤ s.size) (hs : s.size ≤ 1000000) :
    Calls Tryz.prog 109 #[.pointer (some ⟨D, 0, none⟩), .string p] w fun e w' =>
      (∃ q c, namedX s.data.toList fr (at_ + p.size) = .error (q, c) ∧ e = .panicked [flt q c] ∧ Keeps D w w') ∨ (∃ x a, namedX s.data.toList fr (at_ + p.size) = .ok (x, a) ∧ e = .returned (.string ⟨x.toArray⟩) ∧ DocW w' D s fr a ∧ Keeps D w w') := by
  refine (named_any D s p fr at_ w h hat hs).mono ?_
  rintro e w' ⟨hk, he⟩
  cases hn : namedX s.data.toList fr (at_ + p.size) with
  | error pe =>
    obtain ⟨q, c⟩ := pe
    rw [hn] at he
    exact .inl ⟨q, c, rfl, he, hk⟩
  | ok xa =>
    obtain ⟨x, a⟩ := xa
    rw [hn] at he
    exact .inr ⟨x, a, rfl, he.1, he.2, hk⟩
theorem namedX_le {s : ByteArray} {fr at_ a : Nat} {x : List UInt8} (hat : at_ ≤ s.size) (h : namedX s.data.toList fr at_ = .ok (x, a)) : a ≤ s.size := by
  unfold namedX at h
  split at h
  · cases h
  · split at h
    · cases h
    · simp only [Except.ok.injEq, Prod.mk.injEq] at h
      have := wordX_le s at_ hat
      omega
def EndPost (D : Nat) (s : ByteArray) (fr : Nat) (w : World) (e : Ending) (w' : World) : Prop := Keeps D w w' ∧ match endTagX s.data.toList fr with
      | .ok ((_, n, _, _), a) => e = .returned (.agg (tokZ 2 fr ⟨n.toArray⟩ ⟨#[]⟩)) ∧ DocW w' D s fr a
      | .error (p, c) => e = .panicked [flt p c]
theorem EndPost.bad {D : Nat} {s : ByteArray} {fr : Nat} {w w' : World} {q c : Nat} (h : namedX s.data.toList fr (fr + 2) = .error (q, c)) (hk : Keeps D w w') : EndPost D s fr w (.panicked [flt q c]) w' := by
  refine ⟨hk, ?_⟩
  have e1 : endTagX s.data.toList fr = .error (q, c) := by unfold endTagX; rw [h]
  rw [e1]
set_option maxHeartbeats 1000000 in
theorem endTag_any (D : Nat) (s : ByteArray) (fr : Nat) (w : World) (h : DocW w D s fr fr) (hat : fr + 2 ≤ s.size) (hs : s.size ≤ 1000000) :
    Calls Tryz.prog 73 #[.pointer (some ⟨D, 0, none⟩)] w fun e w' => EndPost D s fr w e w' := by
  have HN := Lib.hid fun w2 (hw : DocW w2 D s fr fr) => named_two D s ⟨#[60, 47]⟩ fr fr w2 hw hat hs
  have HD := Lib.hid h
  have c1 := h.c1
  have HBK := Lib.hid fun a (ha : a ≤ s.size) w2 (hw : DocW w2 D s fr a) => blanks_any D s fr a w2 hw ha hs
  have HTK := Lib.hid fun a (ha : a ≤ s.size) w2 (hw : DocW w2 D s fr a) => take_any D s fr a 62 w2 hw ha hs
  have hDl := Lib.hid h.lt
  have hD1 : D ≠ w.heap.size + 1 := by have := h.lt; omega
  clear h
  go_enter Tryz.func73, Tryz.ntmps73
  go_upto_region 1 with fail
  go_cut [3] (fun s3 wx => ∃ (T : Nat) (x : List UInt8) (a : Nat), s3 = .pointer (some ⟨T, 0, none⟩) ∧ w.heap.size < T ∧ Hid (namedX s.data.toList fr (fr + 2) = .ok (x, a)) ∧ Hid (wx.heap[T]? = some (.cells (tokZ 2 fr ⟨x.toArray⟩ ⟨#[]⟩) 52 (0, 0))) ∧ Hid (wx.heap[w.heap.size]? = some (.cells (tokZ 0 0 ⟨#[]⟩ ⟨#[]⟩) 52 (0, 0))) ∧ Hid (Keeps D w wx) ∧ Hid (DocW wx D s fr a))
  case first =>
    go_region_held2 (fun w' => w'.cell? ⟨D, 1, none⟩ = some (.int .i64 fr)) (with_reducible (first | exact HD.out.c1 | exact HD.out.drew.c1 | exact (HD.out.alloc _).c1 | exact ((HD.out.alloc _).drew).c1 | exact ((HD.out.alloc _).alloc _).drew.c1 | exact hd.c1 | exact (hd.alloc _).c1 | exact (hd.five hD1 _ _ _ _ _).c1))
      (first
        | (go_at_call 109; refine (HN.out (((w.alloc _).alloc _).drew) ((HD.out.alloc _).alloc _).drew).mono ?_; rintro e w' (⟨q, c, hn, rfl, hk⟩ | ⟨x, a, hn, rfl, hd, hk⟩); (exact ⟨rfl, EndPost.bad hn ((((Keeps.refl D w).alloc _).alloc _).drew.trans hk)⟩); obtain ⟨q0, q1, q2, q3, q4, f0, f1, f2, f3, f4⟩ := five_cells (hk.five (second_block w _ _) (by simp) (fun e => hD1 e.symm)))
        | (go_at_call 109; refine (HN.out _ (HD.out.alloc _).drew).mono ?_; rintro e w' (⟨q, c, hn, rfl, hk⟩ | ⟨x, a, hn, rfl, hd, hk⟩); (exact ⟨rfl, EndPost.bad hn (((Keeps.refl D w).alloc _).drew.trans hk)⟩)))
    all_goals (go_wp2_with fail; go_meet)
    · have hl : w.heap.size < w'.heap.size := Nat.lt_of_lt_of_le (by simp) hk.size
      have hr := hk.block w.heap.size (by simp) (by have := hDl.out; omega)
      exact ⟨w'.heap.size, x, a, rfl, hl, Lib.hid hn, Lib.hid (first_block _ _), Lib.hid ((Below.heap_alloc _ _ _ hl).trans (hr.trans (first_block w _))), Lib.hid ((((Keeps.refl D w).alloc _).drew.trans hk).alloc _), Lib.hid (hd.alloc _)⟩
    · have hr := hk.block w.heap.size (by simp; omega) (by have := hDl.out; omega)
      refine ⟨w.heap.size + 1, x, a, rfl, by omega, Lib.hid hn, Lib.hid (five_set (hk.five (second_block w _ _) (by simp) (fun e => hD1 e.symm)) _ _ _ _ _), Lib.hid ((five_other (by omega) _ _ _ _ _).trans (hr.trans (first_block2 w _ _))), Lib.hid ?_, Lib.hid (hd.five hD1 _ _ _ _ _)⟩
      exact ((((((((Keeps.refl D w).alloc _).alloc _).drew.trans hk).other (by omega) _ _).other (by omega) _ _).other (by omega) _ _).other (by omega) _ _).other (by omega) _ _
  case rest =>
    obtain ⟨T, x, a, rfl, hT, h0, h1, h2, hk, hd⟩ := hcut
    have ha := namedX_le hat h0.out
    have hbl := blankN_le s.data.toList a (by rw [lenL]; exact ha)
    rw [lenL] at hbl
    have hTD : T ≠ D := by have := hDl.out; omega
    have hRD : w.heap.size ≠ D := by have := hDl.out; omega
    have hTl : T < wc.heap.size := by
      rcases Nat.lt_or_ge T wc.heap.size with h | h
      · exact h
      · have := h1.out; rw [Array.getElem?_eq_none h] at this; cases this
    have hTD' := Lib.hid hTD
    have hRD' := Lib.hid hRD
    clear hTD hRD hD1
    go_wp2_with fail
    refine (HBK.out a ha _ hd.out).mono ?_
    rintro e w4 ⟨rfl, hk4, hd4⟩
    replace h1 := Lib.hid ((hk4.block T hTl hTD'.out).trans h1.out)
    replace h2 := Lib.hid ((hk4.block _ (by omega) hRD'.out).trans h2.out)
    have hTl4 : T < w4.heap.size := Nat.lt_of_lt_of_le hTl hk4.size
    replace hk := Lib.hid (hk.out.trans hk4)
    clear hk4 hd
    go_wp2_with fail
    refine (HTK.out _ hbl _ hd4).mono ?_
    rintro e w5 ⟨hk5, he⟩
    replace h1 := Lib.hid ((hk5.block T hTl4 hTD'.out).trans h1.out)
    replace h2 := Lib.hid ((hk5.block _ (by omega) hRD'.out).trans h2.out)
    replace hk := Lib.hid (hk.out.trans hk5)
    clear hk5 hTl hTl4 hd4
    have hr : endTagX s.data.toList fr = match takeX s.data.toList fr (a + blankN s.data.toList a) 62 with
      | .error e => .error e
      | .ok b => .ok ((2, x, [], []), b) := by
      unfold endTagX
      rw [h0.out]
      rfl
    cases hq : takeX s.data.toList fr (a + blankN s.data.toList a) 62 with
    | error pe =>
      obtain ⟨p, c⟩ := pe
      rw [hq] at hr he
      obtain rfl := he
      exact ⟨rfl, hk.out, by rw [hr]⟩
    | ok b =>
      rw [hq] at hr he
      obtain ⟨rfl, hd5⟩ := he
      have HR := Lib.hid hr
      have HD5 := Lib.hid hd5
      obtain ⟨q0, q1, q2, q3, q4, f0, f1, f2, f3, f4⟩ := five_cells h1.out
      obtain ⟨r0, r1, r2, r3, r4, g0, g1, g2, g3, g4⟩ := five_cells h2.out
      clear hq hr hd5
      obtain ⟨z, hz⟩ : ∃ z : ByteArray, (⟨x.toArray⟩ : ByteArray) = z := ⟨_, rfl⟩
      have HZ := Lib.hid hz
      rw [hz] at q2
      clear hz
      go_wp2
      refine bodyPost_ret (results_cell_row Tryz.results73 _ _ w.heap.size 52 _ (0, 0) _ rfl (five_set h2.out _ _ _ _ _) Tryz.underlying52 rfl (by kernel_rfl)) rfl ?_
      refine ⟨((((hk.out.other (Nat.le_refl _) _ _).other (Nat.le_refl _) _ _).other (Nat.le_refl _) _ _).other (Nat.le_refl _) _ _).other (Nat.le_refl _) _ _, ?_⟩
      rw [HR.out]
      exact ⟨by rw [HZ.out]; rfl, HD5.out.five (fun e => hRD'.out e.symm) _ _ _ _ _⟩
end Go.Proofs.YtlcjepnaljfpkaaGreatDoor
namespace Wb
open Go
def jumpsTo (J : Nat → Act → World → Prop) (Q : Exit → Act → World → Prop) : Exit → Act → World → Prop
  | .goto l, a, w => J l a w
  | e, a, w => Q e a w
section
variable {P : Program} {a : Act} {w : World} {Q : Exit → Act → World → Prop}
theorem jumpsTo_normal {J : Nat → Act → World → Prop} : jumpsTo J Q .normal a w = Q .normal a w := rfl
theorem jumpsTo_ret {J : Nat → Act → World → Prop} : jumpsTo J Q .ret a w = Q .ret a w := rfl
theorem jumpsTo_panic {J : Nat → Act → World → Prop} (ch : List PanicEntry) : jumpsTo J Q (.panic ch) a w = Q (.panic ch) a w := rfl
theorem jumpsTo_goto {J : Nat → Act → World → Prop} (l : Nat) : jumpsTo J Q (.goto l) a w = J l a w := rfl
theorem wp_scope_ghost {c : Code} (J : Nat → Nat → Act → World → Prop)
    (first : c.wp P (jumpsTo (fun l a' w' => ∃ n, J l n a' w') Q) a w)
    (pass : ∀ l n a w, J l n a w → ∃ rest, findLabel c l = some rest ∧ rest.wp P (jumpsTo (fun l' a' w' => ∃ n', n' < n ∧ J l' n' a' w') Q) a w) : (Code.scope c).wp P Q a w := by
  intro b k cs
  have key : ∀ n l a w, J l n a w → ∃ rest, gotoIn l (.inScope c :: k) = some (.code rest :: .inScope c :: k) ∧ ∃ e a' w', Q e a' w' ∧ Arrives P (lone (b.at a (.code rest :: .inScope c :: k)) cs w) b k cs e a' w' := by
    intro n
    induction n using Nat.strongRecOn with
    | _ n ih =>
      intro l a w hJ
      obtain ⟨rest, hf, hp⟩ := pass l n a w hJ
      have hg : gotoIn l (.inScope c :: k) = some (.code rest :: .inScope c :: k) := by simp [gotoIn, hf]
      refine ⟨rest, hg, ?_⟩
      obtain ⟨e, a₁, w₁, hq, harr⟩ := hp b (.inScope c :: k) cs
      cases e with
      | normal => exact ⟨.normal, a₁, w₁, hq, Steps.trans harr (.one step_inScope)⟩
      | exit id => exact ⟨.exit id, a₁, w₁, hq, fun k' hk => harr k' (by simp [exitTo, hk])⟩
      | goto l' =>
        obtain ⟨n', hlt, hJ'⟩ := hq
        obtain ⟨rest', hg', e₂, a₂, w₂, hq₂, harr₂⟩ := ih n' hlt l' a₁ w₁ hJ'
        exact ⟨e₂, a₂, w₂, hq₂, .of_steps (harr _ hg') harr₂⟩
      | ret => exact ⟨_, a₁, w₁, hq, harr⟩
      | panic ch => exact ⟨_, a₁, w₁, hq, harr⟩
      | outgrown => exact ⟨_, a₁, w₁, hq, harr⟩
  obtain ⟨e, a₁, w₁, hq, harr⟩ := first b (.inScope c :: k) cs
  cases e with
  | normal => exact ⟨.normal, a₁, w₁, hq, .head step_scope (Steps.trans harr (.one step_inScope))⟩
  | exit id => exact ⟨.exit id, a₁, w₁, hq, fun k' hk => .head step_scope (harr k' (by simp [exitTo, hk]))⟩
  | goto l' =>
    obtain ⟨n', hJ'⟩ := hq
    obtain ⟨rest', hg', e₂, a₂, w₂, hq₂, harr₂⟩ := key n' l' a₁ w₁ hJ'
    exact ⟨e₂, a₂, w₂, hq₂, .of_steps (.head step_scope (harr _ hg')) harr₂⟩
  | ret => exact ⟨_, a₁, w₁, hq, .of_steps (.one step_scope) harr⟩
  | panic ch => exact ⟨_, a₁, w₁, hq, .of_steps (.one step_scope) harr⟩
  | outgrown => exact ⟨_, a₁, w₁, hq, .of_steps (.one step_scope) harr⟩
theorem jumpsTo_weaken {c : Code} {J J' : Nat → Act → World → Prop} (h : ∀ l a w, J l a w → J' l a w) (hc : c.wp P (jumpsTo J Q) a w) : c.wp P (jumpsTo J' Q) a w := by
  refine Code.wp_mono ?_ hc
  intro e a w hq
  cases e with
  | goto l => exact h l a w hq
  | normal => exact hq
  | exit id => exact hq
  | ret => exact hq
  | panic ch => exact hq
  | outgrown => exact hq
end
end Wb
