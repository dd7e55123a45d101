/- PaN PaR UtfA UtfB UtfD UtfF TrJ QnG QnH Mem2 QnI Shelf LeI. -/
import Derived.Laws.CopyRow
import Derived.Laws.IdiomCopy
import Derived.Lib.AppendZerosOnto
import Derived.Deep.RegionLaw
import Derived.Test.YtlcjepnaljfpkaaRows
import Derived.Laws.BytesString
import Derived.Lib.Strings
import Derived.Test.YtlcjepnaljfpkaaProg
import Derived.Deep.RegionHeld2
import Derived.BigRegion
import Derived.Deep.AppendLies
import Derived.Deep.Draws
import Derived.Deep.Cut
import Derived.DeepKeys4
import Derived.Shelf.Strings.Builder1
import Derived.Lib.Replace
import Derived.Lib.CountLaws
import Derived.Lib.IndexLaws
import Derived.Lib.IndexBytes
import Derived.Lib.ConvBytes
import Derived.Lib.AtoiErrMem
import Derived.Laws.Strings3
import Derived.Laws.Closers25
import Derived.Laws.Closers25b
import Derived.BigCall
import Derived.BigGuard
import Derived.Recover
import Derived.Laws.Pointers
import Derived.Deep.AppendSrc
import Derived.Laws.Strings
import Derived.Test.YtlcjepnaljfpkaaQb1
import Derived.Test.YtlcjepnaljfpkaaQb2
namespace Wb
open Go Go.RowKit
structure Turned (w w' : World) (g o lo hi : Nat) : Prop where
  os : w'.os = w.os
  tape : w'.tape = w.tape
  output : w'.output = w.output
  size : w.heap.size ≤ w'.heap.size
  block : ∀ b, b < w.heap.size → ¬ (lo ≤ b ∧ b < hi) → b ≠ g → w'.heap[b]? = w.heap[b]?
  cell : ∀ f, f < o ∨ o + 6 ≤ f → w'.cell? ⟨g, f, none⟩ = w.cell? ⟨g, f, none⟩
theorem Turned.refl (w : World) (g o lo hi : Nat) : Turned w w g o lo hi := ⟨rfl, rfl, rfl, Nat.le_refl _, fun _ _ _ _ => rfl, fun _ _ => rfl⟩
theorem Turned.of_below {w w' : World} (h : Below w.heap.size w w') {g : Nat} (hg : g < w.heap.size) (o lo hi : Nat) : Turned w w' g o lo hi :=
  ⟨h.os, h.tape, h.output, h.size, fun b hb _ _ => h.block b hb, fun _ _ => World.cell?_of_block (h.block g hg)⟩
theorem Turned.after {w v w' : World} {g o lo hi : Nat} (h : Turned v w' g o lo hi) (hb : Below w.heap.size w v) (hg : g < w.heap.size) : Turned w w' g o lo hi :=
  ⟨h.os.trans hb.os, h.tape.trans hb.tape, h.output.trans hb.output, Nat.le_trans hb.size h.size, fun b h1 h2 h3 => (h.block b (Nat.lt_of_lt_of_le h1 hb.size) h2 h3).trans (hb.block b h1),
    fun f hf => (h.cell f hf).trans (World.cell?_of_block (hb.block g hg))⟩
theorem Turned.inner {w w' : World} {g o lo hi q p l h : Nat} (ht : Turned w w' q p l h) (h1 : lo ≤ l) (h2 : h ≤ hi) (h3 : lo ≤ q) (h4 : q < hi) (hg : ¬ (lo ≤ g ∧ g < hi)) (hgw : g < w.heap.size) : Turned w w' g o lo hi :=
  ⟨ht.os, ht.tape, ht.output, ht.size, fun b hb hn _ => ht.block b hb (fun e => hn ⟨by omega, by omega⟩) (fun e => hn ⟨by omega, by omega⟩),
    fun _ _ => World.cell?_of_block (ht.block g hgw (fun e => hg ⟨by omega, by omega⟩) (fun e => hg ⟨by omega, by omega⟩))⟩
theorem Turned.below {w w' : World} {g o lo hi B : Nat} (h : Turned w w' g o lo hi) (h1 : B ≤ lo) (h2 : B ≤ g) (hB : B ≤ w.heap.size) : Below B w w' :=
  ⟨h.os, h.tape, h.output, h.size, fun b hb => h.block b (by omega) (by omega) (by omega)⟩
def At6 (w : World) (q : Addr) (cs : List Value) : Prop := ∃ g o cur T, q = ⟨g, o, none⟩ ∧ w.heap[g]? = some (.cells cur T (0, 0)) ∧ ∀ j u, cs[j]? = some u → cur[o + j]? = some u
theorem At6.lt {w : World} {q : Addr} {cs : List Value} (h : At6 w q cs) : q.block < w.heap.size := by
  obtain ⟨g, o, cur, T, rfl, h1, _⟩ := h
  exact (Array.getElem?_eq_some_iff.1 h1).1
theorem At6.keep {w w' : World} {q : Addr} {cs : List Value} (h : At6 w q cs) (hb : w'.heap[q.block]? = w.heap[q.block]?) : At6 w' q cs := by
  obtain ⟨g, o, cur, T, rfl, h1, h2⟩ := h
  exact ⟨g, o, cur, T, rfl, hb.trans h1, h2⟩
theorem At6.below {w w' : World} {q : Addr} {cs : List Value} (h : At6 w q cs) (hb : Below w.heap.size w w') : At6 w' q cs := h.keep (hb.block _ h.lt)
theorem At6.eta {w : World} {q : Addr} {cs : List Value} (h : At6 w q cs) : (⟨q.block, q.off, none⟩ : Addr) = q := by
  obtain ⟨g, o, cur, T, rfl, _⟩ := h
  rfl
theorem At6.cell {w : World} {q : Addr} {cs : List Value} (h : At6 w q cs) {j : Nat} {u : Value} (hu : cs[j]? = some u) : w.cell? ⟨q.block, q.off + j, none⟩ = some u := by
  obtain ⟨g, o, cur, T, rfl, h1, h2⟩ := h
  simp [World.cell?, h1, h2 j u hu]
theorem At6.free {w : World} {q : Addr} {cs : List Value} (h : At6 w q cs) (j : Nat) : w.frozen? ⟨q.block, q.off + j, none⟩ = false := by
  obtain ⟨g, o, cur, T, rfl, h1, h2⟩ := h
  simp [World.frozen?, h1]
theorem At6.cells {w : World} {q : Addr} {n : Nd} {av kv : Value} (h : At6 w q (ndC n av kv)) : w.cell? q = some (.int .i64 n.kind) ∧ w.cell? ⟨q.block, q.off + 1, none⟩ = some (.string n.name.1) ∧ w.cell? ⟨q.block, q.off + 2, none⟩ = some (.string n.name.2) ∧
    w.cell? ⟨q.block, q.off + 3, none⟩ = some av ∧ w.cell? ⟨q.block, q.off + 4, none⟩ = some kv ∧ w.cell? ⟨q.block, q.off + 5, none⟩ = some (.string n.text) := by
  refine ⟨?_, h.cell (j := 1) rfl, h.cell (j := 2) rfl, h.cell (j := 3) rfl, h.cell (j := 4) rfl, h.cell (j := 5) rfl⟩
  have := h.cell (j := 0) rfl
  rw [Nat.add_zero, h.eta] at this
  exact this
theorem At6.of_row {w : World} {base g ck n i : Nat} {e : TypeId} {css : List (List Value)} {cs : List Value} (h : w.ownsRow base e 6 (.slice (some ⟨g, 0, none⟩) n ck) n css.flatten) (hl : ∀ cs ∈ css, cs.length = 6) (hc : css[i]? = some cs) : At6 w ((⟨g, 0, none⟩ : Addr).add (i * 6)) cs := by
  have ha : (⟨g, 0, none⟩ : Addr).add (i * 6) = ⟨g, i * 6, none⟩ := by unfold Addr.add; split <;> simp_all
  rw [ha]
  rcases h.2 with ⟨e1, _⟩ | ⟨g', cap, cur, e1, _, hg, _, _, hcs, ht⟩
  · simp at e1
  · simp only [Value.slice.injEq, Option.some.injEq, Addr.mk.injEq, and_true, true_and] at e1
    obtain ⟨rfl, rfl⟩ := e1
    refine ⟨g, i * 6, cur, e, rfl, hg, fun j u hu => ?_⟩
    have hj : j < 6 := by have := (List.getElem?_eq_some_iff.1 hu).1; rw [hl cs (List.mem_of_getElem? hc)] at this; exact this
    have hf := (flat_at hl i cs hc j hj).trans hu
    rw [← ht, List.getElem?_take] at hf
    split at hf
    · simpa using hf
    · cases hf
def SafeM (M : Nat → Prop) (w : World) (P : World → Prop) : Prop := ∀ w2 : World, (∀ b, M b → b < w.heap.size → w2.heap[b]? = w.heap[b]?) → w.heap.size ≤ w2.heap.size → P w2
theorem SafeM.here {M : Nat → Prop} {w : World} {P : World → Prop} (h : SafeM M w P) : P w := h w (fun _ _ _ => rfl) (Nat.le_refl _)
theorem SafeM.mono {M M' : Nat → Prop} {w : World} {P : World → Prop} (h : SafeM M w P) (hM : ∀ b, M b → M' b) : SafeM M' w P := fun w2 h1 h2 => h w2 (fun b p q => h1 b (hM b p) q) h2
theorem SafeM.later {M : Nat → Prop} {w w' : World} {P : World → Prop} (h : SafeM M w P) (hk : ∀ b, M b → b < w.heap.size → w'.heap[b]? = w.heap[b]?) (hs : w.heap.size ≤ w'.heap.size) : SafeM M w' P :=
  fun w2 h1 h2 => h w2 (fun b p q => (h1 b p (by omega)).trans (hk b p q)) (by omega)
theorem SafeM.below {M : Nat → Prop} {w w' : World} {P : World → Prop} (h : SafeM M w P) (hb : Below w.heap.size w w') : SafeM M w' P := h.later (fun b _ q => hb.block b q) hb.size
def MustI (lo hi N : Nat) : Nat → Prop := fun b => (lo ≤ b ∧ b < hi) ∨ N ≤ b
theorem ownC_safe {TA TN : TypeId} {w : World} {n : Nd} {cs : List Value} {lo hi N : Nat} (h : ownC TA TN w n cs lo hi) (hh : hi ≤ w.heap.size) : SafeM (MustI lo hi N) w (fun v => nodeC v n cs) :=
  fun w2 h1 _ => ownC_node n cs lo hi (ownC_keep n cs lo hi (fun b p q => h1 b (.inl ⟨p, q⟩) (by omega)) h)
section
variable {TA TN : TypeId} {w w' : World}
theorem own_kid {n k k' : Nd} {cs' : List Value} {css : List (List Value)} {lo hi l h g i ck : Nat} {av : Value}
    (h1 : w.ownsRow lo TA 3 av n.attrs.length (cells3 n.attrs)) (h2 : w.ownsRow lo TN 6 (.slice (some ⟨g, 0, none⟩) n.kids.length ck) n.kids.length css.flatten)
    (h4 : ∀ b, av.ownBlock = some b → b < hi ∧ g ≠ b)
    (hk : n.kids[i]? = some k) (hlen : ∀ cs ∈ css, cs.length = 6) (hX : ∀ b, l ≤ b → b < h → ¬ (av.ownBlock = some b ∨ g = b))
    (hj : ∀ (j : Nat) (m : Nd), j ≠ i → n.kids[j]? = some m → ∃ cs' l' h', css[j]? = some cs' ∧ lo ≤ l' ∧ h' ≤ hi ∧ (h' ≤ l ∨ h ≤ l') ∧ (∀ b, l' ≤ b → b < h' → ¬ (av.ownBlock = some b ∨ g = b)) ∧ ownC TA TN w m cs' l' h')
    (hsz : w.heap.size ≤ w'.heap.size) (hblk : ∀ b, lo ≤ b → b < hi → ¬ (l ≤ b ∧ b < h) → b ≠ g → w'.heap[b]? = w.heap[b]?) (hcell : ∀ f, f < i * 6 ∨ i * 6 + 6 ≤ f → w'.cell? ⟨g, f, none⟩ = w.cell? ⟨g, f, none⟩) (hc : ∀ j u, cs'[j]? = some u → w'.cell? ⟨g, i * 6 + j, none⟩ = some u) (hn : nodeC w' k' cs') :
    ∃ A ca, av = .slice A n.attrs.length ca ∧ nodeC w' (n.withKids (n.kids.set i k')) (ndC n (.slice A n.attrs.length ca) (.slice (some ⟨g, 0, none⟩) n.kids.length ck)) := by
  have hA : ∃ A ca, av = .slice A n.attrs.length ca ∧ Sl3 w A n.attrs ∧ (∀ ad, n.attrs ≠ [] → A = some ad → lo ≤ ad.block ∧ ad.block < hi ∧ ¬ (l ≤ ad.block ∧ ad.block < h) ∧ ad.block ≠ g) := by
    rcases h1.2 with ⟨e1, e2⟩ | ⟨ga, cap, cur, e1, _⟩
    · have : n.attrs = [] := List.eq_nil_of_length_eq_zero e2
      exact ⟨none, 0, by rw [e1, e2], by rw [this]; exact Sl3.nil _ _, fun ad h0 => absurd this h0⟩
    · subst e1
      refine ⟨_, cap, rfl, Sl3.of_own h1, fun ad _ e => ?_⟩
      injection e with e
      subst e
      have hb := own_in h1 rfl
      exact ⟨hb.1, (h4 ga rfl).1, fun hh => hX ga hh.1 hh.2 (.inl rfl), fun e => (h4 ga rfl).2 e.symm⟩
  obtain ⟨A, ca, rfl, hA, hAb⟩ := hA
  have hg := own_in h2 (g := g) rfl
  refine ⟨A, ca, rfl, (nodeC_V _ _ _).2 ⟨A, ca, some ⟨g, 0, none⟩, ck, ?_, ?_, .inr ⟨_, rfl, Nat.lt_of_lt_of_le hg.2 hsz, (kidsC_iff w' _ _ 0).2 fun j m hm => ?_⟩⟩⟩
  · show _ = ndCells _ _ _ _ _ _ (n.kids.set i k').length _ _
    rw [List.length_set]; rfl
  · show Sl3 w' A n.attrs
    refine ⟨hA.1, fun hp => ?_⟩
    obtain ⟨ad, e, hb, hac⟩ := hA.2 hp
    obtain ⟨b0, b1, b2, b3⟩ := hAb ad (fun e => by rw [e] at hp; exact absurd hp (by simp)) e
    have hblk := hblk ad.block b0 b1 b2 b3
    exact ⟨ad, e, Nat.lt_of_lt_of_le hb hsz, fun j u hu => (World.cell?_of_block (by rw [add_block]; exact hblk)).trans (hac j u hu)⟩
  · rw [Nd.kids_with] at hm
    rw [Nat.zero_add]
    have ha : ∀ x : Nat, (⟨g, 0, none⟩ : Addr).add x = ⟨g, x, none⟩ := fun x => by unfold Addr.add; split <;> simp_all
    by_cases hji : j = i
    · subst hji
      rw [List.getElem?_set_self (List.getElem?_eq_some_iff.1 hk).1] at hm
      injection hm with hm
      subst hm
      exact ⟨cs', fun x u hu => by rw [ha]; exact hc x u hu, hn⟩
    · rw [List.getElem?_set_ne (fun e => hji e.symm)] at hm
      obtain ⟨c2, l2, h2', b1, b2, b3, b4, b5, b6⟩ := hj j m hji hm
      refine ⟨c2, fun x u hu => ?_, ownC_node m c2 l2 h2' (ownC_keep m c2 l2 h2' (fun b p q => hblk b (by omega) (by omega) (by omega) (fun e => b5 b p q (.inr e.symm))) b6)⟩
      have hx : x < 6 := by have := (List.getElem?_eq_some_iff.1 hu).1; rw [ownC_len b6] at this; exact this
      rw [ha, hcell _ (by omega), ← ha]
      exact h2.cells (g := g) rfl _ _ ((flat_at hlen j c2 b1 x hx).trans hu)
end
end Wb
namespace Wb
open Go Go.RowKit
section
variable {P : Program} (w : World)
theorem setCells_row (P : Program) {w : World} {g o : Nat} {t : TypeId} {vs : List Value} {cur : Array Value} (hg : w.heap[g]? = some (.cells cur t (0, 0))) (hf : o + vs.length ≤ cur.size) (h1 : ∀ v ∈ vs, v.oneCell' = true) :
    w.setCells g o vs = w.setRow g (cur.toList.take o ++ vs ++ cur.toList.drop (o + vs.length)).toArray := by
  have a := run_storeCells_at P g o t vs 0 cur w hg (by simpa using hf) h1
  have b := run_storeCells_cells (P := P) g o vs 0 w (fun j hj => by
    have : o + j < cur.size := by omega
    simp [World.cell?, hg, this]) (fun j _ => by simp [World.frozen?, hg]) h1
  simp only [Nat.add_zero] at a b
  rw [a] at b
  injection b with _ b
  exact b.symm
theorem run_copy_rowz (dT sT ty elem : TypeId) (size g o dLen dCap : Nat) (a : Addr) (sLen sCap : Nat) (cur : Array Value) (t : TypeId) (cs : List Value)
    (hu : P.underlying dT = some (.slice elem)) (hs : (P.info? elem).map (·.size) = some size) (hg : w.heap[g]? = some (.cells cur t (0, 0))) (hn : cs.length = Nat.min sLen dLen * size)
    (hsrc : ∀ j v, cs[j]? = some v → w.cell? (a.add j) = some v) (hfit : o + cs.length ≤ cur.size) (h1 : ∀ v ∈ cs, v.oneCell' = true) :
    (Builtin.copy_ #[dT, sT] ty #[.slice (some ⟨g, o, none⟩) dLen dCap, .slice (some a) sLen sCap]).run P w = .ok (goInt (Nat.min sLen dLen)) (w.setRow g (cur.toList.take o ++ cs ++ cur.toList.drop (o + cs.length)).toArray) := by
  have hl := run_loadCells_list (P := P) w a cs hsrc
  have hst := run_storeCells_at P g o t cs 0 cur w hg (by simpa using hfit) h1
  simp only [Nat.add_zero] at hst
  cases hq : P.info? elem with
  | none => simp [hq] at hs
  | some i =>
    have hi : i.size = size := by simpa [hq] using hs
    simp [Builtin.copy_, run_underlying hu, Builtin.lenOf, Builtin.firstCells, Go.sizeOf, typeInfo, hq, hi, ← hn, hl, hst]
theorem run_clear_rowz (t e ty : TypeId) (z : Value) (ht : P.underlying t = some (.slice e)) (hv : ∀ w, (zeroValue e).run P w = .ok z w) (h1 : ∀ u ∈ (Builtin.zeroCells z.cells 1).toList, u.oneCell' = true) (g o c : Nat) (cur : Array Value) (te : TypeId)
    (hg : w.heap[g]? = some (.cells cur te (0, 0))) (hfit : o + (Builtin.zeroCells z.cells 1).toList.length ≤ cur.size) :
    (Builtin.clear_ #[t] ty #[.slice (some ⟨g, o, none⟩) 1 c]).run P w = .ok (.tuple #[]) (w.setRow g (cur.toList.take o ++ (Builtin.zeroCells z.cells 1).toList ++ cur.toList.drop (o + (Builtin.zeroCells z.cells 1).toList.length)).toArray) := by
  have hst := run_storeCells_at P g o te (Builtin.zeroCells z.cells 1).toList 0 cur w hg (by simpa using hfit) h1
  simp only [Nat.add_zero] at hst
  simp [Builtin.clear_, run_underlying ht, hv, hst]
theorem step_copy_r {ops : Array Oper} {o : Oper} {a : Act} {K : Act → World → Prop} {Q : Exit → Act → World → Prop} {E : Prop}
    (hg : o.guard = none) (d x : Operand) (dT sT : TypeId) (hop : o.op = Op.call { callee := Callee.builtin Builtin.copy, args := #[d, x], argTypes := #[dT, sT] })
    (v u : Value) (hd : a.eval d = v) (hx : a.eval x = u) {v' : Value} {w' : World} (hr : (Builtin.copy_ #[dT, sT] o.type #[v, u]).run P w = .ok v' w') (hK : K (a.put o.dst v') w') :
    if Region.wanted o (yielded ops a.tmps) = true then Oper.wp P o a w K Q else E := by
  rw [if_pos (by simp [Region.wanted, hg])]
  unfold Oper.wp
  simp [execOp, hop, resolve, invoke, builtin, hd, hx, hr, Result.andThen]
  exact hK
theorem wpList_app_r {ops : Array Oper} {rest : List Oper} {o : Oper} {a : Act} {Q : Exit → Act → World → Prop} (hgd : o.guard = none) (d s : Operand) (t t' : TypeId)
    (ho : o.op = .call { callee := .builtin .append, args := #[d, s], argTypes := #[t, t'] }) (v u : Value) (hd : a.eval d = v) (hs : a.eval s = u) {v' : Value} {w' : World}
    (hr : (Builtin.append_ #[t, t'] o.type #[v, u]).run P w = .ok v' w') (h : wpList P ops Q rest (a.put o.dst v') w') : wpList P ops Q (o :: rest) a w :=
  wpList_plain hgd fun _ hK => by
    unfold Oper.wp execOp
    simp only [ho, resolve, invoke, builtin, Sem.run_bind, Sem.run_pure, Result.andThen_ok, List.map_toArray, List.map_cons, List.map_nil, hd, hs, hr]
    exact hK _ _ h
end
structure RowSet (g : Nat) (cur : List Value) (t : TypeId) (w w' : World) : Prop where
  os : w'.os = w.os
  tape : w'.tape = w.tape
  output : w'.output = w.output
  size : w'.heap.size = w.heap.size
  row : w'.heap[g]? = some (.cells cur.toArray t (0, 0))
  other : ∀ b, b ≠ g → w'.heap[b]? = w.heap[b]?
theorem RowSet.set {w : World} {g : Nat} {t : TypeId} {cur : Array Value} (hg : w.heap[g]? = some (.cells cur t (0, 0))) (vs : List Value) : RowSet g vs t w (w.setRow g vs.toArray) :=
  ⟨rfl, rfl, rfl, by simp [World.setRow], setRow_heap w g cur _ t _ hg, fun b hb => setRow_other w g b _ hb⟩
theorem RowSet.trans {w v w' : World} {g : Nat} {t t' : TypeId} {a b : List Value} (h : RowSet g a t w v) (k : RowSet g b t' v w') : RowSet g b t' w w' :=
  ⟨k.os.trans h.os, k.tape.trans h.tape, k.output.trans h.output, k.size.trans h.size, k.row, fun b hb => (k.other b hb).trans (h.other b hb)⟩
theorem RowSet.drew {w w' : World} {g : Nat} {t : TypeId} {a : List Value} (h : RowSet g a t w.drew w') : RowSet g a t w w' := ⟨h.os, h.tape, h.output, h.size, h.row, h.other⟩
end Wb
namespace Go.Proofs.Ytlcjepnaljfpkaa
open Go.RowKit Wb
set_option maxHeartbeats 400000 in
theorem first_any (c : Int) (w : World) (h0 : 0 ≤ c) (h1 : c < 256) :
    Calls Try.prog 69 #[.int .u8 c] w fun e w' => e = .returned (.tuple #[.int .i64 (fsz c), .int .i32 (fbt c)]) ∧ w = w' := by
  have k31 := u8_and31 c h0 h1
  have k15 := u8_and15 c h0 h1
  have k7 := u8_and7 c h0 h1
  go_enter Try.func69, Try.ntmps69
  go_wp2
  all_goals
    go_ret2
    refine ⟨ret_ii ?_ ?_, rfl⟩
    all_goals
      try simp only [beq_iff_eq, beq_eq_false_iff_ne] at *
      first | unfold fsz | unfold fbt
      repeat (first | (rw [if_pos (by omega)]) | (rw [if_neg (by omega)]))
theorem inS_take (r : Int) (l : List (Int × Int)) (k : Nat) (h : k < l.length) (h0 : inS r (l.take k) = false) :
    inS r (l.take (k + 1)) = (decide (l[k].1 ≤ r) && decide (r ≤ l[k].2)) := by
  unfold inS at *
  rw [List.take_succ_eq_append_getElem h, List.any_append, h0]
  simp
theorem inS_mono (r : Int) (l : List (Int × Int)) (j : Nat) (h : true = inS r (l.take j)) : true = inS r l := by
  unfold inS at *
  have h := h.symm
  rw [List.any_eq_true] at h
  obtain ⟨x, hx, hp⟩ := h
  exact (List.any_eq_true.2 ⟨x, List.mem_of_mem_take hx, hp⟩).symm
set_option maxHeartbeats 400000 in
theorem within_any (r : Int) (l : List (Int × Int)) (b n : Nat) (w : World) (hn : l.length = n) (hn1 : n ≤ 1000) (hb : b < w.heap.size)
    (hc : ∀ k (h : k < l.length), w.cell? ⟨b, k * 2, none⟩ = some (.int .i32 l[k].1) ∧ w.cell? ⟨b, k * 2 + 1, none⟩ = some (.int .i32 l[k].2)) :
    Calls Try.prog 68 #[.int .i32 r, .slice (some ⟨b, 0, none⟩) n n] w fun e w' => e = .returned (.bool (inS r l)) ∧ Below w.heap.size w w' := by
  have HC := Lib.hid hc
  have HN := Lib.hid hn
  clear hc hn
  go_enter Try.func68, Try.ntmps68
  go_wp2
  go_loopw [9] (fun i wr => ∃ k : Nat, k ≤ n ∧ i = .int .i64 k ∧ Hid (inS r (l.take k) = false) ∧ Below w.heap.size w wr) (fun i _ => n - (intOf i).toNat)
  case atStart => exact ⟨0, Nat.zero_le _, rfl, rfl, Below.refl _ _⟩
  case round =>
    obtain ⟨k, hk, rfl, HI, hbel⟩ := hrel
    by_cases hlt : k < n
    · have hk' : k < l.length := by rw [HN.out]; exact hlt
      have hs := hbel.size
      obtain ⟨lo, hi, e1, e2, HS⟩ : ∃ lo hi, wr.cell? ⟨b, k * 2, none⟩ = some (.int .i32 lo) ∧ wr.cell? ⟨b, k * 2 + 1, none⟩ = some (.int .i32 hi) ∧ Hid (inS r (l.take (k + 1)) = (decide (lo ≤ r) && decide (r ≤ hi))) :=
        ⟨_, _, (hbel.cell (p := ⟨b, k * 2, none⟩) hb).trans (HC.out k hk').1, (hbel.cell (p := ⟨b, k * 2 + 1, none⟩) hb).trans (HC.out k hk').2, inS_take r l k hk' HI.out⟩
      go_wp2
      · go_ret
        refine ⟨ret_b (inS_mono r l (k + 1) ?_), hbel.alloc hs _⟩
        rw [HS.out]
        simp [*]
      all_goals
        go_roundw
        case rel => exact ⟨k + 1, by omega, by go_num, Lib.hid (by rw [HS.out]; simp; omega), hbel.alloc hs _⟩
        case measure => simp [intOf]; omega
    · go_wp2
      go_ret
      refine ⟨ret_b ?_, hbel⟩
      have HI' := HI.out
      rw [List.take_of_length_le (by rw [HN.out]; omega)] at HI'
      exact HI'.symm
end Go.Proofs.Ytlcjepnaljfpkaa
namespace Go.Proofs.Ytlcjepnaljfpkaa
open Go.RowKit Wb
def flatV (kd : IntKind) : List (Int × Int) → List Value
  | [] => []
  | x :: l => .int kd x.1 :: .int kd x.2 :: flatV kd l
theorem flatV_at (kd : IntKind) : ∀ (l : List (Int × Int)) (k : Nat) (h : k < l.length),
    (flatV kd l)[2 * k]? = some (.int kd l[k].1) ∧ (flatV kd l)[2 * k + 1]? = some (.int kd l[k].2)
  | [], k, h => absurd h (by simp)
  | x :: l, 0, _ => ⟨rfl, rfl⟩
  | x :: l, k + 1, h => by
    have := flatV_at kd l k (by simpa using h)
    simpa [flatV, Nat.mul_add] using this
theorem spans_at (kd : IntKind) (cs : Array Value) (T : TypeId) (w : World) (l : List (Int × Int)) (e : cs = (flatV kd l).toArray) (k : Nat) (h : k < l.length) :
    (w.alloc (.cells cs T)).cell? ⟨w.heap.size, k * 2, none⟩ = some (.int kd l[k].1) ∧ (w.alloc (.cells cs T)).cell? ⟨w.heap.size, k * 2 + 1, none⟩ = some (.int kd l[k].2) := by
  have hf := flatV_at kd l k h
  have hh := heap_alloc_new w (.cells cs T)
  rw [cell_of_row _ _ _ cs T (0, 0) hh, cell_of_row _ _ _ cs T (0, 0) hh, e]
  rw [Nat.mul_comm k 2]
  simpa using hf
theorem below_alloc_trans {w w' : World} {o : Obj} (h : Below (w.alloc o).heap.size (w.alloc o) w') : Below w.heap.size w w' :=
  ((Below.refl _ _).alloc (Nat.le_refl _) o).trans (h.mono (by simp))
set_option maxHeartbeats 400000 in
theorem char_any (r : Int) (w : World) :
    Calls Try.prog 62 #[.int .i32 r] w fun e w' => e = .returned (.bool (charB r)) ∧ Below w.heap.size w w' := by
  go_enter Try.func62, Try.ntmps62
  go_wp2_with fail
  refine (within_any r charS _ 5 _ rfl (by omega) (by simp) (spans_at .i32 _ _ w charS rfl)).mono ?_
  rintro e w' ⟨rfl, hb⟩
  go_wp2
  go_ret
  exact ⟨rfl, below_alloc_trans hb⟩
set_option maxHeartbeats 400000 in
theorem start_any (r : Int) (w : World) :
    Calls Try.prog 64 #[.int .i32 r] w fun e w' => e = .returned (.bool (startB r)) ∧ Below w.heap.size w w' := by
  go_enter Try.func64, Try.ntmps64
  go_wp2_with fail
  refine (within_any r startS _ 15 _ rfl (by omega) (by simp) (spans_at .i32 _ _ w startS rfl)).mono ?_
  rintro e w' ⟨rfl, hb⟩
  go_wp2
  go_ret
  exact ⟨rfl, below_alloc_trans hb⟩
set_option maxHeartbeats 400000 in
theorem part_any (r : Int) (w : World) :
    Calls Try.prog 65 #[.int .i32 r] w fun e w' => e = .returned (.bool (partB r)) ∧ Below w.heap.size w w' := by
  cases hs : startB r
  all_goals
    have HP := Lib.hid (show partB r = (startB r || inS r partS) from rfl)
    rw [hs] at HP
    have HS := Lib.hid hs
    clear hs
    go_enter Try.func65, Try.ntmps65
    go_wp2_with fail
    refine (start_any r _).mono ?_
    rw [HS.out]
    rintro e w1 ⟨rfl, hb1⟩
    go_wp2_with fail
  · refine (within_any r partS _ 5 _ rfl (by omega) (by simp) (spans_at .i32 _ _ w1 partS rfl)).mono ?_
    rintro e w' ⟨rfl, hb⟩
    go_wp2
    go_ret
    exact ⟨ret_b (by rw [HP.out]; simp), hb1.trans ((below_alloc_trans hb).mono hb1.size)⟩
  · go_ret
    exact ⟨ret_b (by rw [HP.out]; simp), hb1⟩
set_option maxHeartbeats 400000 in
theorem length_any (r : Int) (w : World) :
    Calls Try.prog 70 #[.int .i32 r] w fun e w' => e = .returned (.int .i64 (slen r)) ∧ Below w.heap.size w w' := by
  cases hs : sgn r
  all_goals
    have HL := Lib.hid (show slen r = if sgn r = true then (if r < 128 then 1 else if r < 2048 then 2 else if r < 65536 then 3 else 4) else 0 from rfl)
    rw [hs] at HL
    have HS := Lib.hid hs
    clear hs
    go_enter Try.func70, Try.ntmps70
    go_wp2_with fail
    refine (within_any r signS _ 2 _ rfl (by omega) (by simp) (spans_at .i32 _ _ w signS rfl)).mono ?_
    rw [inS_sign, HS.out]
    rintro e w1 ⟨rfl, hb1⟩
    go_wp2
    all_goals
      go_ret
      refine ⟨ret_i ?_, below_alloc_trans hb1⟩
      rw [HL.out]
      repeat (first | rfl | (rw [if_pos (by first | trivial | omega)]) | (rw [if_neg (by first | omega | decide)]))
end Go.Proofs.Ytlcjepnaljfpkaa
namespace Go.Proofs.Ytlcjepnaljfpkaa
open Go.RowKit Wb
set_option maxHeartbeats 400000 in
theorem rune_out (s : ByteArray) (i : Int) (w : World) (h : i < 0 ∨ (s.size : Int) ≤ i) (_hs : s.size ≤ 1000000000) :
    Calls Try.prog 63 #[.string s, .int .i64 i] w fun e w' => e = .returned (.tuple #[.int .i32 0, .int .i64 0]) ∧ Below w.heap.size w w' := by
  by_cases h0 : i < 0
  · clear h
    go_enter Try.func63, Try.ntmps63
    go_wp2
    go_ret2
    exact ⟨rfl, Below.refl _ _⟩
  · have h1 : (s.size : Int) ≤ i := by omega
    clear h
    go_enter Try.func63, Try.ntmps63
    go_wp2
    go_ret2
    exact ⟨rfl, Below.refl _ _⟩
theorem step_val (q c : Int) (h0 : 0 ≤ q) (h1 : q < 524288) (hc : 0 ≤ c) (hc1 : c < 256) :
    bits BinOp.or IntKind.i32 (wrap32 (q * 64)) (wrap32 (bits BinOp.and IntKind.u8 c 63)) = q * 64 + c % 64 := by
  rw [u8_and63 c hc hc1, show wrap32 (q * 64) = q * 64 from by unfold wrap32; omega, show wrap32 (c % 64) = c % 64 from by unfold wrap32; omega, i32_or64 q _ h0 (by omega) (by omega) (by omega)]
set_option maxHeartbeats 1000000 in
theorem rune_in (s : ByteArray) (k : Nat) (w : World) (h : k < s.size) (hs : s.size ≤ 1000000000) :
    Calls Try.prog 63 #[.string s, .int .i64 k] w fun e w' => e = .returned (.tuple #[.int .i32 (runeS s k).1, .int .i64 (runeS s k).2]) ∧ Below w.heap.size w w' := by
  have HR := Lib.hid (runeS_in s k h)
  go_enter Try.func63, Try.ntmps63
  go_wp2_with fail
  have hc := u8_lt s[k]
  have hz := fsz_bd s[k].toNat
  have hb := fbt_bd s[k].toNat (by omega) hc
  obtain ⟨hz0, hz4⟩ := hz
  obtain ⟨hb0, hb1⟩ := hb
  refine (first_any _ _ (by omega) hc).mono ?_
  clear hc
  generalize fsz (s[k].toNat : Int) = z at *
  generalize fbt (s[k].toNat : Int) = b at *
  rintro e w1 ⟨rfl, rfl⟩
  by_cases hz00 : z = 0
  · subst hz00
    go_wp2
    go_ret2
    refine ⟨?_, Below.refl _ _⟩
    rw [HR.out]; rfl
  · have hzz : (z == 0) = false := by simpa using hz00
    by_cases hlong : (s.size : Int) - k < z
    · go_wp2
      go_ret2
      refine ⟨?_, Below.refl _ _⟩
      rw [HR.out, decZ_short _ _ _ (by simp; omega)]; rfl
    · go_wp2
      go_loop [6, 4, 5] (fun i r z' => ∃ (j : Nat) (q : Int), (j : Int) + 1 ≤ z ∧ z' = .int .i64 z ∧ i = .int .i64 ((j : Int) + 1) ∧ r = .int .i32 q ∧ 0 ≤ q ∧ Hid (q < 128 * 64 ^ j) ∧
          Hid (decN b (z.toNat - 1) (s.data.toList.drop (k + 1)) = decN q (z.toNat - 1 - j) (s.data.toList.drop (k + 1 + j)))) (fun i _ _ => (z - intOf i).toNat)
      case atStart => exact ⟨0, b, by omega, rfl, rfl, rfl, hb0, Lib.hid (by omega), Lib.hid rfl⟩
      case round =>
        obtain ⟨j, q, hj, rfl, rfl, rfl, hq0, HB, HD⟩ := hrel
        by_cases hlt : (j : Int) + 1 < z
        · have hk' : k + (j + 1) < s.size := by omega
          go_wp2
          · have hbad : ((s[k + (j + 1)].toNat : Int) / 64 != 2) = true := by assumption
            go_ret2
            refine ⟨?_, Below.refl _ _⟩
            rw [HR.out, rune_bad s k j z b q hlt hk' HD.out (by simpa using hbad)]
            rfl
          · have hok : ((s[k + (j + 1)].toNat : Int) / 64 != 2) = false := by assumption
            have hok' : (s[k + (j + 1)].toNat : Int) / 64 = 2 := by simpa using hok
            have hc1 := u8_lt s[k + (j + 1)]
            have hq1 := pow_bd j (by omega) q HB.out
            have hv := step_val q s[k + (j + 1)].toNat hq0 hq1 (by omega) hc1
            go_round
            case rel => exact ⟨j + 1, q * 64 + (s[k + (j + 1)].toNat : Int) % 64, by omega, rfl, by go_num, by rw [hv], by omega, Lib.hid (pow_next j q _ HB.out (by omega)), Lib.hid (rune_step s k j z b q hlt hk' HD.out hok')⟩
            case measure => simp [intOf]; omega
        · have HE := Lib.hid (rune_end s k j z b q (by omega) HD.out)
          go_wp2_with fail
          refine (length_any q w).mono ?_
          by_cases hl : slen q = z
          · have HL := Lib.hid hl
            rw [hl]
            clear hl
            rintro e w1 ⟨rfl, hb1⟩
            go_wp2
            go_ret2
            refine ⟨?_, hb1⟩
            rw [HR.out, HE.out, if_pos HL.out]
            rfl
          · have HL := Lib.hid hl
            have hne : (slen q != z) = true := by simpa using hl
            clear hl
            rintro e w1 ⟨rfl, hb1⟩
            go_wp2
            go_ret2
            refine ⟨?_, hb1⟩
            rw [HR.out, HE.out, if_neg HL.out]
            rfl
theorem rune_any (s : ByteArray) (i : Int) (w : World) (hs : s.size ≤ 1000000000) :
    Calls Try.prog 63 #[.string s, .int .i64 i] w fun e w' => e = .returned (.tuple #[.int .i32 (runeS s i).1, .int .i64 (runeS s i).2]) ∧ Below w.heap.size w w' := by
  by_cases h : i < 0 ∨ (s.size : Int) ≤ i
  · have := rune_out s i w h hs
    unfold runeS
    rw [if_pos h]
    exact this
  · obtain ⟨k, rfl⟩ := Int.eq_ofNat_of_zero_le (by omega : 0 ≤ i)
    exact rune_in s k w (by omega) hs
end Go.Proofs.Ytlcjepnaljfpkaa
namespace Go.Proofs.Ytlcjepnaljfpkaa
open Go.RowKit Wb
theorem runeS_dec (s : ByteArray) (p : Nat) (h : p < s.size) : runeS s p = dec (s.data.toList.drop p) := by
  unfold runeS
  rw [if_neg (by omega)]
  rfl
theorem drop_ne (s : ByteArray) (p : Nat) (h : p < s.size) : s.data.toList.drop p = s[p] :: s.data.toList.drop (p + 1) := drop_cons s p h
theorem chkL_cons (g : Nat) (c : UInt8) (l : List UInt8) (b : Int) : chkL (g + 1) (c :: l) b = if (dec (c :: l)).2 = 0 then b else chkL g ((c :: l).drop (dec (c :: l)).2.toNat) (b + (dec (c :: l)).2) := rfl
theorem nameL_cons' (g : Nat) (c : UInt8) (l : List UInt8) : nameL (g + 1) (c :: l) = if (dec (c :: l)).2 = 0 then false else partB (dec (c :: l)).1 && nameL g ((c :: l).drop (dec (c :: l)).2.toNat) := rfl
theorem chk_step (s : ByteArray) (p f m : Nat) (h : p < s.size) (hf : s.size - p ≤ f) (hm : (dec (s.data.toList.drop p)).2 = (m : Int)) (hm0 : m ≠ 0)
    (hc : chk s.data.toList = chkL f (s.data.toList.drop p) p) : s.size - (p + m) ≤ f - 1 ∧ chk s.data.toList = chkL (f - 1) (s.data.toList.drop (p + m)) ((p + m : Nat) : Int) := by
  refine ⟨by omega, ?_⟩
  rw [hc]
  obtain ⟨g, rfl⟩ : ∃ g, f = g + 1 := ⟨f - 1, by omega⟩
  have hd : (s.data.toList.drop p).drop m = s.data.toList.drop (p + m) := by rw [List.drop_drop]
  have hl := drop_ne s p h
  rw [hl] at hm hd ⊢
  have e : ((p + m : Nat) : Int) = (p : Int) + (m : Int) := by omega
  rw [Nat.add_sub_cancel, chkL_cons, if_neg (by omega), hm, Int.toNat_natCast, hd, e]
theorem chk_stop (s : ByteArray) (p f : Nat) (h : p < s.size) (hf : s.size - p ≤ f) (hm : (dec (s.data.toList.drop p)).2 = 0)
    (hc : chk s.data.toList = chkL f (s.data.toList.drop p) p) : chk s.data.toList = p := by
  rw [hc]
  obtain ⟨g, rfl⟩ : ∃ g, f = g + 1 := ⟨f - 1, by omega⟩
  have hl := drop_ne s p h
  rw [hl] at hm ⊢
  rw [chkL_cons, if_pos hm]
theorem chk_end (s : ByteArray) (p f : Nat) (h : ¬ p < s.size) (hc : chk s.data.toList = chkL f (s.data.toList.drop p) p) : chk s.data.toList = -1 := by
  rw [hc, List.drop_eq_nil_of_le (by simp; omega)]
  cases f <;> rfl
theorem name_step (s : ByteArray) (p f m : Nat) (b : Bool) (h : p < s.size) (hf : s.size - p ≤ f) (hm : (dec (s.data.toList.drop p)).2 = (m : Int)) (hm0 : m ≠ 0) (hp : partB (dec (s.data.toList.drop p)).1 = true)
    (hc : b = nameL f (s.data.toList.drop p)) : s.size - (p + m) ≤ f - 1 ∧ b = nameL (f - 1) (s.data.toList.drop (p + m)) := by
  refine ⟨by omega, ?_⟩
  rw [hc]
  obtain ⟨g, rfl⟩ : ∃ g, f = g + 1 := ⟨f - 1, by omega⟩
  have hd : (s.data.toList.drop p).drop m = s.data.toList.drop (p + m) := by rw [List.drop_drop]
  have hl := drop_ne s p h
  rw [hl] at hm hd hp ⊢
  rw [Nat.add_sub_cancel, nameL_cons', if_neg (by omega), hm, Int.toNat_natCast, hd, hp, Bool.true_and]
theorem name_stop (s : ByteArray) (p f : Nat) (b : Bool) (h : p < s.size) (hf : s.size - p ≤ f) (hm : (dec (s.data.toList.drop p)).2 = 0 ∨ partB (dec (s.data.toList.drop p)).1 = false)
    (hc : b = nameL f (s.data.toList.drop p)) : b = false := by
  rw [hc]
  obtain ⟨g, rfl⟩ : ∃ g, f = g + 1 := ⟨f - 1, by omega⟩
  have hl := drop_ne s p h
  rw [hl] at hm ⊢
  rw [nameL_cons']
  split
  · rfl
  · rcases hm with hm | hm
    · contradiction
    · rw [hm]; rfl
theorem name_end (s : ByteArray) (p f : Nat) (b : Bool) (h : ¬ p < s.size) (hc : b = nameL f (s.data.toList.drop p)) : b = true := by
  rw [hc, List.drop_eq_nil_of_le (by simp; omega)]
  cases f <;> rfl
set_option maxHeartbeats 400000 in
theorem check_any (s : ByteArray) (w : World) (hs : s.size ≤ 1000000000) :
    Calls Try.prog 61 #[.string s] w fun e w' => e = .returned (.int .i64 (chk s.data.toList)) ∧ Below w.heap.size w w' := by
  go_enter Try.func61, Try.ntmps61
  go_wp2
  go_loopw [3] (fun i wr => ∃ p f : Nat, p ≤ s.size ∧ i = .int .i64 p ∧ Hid (s.size - p ≤ f) ∧ Hid (chk s.data.toList = chkL f (s.data.toList.drop p) p) ∧ Below w.heap.size w wr) (fun i _ => s.size - (intOf i).toNat)
  case atStart => exact ⟨0, s.data.toList.length, by omega, rfl, Lib.hid (by simp), Lib.hid rfl, Below.refl _ _⟩
  case round =>
    obtain ⟨p, f, hp, rfl, HF, HC, hbel⟩ := hrel
    by_cases hlt : p < s.size
    · obtain ⟨b0, b4, bl⟩ := dec_bd (s.data.toList.drop p)
      obtain ⟨m, hm⟩ := Int.eq_ofNat_of_zero_le b0
      rw [hm] at bl
      have hle : p + m ≤ s.size := by simp at bl; omega
      have HM := Lib.hid hm
      have HR := Lib.hid (runeS_dec s p hlt)
      clear hm b0 b4 bl
      go_wp2_with fail
      refine (rune_any s p _ hs).mono ?_
      rw [HR.out, HM.out]
      rintro e w1 ⟨rfl, hb1⟩
      have hbw := hbel.trans (hb1.mono hbel.size)
      by_cases h0 : m = 0
      · subst h0
        go_wp2
        go_ret
        exact ⟨ret_i (by rw [chk_stop s p f hlt HF.out HM.out HC.out]), hbw⟩
      · have hne : ((m : Int) == 0) = false := by simpa using h0
        have hst := chk_step s p f m hlt HF.out HM.out h0 HC.out
        have H1 := Lib.hid hst.1
        have H2 := Lib.hid hst.2
        clear hst
        go_wp2
        go_roundw
        case rel => exact ⟨p + m, f - 1, hle, by go_num, H1, H2, hbw⟩
        case measure => simp [intOf]; omega
    · go_wp2
      go_ret
      exact ⟨ret_i (by rw [chk_end s p f hlt HC.out]), hbel⟩
set_option maxHeartbeats 400000 in
theorem name_any (s : ByteArray) (w : World) (hs : s.size ≤ 1000000000) :
    Calls Try.prog 57 #[.string s] w fun e w' => e = .returned (.bool (nameB s.data.toList)) ∧ Below w.heap.size w w' := by
  have HN := Lib.hid (show nameB s.data.toList = (decide (s.data.toList.length ≤ 64) && (decide ((dec s.data.toList).2 ≠ 0) && (startB (dec s.data.toList).1 && nameL s.data.toList.length (s.data.toList.drop (dec s.data.toList).2.toNat)))) from rfl)
  have hlen : s.data.toList.length = s.size := by simp
  rw [hlen] at HN
  clear hlen
  by_cases h64 : 64 < s.size
  · go_enter Try.func57, Try.ntmps57
    go_wp2
    go_ret
    refine ⟨ret_b ?_, Below.refl _ _⟩
    rw [HN.out, decide_eq_false (by omega)]
    rfl
  · have HR : Hid (runeS s 0 = dec s.data.toList) := by
      by_cases h0 : 0 < s.size
      · have := runeS_dec s 0 h0
        simpa using Lib.hid this
      · have : s.data.toList = [] := List.eq_nil_of_length_eq_zero (by rw [show s.data.toList.length = s.size by simp]; omega)
        unfold runeS
        rw [if_pos (by omega), this]
        exact Lib.hid rfl
    obtain ⟨b0, b4, bl⟩ := dec_bd s.data.toList
    obtain ⟨r, k, hd⟩ := dec_pair s.data.toList
    rw [hd] at HR HN b0 bl
    obtain ⟨m, rfl⟩ := Int.eq_ofNat_of_zero_le (show 0 ≤ k from b0)
    have hm : m ≤ s.size := by simpa using bl
    clear b0 b4 bl hd
    go_enter Try.func57, Try.ntmps57
    go_wp2_with fail
    refine (rune_any s 0 _ hs).mono ?_
    rw [HR.out]
    rintro e w1 ⟨rfl, hb1⟩
    by_cases h0 : m = 0
    · subst h0
      go_wp2
      go_ret
      refine ⟨ret_b ?_, hb1⟩
      rw [HN.out]
      simp
    · have hne : ((m : Int) == 0) = false := by simpa using h0
      go_wp2_with fail
      refine (start_any r _).mono ?_
      cases hst : startB r
      · rw [hst] at HN
        clear hst
        rintro e w2 ⟨rfl, hb2⟩
        have hbw := hb1.trans (hb2.mono hb1.size)
        go_wp2
        go_ret
        refine ⟨ret_b ?_, hbw⟩
        rw [HN.out]
        simp
      · have HN' : Hid (nameB s.data.toList = nameL s.size (s.data.toList.drop m)) := by
          refine Lib.hid ?_
          rw [HN.out, hst, decide_eq_true (show s.size ≤ 64 by omega), decide_eq_true (show ¬ (m : Int) = 0 by omega)]
          rfl
        clear hst HN
        rintro e w2 ⟨rfl, hb2⟩
        have hbw := hb1.trans (hb2.mono hb1.size)
        go_wp2
        go_loopw [5] (fun i wr => ∃ p f : Nat, p ≤ s.size ∧ i = .int .i64 p ∧ Hid (s.size - p ≤ f) ∧ Hid (nameB s.data.toList = nameL f (s.data.toList.drop p)) ∧ Below w.heap.size w wr) (fun i _ => s.size - (intOf i).toNat)
        case atStart => exact ⟨m, s.size, hm, rfl, Lib.hid (by omega), HN', hbw⟩
        case round =>
          obtain ⟨p, f, hp, rfl, HF, HC, hbel⟩ := hrel
          clear HR hm hne h0
          by_cases hlt : p < s.size
          · obtain ⟨b0, b4, bl⟩ := dec_bd (s.data.toList.drop p)
            obtain ⟨r', k, hd⟩ := dec_pair (s.data.toList.drop p)
            have HD := Lib.hid hd
            rw [hd] at b0 bl
            obtain ⟨m', rfl⟩ := Int.eq_ofNat_of_zero_le (show 0 ≤ k from b0)
            have hle : p + m' ≤ s.size := by simp at bl; omega
            have HR := Lib.hid (runeS_dec s p hlt)
            clear b0 b4 bl hd
            go_wp2_with fail
            refine (rune_any s p _ hs).mono ?_
            rw [HR.out, HD.out]
            rintro e w3 ⟨rfl, hb3⟩
            have hbw3 := hbel.trans (hb3.mono hbel.size)
            by_cases h0 : m' = 0
            · subst h0
              go_wp2
              go_ret
              exact ⟨ret_b (name_stop s p f _ hlt HF.out (.inl (by rw [HD.out]; rfl)) HC.out).symm, hbw3⟩
            · have hne : ((m' : Int) == 0) = false := by simpa using h0
              go_wp2_with fail
              refine (part_any r' _).mono ?_
              cases hpt : partB r'
              · have HP := Lib.hid hpt
                clear hpt
                rintro e w4 ⟨rfl, hb4⟩
                have hbw4 := hbw3.trans (hb4.mono hbw3.size)
                go_wp2
                go_ret
                exact ⟨ret_b (name_stop s p f _ hlt HF.out (.inr (by rw [HD.out]; exact HP.out)) HC.out).symm, hbw4⟩
              · have hst := name_step s p f m' _ hlt HF.out (by rw [HD.out]) h0 (by rw [HD.out]; exact hpt) HC.out
                have H1 := Lib.hid hst.1
                have H2 := Lib.hid hst.2
                clear hst hpt
                rintro e w4 ⟨rfl, hb4⟩
                have hbw4 := hbw3.trans (hb4.mono hbw3.size)
                go_wp2
                go_roundw
                case rel => exact ⟨p + m', f - 1, hle, by go_num, H1, H2, hbw4⟩
                case measure => simp [intOf]; omega
          · go_wp2
            go_ret
            exact ⟨ret_b (name_end s p f _ hlt HC.out).symm, hbel⟩
end Go.Proofs.Ytlcjepnaljfpkaa
namespace Go.Proofs.Ytlcjepnaljfpkaa
open Go.RowKit Wb
section
variable {base B : Nat} {ov : Value} {rc : List Value} {w : World}
theorem node_info : (Try.prog.info? 27).map (fun i => (i.zero, i.size, i.bytes)) = some (some (.agg #[.int .i64 0, .string ⟨#[]⟩, .string ⟨#[]⟩, .slice none 0 0, .slice none 0 0, .string ⟨#[]⟩]), 6, 104) := by kernel_rfl
end
end Go.Proofs.Ytlcjepnaljfpkaa
namespace Go.Proofs.Ytlcjepnaljfpkaa
open Go.RowKit Wb
set_option maxHeartbeats 1000000 in
theorem same_same (A B : Option Addr) (l : List Tr) (c d : Nat) (w : World) (hl : l.length ≤ 1000000) (hA : Sl3 w A l) (hB : Sl3 w B l) :
    Calls Try.prog 33 #[.slice A l.length c, .slice B l.length d] w fun e w' => e = .returned (.bool true) ∧ Below w.heap.size w w' := by
  go_enter Try.func33, Try.ntmps33
  go_wp2
  go_loopw [5] (fun i wr => ∃ k : Nat, k ≤ l.length ∧ i = .int .i64 k ∧ Below w.heap.size w wr) (fun i _ => ((l.length : Int) - intOf i).toNat)
  case atStart => exact ⟨0, by omega, rfl, Below.refl _ _⟩
  case round =>
    obtain ⟨k, hk, rfl, hb⟩ := hrel
    by_cases h0 : k < l.length
    · obtain ⟨⟨⟨x1, x2⟩, x3⟩, he⟩ : ∃ x, l[k]? = some x := ⟨l[k], List.getElem?_eq_getElem (by omega)⟩
      obtain ⟨ad, rfl, _, c1, c2, c3⟩ := (hA.below hb).at_ he
      obtain ⟨bd, rfl, _, d1, d2, d3⟩ := (hB.below hb).at_ he
      clear he
      go_wp2
      go_region
      go_wp2
      go_roundw
      case rel => exact ⟨k + 1, by omega, by go_num, hb.drew⟩
      case measure => simp [intOf]; omega
    · go_wp2
      go_ret
      exact ⟨rfl, hb⟩
end Go.Proofs.Ytlcjepnaljfpkaa
namespace Go.Proofs.Ytlcjepnaljfpkaa
open Go.RowKit Wb Go.Maps
set_option maxRecDepth 1000000 in
theorem laidOut : laidOutB Try.prog = true := by kernel_rfl
theorem name_row : (23 : TypeId) < Try.prog.types.size := of_decide_eq_true (by kernel_rfl)
theorem name_wide : (match Try.prog.underlying 23 with | some (.array _ _) | some (.struct _) => true | _ => false) = true := by kernel_rfl
set_option maxRecDepth 1000000 in
theorem name_law : Keyed Try.prog 23 := Keyed.of_law (deep_law_laid laidOut (m := 3) (by omega) name_row (by kernel_rfl) name_wide)
theorem name_kt : Try.prog.keyType 23 = true := by kernel_rfl
theorem name_cells : Try.prog.cellsOf 23 = 2 := by kernel_rfl
def litN (x : Pr) : Lit := .string (keyBytes [.string x.1.data.toList, .string x.2.data.toList])
theorem str_cells : Try.prog.cellsOf 9 = 1 := by kernel_rfl
theorem many_types : (2 : Nat) ≤ Try.prog.types.size := of_decide_eq_true (by kernel_rfl)
theorem key_str (m : Nat) (s : ByteArray) (h : s.size ≤ maxLen) : Try.prog.keyLits (m + 1) 9 [.string s] = some [.string s.data.toList] := by
  unfold Program.keyLits
  rw [Try.underlying9]
  simp [h]
theorem name_key (x : Pr) (h1 : x.1.size ≤ maxLen) (h2 : x.2.size ≤ maxLen) : keyOf Try.prog 23 (.agg #[.string x.1, .string x.2]) = some (litN x) := by
  have hf : (Value.agg #[.string x.1, .string x.2]).formed Try.prog 23 = true := by
    simp [Value.formed, Try.underlying23, name_cells]
  unfold keyOf
  rw [Try.underlying23]
  simp only [name_kt, hf, Bool.and_self, if_true]
  obtain ⟨m, hm⟩ : ∃ m, Try.prog.types.size + 1 = m + 2 := ⟨Try.prog.types.size - 1, by have := many_types; omega⟩
  rw [hm]
  unfold Program.keyLits
  rw [Try.underlying23]
  simp [Value.cells, name_cells, str_cells, key_str _ _ h1, key_str _ _ h2, litN]
theorem litN_inj {x y : Pr} (h1 : x.1.size ≤ maxLen) (h2 : x.2.size ≤ maxLen) (h3 : y.1.size ≤ maxLen) (h4 : y.2.size ≤ maxLen) (h : litN x = litN y) : x = y := by
  have := name_law.inj (name_key x h1 h2) (h ▸ name_key y h3 h4)
  simp only [Value.agg.injEq, Array.mk.injEq, List.cons.injEq, Value.string.injEq, and_true] at this
  exact Prod.ext this.1 this.2
theorem zero_unit (w : World) : (zeroValue 84).run Try.prog w = .ok (.agg #[]) w := by kernel_rfl
end Go.Proofs.Ytlcjepnaljfpkaa
namespace Wb
open Go Go.RowKit
theorem own_below {w w2 : World} {base sz n : Nat} {e : TypeId} {v : Value} {xs : List Value} (h : w.ownsRow base e sz v n xs) (hb : Below w.heap.size w w2) : w2.ownsRow base e sz v n xs := by
  refine ⟨h.1, ?_⟩
  rcases h.2 with hn | ⟨g, cap, cur, rfl, hbg, hg, rest⟩
  · exact .inl hn
  · exact .inr ⟨g, cap, cur, rfl, hbg, still_block hg hb, rest⟩
theorem grown_block {w w2 : World} {g : Nat} {o : Obj} {row : Option Nat} (h : w.heap[g]? = some o) (hg : w.grownBy w2 row) (hne : some g ≠ row) : w2.heap[g]? = some o :=
  (hg.block g (Array.getElem?_eq_some_iff.1 h).1 hne).trans h
end Wb
namespace Go.Proofs.Ytlcjepnaljfpkaa
open Go.RowKit Wb Go.Maps
theorem attr_info : (Try.prog.info? 29).map (fun i => (i.zero, i.size, i.bytes)) = some (some (.agg #[.string ⟨#[]⟩, .string ⟨#[]⟩, .string ⟨#[]⟩]), 3, 48) := by kernel_rfl
end Go.Proofs.Ytlcjepnaljfpkaa
namespace Go.Proofs
open Go.Shelf
def Try.lays169_ren : Go.Shelf.Ren := ⟨fun | 169 => 59 | n => n, fun | 70 => 86 | 9 => 9 | 0 => 0 | 72 => 89 | 37 => 87 | 127 => 100 | 3 => 3 | 5 => 5 | n => n, fun | n => n⟩
theorem Try.lays169 : Go.Proofs.Lays.n169 Try.prog Try.lays169_ren := {
  mixed := by kernel_rfl
  f169 := Try.func59.trans (congrArg some (by kernel_rfl))
  t0 := Try.underlying0
  a0 := Try.isAgg0
  z0 := Try.sizeOf0
  v0 := Try.zeroValue0
  t3 := Try.underlying3
  a3 := Try.isAgg3
  z3 := Try.sizeOf3
  v3 := Try.zeroValue3
  t9 := Try.underlying9
  a9 := Try.isAgg9
  z9 := Try.sizeOf9
  v9 := Try.zeroValue9
  t37 := Try.underlying87
  a37 := Try.isAgg87
  z37 := Try.sizeOf87
  v37 := Try.zeroValue87
  t70 := Try.underlying86
  a70 := Try.isAgg86
  z70 := Try.sizeOf86
  v70 := Try.zeroValue86
  t72 := Try.underlying89
  a72 := Try.isAgg89
  z72 := Try.sizeOf89
  v72 := Try.zeroValue89
  t127 := Try.underlying100
  a127 := Try.isAgg100
  z127 := Try.sizeOf100
  v127 := Try.zeroValue100 }
theorem Try.Builder_Extra_169 : Builder.Extra Try.prog Try.lays169_ren := {
  sizeBuilder := by kernel_rfl
  liesBuilder := by kernel_rfl
  t5 := Try.underlying5
  a5 := Try.isAgg5
  z5 := Try.sizeOf5
  v5 := Try.zeroValue5
  infoByte := by kernel_rfl
  cellsByte := by kernel_rfl
  sizeByte := by kernel_rfl
  neB5 := by decide }
open Go.RowKit in
theorem Try.Builder_String_any (B b : Nat) (l : List UInt8) (w : World) (h : Lib.IsBuilder 89 5 B b (Lib.byteCells l) w) (hBw : B ≤ w.heap.size) :
    Calls Try.prog 59 #[.pointer (some ⟨b, 0, none⟩)] w fun e w' => e = .returned (.string ⟨l.toArray⟩) ∧ Below B w w' := Any.Builder_String_any Try.lays169 Try.Builder_Extra_169 B b l w h hBw
end Go.Proofs
namespace Go.Proofs.Ytlcjepnaljfpkaa
open Go.RowKit Wb
theorem toL (l : List UInt8) : (⟨l.toArray⟩ : ByteArray).data.toList = l := rfl
theorem isb_below {T e : TypeId} {B b : Nat} {bs : List Value} {w w' : World} (h : Lib.IsBuilder T e B b bs w) (hb : Below w.heap.size w w') : Lib.IsBuilder T e B b bs w' := by
  have k : ∀ p, Lib.BuilderAt T e B b p bs w → Lib.BuilderAt T e B b p bs w' := by
    rintro p ⟨h1, v, h2, h3, h4⟩
    exact ⟨h1, v, still_block h2 hb, own_below h3 hb, h4⟩
  exact h.imp (k _) (k _)
end Go.Proofs.Ytlcjepnaljfpkaa
