import Derived.Test.YtjohfljkhlkjoaaGreatDoorMgP
import Derived.WalkSmall
namespace Wb
open Go Go.RowKit
structure Keep (S : Nat → Prop) (w w' : World) : Prop where
  os : w'.os = w.os
  tape : w'.tape = w.tape
  output : w'.output = w.output
  size : w.heap.size ≤ w'.heap.size
  block : ∀ k, k < w.heap.size → ¬ S k → w'.heap[k]? = w.heap[k]?
section
variable {S S' : Nat → Prop} {w w' w2 : World}
theorem Keep.refl (S : Nat → Prop) (w : World) : Keep S w w := ⟨rfl, rfl, rfl, Nat.le_refl _, fun _ _ _ => rfl⟩
theorem Keep.trans (h : Keep S w w') (k : Keep S w' w2) : Keep S w w2 :=
  ⟨k.os.trans h.os, k.tape.trans h.tape, k.output.trans h.output, Nat.le_trans h.size k.size, fun i hi hs => (k.block i (Nat.lt_of_lt_of_le hi h.size) hs).trans (h.block i hi hs)⟩
theorem Keep.mono (h : Keep S w w') (hs : ∀ k, k < w.heap.size → S k → S' k) : Keep S' w w' :=
  ⟨h.os, h.tape, h.output, h.size, fun k hk hn => h.block k hk (fun h1 => hn (hs k hk h1))⟩
theorem Keep.of_below (S : Nat → Prop) (h : Below w.heap.size w w') : Keep S w w' := ⟨h.os, h.tape, h.output, h.size, fun k hk _ => h.block k hk⟩
theorem Keep.below {base : Nat} (h : Keep S w w') (hs : ∀ k, S k → base ≤ k) (hb : base ≤ w.heap.size) : Below base w w' :=
  ⟨h.os, h.tape, h.output, h.size, fun k hk => h.block k (by omega) (fun h1 => by have := hs k h1; omega)⟩
theorem Keep.setCell (h : Keep S w w') {p : Addr} (hp : S p.block) (u : Value) : Keep S w (w'.setCell p u) :=
  h.trans ⟨rfl, rfl, rfl, by simp [World.setCell], fun k _ hn => Below.heap_setCell _ _ _ _ (fun e => hn (by rw [e]; exact hp))⟩
theorem Keep.grown (h : Keep S w w') {row : Option Nat} (hg : w'.grownBy w2 row) (hr : ∀ k, row = some k → S k) : Keep S w w2 :=
  h.trans ⟨hg.os, hg.tape, hg.output, hg.size, fun k hk hn => hg.block k hk (fun e => hn (hr k e.symm))⟩
def SafeP (S : Nat → Prop) (w : World) (p : World → Prop) : Prop := ∀ w', Keep S w w' → p w'
theorem SafeP.here {p : World → Prop} (h : SafeP S w p) : p w := h w (Keep.refl S w)
theorem SafeP.keep {p : World → Prop} (h : SafeP S w p) (hk : Keep S w w') (hs : ∀ k, k < w.heap.size → S' k → S k) : SafeP S' w' p := fun w2 h2 =>
  h w2 ⟨h2.os.trans hk.os, h2.tape.trans hk.tape, h2.output.trans hk.output, Nat.le_trans hk.size h2.size, fun k hkl hn =>
    (h2.block k (Nat.lt_of_lt_of_le hkl hk.size) (fun h1 => hn (hs k hkl h1))).trans (hk.block k hkl hn)⟩
theorem Sl.safe {sz n : Nat} {A : Option Addr} {xs : List Value} (h : Sl w sz A n xs) (hn : 0 < n → ∀ ad, A = some ad → ¬ S ad.block) : SafeP S w (fun v => Sl v sz A n xs) := fun w2 h2 => by
  refine ⟨h.1, fun h0 => ?_⟩
  obtain ⟨ad, e, hb, hc⟩ := h.2 h0
  refine ⟨ad, e, Nat.lt_of_lt_of_le hb h2.size, fun j u hu => ?_⟩
  rw [← hc j u hu]
  exact World.cell?_of_block (w := w) (by rw [add_block]; exact h2.block _ hb (hn h0 ad e))
theorem own_blk {base sz n : Nat} {e : TypeId} {v : Value} {xs : List Value} (h : w.ownsRow base e sz v n xs) (hb : ∀ k, v.ownBlock = some k → w'.heap[k]? = w.heap[k]?) : w'.ownsRow base e sz v n xs := by
  refine ⟨h.1, ?_⟩
  rcases h.2 with h2 | ⟨g, cap, cur, rfl, hbg, hg, rest⟩
  · exact .inl h2
  · exact .inr ⟨g, cap, cur, rfl, hbg, (hb g rfl).trans hg, rest⟩
theorem own_in {base sz n g : Nat} {e : TypeId} {v : Value} {xs : List Value} (h : w.ownsRow base e sz v n xs) (hv : v.ownBlock = some g) : base ≤ g ∧ g < w.heap.size := h.lt g hv
end
theorem flat_at {m : Nat} : ∀ {css : List (List Value)}, (∀ cs ∈ css, cs.length = m) → ∀ (i : Nat) (cs : List Value), css[i]? = some cs → ∀ j, j < m → css.flatten[i * m + j]? = cs[j]?
  | [], _, i, cs, h, _, _ => by simp at h
  | c :: css, hl, 0, cs, h, j, hj => by
    simp only [List.getElem?_cons_zero, Option.some.injEq] at h
    subst h
    rw [List.flatten_cons, Nat.zero_mul, Nat.zero_add, List.getElem?_append_left (by rw [hl c (by simp)]; exact hj)]
  | c :: css, hl, i + 1, cs, h, j, hj => by
    have := flat_at (css := css) (fun d hd => hl d (by simp [hd])) i cs (by simpa using h) j hj
    have hc := hl c (by simp)
    rw [List.flatten_cons, List.getElem?_append_right (by rw [hc, Nat.add_mul]; omega), ← this, hc]
    congr 1
    rw [Nat.add_mul]
    omega
theorem flat_set {m : Nat} : ∀ {css : List (List Value)}, (∀ cs ∈ css, cs.length = m) → ∀ (i : Nat) (cs : List Value), css[i]? = some cs → ∀ j u, j < m → css.flatten.set (i * m + j) u = (css.set i (cs.set j u)).flatten
  | [], _, i, cs, h, _, _, _ => by simp at h
  | c :: css, hl, 0, cs, h, j, u, hj => by
    simp only [List.getElem?_cons_zero, Option.some.injEq] at h
    subst h
    rw [List.set_cons_zero, List.flatten_cons, List.flatten_cons, Nat.zero_mul, Nat.zero_add, List.set_append_left _ _ (by rw [hl c (by simp)]; exact hj)]
  | c :: css, hl, i + 1, cs, h, j, u, hj => by
    have := flat_set (css := css) (fun d hd => hl d (by simp [hd])) i cs (by simpa using h) j u hj
    have hc := hl c (by simp)
    rw [List.set_cons_succ, List.flatten_cons, List.flatten_cons, ← this, List.set_append_right _ _ (by rw [hc, Nat.add_mul]; omega), hc]
    congr 2
    rw [Nat.add_mul]
    omega
def KidsR (tN : TypeId) (S : Nat → Prop) (w : World) (base : Nat) (kv : Value) (kids : List Nd) : Prop :=
  ∃ css : List (List Value), css.length = kids.length ∧ w.ownsRow base tN 6 kv kids.length css.flatten ∧ ∀ (i : Nat) (k : Nd) (cs : List Value), kids[i]? = some k → css[i]? = some cs → SafeP S w (fun v => nodeC v k cs)
section
variable {tN tE tB : TypeId} {S S' : Nat → Prop} {w w' : World} {base B : Nat} {b : Bd} {ov kv : Value}
theorem kids_six {css : List (List Value)} {kids : List Nd} (hl : css.length = kids.length) (hs : ∀ (i : Nat) (k : Nd) (cs : List Value), kids[i]? = some k → css[i]? = some cs → SafeP S w (fun v => nodeC v k cs)) : ∀ cs ∈ css, cs.length = 6 := fun cs hc => by
  obtain ⟨i, hi, e⟩ := List.mem_iff_getElem.1 hc
  exact nodeC_len (hs i (kids[i]'(by omega)) cs (List.getElem?_eq_getElem _) (by rw [← e]; exact List.getElem?_eq_getElem _)).here
theorem KidsR.nil (tN : TypeId) (S : Nat → Prop) (w : World) (base : Nat) : KidsR tN S w base (.slice none 0 0) [] := ⟨[], rfl, World.ownsRow_nil _ _ _ _, fun i k cs h => by simp at h⟩
theorem KidsR.keep {kids : List Nd} (h : KidsR tN S w base kv kids) (hk : Keep S w w') (hs : ∀ k, k < w.heap.size → S' k → S k) (hb : ∀ k, kv.ownBlock = some k → w'.heap[k]? = w.heap[k]?) : KidsR tN S' w' base kv kids := by
  obtain ⟨css, h1, h2, h3⟩ := h
  exact ⟨css, h1, own_blk h2 hb, fun i k cs hk1 hc => (h3 i k cs hk1 hc).keep hk hs⟩
theorem KidsR.sl {kids : List Nd} (h : KidsR tN S w base kv kids) (hs : ∀ k, S' k → S k) (hn : ∀ k, kv.ownBlock = some k → ¬ S' k) : ∃ K ck, kv = .slice K kids.length ck ∧ SafeP S' w (fun v => SlN v K kids) := by
  obtain ⟨css, h1, h2, h3⟩ := h
  have h6 := kids_six h1 h3
  obtain ⟨K, ck, rfl⟩ := own_shape h2
  refine ⟨K, ck, rfl, fun w2 hk => ?_⟩
  have h2' := own_blk (w' := w2) h2 (fun k hv => hk.block k (own_in h2 hv).2 (hn k hv))
  by_cases h0 : kids = []
  · exact .inl h0
  · obtain ⟨g, cap, hv, _, hlt⟩ := h2'.form (List.length_pos_iff.2 h0)
    have hK : K = some ⟨g, 0, none⟩ := by injection hv
    subst hK
    refine .inr ⟨_, rfl, hlt, (kidsC_iff _ _ _ _).2 fun k n hkn => ?_⟩
    have hkl : k < css.length := by rw [h1]; exact (List.getElem?_eq_some_iff.1 hkn).1
    have hc : css[k]? = some css[k] := List.getElem?_eq_getElem hkl
    refine ⟨css[k], fun j u hu => ?_, h3 k n _ hkn hc w2 (hk.mono fun k _ h => hs k h)⟩
    rw [Nat.zero_add]
    have hj : j < 6 := by have := (List.getElem?_eq_some_iff.1 hu).1; rw [h6 _ (List.mem_of_getElem? hc)] at this; exact this
    exact h2'.cells (g := g) rfl _ _ ((flat_at h6 k _ hc j hj).trans hu)
structure ElX where
  e : El
  sA : Option Addr
  sc : Nat
  aA : Option Addr
  ac : Nat
  kv : Value
def ElX.cells (x : ElX) : List Value := [.string x.e.word, .slice x.sA x.e.scope.length x.sc, .int .i64 1, .string x.e.name.1, .string x.e.name.2, .slice x.aA x.e.attrs.length x.ac, x.kv, .string sE]
def elsC (xs : List ElX) : List Value := xs.flatMap ElX.cells
theorem elsC_app (a c : List ElX) : elsC (a ++ c) = elsC a ++ elsC c := by simp [elsC]
theorem elsC_len (a : List ElX) : (elsC a).length = a.length * 8 := by
  induction a with
  | nil => rfl
  | cons x a ih => show (x.cells ++ elsC a).length = _; rw [List.length_append, ih, List.length_cons]; show 8 + _ = _; omega
theorem elsC_one (x : ElX) : elsC [x] = x.cells := by simp [elsC]
def BdS (B : Nat) (ov : Value) (xs : List ElX) : Nat → Prop := fun k => k = B ∨ ov.ownBlock = some k ∨ ∃ x ∈ xs, x.kv.ownBlock = some k
def BdU (base B : Nat) (ov : Value) (xs : List ElX) : Nat → Prop := fun k => k < base ∨ BdS B ov xs k
theorem ku {base B : Nat} {ov : Value} {xs : List ElX} {w w' : World} (h : Keep (BdS B ov xs) w w') : Keep (BdU base B ov xs) w w' := h.mono fun _ _ h => .inr h
theorem us {base B n : Nat} {ov ov' : Value} {xs xs' : List ElX} (h : ∀ k, k < n → BdS B ov' xs' k → BdS B ov xs k) : ∀ k, k < n → BdU base B ov' xs' k → BdU base B ov xs k := fun k hk hu => hu.imp id (h k hk)
structure BdW (tN tE tB : TypeId) (base B : Nat) (b : Bd) (ov : Value) (xs : List ElX) (rc : List Value) (w : World) : Prop where
  els : b.opened = xs.map ElX.e
  hB : base ≤ B
  blk : w.heap[B]? = some (.cells (ov :: (rc ++ [.int .i64 (b.nodes : Int)])).toArray tB (0, 0))
  root : SafeP (BdU base B ov xs) w (fun v => nodeC v b.root rc)
  own : w.ownsRow base tE 8 ov xs.length (elsC xs)
  kids : ∀ x ∈ xs, KidsR tN (BdU base B ov xs) w base x.kv x.e.kids
  scp : ∀ x ∈ xs, SafeP (BdU base B ov xs) w (fun v => Sl2 v x.sA x.e.scope)
  ats : ∀ x ∈ xs, SafeP (BdU base B ov xs) w (fun v => Sl3 v x.aA x.e.attrs)
  d1 : ov.ownBlock ≠ some B
  d2 : ∀ x ∈ xs, x.kv.ownBlock ≠ some B
  d3 : ∀ x ∈ xs, ∀ k, x.kv.ownBlock = some k → ov.ownBlock ≠ some k
  d4 : xs.Pairwise (fun x y => ∀ k, x.kv.ownBlock = some k → y.kv.ownBlock ≠ some k)
variable {xs l : List ElX} {rc : List Value}
theorem blk_in {w : World} {g : Nat} {o : Obj} (h : w.heap[g]? = some o) : g < w.heap.size := (Array.getElem?_eq_some_iff.1 h).1
theorem BdW.lt (h : BdW tN tE tB base B b ov xs rc w) {k : Nat} (hk : BdS B ov xs k) : base ≤ k ∧ k < w.heap.size := by
  rcases hk with rfl | hk | ⟨x, hx, hk⟩
  · exact ⟨h.hB, blk_in h.blk⟩
  · exact own_in h.own hk
  · obtain ⟨css, _, h2, _⟩ := h.kids x hx
    exact own_in h2 hk
theorem BdW.ltB (h : BdW tN tE tB base B b ov xs rc w) : B < w.heap.size := blk_in h.blk
theorem BdW.kvlt (h : BdW tN tE tB base B b ov xs rc w) {x : ElX} (hx : x ∈ xs) {k : Nat} (hk : x.kv.ownBlock = some k) : base ≤ k ∧ k < w.heap.size := h.lt (.inr (.inr ⟨x, hx, hk⟩))
theorem BdW.below (h : BdW tN tE tB base B b ov xs rc w) (hk : Keep (BdS B ov xs) w w') : Below base w w' :=
  hk.below (fun _ hs => (h.lt hs).1) (Nat.le_of_lt (Nat.lt_of_le_of_lt h.hB h.ltB))
theorem BdW.step {b' : Bd} {ov' : Value} {xs' : List ElX} {rc' : List Value} (h : BdW tN tE tB base B b ov xs rc w) (hk : Keep (BdS B ov xs) w w')
    (hs : ∀ k, k < w.heap.size → BdS B ov' xs' k → BdS B ov xs k) (els : b'.opened = xs'.map ElX.e)
    (blk : w'.heap[B]? = some (.cells (ov' :: (rc' ++ [.int .i64 (b'.nodes : Int)])).toArray tB (0, 0)))
    (root : SafeP (BdU base B ov' xs') w' (fun v => nodeC v b'.root rc'))
    (own : w'.ownsRow base tE 8 ov' xs'.length (elsC xs'))
    (each : ∀ x ∈ xs', (x ∈ xs ∧ ∀ k, x.kv.ownBlock = some k → w'.heap[k]? = w.heap[k]?) ∨ (KidsR tN (BdU base B ov' xs') w' base x.kv x.e.kids ∧ SafeP (BdU base B ov' xs') w' (fun v => Sl2 v x.sA x.e.scope) ∧ SafeP (BdU base B ov' xs') w' (fun v => Sl3 v x.aA x.e.attrs)))
    (d1 : ov'.ownBlock ≠ some B) (d2 : ∀ x ∈ xs', x.kv.ownBlock ≠ some B) (d3 : ∀ x ∈ xs', ∀ k, x.kv.ownBlock = some k → ov'.ownBlock ≠ some k)
    (d4 : xs'.Pairwise (fun x y => ∀ k, x.kv.ownBlock = some k → y.kv.ownBlock ≠ some k)) : BdW tN tE tB base B b' ov' xs' rc' w' := by
  refine ⟨els, h.hB, blk, root, own, fun x hx => ?_, fun x hx => ?_, fun x hx => ?_, d1, d2, d3, d4⟩
  · rcases each x hx with ⟨h1, h2⟩ | ⟨h1, _, _⟩
    · exact (h.kids x h1).keep (ku hk) (us hs) h2
    · exact h1
  · rcases each x hx with ⟨h1, _⟩ | ⟨_, h1, _⟩
    · exact (h.scp x h1).keep (ku hk) (us hs)
    · exact h1
  · rcases each x hx with ⟨h1, _⟩ | ⟨_, _, h1⟩
    · exact (h.ats x h1).keep (ku hk) (us hs)
    · exact h1
theorem BdW.other (h : BdW tN tE tB base B b ov xs rc w) (hb : Below w.heap.size w w') : BdW tN tE tB base B b ov xs rc w' :=
  h.step (Keep.of_below _ hb) (fun _ _ hk => hk) h.els ((hb.block _ h.ltB).trans h.blk) (h.root.keep (Keep.of_below _ hb) (fun _ _ hk => hk)) (own_blk h.own fun k hk => hb.block k (own_in h.own hk).2)
    (fun _ hx => .inl ⟨hx, fun k hk => hb.block k (h.kvlt hx hk).2⟩) h.d1 h.d2 h.d3 h.d4
theorem BdW.count (h : BdW tN tE tB base B b ov xs rc w) (n : Nat) : BdW tN tE tB base B { b with nodes := n } ov xs rc (w.setCell ⟨B, 7, none⟩ (.int .i64 (n : Int))) := by
  have hk : Keep (BdS B ov xs) w (w.setCell ⟨B, 7, none⟩ (.int .i64 (n : Int))) := (Keep.refl _ w).setCell (.inl rfl) _
  have hrc : rc.length = 6 := nodeC_len h.root.here
  have ne : ∀ k, k ≠ B → (w.setCell ⟨B, 7, none⟩ (.int .i64 (n : Int))).heap[k]? = w.heap[k]? := fun k hkn => Below.heap_setCell _ _ _ _ (by simpa using hkn)
  refine h.step hk (fun _ _ hk => hk) h.els ?_ (h.root.keep (ku hk) (fun _ _ hk => hk)) (own_blk h.own fun k hv => ne k (fun e => h.d1 (by rw [hv, e]))) (fun x hx => .inl ⟨hx, fun k hv => ne k (fun e => h.d2 x hx (by rw [hv, e]))⟩) h.d1 h.d2 h.d3 h.d4
  rw [blk_set h.blk 7 _]
  match rc, hrc with
  | [_, _, _, _, _, _], _ => rfl
theorem BdW.push (h : BdW tN tE tB base B b ov xs rc w) {x : ElX} {ov4 : Value} {w4 : World} (hkv : x.kv = .slice none 0 0) (hks : x.e.kids = []) (hsc : SafeP (BdU base B ov xs) w (fun v => Sl2 v x.sA x.e.scope)) (hat : SafeP (BdU base B ov xs) w (fun v => Sl3 v x.aA x.e.attrs))
    (h4 : w4.ownsRow base tE 8 ov4 (xs.length + 1) (elsC xs ++ x.cells)) (hg : w.grownBy w4 ov.ownBlock) (hat4 : ov4.ownBlock = ov.ownBlock ∨ ov4.ownBlock = some w.heap.size) :
    BdW tN tE tB base B { b with opened := b.opened ++ [x.e] } ov4 (xs ++ [x]) rc (w4.setCell ⟨B, 0, none⟩ ov4) ∧ Keep (BdS B ov xs) w (w4.setCell ⟨B, 0, none⟩ ov4) := by
  have hB := h.ltB
  have hk : Keep (BdS B ov xs) w (w4.setCell ⟨B, 0, none⟩ ov4) := ((Keep.refl _ w).grown hg (fun k hk => .inr (.inl hk))).setCell (.inl rfl) _
  have hs : ∀ k, k < w.heap.size → BdS B ov4 (xs ++ [x]) k → BdS B ov xs k := by
    rintro k hkl (rfl | hv | ⟨y, hy, hv⟩)
    · exact .inl rfl
    · rcases hat4 with e | e
      · exact .inr (.inl (e ▸ hv))
      · rw [e] at hv; injection hv with hv; omega
    · rcases List.mem_append.1 hy with hy | hy
      · exact .inr (.inr ⟨y, hy, hv⟩)
      · rw [List.mem_singleton.1 hy, hkv] at hv; simp [Value.ownBlock] at hv
  have d1 : ov4.ownBlock ≠ some B := by
    rcases hat4 with e | e
    · rw [e]; exact h.d1
    · rw [e]; intro e; injection e with e; omega
  have ne : ∀ k, k < w.heap.size → k ≠ B → ov.ownBlock ≠ some k → (w4.setCell ⟨B, 0, none⟩ ov4).heap[k]? = w.heap[k]? := fun k hkl hkn hvn =>
    (Below.heap_setCell _ _ _ _ (by simpa using hkn)).trans (hg.block k hkl (fun e => hvn e.symm))
  refine ⟨h.step hk hs (by simp [h.els]) ?_ (h.root.keep (ku hk) (us hs)) ?_ (fun y hy => ?_) d1 ?_ ?_ ?_, hk⟩
  · rw [blk_set ((hg.block B hB (fun e => h.d1 e.symm)).trans h.blk) 0 _]
    rfl
  · rw [List.length_append, elsC_app, elsC_one]
    exact own_blk h4 fun k hv => Below.heap_setCell _ _ _ _ (fun e => d1 (by rw [hv, e]))
  · rcases List.mem_append.1 hy with hy | hy
    · exact .inl ⟨hy, fun k hv => ne k (h.kvlt hy hv).2 (fun e => h.d2 y hy (by rw [hv, e])) (h.d3 y hy k hv)⟩
    · rw [List.mem_singleton.1 hy]
      refine .inr ⟨?_, hsc.keep (ku hk) (us hs), hat.keep (ku hk) (us hs)⟩
      rw [hkv, hks]
      exact KidsR.nil _ _ _ _
  · intro y hy
    rcases List.mem_append.1 hy with hy | hy
    · exact h.d2 y hy
    · rw [List.mem_singleton.1 hy, hkv]; simp [Value.ownBlock]
  · intro y hy k hv
    rcases List.mem_append.1 hy with hy | hy
    · rcases hat4 with e | e
      · rw [e]; exact h.d3 y hy k hv
      · rw [e]; intro e; injection e with e; have := (h.kvlt hy hv).2; omega
    · rw [List.mem_singleton.1 hy, hkv] at hv; simp [Value.ownBlock] at hv
  · rw [List.pairwise_append]
    refine ⟨h.d4, List.pairwise_singleton _ _, fun y _ z hz k _ => ?_⟩
    rw [List.mem_singleton.1 hz, hkv]; simp [Value.ownBlock]
theorem BdW.pop {x : ElX} {O cap : Nat} (h : BdW tN tE tB base B b (.slice (some ⟨O, 0, none⟩) (l.length + 1) cap) (l ++ [x]) rc w) :
    BdW tN tE tB base B { b with opened := l.map ElX.e } (.slice (some ⟨O, 0, none⟩) l.length cap) l rc (w.setCell ⟨B, 0, none⟩ (.slice (some ⟨O, 0, none⟩) l.length cap)) ∧
    Keep (BdS B (.slice (some ⟨O, 0, none⟩) (l.length + 1) cap) (l ++ [x])) w (w.setCell ⟨B, 0, none⟩ (.slice (some ⟨O, 0, none⟩) l.length cap)) ∧
    ∃ K ck, x.kv = .slice K x.e.kids.length ck ∧ SafeP (BdU base B (.slice (some ⟨O, 0, none⟩) l.length cap) l) (w.setCell ⟨B, 0, none⟩ (.slice (some ⟨O, 0, none⟩) l.length cap)) (fun v => nodeC v x.e.node (ndCells 1 x.e.name x.aA x.e.attrs.length x.ac K x.e.kids.length ck sE)) := by
  have hB := h.ltB
  have hx : x ∈ l ++ [x] := by simp
  have hk : Keep (BdS B (.slice (some ⟨O, 0, none⟩) (l.length + 1) cap) (l ++ [x])) w (w.setCell ⟨B, 0, none⟩ (.slice (some ⟨O, 0, none⟩) l.length cap)) := (Keep.refl _ w).setCell (.inl rfl) _
  have hs : ∀ k, BdS B (.slice (some ⟨O, 0, none⟩) l.length cap) l k → BdS B (.slice (some ⟨O, 0, none⟩) (l.length + 1) cap) (l ++ [x]) k := by
    rintro k (rfl | hv | ⟨y, hy, hv⟩)
    · exact .inl rfl
    · exact .inr (.inl hv)
    · exact .inr (.inr ⟨y, by simp [hy], hv⟩)
  have hOB : O ≠ B := fun e => h.d1 (by simp [Value.ownBlock, e])
  have ne : ∀ k, k ≠ B → (w.setCell ⟨B, 0, none⟩ (.slice (some ⟨O, 0, none⟩) l.length cap)).heap[k]? = w.heap[k]? := fun k hkn => Below.heap_setCell _ _ _ _ (by simpa using hkn)
  have hd4 := List.pairwise_append.1 h.d4
  refine ⟨h.step hk (fun k _ => hs k) rfl ?_ (h.root.keep (ku hk) (us fun k _ => hs k)) ?_ (fun y hy => .inl ⟨by simp [hy], fun k hv => ne k (fun e => h.d2 y (by simp [hy]) (by rw [hv, e]))⟩) ?_ (fun y hy => h.d2 y (by simp [hy])) (fun y hy k hv => ?_) hd4.1, hk, ?_⟩
  · rw [blk_set h.blk 0 _]
    rfl
  · have h0 := h.own
    rw [List.length_append, elsC_app] at h0
    exact own_blk (ownsRow_pop (elsC_len l) h0) (fun k hv => ne k (by simp [Value.ownBlock] at hv; omega))
  · simpa [Value.ownBlock] using hOB
  · exact h.d3 y (by simp [hy]) k hv
  · have hn : ∀ k, x.kv.ownBlock = some k → ¬ BdU base B (.slice (some ⟨O, 0, none⟩) l.length cap) l k := by
      rintro k hv (hlt | rfl | hv2 | ⟨y, hy, hv2⟩)
      · have := (h.kvlt hx hv).1; omega
      · exact h.d2 x hx hv
      · exact h.d3 x hx k hv hv2
      · exact hd4.2.2 y hy x (by simp) k hv2 hv
    obtain ⟨K, ck, e, hsl⟩ := (h.kids x hx).sl (fun k hu => hu.imp id (hs k)) hn
    refine ⟨K, ck, e, fun w2 hk2 => (nodeC_V _ _ _).2 ⟨x.aA, x.ac, K, ck, rfl, ?_, ?_⟩⟩
    · exact ((h.ats x hx).keep (ku hk) (us fun k _ => hs k)) w2 hk2
    · have := hsl.keep (w' := w.setCell ⟨B, 0, none⟩ (.slice (some ⟨O, 0, none⟩) l.length cap)) (S' := BdU base B (.slice (some ⟨O, 0, none⟩) l.length cap) l) ((Keep.refl _ w).setCell (.inr (.inl rfl)) _) (fun k _ h => h)
      exact this w2 hk2
end
end Wb

namespace Wb
open Go Go.RowKit
section
variable {tN tE tB : TypeId} {w w' : World} {base B : Nat} {b : Bd} {ov kv : Value} {l : List ElX} {rc : List Value}
theorem elsC_set (l : List ElX) (x y : ElX) (u : Value) (h : x.cells.set 6 u = y.cells) : (elsC (l ++ [x])).set (l.length * 8 + 6) u = elsC (l ++ [y]) := by
  rw [elsC_app, elsC_app, elsC_one, elsC_one, List.set_append_right _ _ (by rw [elsC_len]; omega), elsC_len, Nat.add_sub_cancel_left, h]
theorem bds_swap {B : Nat} {ov : Value} {l : List ElX} {x y : ElX} {H : Nat} (hy : y.kv.ownBlock = x.kv.ownBlock ∨ y.kv.ownBlock = some H) : ∀ k, k < H → BdS B ov (l ++ [y]) k → BdS B ov (l ++ [x]) k := by
  rintro k hkl (rfl | hv | ⟨z, hz, hv⟩)
  · exact .inl rfl
  · exact .inr (.inl hv)
  · rcases List.mem_append.1 hz with hz | hz
    · exact .inr (.inr ⟨z, by simp [hz], hv⟩)
    · rw [List.mem_singleton.1 hz] at hv
      rcases hy with e | e
      · exact .inr (.inr ⟨x, by simp, e ▸ hv⟩)
      · rw [e] at hv; injection hv with hv; omega
theorem BdW.kid {x : ElX} {O cap : Nat} {k : Nd} {cs : List Value} {css : List (List Value)} {kv4 : Value} {w4 : World}
    (h : BdW tN tE tB base B b (.slice (some ⟨O, 0, none⟩) (l.length + 1) cap) (l ++ [x]) rc w) (hcl : css.length = x.e.kids.length)
    (hsf : ∀ (i : Nat) (k : Nd) (cs : List Value), x.e.kids[i]? = some k → css[i]? = some cs → SafeP (BdU base B (.slice (some ⟨O, 0, none⟩) (l.length + 1) cap) (l ++ [x])) w (fun v => nodeC v k cs))
    (hc : SafeP (BdU base B (.slice (some ⟨O, 0, none⟩) (l.length + 1) cap) (l ++ [x])) w (fun v => nodeC v k cs))
    (h4 : w4.ownsRow base tN 6 kv4 (x.e.kids.length + 1) (css.flatten ++ cs)) (hg : w.grownBy w4 x.kv.ownBlock) (hat4 : kv4.ownBlock = x.kv.ownBlock ∨ kv4.ownBlock = some w.heap.size) :
    BdW tN tE tB base B { b with opened := l.map ElX.e ++ [x.e.more k] } (.slice (some ⟨O, 0, none⟩) (l.length + 1) cap) (l ++ [{ x with e := x.e.more k, kv := kv4 }]) rc (w4.setCell ⟨O, l.length * 8 + 6, none⟩ kv4) ∧
    Keep (BdS B (.slice (some ⟨O, 0, none⟩) (l.length + 1) cap) (l ++ [x])) w (w4.setCell ⟨O, l.length * 8 + 6, none⟩ kv4) := by
  have hB := h.ltB
  have hx : x ∈ l ++ [x] := by simp
  have hOl : O < w.heap.size := (h.lt (.inr (.inl rfl))).2
  have hk : Keep (BdS B (.slice (some ⟨O, 0, none⟩) (l.length + 1) cap) (l ++ [x])) w (w4.setCell ⟨O, l.length * 8 + 6, none⟩ kv4) :=
    ((Keep.refl _ w).grown hg (fun k hk => .inr (.inr ⟨x, hx, hk⟩))).setCell (.inr (.inl rfl)) _
  have hs := bds_swap (B := B) (ov := .slice (some ⟨O, 0, none⟩) (l.length + 1) cap) (l := l) (x := x) (y := { x with e := x.e.more k, kv := kv4 }) (H := w.heap.size) hat4
  have hOB : O ≠ B := fun e => h.d1 (by simp [Value.ownBlock, e])
  have hd4 := List.pairwise_append.1 h.d4
  have kvO : kv4.ownBlock ≠ some O := by
    intro e
    rcases hat4 with e' | e'
    · exact h.d3 x hx O (e' ▸ e) rfl
    · rw [e'] at e; injection e with e; omega
  have kvB : kv4.ownBlock ≠ some B := by
    intro e
    rcases hat4 with e' | e'
    · exact h.d2 x hx (e' ▸ e)
    · rw [e'] at e; injection e with e; omega
  have ne : ∀ k, k < w.heap.size → k ≠ O → x.kv.ownBlock ≠ some k → (w4.setCell ⟨O, l.length * 8 + 6, none⟩ kv4).heap[k]? = w.heap[k]? := fun k hkl hkn hvn =>
    (Below.heap_setCell _ _ _ _ (by simpa using hkn)).trans (hg.block k hkl (fun e => hvn e.symm))
  have hown4 : w4.ownsRow base tE 8 (.slice (some ⟨O, 0, none⟩) (l.length + 1) cap) (l.length + 1) (elsC (l ++ [x])) := by
    have h0 := h.own
    rw [List.length_append] at h0
    exact own_blk h0 fun k hv => hg.block k (own_in h0 hv).2 (fun e => h.d3 x hx k e.symm hv)
  refine ⟨h.step hk hs (by simp) ?_ (h.root.keep (ku hk) (us hs)) ?_ (fun y hy => ?_) h.d1 ?_ ?_ ?_, hk⟩
  · exact (ne B hB (fun e => hOB e.symm) (h.d2 x hx)).trans h.blk
  · rw [List.length_append]
    have := (hown4.stored (l.length * 8 + 6) kv4).1
    rwa [elsC_set l x { x with e := x.e.more k, kv := kv4 } kv4 rfl] at this
  · rcases List.mem_append.1 hy with hy | hy
    · exact .inl ⟨by simp [hy], fun k hv => ne k (h.kvlt (by simp [hy]) hv).2 (fun e => h.d3 y (by simp [hy]) k hv (by rw [e]; rfl)) (fun e => hd4.2.2 y hy x (by simp) k hv e)⟩
    · rw [List.mem_singleton.1 hy]
      refine .inr ⟨⟨css ++ [cs], by simp [hcl, El.more], ?_, fun i k' cs' hk1 hc1 => ?_⟩, (h.scp x hx).keep (ku hk) (us hs), (h.ats x hx).keep (ku hk) (us hs)⟩
      · show (w4.setCell ⟨O, l.length * 8 + 6, none⟩ kv4).ownsRow base tN 6 kv4 (x.e.kids ++ [k]).length (css ++ [cs]).flatten
        rw [List.length_append, List.flatten_append, show [cs].flatten = cs from by simp]
        exact own_blk h4 fun k hv => Below.heap_setCell _ _ _ _ (fun e => kvO (by rw [hv, e]))
      · have hk1 : (x.e.kids ++ [k])[i]? = some k' := hk1
        by_cases hi : i < x.e.kids.length
        · rw [List.getElem?_append_left hi] at hk1
          rw [List.getElem?_append_left (by omega)] at hc1
          exact (hsf i k' cs' hk1 hc1).keep (ku hk) (us hs)
        · rw [List.getElem?_append_right (by omega)] at hk1 hc1
          rw [hcl] at hc1
          have hj : i - x.e.kids.length = 0 := by have := (List.getElem?_eq_some_iff.1 hk1).1; simp at this; omega
          rw [hj] at hk1 hc1
          simp only [List.getElem?_cons_zero, Option.some.injEq] at hk1 hc1
          subst hk1 hc1
          exact hc.keep (ku hk) (us hs)
  · intro y hy
    rcases List.mem_append.1 hy with hy | hy
    · exact h.d2 y (by simp [hy])
    · rw [List.mem_singleton.1 hy]; exact kvB
  · intro y hy k hv
    rcases List.mem_append.1 hy with hy | hy
    · exact h.d3 y (by simp [hy]) k hv
    · rw [List.mem_singleton.1 hy] at hv
      intro e
      have e : O = k := by simpa [Value.ownBlock] using e
      exact kvO (by rw [e]; exact hv)
  · rw [List.pairwise_append]
    refine ⟨hd4.1, List.pairwise_singleton _ _, fun y hy z hz k hv => ?_⟩
    rw [List.mem_singleton.1 hz]
    rcases hat4 with e | e
    · show kv4.ownBlock ≠ some k
      rw [e]; exact hd4.2.2 y hy x (by simp) k hv
    · show kv4.ownBlock ≠ some k
      rw [e]
      intro e
      injection e with e
      have := (h.kvlt (x := y) (by simp [hy]) hv).2
      omega
theorem BdW.txt {x : ElX} {g cap : Nat} {ks : List Nd} {k : Nd} {t : ByteArray} (h : BdW tN tE tB base B b ov (l ++ [x]) rc w) (hks : x.e.kids = ks ++ [k]) (hkv : x.kv = .slice (some ⟨g, 0, none⟩) (ks.length + 1) cap) :
    BdW tN tE tB base B { b with opened := l.map ElX.e ++ [{ x.e with kids := ks ++ [.mk k.kind k.name k.attrs k.kids t] }] } ov (l ++ [{ x with e := { x.e with kids := ks ++ [.mk k.kind k.name k.attrs k.kids t] } }]) rc (w.setCell ⟨g, ks.length * 6 + 5, none⟩ (.string t)) ∧
    Keep (BdS B ov (l ++ [x])) w (w.setCell ⟨g, ks.length * 6 + 5, none⟩ (.string t)) := by
  have hB := h.ltB
  have hx : x ∈ l ++ [x] := by simp
  have hk : Keep (BdS B ov (l ++ [x])) w (w.setCell ⟨g, ks.length * 6 + 5, none⟩ (.string t)) := (Keep.refl _ w).setCell (.inr (.inr ⟨x, hx, by rw [hkv]; rfl⟩)) _
  have hs := bds_swap (B := B) (ov := ov) (l := l) (x := x) (y := { x with e := { x.e with kids := ks ++ [.mk k.kind k.name k.attrs k.kids t] } }) (H := w.heap.size) (.inl rfl)
  have ne : ∀ j, j ≠ g → (w.setCell ⟨g, ks.length * 6 + 5, none⟩ (.string t)).heap[j]? = w.heap[j]? := fun j hj => Below.heap_setCell _ _ _ _ (by simpa using hj)
  have hgx : x.kv.ownBlock = some g := by rw [hkv]; rfl
  have hd4 := List.pairwise_append.1 h.d4
  refine ⟨h.step hk hs (by simp) ((ne B (fun e => h.d2 x hx (by rw [hgx, e]))).trans h.blk) (h.root.keep (ku hk) (us hs)) ?_ (fun y hy => ?_) h.d1 ?_ ?_ ?_, hk⟩
  · have h0 := own_blk (w' := w.setCell ⟨g, ks.length * 6 + 5, none⟩ (.string t)) h.own (fun j hv => ne j (fun e => h.d3 x hx g hgx (by rw [hv, e])))
    have e : elsC (l ++ [{ x with e := { x.e with kids := ks ++ [.mk k.kind k.name k.attrs k.kids t] } }]) = elsC (l ++ [x]) := by
      rw [elsC_app, elsC_app, elsC_one, elsC_one]; rfl
    rw [e]
    simpa using h0
  · rcases List.mem_append.1 hy with hy | hy
    · exact .inl ⟨by simp [hy], fun j hv => ne j (fun e => hd4.2.2 y hy x (by simp) j hv (by rw [hgx, e]))⟩
    · rw [List.mem_singleton.1 hy]
      refine .inr ⟨?_, (h.scp x hx).keep (ku hk) (us hs), (h.ats x hx).keep (ku hk) (us hs)⟩
      obtain ⟨css, h1, h2, h3⟩ := h.kids x hx
      have h6 := kids_six h1 h3
      rw [hks] at h1 h2 h3
      rw [hkv, List.length_append, List.length_singleton] at h2
      rw [List.length_append, List.length_singleton] at h1
      obtain ⟨cs, hcs⟩ : ∃ cs, css[ks.length]? = some cs := ⟨css[ks.length], List.getElem?_eq_getElem (by omega)⟩
      have hst := (h2.stored (ks.length * 6 + 5) (.string t)).1
      rw [flat_set h6 ks.length cs hcs 5 _ (by omega)] at hst
      refine ⟨css.set ks.length (cs.set 5 (.string t)), by simp [h1], ?_, fun i k' cs' hk1 hc1 => ?_⟩
      · show (w.setCell ⟨g, ks.length * 6 + 5, none⟩ (.string t)).ownsRow base tN 6 x.kv (ks ++ [Nd.mk k.kind k.name k.attrs k.kids t]).length _
        rw [hkv, List.length_append, List.length_singleton]
        exact hst
      · have hk1 : (ks ++ [Nd.mk k.kind k.name k.attrs k.kids t])[i]? = some k' := hk1
        by_cases hi : i < ks.length
        · rw [List.getElem?_append_left hi] at hk1
          rw [List.getElem?_set_ne (by omega)] at hc1
          exact (h3 i k' cs' (by rw [List.getElem?_append_left hi]; exact hk1) hc1).keep (ku hk) (us hs)
        · have hil : i = ks.length := by have := (List.getElem?_eq_some_iff.1 hk1).1; simp at this; omega
          subst hil
          rw [List.getElem?_append_right (Nat.le_refl _), Nat.sub_self] at hk1
          simp only [List.getElem?_cons_zero, Option.some.injEq] at hk1
          subst hk1
          rw [List.getElem?_set_self (by omega)] at hc1
          simp only [Option.some.injEq] at hc1
          subst hc1
          have hold := (h3 ks.length k cs (by simp) hcs).keep (ku hk) (us hs)
          intro w2 hk2
          obtain ⟨A, ca, K, ck, rfl, hV⟩ := (nodeC_V _ _ _).1 (hold w2 hk2)
          exact (nodeC_V _ _ _).2 ⟨A, ca, K, ck, rfl, hV⟩
  · intro y hy
    rcases List.mem_append.1 hy with hy | hy
    · exact h.d2 y (by simp [hy])
    · rw [List.mem_singleton.1 hy]; exact h.d2 x hx
  · intro y hy j hv
    rcases List.mem_append.1 hy with hy | hy
    · exact h.d3 y (by simp [hy]) j hv
    · rw [List.mem_singleton.1 hy] at hv; exact h.d3 x hx j hv
  · rw [List.pairwise_append]
    refine ⟨hd4.1, List.pairwise_singleton _ _, fun y hy z hz j hv => ?_⟩
    rw [List.mem_singleton.1 hz]
    exact hd4.2.2 y hy x (by simp) j hv
theorem BdW.rooted {n : Nd} {rc' : List Value} (h : BdW tN tE tB base B b ov [] rc w) (hk : Keep (fun k => k = B) w w') (hn : SafeP (BdU base B ov []) w (fun v => nodeC v n rc'))
    (hw : w'.heap[B]? = some (.cells (ov :: (rc' ++ [.int .i64 (b.nodes : Int)])).toArray tB (0, 0))) :
    BdW tN tE tB base B { b with root := n } ov [] rc' w' ∧ Keep (BdS B ov []) w w' := by
  have hk2 : Keep (BdS B ov []) w w' := hk.mono fun k _ h => .inl h
  refine ⟨h.step hk2 (fun _ _ h => h) h.els hw (hn.keep (ku hk2) (fun _ _ h => h)) (own_blk h.own fun k hv => hk.block k (own_in h.own hv).2 (fun e => h.d1 (by rw [hv, e]))) (fun x hx => by cases hx) h.d1 (fun x hx => by cases hx) (fun x hx => by cases hx) List.Pairwise.nil, hk2⟩
variable {xs : List ElX}
theorem BdW.c0 (h : BdW tN tE tB base B b ov xs rc w) : w.cell? ⟨B, 0, none⟩ = some ov := blk_cell h.blk 0
theorem BdW.f (h : BdW tN tE tB base B b ov xs rc w) (i : Nat) : w.frozen? ⟨B, i, none⟩ = false := blk_free h.blk i
theorem BdW.c7 (h : BdW tN tE tB base B b ov xs rc w) : w.cell? ⟨B, 7, none⟩ = some (.int .i64 (b.nodes : Int)) := by
  have hrc : rc.length = 6 := nodeC_len h.root.here
  rw [blk_cell h.blk 7]
  match rc, hrc with
  | [_, _, _, _, _, _], _ => rfl
theorem BdW.c1 (h : BdW tN tE tB base B b ov xs rc w) : w.cell? ⟨B, 1, none⟩ = some (.int .i64 b.root.kind) := by
  obtain ⟨A, ca, K, ck, e, _⟩ := (nodeC_V _ _ _).1 h.root.here
  rw [blk_cell h.blk 1, e]
  rfl
theorem BdW.elc {x : ElX} {O cap : Nat} (h : BdW tN tE tB base B b (.slice (some ⟨O, 0, none⟩) (l.length + 1) cap) (l ++ [x]) rc w) : ∀ (j : Nat) (u : Value), x.cells[j]? = some u → w.cell? ⟨O, l.length * 8 + j, none⟩ = some u := by
  intro j u hu
  have hj : j < 8 := (List.getElem?_eq_some_iff.1 hu).1
  have h0 := h.own
  rw [List.length_append] at h0
  rw [World.ownsRow.cellAt (n := l.length + 1) h0 (l.length * 8 + j) (by omega), elsC_app, elsC_one, List.getElem?_append_right (by rw [elsC_len]; omega), elsC_len, Nat.add_sub_cancel_left, hu]
theorem BdW.elf {x : ElX} {O cap : Nat} (h : BdW tN tE tB base B b (.slice (some ⟨O, 0, none⟩) (l.length + 1) cap) (l ++ [x]) rc w) (j : Nat) : w.frozen? ⟨O, j, none⟩ = false := by
  have h0 := h.own
  rw [List.length_append] at h0
  exact World.ownsRow.frozenAt (n := l.length + 1) h0 j
theorem BdW.row {x : ElX} (h : BdW tN tE tB base B b ov (l ++ [x]) rc w) : ∃ O cap, ov = .slice (some ⟨O, 0, none⟩) (l.length + 1) cap := by
  obtain ⟨g, cap, hv, _⟩ := h.own.form (by simp)
  exact ⟨g, cap, by rw [hv]; simp⟩
theorem BdW.kshape {x : ElX} (h : BdW tN tE tB base B b ov xs rc w) (hx : x ∈ xs) : ∃ K ck, x.kv = .slice K x.e.kids.length ck := by
  obtain ⟨css, _, h2, _⟩ := h.kids x hx
  exact own_shape h2
theorem grown_set {w w4 : World} {g : Nat} {row : Option Nat} (hg : w.grownBy w4 row) (hrow : row = some g ∨ w.heap.size ≤ g) (o : Nat) (u : Value) : w.grownBy (w4.setCell ⟨g, o, none⟩ u) row :=
  ⟨hg.os, hg.tape, hg.output, by have := hg.size; simpa [World.setCell] using this, fun k hk hne => by
    have hkg : k ≠ g := fun e => by
      rcases hrow with h | h
      · exact hne (by rw [e, h])
      · omega
    rw [Below.heap_setCell _ _ _ _ hkg]
    exact hg.block k hk hne⟩
theorem set_six {n : Nat} {xs : List Value} {z0 z1 z2 z3 z4 z5 : Value} (c0 c1 c2 c3 c4 c5 : Value) (hx : xs.length = n * 6) :
    ((((((xs ++ [z0, z1, z2, z3, z4, z5]).set (n * 6) c0).set (n * 6 + 1) c1).set (n * 6 + 2) c2).set (n * 6 + 3) c3).set (n * 6 + 4) c4).set (n * 6 + 5) c5 = xs ++ [c0, c1, c2, c3, c4, c5] := by
  rw [← hx]
  rw [List.set_append_right _ _ (Nat.le_refl _), List.set_append_right _ _ (by omega), List.set_append_right _ _ (by omega), List.set_append_right _ _ (by omega), List.set_append_right _ _ (by omega), List.set_append_right _ _ (by omega)]
  simp only [Nat.sub_self, Nat.add_sub_cancel_left]
  rfl
theorem own_cap {w : World} {base sz n g cap : Nat} {e : TypeId} {xs : List Value} (h : w.ownsRow base e sz (.slice (some ⟨g, 0, none⟩) n cap) n xs) : n ≤ cap ∧ cap ≤ maxLen := by
  rcases h.2 with ⟨h', _⟩ | ⟨g', cap', cur, h', _, _, h1, h2, _⟩
  · simp at h'
  · simp only [Value.slice.injEq, Option.some.injEq, Addr.mk.injEq, and_true, true_and] at h'
    obtain ⟨rfl, rfl⟩ := h'
    exact ⟨h1, h2⟩
theorem BdW.cap {x : ElX} {O cap : Nat} (h : BdW tN tE tB base B b (.slice (some ⟨O, 0, none⟩) (l.length + 1) cap) (l ++ [x]) rc w) : l.length + 1 ≤ cap ∧ cap ≤ maxLen := by
  have h0 := h.own
  rw [List.length_append] at h0
  exact own_cap h0
theorem row_end {w : World} {base g n cap : Nat} {e : TypeId} {xs ys : List Value} (h : w.ownsRow base e 6 (.slice (some ⟨g, 0, none⟩) (n + 1) cap) (n + 1) (xs ++ ys)) (hx : xs.length = n * 6) (j : Nat) (u : Value) (hu : ys[j]? = some u) : w.cell? ⟨g, n * 6 + j, none⟩ = some u := by
  have hl : ys.length = 6 := by
    have := h.1
    rw [List.length_append, hx] at this
    omega
  have hj : j < 6 := by have := (List.getElem?_eq_some_iff.1 hu).1; omega
  rw [h.cellAt (n * 6 + j) (by omega), List.getElem?_append_right (by omega), hx, Nat.add_sub_cancel_left, hu]
theorem set_comm (w : World) {p q : Addr} (h : p.block ≠ q.block) (u v : Value) : (w.setCell p u).setCell q v = (w.setCell q v).setCell p u := by
  unfold World.setCell
  simp only [World.mk.injEq, and_true]
  apply Array.ext_getElem?
  intro i
  simp only [Array.getElem?_modify]
  by_cases h1 : q.block = i
  · by_cases h2 : p.block = i
    · exact absurd (h2.trans h1.symm) h
    · simp [h1, h2]
  · simp [h1]
def six (w : World) (g n : Nat) (c0 c1 c2 c3 c4 c5 : Value) : World :=
  ((((((w.setCell ⟨g, n * 6, none⟩ c0).setCell ⟨g, n * 6 + 1, none⟩ c1).setCell ⟨g, n * 6 + 2, none⟩ c2).setCell ⟨g, n * 6 + 3, none⟩ c3).setCell ⟨g, n * 6 + 4, none⟩ c4).setCell ⟨g, n * 6 + 5, none⟩ c5)
theorem six_own {w w4 : World} {base g n cap : Nat} {row : Option Nat} {xs : List Value} {z0 z1 z2 z3 z4 z5 : Value} (c0 c1 c2 c3 c4 c5 : Value)
    (h : w4.ownsRow base tN 6 (.slice (some ⟨g, 0, none⟩) (n + 1) cap) (n + 1) (xs ++ [z0, z1, z2, z3, z4, z5])) (hx : xs.length = n * 6) (hg : w.grownBy w4 row) (hrow : row = some g ∨ w.heap.size ≤ g) :
    (six w4 g n c0 c1 c2 c3 c4 c5).ownsRow base tN 6 (.slice (some ⟨g, 0, none⟩) (n + 1) cap) (n + 1) (xs ++ [c0, c1, c2, c3, c4, c5]) ∧ w.grownBy (six w4 g n c0 c1 c2 c3 c4 c5) row := by
  have h1 := (((((h.stored (n * 6) c0).1.stored (n * 6 + 1) c1).1.stored (n * 6 + 2) c2).1.stored (n * 6 + 3) c3).1.stored (n * 6 + 4) c4).1.stored (n * 6 + 5) c5
  rw [set_six c0 c1 c2 c3 c4 c5 hx] at h1
  exact ⟨h1.1, grown_set (grown_set (grown_set (grown_set (grown_set (grown_set hg hrow _ _) hrow _ _) hrow _ _) hrow _ _) hrow _ _) hrow _ _⟩
theorem six_comm (w : World) (g n O o : Nat) (hne : g ≠ O) (c0 c1 c2 c3 c4 c5 v : Value) : six (w.setCell ⟨O, o, none⟩ v) g n c0 c1 c2 c3 c4 c5 = (six w g n c0 c1 c2 c3 c4 c5).setCell ⟨O, o, none⟩ v := by
  have h : ∀ (w : World) (k : Nat) (c : Value), (w.setCell ⟨O, o, none⟩ v).setCell ⟨g, k, none⟩ c = (w.setCell ⟨g, k, none⟩ c).setCell ⟨O, o, none⟩ v := fun w k c => set_comm w (fun e => hne e.symm) _ _
  unfold six
  rw [h, h, h, h, h, h]
theorem BdW.closed {y : ElX} {O cap : Nat} {k : Nd} {css : List (List Value)} {K2 : Option Addr} {ck2 : Nat} {c0 c1 c2 c3 c4 c5 z0 z1 z2 z3 z4 z5 : Value}
    (h : BdW tN tE tB base B b (.slice (some ⟨O, 0, none⟩) (l.length + 1) cap) (l ++ [y]) rc w) (hc : SafeP (BdU base B (.slice (some ⟨O, 0, none⟩) (l.length + 1) cap) (l ++ [y])) w (fun v => nodeC v k [c0, c1, c2, c3, c4, c5]))
    (hkv : y.kv = .slice K2 y.e.kids.length ck2) (hcl : css.length = y.e.kids.length) (hxl : css.flatten.length = y.e.kids.length * 6)
    (hsf : ∀ (i : Nat) (k : Nd) (cs : List Value), y.e.kids[i]? = some k → css[i]? = some cs → SafeP (BdU base B (.slice (some ⟨O, 0, none⟩) (l.length + 1) cap) (l ++ [y])) w (fun v => nodeC v k cs))
    {wd w4 : World} (hwd : Below w.heap.size w wd) {g4 cap4 : Nat} (h4 : w4.ownsRow base tN 6 (.slice (some ⟨g4, 0, none⟩) (y.e.kids.length + 1) cap4) (y.e.kids.length + 1) (css.flatten ++ [z0, z1, z2, z3, z4, z5]))
    (hg : wd.grownBy w4 (Value.slice K2 y.e.kids.length ck2).ownBlock) (hat4 : (Value.slice (some ⟨g4, 0, none⟩) (y.e.kids.length + 1) cap4).ownBlock = (Value.slice K2 y.e.kids.length ck2).ownBlock ∨ (Value.slice (some ⟨g4, 0, none⟩) (y.e.kids.length + 1) cap4).ownBlock = some wd.heap.size) :
    BdW tN tE tB base B { b with opened := l.map ElX.e ++ [y.e.more k] } (.slice (some ⟨O, 0, none⟩) (l.length + 1) cap) (l ++ [{ y with e := y.e.more k, kv := .slice (some ⟨g4, 0, none⟩) (y.e.kids.length + 1) cap4 }]) rc ((six w4 g4 y.e.kids.length c0 c1 c2 c3 c4 c5).setCell ⟨O, l.length * 8 + 6, none⟩ (.slice (some ⟨g4, 0, none⟩) (y.e.kids.length + 1) cap4)) ∧
    Below base w ((six w4 g4 y.e.kids.length c0 c1 c2 c3 c4 c5).setCell ⟨O, l.length * 8 + 6, none⟩ (.slice (some ⟨g4, 0, none⟩) (y.e.kids.length + 1) cap4)) := by
  have hd := h.other hwd
  have hrow : (Value.slice K2 y.e.kids.length ck2).ownBlock = some g4 ∨ wd.heap.size ≤ g4 := by
    rcases hat4 with e | e
    · exact .inl e.symm
    · right
      simp [Value.ownBlock] at e
      omega
  obtain ⟨h5, h6⟩ := six_own c0 c1 c2 c3 c4 c5 h4 hxl hg hrow
  rw [← hkv] at h6 hat4
  have hk := hd.kid hcl (fun i k' cs hk1 hc1 => (hsf i k' cs hk1 hc1).keep (Keep.of_below _ hwd) (fun _ _ h => h)) (hc.keep (Keep.of_below _ hwd) (fun _ _ h => h)) h5 h6 hat4
  have hbb : base ≤ w.heap.size := Nat.le_of_lt (Nat.lt_of_le_of_lt h.hB h.ltB)
  exact ⟨hk.1, (hwd.mono hbb).trans (hd.below hk.2)⟩
theorem BdW.kidc {x : ElX} {ks : List Nd} {k : Nd} (h : BdW tN tE tB base B b ov (l ++ [x]) rc w) (hks : x.e.kids = ks ++ [k]) :
    ∃ g ck, x.kv = .slice (some ⟨g, 0, none⟩) (ks.length + 1) ck ∧ w.cell? ⟨g, ks.length * 6, none⟩ = some (.int .i64 k.kind) ∧ w.cell? ⟨g, ks.length * 6 + 5, none⟩ = some (.string k.text) ∧ ∀ j, w.frozen? ⟨g, j, none⟩ = false := by
  obtain ⟨css, h1, h2, h3⟩ := h.kids x (by simp)
  have h6 := kids_six h1 h3
  rw [hks] at h1 h2 h3
  rw [List.length_append, List.length_singleton] at h1 h2
  obtain ⟨g, ck, hv, _⟩ := h2.form (by omega)
  rw [hv] at h2
  obtain ⟨cs, hcs⟩ : ∃ cs, css[ks.length]? = some cs := ⟨css[ks.length], List.getElem?_eq_getElem (by omega)⟩
  obtain ⟨A, ca, K, c, e, _⟩ := (nodeC_V _ _ _).1 (h3 ks.length k cs (by simp) hcs).here
  have at_ : ∀ j u, j < 6 → cs[j]? = some u → w.cell? ⟨g, ks.length * 6 + j, none⟩ = some u := fun j u hj hu => by
    rw [h2.cellAt (ks.length * 6 + j) (by omega), flat_at h6 ks.length cs hcs j hj, hu]
  exact ⟨g, ck, hv, at_ 0 _ (by omega) (by rw [e]; rfl), at_ 5 _ (by omega) (by rw [e]; rfl), fun j => h2.frozenAt j⟩
end
end Wb

namespace Wb
open Go Go.RowKit
section
variable {tN tE tB : TypeId} {w w' : World} {base B : Nat} {b : Bd} {ov kv : Value} {l : List ElX} {rc : List Value}
theorem BdW.grownO {x : ElX} {O cap : Nat} (h : BdW tN tE tB base B b (.slice (some ⟨O, 0, none⟩) (l.length + 1) cap) (l ++ [x]) rc w) {w4 : World} (hg : w.grownBy w4 x.kv.ownBlock) (j : Nat) :
    w4.cell? ⟨O, j, none⟩ = w.cell? ⟨O, j, none⟩ ∧ w4.frozen? ⟨O, j, none⟩ = w.frozen? ⟨O, j, none⟩ := by
  have hO : w4.heap[O]? = w.heap[O]? := hg.block O (h.lt (.inr (.inl rfl))).2 (fun e => h.d3 x (by simp) O e.symm rfl)
  exact ⟨World.cell?_of_block (w := w) hO, World.frozen?_of_block (w := w) hO⟩
theorem text_node (S : Nat → Prop) (w : World) (s : ByteArray) : SafeP S w (fun v => nodeC v (.mk 2 (sE, sE) [] [] s) [.int .i64 2, .string sE, .string sE, .slice none 0 0, .slice none 0 0, .string s]) := fun _ _ =>
  (nodeC_V _ _ _).2 ⟨none, 0, none, 0, rfl, Sl3.nil _ _, .inl rfl⟩
end
end Wb

