
/- Helper words for memory, of no program: a slice whose cells are known ('Sl'), nil let in; lists of pairs and of triples of texts as cells; append onto a row of the call's own from such a slice. -/
import Derived.Test.YtclenfdhnccalaaDoorKit
import Derived.Below
import Derived.Laws.OwnMore
import Derived.Laws.AppendOwnNone
import Derived.Deep.AppendLies
import Derived.Deep.Draws
import Derived.Maps.OwnSet
import Derived.OwnWalk
import Derived.Laws.ResultCell
import Derived.Laws.Rows
namespace Wb
open Go Go.RowKit

theorem add_succ (a : Addr) (n k : Nat) (hk : 0 < k) : a.add (n + k) = ⟨(a.add n).block, (a.add n).off + k, none⟩ := by
  unfold Addr.add
  rw [if_neg (by omega)]
  split
  · subst_vars; simp
  · simp; omega
theorem add_block (a : Addr) (n : Nat) : (a.add n).block = a.block := by unfold Addr.add; split <;> rfl

theorem of_drew {w w' : World} (h : Below w.drew.heap.size w.drew w') : Below w.heap.size w w' := (Below.refl w.heap.size w).drew.trans h
theorem of_alloc {w w' : World} {o : Obj} (h : Below (w.alloc o).heap.size (w.alloc o) w') : Below w.heap.size w w' :=
  ((Below.refl w.heap.size w).alloc (Nat.le_refl _) o).trans (h.mono (by simp))

/-- The slice value '.slice A n c' holds the cells xs, 'sz' of them an element; all of it lies in the world as it is. -/
def Sl (w : World) (sz : Nat) (A : Option Addr) (n : Nat) (xs : List Value) : Prop :=
  xs.length = n * sz ∧ (0 < n → ∃ ad, A = some ad ∧ ad.block < w.heap.size ∧ ∀ j u, xs[j]? = some u → w.cell? (ad.add j) = some u)

theorem Sl.nil (w : World) (sz : Nat) (A : Option Addr) : Sl w sz A 0 [] := ⟨by simp, fun h => absurd h (by omega)⟩

theorem Sl.keep {w w' : World} {sz n : Nat} {A : Option Addr} {xs : List Value} (h : Sl w sz A n xs) (hs : w.heap.size ≤ w'.heap.size)
    (hc : ∀ p : Addr, p.block < w.heap.size → w'.cell? p = w.cell? p) : Sl w' sz A n xs := by
  refine ⟨h.1, fun hn => ?_⟩
  obtain ⟨ad, e, hb, hcell⟩ := h.2 hn
  exact ⟨ad, e, by omega, fun j u hu => (hc _ (by rw [add_block]; exact hb)).trans (hcell j u hu)⟩

theorem Sl.below {w w' : World} {sz n : Nat} {A : Option Addr} {xs : List Value} (h : Sl w sz A n xs) (hb : Below w.heap.size w w') : Sl w' sz A n xs :=
  h.keep hb.size fun _ hp => hb.cell hp
theorem Sl.alloc {w : World} {sz n : Nat} {A : Option Addr} {xs : List Value} (h : Sl w sz A n xs) (o : Obj) : Sl (w.alloc o) sz A n xs :=
  h.below ((Below.refl _ _).alloc (Nat.le_refl _) o)
theorem Sl.drew {w : World} {sz n : Nat} {A : Option Addr} {xs : List Value} (h : Sl w sz A n xs) : Sl w.drew sz A n xs := h

/-- What the call's own row owns is such a slice. -/
theorem Sl.of_own {w : World} {base sz n c : Nat} {e : TypeId} {A : Option Addr} {xs : List Value} (h : w.ownsRow base e sz (.slice A n c) n xs) : Sl w sz A n xs := by
  refine ⟨h.1, fun hn => ?_⟩
  obtain ⟨g, cap, hv, _, hlt⟩ := h.form hn
  have hA : A = some ⟨g, 0, none⟩ := by injection hv
  subst hA
  exact ⟨_, rfl, hlt, h.cells (g := g) rfl⟩

/-! ### lists of pairs of texts -/
abbrev Pr := ByteArray × ByteArray
def cells2 (l : List Pr) : List Value := l.flatMap fun p => [.string p.1, .string p.2]

theorem cells2_nil : cells2 [] = [] := rfl
theorem cells2_cons (p : Pr) (l : List Pr) : cells2 (p :: l) = .string p.1 :: .string p.2 :: cells2 l := rfl
theorem cells2_append (a b : List Pr) : cells2 (a ++ b) = cells2 a ++ cells2 b := by simp [cells2]
theorem cells2_length (l : List Pr) : (cells2 l).length = l.length * 2 := by
  induction l with
  | nil => rfl
  | cons p l ih => rw [cells2_cons]; simp [ih]; omega
theorem cells2_at : ∀ (l : List Pr) (k : Nat) (x : Pr), l[k]? = some x → (cells2 l)[k * 2]? = some (.string x.1) ∧ (cells2 l)[k * 2 + 1]? = some (.string x.2)
  | [], k, x, h => by simp at h
  | p :: l, 0, x, h => by simp at h; subst h; simp [cells2_cons]
  | p :: l, k + 1, x, h => by
    have := cells2_at l k x (by simpa using h)
    rw [cells2_cons, show (k + 1) * 2 = k * 2 + 1 + 1 from by omega]
    simpa using this
theorem cells2_one (l : List Pr) : ∀ u ∈ cells2 l, u.oneCell' = true := by
  intro u hu
  simp only [cells2, List.mem_flatMap] at hu
  obtain ⟨p, _, hp⟩ := hu
  simp at hp
  rcases hp with rfl | rfl <;> rfl
theorem cells2_inj : ∀ (a b : List Pr), cells2 a = cells2 b → a = b
  | [], [], _ => rfl
  | [], q :: b, h => by simp [cells2_cons, cells2_nil] at h
  | p :: a, [], h => by simp [cells2_cons, cells2_nil] at h
  | p :: a, q :: b, h => by
    simp only [cells2_cons, List.cons.injEq, Value.string.injEq] at h
    rw [cells2_inj a b h.2.2, show p = q from Prod.ext h.1 h.2.1]

/-- A slice of structs of two texts. -/
def Sl2 (w : World) (A : Option Addr) (l : List Pr) : Prop := Sl w 2 A l.length (cells2 l)

theorem Sl2.nil (w : World) (A : Option Addr) : Sl2 w A [] := Sl.nil w 2 A
theorem Sl2.below {w w' : World} {A : Option Addr} {l : List Pr} (h : Sl2 w A l) (hb : Below w.heap.size w w') : Sl2 w' A l := Sl.below h hb
theorem Sl2.alloc {w : World} {A : Option Addr} {l : List Pr} (h : Sl2 w A l) (o : Obj) : Sl2 (w.alloc o) A l := Sl.alloc h o
theorem Sl2.at_ {w : World} {A : Option Addr} {l : List Pr} (h : Sl2 w A l) {k : Nat} {x : Pr} (hx : l[k]? = some x) :
    ∃ ad, A = some ad ∧ ad.block < w.heap.size ∧ w.cell? (ad.add (k * 2)) = some (.string x.1) ∧ w.cell? ⟨(ad.add (k * 2)).block, (ad.add (k * 2)).off + 1, none⟩ = some (.string x.2) := by
  have hk : k < l.length := (List.getElem?_eq_some_iff.1 hx).1
  obtain ⟨ad, e, hb, hc⟩ := h.2 (by omega)
  obtain ⟨h1, h2⟩ := cells2_at l k x hx
  refine ⟨ad, e, hb, hc _ _ h1, ?_⟩
  rw [← hc _ _ h2, add_succ _ _ 1 (by omega)]
theorem Sl2.of_own {w : World} {base c : Nat} {e : TypeId} {A : Option Addr} {l : List Pr} (h : w.ownsRow base e 2 (.slice A l.length c) l.length (cells2 l)) : Sl2 w A l := Sl.of_own h

/-! ### lists of triples of texts -/
abbrev Tr := Pr × ByteArray
def cells3 (l : List Tr) : List Value := l.flatMap fun p => [.string p.1.1, .string p.1.2, .string p.2]

theorem cells3_nil : cells3 [] = [] := rfl
theorem cells3_cons (p : Tr) (l : List Tr) : cells3 (p :: l) = .string p.1.1 :: .string p.1.2 :: .string p.2 :: cells3 l := rfl
theorem cells3_append (a b : List Tr) : cells3 (a ++ b) = cells3 a ++ cells3 b := by simp [cells3]
theorem cells3_length (l : List Tr) : (cells3 l).length = l.length * 3 := by
  induction l with
  | nil => rfl
  | cons p l ih => rw [cells3_cons]; simp [ih]; omega
theorem cells3_at : ∀ (l : List Tr) (k : Nat) (x : Tr), l[k]? = some x → (cells3 l)[k * 3]? = some (.string x.1.1) ∧ (cells3 l)[k * 3 + 1]? = some (.string x.1.2) ∧ (cells3 l)[k * 3 + 2]? = some (.string x.2)
  | [], k, x, h => by simp at h
  | p :: l, 0, x, h => by simp at h; subst h; simp [cells3_cons]
  | p :: l, k + 1, x, h => by
    have := cells3_at l k x (by simpa using h)
    rw [cells3_cons, show (k + 1) * 3 = k * 3 + 1 + 1 + 1 from by omega]
    simpa using this
theorem cells3_one (l : List Tr) : ∀ u ∈ cells3 l, u.oneCell' = true := by
  intro u hu
  simp only [cells3, List.mem_flatMap] at hu
  obtain ⟨p, _, hp⟩ := hu
  simp at hp
  rcases hp with rfl | rfl | rfl <;> rfl

/-- A slice of structs of three texts. -/
def Sl3 (w : World) (A : Option Addr) (l : List Tr) : Prop := Sl w 3 A l.length (cells3 l)

theorem Sl3.nil (w : World) (A : Option Addr) : Sl3 w A [] := Sl.nil w 3 A
theorem Sl3.below {w w' : World} {A : Option Addr} {l : List Tr} (h : Sl3 w A l) (hb : Below w.heap.size w w') : Sl3 w' A l := Sl.below h hb
theorem Sl3.at_ {w : World} {A : Option Addr} {l : List Tr} (h : Sl3 w A l) {k : Nat} {x : Tr} (hx : l[k]? = some x) :
    ∃ ad, A = some ad ∧ ad.block < w.heap.size ∧ w.cell? (ad.add (k * 3)) = some (.string x.1.1) ∧ w.cell? ⟨(ad.add (k * 3)).block, (ad.add (k * 3)).off + 1, none⟩ = some (.string x.1.2) ∧
      w.cell? ⟨(ad.add (k * 3)).block, (ad.add (k * 3)).off + 2, none⟩ = some (.string x.2) := by
  have hk : k < l.length := (List.getElem?_eq_some_iff.1 hx).1
  obtain ⟨ad, e, hb, hc⟩ := h.2 (by omega)
  obtain ⟨h1, h2, h3⟩ := cells3_at l k x hx
  refine ⟨ad, e, hb, hc _ _ h1, ?_, ?_⟩
  · rw [← hc _ _ h2, add_succ _ _ 1 (by omega)]
  · rw [← hc _ _ h3, add_succ _ _ 2 (by omega)]
theorem Sl3.of_own {w : World} {base c : Nat} {e : TypeId} {A : Option Addr} {l : List Tr} (h : w.ownsRow base e 3 (.slice A l.length c) l.length (cells3 l)) : Sl3 w A l := Sl.of_own h

/-! ### append onto an own row, from such a slice -/
section
variable {P : Program} (w : World)

theorem run_append_none' (base : Nat) (t ty e : TypeId) (i : TypeInfo) (size : Nat) (ht : P.underlying t = some (.slice e)) (hi : P.info? e = some i)
    (v : Value) (n : Nat) (xs : List Value) (hown : w.ownsRow base e size v n xs) (c : Nat) : (Builtin.append_ #[t, t] ty #[v, .slice none 0 c]).run P w = .ok v w := by
  rcases hown.2 with ⟨rfl, rfl⟩ | ⟨g, cap, cur, rfl, _, _, hnc, _⟩
  · simp [Builtin.append_, run_underlying ht, Go.sizeOf, typeInfo, hi, Builtin.lenOf, Builtin.firstCells]
  · simp [Builtin.append_, run_underlying ht, Go.sizeOf, typeInfo, hi, Builtin.lenOf, Builtin.firstCells, hnc, storeCells]

theorem run_append_sl (base : Nat) (t ty e : TypeId) (i : TypeInfo) (z : Value) (size bytes : Nat) (ht : P.underlying t = some (.slice e)) (hi : P.info? e = some i) (hz : i.zero = some z)
    (hsize : i.size = size) (hby : i.bytes = bytes) (hzs : z.cells.size = size) (hsz : 0 < size)
    (v : Value) (n : Nat) (xs : List Value) (hown : w.ownsRow base e size v n xs) (A : Option Addr) (m c : Nat) (news : List Value) (hr : Sl w size A m news) (h1 : ∀ u ∈ news, u.oneCell' = true)
    (h63 : n + m ≤ maxLen) (hbytes : (n + m) * bytes ≤ 140737488355328) (hbase : base ≤ w.heap.size) :
    ∃ v' w', (Builtin.append_ #[t, t] ty #[v, .slice A m c]).run P w = .ok v' w' ∧ w'.ownsRow base e size v' (n + m) (xs ++ news) ∧ w.grownBy w' v.ownBlock ∧
      (v'.ownBlock = v.ownBlock ∨ v'.ownBlock = some w.heap.size) := by
  by_cases hm : m = 0
  · subst hm
    have hn : news = [] := List.eq_nil_of_length_eq_zero (by simpa using hr.1)
    subst hn
    cases A with
    | none => exact ⟨v, w, run_append_none' w base t ty e i size ht hi v n xs hown c, by simpa using hown, World.grownBy.refl w _, .inl rfl⟩
    | some ad =>
      obtain ⟨v', w', h, h2, h3, _, h5⟩ := run_append_own_at (P := P) w base t ty e i z size bytes ht hi hz hsize hby hzs hsz v n xs hown ad 0 c [] (by simp) (by simp) h1 h63 hbytes hbase
      exact ⟨v', w', h, h2, h3, h5⟩
  · obtain ⟨ad, rfl, _, hc⟩ := hr.2 (by omega)
    obtain ⟨v', w', h, h2, h3, _, h5⟩ := run_append_own_at (P := P) w base t ty e i z size bytes ht hi hz hsize hby hzs hsz v n xs hown ad m c news hr.1 hc h1 h63 hbytes hbase
    exact ⟨v', w', h, h2, h3, h5⟩

theorem wp_append_sl {o : Oper} {a : Act} {K : Act → World → Prop} {Q : Exit → Act → World → Prop} (s x : Operand) (t : TypeId)
    (ho : o.op = .call { callee := .builtin .append, args := #[s, x], argTypes := #[t, t] })
    (base : Nat) (e : TypeId) (i : TypeInfo) (z : Value) (size bytes : Nat) (ht : P.underlying t = some (.slice e)) (hi : P.info? e = some i) (hz : i.zero = some z)
    (hsize : i.size = size) (hby : i.bytes = bytes) (hzs : z.cells.size = size) (hsz : 0 < size)
    (v : Value) (n : Nat) (xs : List Value) (hs : a.eval s = v) (hown : w.ownsRow base e size v n xs) (A : Option Addr) (m c : Nat) (news : List Value) (hx : a.eval x = .slice A m c)
    (hr : Sl w size A m news) (h1 : ∀ u ∈ news, u.oneCell' = true) (h63 : n + m ≤ maxLen) (hbytes : (n + m) * bytes ≤ 140737488355328) (hbase : base ≤ w.heap.size)
    (h : ∀ v' w', w'.ownsRow base e size v' (n + m) (xs ++ news) → w.grownBy w' v.ownBlock → (v'.ownBlock = v.ownBlock ∨ v'.ownBlock = some w.heap.size) → K (a.put o.dst v') w') : o.wp P a w K Q := by
  obtain ⟨v', w', hrun, h2, h3, h4⟩ := run_append_sl (P := P) w base t o.type e i z size bytes ht hi hz hsize hby hzs hsz v n xs hown A m c news hr h1 h63 hbytes hbase
  unfold Oper.wp execOp
  simp only [ho, resolve, invoke, builtin, Sem.run_bind, Sem.run_pure, Result.andThen_ok, List.map_toArray, List.map_cons, List.map_nil, hs, hx, hrun]
  exact h v' w' h2 h3 h4

theorem wpList_append_sl {ops : Array Oper} {rest : List Oper} {o : Oper} {a : Act} {Q : Exit → Act → World → Prop} (hgd : o.guard = none) (s x : Operand) (t : TypeId)
    (ho : o.op = .call { callee := .builtin .append, args := #[s, x], argTypes := #[t, t] })
    (base : Nat) (e : TypeId) (i : TypeInfo) (z : Value) (size bytes : Nat) (ht : P.underlying t = some (.slice e)) (hi : P.info? e = some i) (hz : i.zero = some z)
    (hsize : i.size = size) (hby : i.bytes = bytes) (hzs : z.cells.size = size) (hsz : 0 < size)
    (v : Value) (n : Nat) (xs : List Value) (hs : a.eval s = v) (hown : w.ownsRow base e size v n xs) (A : Option Addr) (m c : Nat) (news : List Value) (hx : a.eval x = .slice A m c)
    (hr : Sl w size A m news) (h1 : ∀ u ∈ news, u.oneCell' = true) (h63 : n + m ≤ maxLen) (hbytes : (n + m) * bytes ≤ 140737488355328) (hbase : base ≤ w.heap.size)
    (h : ∀ v' w', w'.ownsRow base e size v' (n + m) (xs ++ news) → w.grownBy w' v.ownBlock → (v'.ownBlock = v.ownBlock ∨ v'.ownBlock = some w.heap.size) → wpList P ops Q rest (a.put o.dst v') w') : wpList P ops Q (o :: rest) a w :=
  wpList_plain hgd fun _ hK => wp_append_sl w s x t ho base e i z size bytes ht hi hz hsize hby hzs hsz v n xs hs hown A m c news hx hr h1 h63 hbytes hbase fun v' w' h2 h3 h4 => hK _ _ (h v' w' h2 h3 h4)

theorem step_append_sl {ops : Array Oper} {o : Oper} {a : Act} {K : Act → World → Prop} {Q : Exit → Act → World → Prop} {E : Prop} (hgd : o.guard = none) (s x : Operand) (t : TypeId)
    (ho : o.op = .call { callee := .builtin .append, args := #[s, x], argTypes := #[t, t] })
    (base : Nat) (e : TypeId) (i : TypeInfo) (z : Value) (size bytes : Nat) (ht : P.underlying t = some (.slice e)) (hi : P.info? e = some i) (hz : i.zero = some z)
    (hsize : i.size = size) (hby : i.bytes = bytes) (hzs : z.cells.size = size) (hsz : 0 < size)
    (v : Value) (n : Nat) (xs : List Value) (hs : a.eval s = v) (hown : w.ownsRow base e size v n xs) (A : Option Addr) (m c : Nat) (news : List Value) (hx : a.eval x = .slice A m c)
    (hr : Sl w size A m news) (h1 : ∀ u ∈ news, u.oneCell' = true) (h63 : n + m ≤ maxLen) (hbytes : (n + m) * bytes ≤ 140737488355328) (hbase : base ≤ w.heap.size)
    (h : ∀ v' w', w'.ownsRow base e size v' (n + m) (xs ++ news) → w.grownBy w' v.ownBlock → (v'.ownBlock = v.ownBlock ∨ v'.ownBlock = some w.heap.size) → K (a.put o.dst v') w') :
    if Region.wanted o (yielded ops a.tmps) = true then Oper.wp P o a w K Q else E := by
  rw [if_pos (by simp [Region.wanted, hgd])]
  exact wp_append_sl w s x t ho base e i z size bytes ht hi hz hsize hby hzs hsz v n xs hs hown A m c news hx hr h1 h63 hbytes hbase h
end

/-! ### a struct's block of the call's own; a result that lies in one -/
theorem kept_block {w w2 : World} {o : Obj} (hb : Below (w.alloc o).heap.size (w.alloc o) w2) : w2.heap[w.heap.size]? = some o :=
  (hb.block w.heap.size (by simp)).trans (heap_alloc_new w o)
theorem still_block {w w2 : World} {g : Nat} {o : Obj} (h : w.heap[g]? = some o) (hb : Below w.heap.size w w2) : w2.heap[g]? = some o :=
  (hb.block g (Array.getElem?_eq_some_iff.1 h).1).trans h
theorem blk_cell {w : World} {g : Nat} {cs : Array Value} {t : TypeId} (h : w.heap[g]? = some (.cells cs t (0, 0))) (i : Nat) : w.cell? ⟨g, i, none⟩ = cs[i]? := cell_of_row w g i cs t (0, 0) h
theorem blk_free {w : World} {g : Nat} {cs : Array Value} {t : TypeId} (h : w.heap[g]? = some (.cells cs t (0, 0))) (i : Nat) : w.frozen? ⟨g, i, none⟩ = false := frozen_of_row w g i cs t h
theorem blk_set {w : World} {g : Nat} {cs : Array Value} {t : TypeId} (h : w.heap[g]? = some (.cells cs t (0, 0))) (i : Nat) (u : Value) : (w.setCell ⟨g, i, none⟩ u).heap[g]? = some (.cells (cs.setIfInBounds i u) t (0, 0)) :=
  heap_setCell_same w g i cs t u h
theorem results_cell2 {P : Program} {fn : Func} {p u : Tmp} {ty : TypeId} (h : fn.results = #[.cell p ty, .tmp u]) (tmps : Array Value) (w : World) (g : Nat) (t : TypeId) (cs : Array Value) (d : TypeDesc)
    (hp : tmps.getD p undef = .pointer (some ⟨g, 0, none⟩)) (hg : w.heap[g]? = some (.cells cs t (0, 0)))
    (hu : P.underlying ty = some d) (hd : (match d with | .struct _ | .array _ _ => true | _ => false) = true) (hi : (P.info? ty).map (·.size) = some cs.size) :
    (results fn tmps).run P w = .ok (.tuple #[.agg cs, tmps.getD u undef]) w := by
  rw [results_cell_tmp h]
  have hp' : tmps[p]?.getD undef = .pointer (some ⟨g, 0, none⟩) := by simpa using hp
  simp [hp', asAddr, Result.andThen, run_loadVar_row w g t ty cs (0, 0) d hg hu hd hi]

/-- The shape of a value that owns something or nothing: always a slice of that length. -/
theorem own_shape {w : World} {base sz n : Nat} {e : TypeId} {v : Value} {xs : List Value} (h : w.ownsRow base e sz v n xs) : ∃ A c, v = .slice A n c := by
  rcases h.2 with ⟨rfl, rfl⟩ | ⟨g, cap, _, rfl, _⟩
  · exact ⟨none, 0, rfl⟩
  · exact ⟨_, _, rfl⟩

/-- The one element that 'append(l, x)' lays in a block of its own. -/
theorem Sl.lit (w : World) (sz : Nat) (cs : List Value) (t : TypeId) (n : Nat) (h : cs.length = n * sz) : Sl (w.alloc (.cells cs.toArray t)) sz (some ⟨w.heap.size, 0, none⟩) n cs := by
  refine ⟨h, fun _ => ⟨_, rfl, by simp, fun j u hu => ?_⟩⟩
  rw [Addr.add_lit, cell_of_row _ _ _ _ _ (0, 0) (heap_alloc_new w _)]
  simpa using hu
end Wb
