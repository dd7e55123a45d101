/- Kit Mem TrM TrP PaP. -/
import Derived.WalkKit
import Derived.WalkSpells
import Derived.WalkLawsBesides
import Derived.Lib.Hide
import Derived.Laws.BitsAllLaws
import Derived.Below
import Derived.Laws.OwnMore
import Derived.Laws.AppendOwnNone
import Derived.Deep.AppendLies
import Derived.Deep.Draws
import Derived.Maps.OwnSet
import Derived.OwnWalk
import Derived.Laws.ResultCell
import Derived.Laws.Rows
namespace Wb
open Go
theorem ret_b {a b : Bool} (h : a = b) : Ending.returned (.bool a) = Ending.returned (.bool b) := by rw [h]
theorem ret_i {k : IntKind} {a b : Int} (h : a = b) : Ending.returned (.int k a) = Ending.returned (.int k b) := by rw [h]
theorem ret_ii {k k' : IntKind} {a b a' b' : Int} (h : a = b) (h' : a' = b') :
    Ending.returned (.tuple #[.int k a, .int k' a']) = Ending.returned (.tuple #[.int k b, .int k' b']) := by rw [h, h']
theorem or_nat (a b k : Nat) (hb : b < 2 ^ k) : a * 2 ^ k ||| b = a * 2 ^ k + b := by
  have := Nat.shiftLeft_add_eq_or_of_lt hb a
  rw [Nat.shiftLeft_eq] at this
  exact this.symm
theorem ofInt_i32 (a : Nat) (ha : a < 2147483648) : (BitVec.ofInt 32 (a : Int)).toNat = a := by
  rw [BitVec.ofInt_natCast, BitVec.toNat_ofNat]; exact Nat.mod_eq_of_lt (by omega)
theorem i32_or_nat (a b : Nat) (ha : a < 2147483648) (hb : b < 2147483648) : bits .or .i32 (a : Int) (b : Int) = ((a ||| b : Nat) : Int) := by
  have hx : a ||| b < 2 ^ 31 := Nat.or_lt_two_pow (by omega) (by omega)
  show IntKind.i32.wrap ((BitVec.ofInt 32 (a : Int) ||| BitVec.ofInt 32 (b : Int)).toNat : Int) = _
  rw [BitVec.toNat_or, ofInt_i32 a ha, ofInt_i32 b hb]
  simp only [IntKind.wrap, IntKind.bits, IntKind.signed]
  simp
  omega
theorem i32_or64 (a b : Int) (h0 : 0 ≤ a) (h1 : a < 33554432) (h2 : 0 ≤ b) (h3 : b < 64) : bits .or .i32 (a * 64) b = a * 64 + b := by
  obtain ⟨A, rfl⟩ := Int.eq_ofNat_of_zero_le h0
  obtain ⟨B, rfl⟩ := Int.eq_ofNat_of_zero_le h2
  have h := i32_or_nat (A * 2 ^ 6) B (by simp; omega) (by omega)
  rw [or_nat A B 6 (by simp; omega)] at h
  simpa using h
end Wb
namespace Wb
open Go Go.RowKit
theorem add_succ (a : Addr) (n k : Nat) (hk : 0 < k) : a.add (n + k) = ⟨(a.add n).block, (a.add n).off + k, none⟩ := by
  unfold Addr.add
  rw [if_neg (by omega)]
  split
  · subst_vars; simp
  · simp; omega
theorem add_block (a : Addr) (n : Nat) : (a.add n).block = a.block := by unfold Addr.add; split <;> rfl
theorem of_drew {w w' : World} (h : Below w.drew.heap.size w.drew w') : Below w.heap.size w w' := (Below.refl w.heap.size w).drew.trans h
def Sl (w : World) (sz : Nat) (A : Option Addr) (n : Nat) (xs : List Value) : Prop :=
  xs.length = n * sz ∧ (0 < n → ∃ ad, A = some ad ∧ ad.block < w.heap.size ∧ ∀ j u, xs[j]? = some u → w.cell? (ad.add j) = some u)
theorem Sl.nil (w : World) (sz : Nat) (A : Option Addr) : Sl w sz A 0 [] := ⟨by simp, fun h => absurd h (by omega)⟩
theorem Sl.keep {w w' : World} {sz n : Nat} {A : Option Addr} {xs : List Value} (h : Sl w sz A n xs) (hs : w.heap.size ≤ w'.heap.size)
    (hc : ∀ p : Addr, p.block < w.heap.size → w'.cell? p = w.cell? p) : Sl w' sz A n xs := by
  refine ⟨h.1, fun hn => ?_⟩
  obtain ⟨ad, e, hb, hcell⟩ := h.2 hn
  exact ⟨ad, e, by omega, fun j u hu => (hc _ (by rw [add_block]; exact hb)).trans (hcell j u hu)⟩
theorem Sl.below {w w' : World} {sz n : Nat} {A : Option Addr} {xs : List Value} (h : Sl w sz A n xs) (hb : Below w.heap.size w w') : Sl w' sz A n xs :=
  h.keep hb.size fun _ hp => hb.cell hp
theorem Sl.alloc {w : World} {sz n : Nat} {A : Option Addr} {xs : List Value} (h : Sl w sz A n xs) (o : Obj) : Sl (w.alloc o) sz A n xs :=
  h.below ((Below.refl _ _).alloc (Nat.le_refl _) o)
theorem Sl.drew {w : World} {sz n : Nat} {A : Option Addr} {xs : List Value} (h : Sl w sz A n xs) : Sl w.drew sz A n xs := h
theorem Sl.of_own {w : World} {base sz n c : Nat} {e : TypeId} {A : Option Addr} {xs : List Value} (h : w.ownsRow base e sz (.slice A n c) n xs) : Sl w sz A n xs := by
  refine ⟨h.1, fun hn => ?_⟩
  obtain ⟨g, cap, hv, _, hlt⟩ := h.form hn
  have hA : A = some ⟨g, 0, none⟩ := by injection hv
  subst hA
  exact ⟨_, rfl, hlt, h.cells (g := g) rfl⟩
abbrev Pr := ByteArray × ByteArray
abbrev Tr := Pr × ByteArray
def cells3 (l : List Tr) : List Value := l.flatMap fun p => [.string p.1.1, .string p.1.2, .string p.2]
theorem cells3_nil : cells3 [] = [] := rfl
theorem cells3_cons (p : Tr) (l : List Tr) : cells3 (p :: l) = .string p.1.1 :: .string p.1.2 :: .string p.2 :: cells3 l := rfl
theorem cells3_length (l : List Tr) : (cells3 l).length = l.length * 3 := by
  induction l with
  | nil => rfl
  | cons p l ih => rw [cells3_cons]; simp [ih]; omega
theorem cells3_at : ∀ (l : List Tr) (k : Nat) (x : Tr), l[k]? = some x → (cells3 l)[k * 3]? = some (.string x.1.1) ∧ (cells3 l)[k * 3 + 1]? = some (.string x.1.2) ∧ (cells3 l)[k * 3 + 2]? = some (.string x.2)
  | [], k, x, h => by simp at h
  | p :: l, 0, x, h => by simp at h; subst h; simp [cells3_cons]
  | p :: l, k + 1, x, h => by
    have := cells3_at l k x (by simpa using h)
    rw [cells3_cons, show (k + 1) * 3 = k * 3 + 1 + 1 + 1 from by omega]
    simpa using this
theorem cells3_one (l : List Tr) : ∀ u ∈ cells3 l, u.oneCell' = true := by
  intro u hu
  simp only [cells3, List.mem_flatMap] at hu
  obtain ⟨p, _, hp⟩ := hu
  simp at hp
  rcases hp with rfl | rfl | rfl <;> rfl
def Sl3 (w : World) (A : Option Addr) (l : List Tr) : Prop := Sl w 3 A l.length (cells3 l)
theorem Sl3.nil (w : World) (A : Option Addr) : Sl3 w A [] := Sl.nil w 3 A
theorem Sl3.below {w w' : World} {A : Option Addr} {l : List Tr} (h : Sl3 w A l) (hb : Below w.heap.size w w') : Sl3 w' A l := Sl.below h hb
theorem Sl3.at_ {w : World} {A : Option Addr} {l : List Tr} (h : Sl3 w A l) {k : Nat} {x : Tr} (hx : l[k]? = some x) :
    ∃ ad, A = some ad ∧ ad.block < w.heap.size ∧ w.cell? (ad.add (k * 3)) = some (.string x.1.1) ∧ w.cell? ⟨(ad.add (k * 3)).block, (ad.add (k * 3)).off + 1, none⟩ = some (.string x.1.2) ∧
      w.cell? ⟨(ad.add (k * 3)).block, (ad.add (k * 3)).off + 2, none⟩ = some (.string x.2) := by
  have hk : k < l.length := (List.getElem?_eq_some_iff.1 hx).1
  obtain ⟨ad, e, hb, hc⟩ := h.2 (by omega)
  obtain ⟨h1, h2, h3⟩ := cells3_at l k x hx
  refine ⟨ad, e, hb, hc _ _ h1, ?_, ?_⟩
  · rw [← hc _ _ h2, add_succ _ _ 1 (by omega)]
  · rw [← hc _ _ h3, add_succ _ _ 2 (by omega)]
theorem Sl3.of_own {w : World} {base c : Nat} {e : TypeId} {A : Option Addr} {l : List Tr} (h : w.ownsRow base e 3 (.slice A l.length c) l.length (cells3 l)) : Sl3 w A l := Sl.of_own h
section
variable {P : Program} (w : World)
theorem run_append_none' (base : Nat) (t ty e : TypeId) (i : TypeInfo) (size : Nat) (ht : P.underlying t = some (.slice e)) (hi : P.info? e = some i)
    (v : Value) (n : Nat) (xs : List Value) (hown : w.ownsRow base e size v n xs) (c : Nat) : (Builtin.append_ #[t, t] ty #[v, .slice none 0 c]).run P w = .ok v w := by
  rcases hown.2 with ⟨rfl, rfl⟩ | ⟨g, cap, cur, rfl, _, _, hnc, _⟩
  · simp [Builtin.append_, run_underlying ht, Go.sizeOf, typeInfo, hi, Builtin.lenOf, Builtin.firstCells]
  · simp [Builtin.append_, run_underlying ht, Go.sizeOf, typeInfo, hi, Builtin.lenOf, Builtin.firstCells, hnc, storeCells]
theorem run_append_sl (base : Nat) (t ty e : TypeId) (i : TypeInfo) (z : Value) (size bytes : Nat) (ht : P.underlying t = some (.slice e)) (hi : P.info? e = some i) (hz : i.zero = some z)
    (hsize : i.size = size) (hby : i.bytes = bytes) (hzs : z.cells.size = size) (hsz : 0 < size)
    (v : Value) (n : Nat) (xs : List Value) (hown : w.ownsRow base e size v n xs) (A : Option Addr) (m c : Nat) (news : List Value) (hr : Sl w size A m news) (h1 : ∀ u ∈ news, u.oneCell' = true)
    (h63 : n + m ≤ maxLen) (hbytes : (n + m) * bytes ≤ 140737488355328) (hbase : base ≤ w.heap.size) :
    ∃ v' w', (Builtin.append_ #[t, t] ty #[v, .slice A m c]).run P w = .ok v' w' ∧ w'.ownsRow base e size v' (n + m) (xs ++ news) ∧ w.grownBy w' v.ownBlock ∧
      (v'.ownBlock = v.ownBlock ∨ v'.ownBlock = some w.heap.size) := by
  by_cases hm : m = 0
  · subst hm
    have hn : news = [] := List.eq_nil_of_length_eq_zero (by simpa using hr.1)
    subst hn
    cases A with
    | none => exact ⟨v, w, run_append_none' w base t ty e i size ht hi v n xs hown c, by simpa using hown, World.grownBy.refl w _, .inl rfl⟩
    | some ad =>
      obtain ⟨v', w', h, h2, h3, _, h5⟩ := run_append_own_at (P := P) w base t ty e i z size bytes ht hi hz hsize hby hzs hsz v n xs hown ad 0 c [] (by simp) (by simp) h1 h63 hbytes hbase
      exact ⟨v', w', h, h2, h3, h5⟩
  · obtain ⟨ad, rfl, _, hc⟩ := hr.2 (by omega)
    obtain ⟨v', w', h, h2, h3, _, h5⟩ := run_append_own_at (P := P) w base t ty e i z size bytes ht hi hz hsize hby hzs hsz v n xs hown ad m c news hr.1 hc h1 h63 hbytes hbase
    exact ⟨v', w', h, h2, h3, h5⟩
theorem wp_append_sl {o : Oper} {a : Act} {K : Act → World → Prop} {Q : Exit → Act → World → Prop} (s x : Operand) (t : TypeId)
    (ho : o.op = .call { callee := .builtin .append, args := #[s, x], argTypes := #[t, t] })
    (base : Nat) (e : TypeId) (i : TypeInfo) (z : Value) (size bytes : Nat) (ht : P.underlying t = some (.slice e)) (hi : P.info? e = some i) (hz : i.zero = some z)
    (hsize : i.size = size) (hby : i.bytes = bytes) (hzs : z.cells.size = size) (hsz : 0 < size)
    (v : Value) (n : Nat) (xs : List Value) (hs : a.eval s = v) (hown : w.ownsRow base e size v n xs) (A : Option Addr) (m c : Nat) (news : List Value) (hx : a.eval x = .slice A m c)
    (hr : Sl w size A m news) (h1 : ∀ u ∈ news, u.oneCell' = true) (h63 : n + m ≤ maxLen) (hbytes : (n + m) * bytes ≤ 140737488355328) (hbase : base ≤ w.heap.size)
    (h : ∀ v' w', w'.ownsRow base e size v' (n + m) (xs ++ news) → w.grownBy w' v.ownBlock → (v'.ownBlock = v.ownBlock ∨ v'.ownBlock = some w.heap.size) → K (a.put o.dst v') w') : o.wp P a w K Q := by
  obtain ⟨v', w', hrun, h2, h3, h4⟩ := run_append_sl (P := P) w base t o.type e i z size bytes ht hi hz hsize hby hzs hsz v n xs hown A m c news hr h1 h63 hbytes hbase
  unfold Oper.wp execOp
  simp only [ho, resolve, invoke, builtin, Sem.run_bind, Sem.run_pure, Result.andThen_ok, List.map_toArray, List.map_cons, List.map_nil, hs, hx, hrun]
  exact h v' w' h2 h3 h4
theorem wpList_append_sl {ops : Array Oper} {rest : List Oper} {o : Oper} {a : Act} {Q : Exit → Act → World → Prop} (hgd : o.guard = none) (s x : Operand) (t : TypeId)
    (ho : o.op = .call { callee := .builtin .append, args := #[s, x], argTypes := #[t, t] })
    (base : Nat) (e : TypeId) (i : TypeInfo) (z : Value) (size bytes : Nat) (ht : P.underlying t = some (.slice e)) (hi : P.info? e = some i) (hz : i.zero = some z)
    (hsize : i.size = size) (hby : i.bytes = bytes) (hzs : z.cells.size = size) (hsz : 0 < size)
    (v : Value) (n : Nat) (xs : List Value) (hs : a.eval s = v) (hown : w.ownsRow base e size v n xs) (A : Option Addr) (m c : Nat) (news : List Value) (hx : a.eval x = .slice A m c)
    (hr : Sl w size A m news) (h1 : ∀ u ∈ news, u.oneCell' = true) (h63 : n + m ≤ maxLen) (hbytes : (n + m) * bytes ≤ 140737488355328) (hbase : base ≤ w.heap.size)
    (h : ∀ v' w', w'.ownsRow base e size v' (n + m) (xs ++ news) → w.grownBy w' v.ownBlock → (v'.ownBlock = v.ownBlock ∨ v'.ownBlock = some w.heap.size) → wpList P ops Q rest (a.put o.dst v') w') : wpList P ops Q (o :: rest) a w :=
  wpList_plain hgd fun _ hK => wp_append_sl w s x t ho base e i z size bytes ht hi hz hsize hby hzs hsz v n xs hs hown A m c news hx hr h1 h63 hbytes hbase fun v' w' h2 h3 h4 => hK _ _ (h v' w' h2 h3 h4)
theorem step_append_sl {ops : Array Oper} {o : Oper} {a : Act} {K : Act → World → Prop} {Q : Exit → Act → World → Prop} {E : Prop} (hgd : o.guard = none) (s x : Operand) (t : TypeId)
    (ho : o.op = .call { callee := .builtin .append, args := #[s, x], argTypes := #[t, t] })
    (base : Nat) (e : TypeId) (i : TypeInfo) (z : Value) (size bytes : Nat) (ht : P.underlying t = some (.slice e)) (hi : P.info? e = some i) (hz : i.zero = some z)
    (hsize : i.size = size) (hby : i.bytes = bytes) (hzs : z.cells.size = size) (hsz : 0 < size)
    (v : Value) (n : Nat) (xs : List Value) (hs : a.eval s = v) (hown : w.ownsRow base e size v n xs) (A : Option Addr) (m c : Nat) (news : List Value) (hx : a.eval x = .slice A m c)
    (hr : Sl w size A m news) (h1 : ∀ u ∈ news, u.oneCell' = true) (h63 : n + m ≤ maxLen) (hbytes : (n + m) * bytes ≤ 140737488355328) (hbase : base ≤ w.heap.size)
    (h : ∀ v' w', w'.ownsRow base e size v' (n + m) (xs ++ news) → w.grownBy w' v.ownBlock → (v'.ownBlock = v.ownBlock ∨ v'.ownBlock = some w.heap.size) → K (a.put o.dst v') w') :
    if Region.wanted o (yielded ops a.tmps) = true then Oper.wp P o a w K Q else E := by
  rw [if_pos (by simp [Region.wanted, hgd])]
  exact wp_append_sl w s x t ho base e i z size bytes ht hi hz hsize hby hzs hsz v n xs hs hown A m c news hx hr h1 h63 hbytes hbase h
end
theorem still_block {w w2 : World} {g : Nat} {o : Obj} (h : w.heap[g]? = some o) (hb : Below w.heap.size w w2) : w2.heap[g]? = some o :=
  (hb.block g (Array.getElem?_eq_some_iff.1 h).1).trans h
theorem blk_cell {w : World} {g : Nat} {cs : Array Value} {t : TypeId} (h : w.heap[g]? = some (.cells cs t (0, 0))) (i : Nat) : w.cell? ⟨g, i, none⟩ = cs[i]? := cell_of_row w g i cs t (0, 0) h
theorem blk_free {w : World} {g : Nat} {cs : Array Value} {t : TypeId} (h : w.heap[g]? = some (.cells cs t (0, 0))) (i : Nat) : w.frozen? ⟨g, i, none⟩ = false := frozen_of_row w g i cs t h
theorem blk_set {w : World} {g : Nat} {cs : Array Value} {t : TypeId} (h : w.heap[g]? = some (.cells cs t (0, 0))) (i : Nat) (u : Value) : (w.setCell ⟨g, i, none⟩ u).heap[g]? = some (.cells (cs.setIfInBounds i u) t (0, 0)) :=
  heap_setCell_same w g i cs t u h
theorem results_cell2 {P : Program} {fn : Func} {p u : Tmp} {ty : TypeId} (h : fn.results = #[.cell p ty, .tmp u]) (tmps : Array Value) (w : World) (g : Nat) (t : TypeId) (cs : Array Value) (d : TypeDesc)
    (hp : tmps.getD p undef = .pointer (some ⟨g, 0, none⟩)) (hg : w.heap[g]? = some (.cells cs t (0, 0)))
    (hu : P.underlying ty = some d) (hd : (match d with | .struct _ | .array _ _ => true | _ => false) = true) (hi : (P.info? ty).map (·.size) = some cs.size) :
    (results fn tmps).run P w = .ok (.tuple #[.agg cs, tmps.getD u undef]) w := by
  rw [results_cell_tmp h]
  have hp' : tmps[p]?.getD undef = .pointer (some ⟨g, 0, none⟩) := by simpa using hp
  simp [hp', asAddr, Result.andThen, run_loadVar_row w g t ty cs (0, 0) d hg hu hd hi]
theorem own_shape {w : World} {base sz n : Nat} {e : TypeId} {v : Value} {xs : List Value} (h : w.ownsRow base e sz v n xs) : ∃ A c, v = .slice A n c := by
  rcases h.2 with ⟨rfl, rfl⟩ | ⟨g, cap, _, rfl, _⟩
  · exact ⟨none, 0, rfl⟩
  · exact ⟨_, _, rfl⟩
theorem Sl.lit (w : World) (sz : Nat) (cs : List Value) (t : TypeId) (n : Nat) (h : cs.length = n * sz) : Sl (w.alloc (.cells cs.toArray t)) sz (some ⟨w.heap.size, 0, none⟩) n cs := by
  refine ⟨h, fun _ => ⟨_, rfl, by simp, fun j u hu => ?_⟩⟩
  rw [Addr.add_lit, cell_of_row _ _ _ _ _ (0, 0) (heap_alloc_new w _)]
  simpa using hu
end Wb
namespace Wb
open Go Go.RowKit
inductive Nd where
  | mk (kind : Int) (name : Pr) (attrs : List Tr) (kids : List Nd) (text : ByteArray)
namespace Nd
def kind : Nd → Int | mk k _ _ _ _ => k
def name : Nd → Pr | mk _ n _ _ _ => n
def attrs : Nd → List Tr | mk _ _ a _ _ => a
def kids : Nd → List Nd | mk _ _ _ k _ => k
def text : Nd → ByteArray | mk _ _ _ _ t => t
end Nd
theorem Nd.induct {P : Nd → Prop} (h : ∀ n : Nd, (∀ k ∈ n.kids, P k) → P n) (n : Nd) : P n :=
  Nd.rec (motive_1 := P) (motive_2 := fun ks => ∀ k ∈ ks, P k) (fun kind name attrs kids text ih => h (.mk kind name attrs kids text) ih)
    (fun k hk => by cases hk) (fun n ns h1 h2 k hk => by rcases List.mem_cons.1 hk with rfl | hk; · exact h1
                                                         · exact h2 k hk) n
def ndCells (k : Int) (n : Pr) (A : Option Addr) (la ca : Nat) (K : Option Addr) (lk ck : Nat) (t : ByteArray) : List Value :=
  [.int .i64 k, .string n.1, .string n.2, .slice A la ca, .slice K lk ck, .string t]
mutual
/-- These cells hold a node, with all that is in it. -/
def nodeC (w : World) : Nd → List Value → Prop
  | .mk k n asz ks t, cs => ∃ A ca K ck, cs = ndCells k n A asz.length ca K ks.length ck t ∧ Sl3 w A asz ∧ (ks = [] ∨ ∃ ad, K = some ad ∧ ad.block < w.heap.size ∧ kidsC w ad 0 ks)
/-- From the i-th place of a row of nodes on. -/
def kidsC (w : World) (ad : Addr) : Nat → List Nd → Prop
  | _, [] => True
  | i, n :: ns => (∃ cs, (∀ j u, cs[j]? = some u → w.cell? (ad.add (i * 6 + j)) = some u) ∧ nodeC w n cs) ∧ kidsC w ad (i + 1) ns
end
theorem nodeC_iff (w : World) (n : Nd) (cs : List Value) : nodeC w n cs ↔ ∃ A ca K ck, cs = ndCells n.kind n.name A n.attrs.length ca K n.kids.length ck n.text ∧ Sl3 w A n.attrs ∧ (n.kids = [] ∨ ∃ ad, K = some ad ∧ ad.block < w.heap.size ∧ kidsC w ad 0 n.kids) := by
  cases n with
  | mk k n asz ks t => simp only [nodeC, Nd.kind, Nd.name, Nd.attrs, Nd.kids, Nd.text]
theorem nodeC_len {w : World} {n : Nd} {cs : List Value} (h : nodeC w n cs) : cs.length = 6 := by
  obtain ⟨A, ca, K, ck, rfl, _⟩ := (nodeC_iff w n cs).1 h
  rfl
theorem kidsC_iff (w : World) (ad : Addr) : ∀ (ks : List Nd) (i : Nat), kidsC w ad i ks ↔ ∀ (k : Nat) (n : Nd), ks[k]? = some n → ∃ cs, (∀ j u, cs[j]? = some u → w.cell? (ad.add ((i + k) * 6 + j)) = some u) ∧ nodeC w n cs
  | [], i => by simp [kidsC]
  | n :: ns, i => by
    simp only [kidsC]
    rw [kidsC_iff w ad ns (i + 1)]
    constructor
    · rintro ⟨h1, h2⟩ k m hk
      cases k with
      | zero =>
        simp only [List.getElem?_cons_zero, Option.some.injEq] at hk
        subst hk
        exact h1
      | succ k =>
        have := h2 k m (by simpa using hk)
        rwa [show i + 1 + k = i + (k + 1) from by omega] at this
    · intro h
      refine ⟨h 0 n rfl, fun k m hk => ?_⟩
      have := h (k + 1) m (by simpa using hk)
      rwa [show i + (k + 1) = i + 1 + k from by omega] at this
theorem nodeC_keep {w w' : World} (hs : w.heap.size ≤ w'.heap.size) (hc : ∀ p : Addr, p.block < w.heap.size → w'.cell? p = w.cell? p) : ∀ (n : Nd) (cs : List Value), nodeC w n cs → nodeC w' n cs := by
  intro n
  induction n using Nd.induct with
  | h n ih =>
    intro cs h
    obtain ⟨A, ca, K, ck, e, h1, h2⟩ := (nodeC_iff w n cs).1 h
    refine (nodeC_iff w' n cs).2 ⟨A, ca, K, ck, e, h1.keep hs hc, ?_⟩
    rcases h2 with h2 | ⟨ad, rfl, hb, hk⟩
    · exact .inl h2
    · refine .inr ⟨ad, rfl, by omega, (kidsC_iff w' ad _ 0).2 fun k m hm => ?_⟩
      obtain ⟨cs', h3, h4⟩ := (kidsC_iff w ad _ 0).1 hk k m hm
      exact ⟨cs', fun j u hu => (hc _ (by rw [add_block]; exact hb)).trans (h3 j u hu), ih m (List.mem_of_getElem? hm) cs' h4⟩
theorem nodeC_below {w w' : World} {n : Nd} {cs : List Value} (h : nodeC w n cs) (hb : Below w.heap.size w w') : nodeC w' n cs :=
  nodeC_keep hb.size (fun _ hp => hb.cell hp) n cs h
def SlN (w : World) (K : Option Addr) (ks : List Nd) : Prop := ks = [] ∨ ∃ ad, K = some ad ∧ ad.block < w.heap.size ∧ kidsC w ad 0 ks
theorem SlN.below {w w' : World} {K : Option Addr} {ks : List Nd} (h : SlN w K ks) (hb : Below w.heap.size w w') : SlN w' K ks := by
  rcases h with h | ⟨ad, rfl, h1, h2⟩
  · exact .inl h
  · refine .inr ⟨ad, rfl, Nat.lt_of_lt_of_le h1 hb.size, (kidsC_iff w' ad _ 0).2 fun k m hm => ?_⟩
    obtain ⟨cs', h3, h4⟩ := (kidsC_iff w ad _ 0).1 h2 k m hm
    exact ⟨cs', fun j u hu => (hb.cell (by rw [add_block]; exact h1)).trans (h3 j u hu), nodeC_below h4 hb⟩
theorem SlN.at_ {w : World} {K : Option Addr} {ks : List Nd} (h : SlN w K ks) {k : Nat} {n : Nd} (hk : ks[k]? = some n) :
    ∃ ad A ca Q cq, K = some ad ∧ ad.block < w.heap.size ∧ w.cell? (ad.add (k * 6)) = some (.int .i64 n.kind) ∧ w.cell? ⟨(ad.add (k * 6)).block, (ad.add (k * 6)).off + 1, none⟩ = some (.string n.name.1) ∧
      w.cell? ⟨(ad.add (k * 6)).block, (ad.add (k * 6)).off + 2, none⟩ = some (.string n.name.2) ∧ w.cell? ⟨(ad.add (k * 6)).block, (ad.add (k * 6)).off + 3, none⟩ = some (.slice A n.attrs.length ca) ∧
      w.cell? ⟨(ad.add (k * 6)).block, (ad.add (k * 6)).off + 4, none⟩ = some (.slice Q n.kids.length cq) ∧ w.cell? ⟨(ad.add (k * 6)).block, (ad.add (k * 6)).off + 5, none⟩ = some (.string n.text) ∧ Sl3 w A n.attrs ∧ SlN w Q n.kids := by
  rcases h with h | ⟨ad, rfl, h1, h2⟩
  · subst h; cases hk
  · obtain ⟨cs, h3, h4⟩ := (kidsC_iff w ad _ 0).1 h2 k n hk
    rw [Nat.zero_add] at h3
    obtain ⟨A, ca, Q, cq, rfl, h5, h6⟩ := (nodeC_iff w n cs).1 h4
    refine ⟨ad, A, ca, Q, cq, rfl, h1, h3 0 _ rfl, ?_, ?_, ?_, ?_, ?_, h5, h6⟩
    · rw [← add_succ _ _ 1 (by omega)]; exact h3 1 _ rfl
    · rw [← add_succ _ _ 2 (by omega)]; exact h3 2 _ rfl
    · rw [← add_succ _ _ 3 (by omega)]; exact h3 3 _ rfl
    · rw [← add_succ _ _ 4 (by omega)]; exact h3 4 _ rfl
    · rw [← add_succ _ _ 5 (by omega)]; exact h3 5 _ rfl
def NodeV (w : World) (n : Nd) (A : Option Addr) (K : Option Addr) : Prop := Sl3 w A n.attrs ∧ SlN w K n.kids
def ndV (n : Nd) (A : Option Addr) (ca : Nat) (K : Option Addr) (ck : Nat) : Value := .agg (ndCells n.kind n.name A n.attrs.length ca K n.kids.length ck n.text).toArray
theorem NodeV.below {w w' : World} {n : Nd} {A K : Option Addr} (h : NodeV w n A K) (hb : Below w.heap.size w w') : NodeV w' n A K := ⟨h.1.below hb, h.2.below hb⟩
theorem nodeC_V (w : World) (n : Nd) (cs : List Value) : nodeC w n cs ↔ ∃ A ca K ck, cs = ndCells n.kind n.name A n.attrs.length ca K n.kids.length ck n.text ∧ NodeV w n A K := nodeC_iff w n cs
end Wb
namespace Wb
def attrS (t : Tr) : Nat := t.1.1.size + t.1.2.size + t.2.size
def attrsS (l : List Tr) : Nat := (l.map attrS).sum
def attrW (m : Nat) (t : Tr) : Nat := min t.1.1.size m + min t.1.2.size m + min t.2.size m
def weighAs (m : Nat) : Nat → List Tr → Nat
  | w, [] => w
  | w, a :: asz => if w ≤ m then weighAs m (w + attrW m a) asz else w
def headW (m : Nat) (n : Nd) : Nat := 1 + min n.text.size m + min n.name.1.size m + min n.name.2.size m + min n.attrs.length m
mutual
/-- How much a tree is, asz far asz a number. -/
def weighN : Nd → Nat → Nat
  | .mk _ n asz ks t, m => weighKs ks m (weighAs m (1 + min t.size m + min n.1.size m + min n.2.size m + min asz.length m) asz)
def weighKs : List Nd → Nat → Nat → Nat
  | [], _, w => w
  | k :: ks, m, w => if w ≤ m then weighKs ks m (w + weighN k (m - w)) else w
end
theorem weighN_is (n : Nd) (m : Nat) : weighN n m = weighKs n.kids m (weighAs m (headW m n) n.attrs) := by
  cases n; rfl
theorem weighAs_le (m : Nat) : ∀ (asz : List Tr) (w : Nat), w ≤ weighAs m w asz ∧ (w ≤ 4 * m + 1 → weighAs m w asz ≤ 4 * m + 1)
  | [], w => by simp [weighAs]
  | a :: asz, w => by
    unfold weighAs
    by_cases h : w ≤ m
    · rw [if_pos h]
      have ha : attrW m a ≤ 3 * m := by unfold attrW; omega
      obtain ⟨h1, h2⟩ := weighAs_le m asz (w + attrW m a)
      exact ⟨by omega, fun _ => h2 (by omega)⟩
    · rw [if_neg h]
      exact ⟨Nat.le_refl _, fun h => h⟩
theorem headW_le (m : Nat) (n : Nd) : headW m n ≤ 4 * m + 1 := by unfold headW; omega
theorem weighKs_ge : ∀ (ks : List Nd) (m w : Nat), w ≤ weighKs ks m w
  | [], m, w => by simp [weighKs]
  | k :: ks, m, w => by
    unfold weighKs
    split
    · have := weighKs_ge ks m (w + weighN k (m - w)); omega
    · exact Nat.le_refl _
theorem weigh_bound (n : Nd) : ∀ m, weighN n m ≤ 5 * m + 1 := by
  induction n using Nd.induct with
  | h n ih =>
    intro m
    have ks : ∀ (ks : List Nd), (∀ k ∈ ks, ∀ m, weighN k m ≤ 5 * m + 1) → ∀ w, w ≤ 5 * m + 1 → weighKs ks m w ≤ 5 * m + 1 := by
      intro ks
      induction ks with
      | nil => intro _ w hw; simpa [weighKs] using hw
      | cons k ks ihk =>
        intro hk w hw
        unfold weighKs
        split
        · have := hk k (by simp) (m - w)
          exact ihk (fun x hx => hk x (by simp [hx])) _ (by omega)
        · exact hw
    rw [weighN_is]
    have h1 := headW_le m n
    have h2 := (weighAs_le m n.attrs (headW m n)).2 h1
    exact ks _ ih _ (by omega)
def ownB (n : Nd) : Nat := if n.kind = 1 then n.name.1.size + n.name.2.size + attrsS n.attrs else n.text.size
mutual
def costN : Nd → Nat
  | .mk _ _ _ ks _ => 1 + costNs ks
def costNs : List Nd → Nat
  | [] => 0
  | k :: ks => costN k + costNs ks
end
mutual
def costB : Nd → Nat
  | .mk k n asz ks t => ownB (.mk k n asz [] t) + costBs ks
def costBs : List Nd → Nat
  | [] => 0
  | k :: ks => costB k + costBs ks
end
theorem costN_is (n : Nd) : costN n = 1 + costNs n.kids := by cases n; rfl
theorem costB_is (n : Nd) : costB n = ownB n + costBs n.kids := by cases n; rfl
theorem costN_pos (n : Nd) : 1 ≤ costN n := by rw [costN_is]; omega
theorem attrs_few {m : Nat} : ∀ (asz : List Tr) (w : Nat), 1 ≤ w → weighAs m w asz ≤ m → w + attrsS asz ≤ weighAs m w asz
  | [], w, _, h => by simp [weighAs, attrsS]
  | a :: asz, w, h0, h => by
    unfold weighAs at h ⊢
    by_cases hw : w ≤ m
    · rw [if_pos hw] at h ⊢
      have h1 := (weighAs_le m asz (w + attrW m a)).1
      have h2 := attrs_few asz _ (by omega) h
      have h3 : attrW m a < m := by omega
      have h4 : attrS a ≤ attrW m a := by
        have : min a.1.1.size m + min a.1.2.size m + min a.2.size m < m := h3
        show a.1.1.size + a.1.2.size + a.2.size ≤ min a.1.1.size m + min a.1.2.size m + min a.2.size m
        omega
      have e : attrsS (a :: asz) = attrS a + attrsS asz := by simp [attrsS]
      omega
    · rw [if_neg hw] at h
      omega
theorem few_cost (n : Nd) : ∀ m, weighN n m ≤ m → costN n + costB n + n.kids.length ≤ 2 * weighN n m ∧ costN n + costB n ≤ weighN n m ∧ n.attrs.length ≤ m ∧ n.kids.length ≤ m := by
  induction n using Nd.induct with
  | h n ih =>
    intro m hm
    rw [weighN_is] at hm ⊢
    have key : ∀ (ks : List Nd), (∀ k ∈ ks, ∀ m, weighN k m ≤ m → costN k + costB k ≤ weighN k m) → ∀ w, weighKs ks m w ≤ m → w + costNs ks + costBs ks ≤ weighKs ks m w ∧ ks.length ≤ costNs ks := by
      intro ks
      induction ks with
      | nil => intro _ w _; simp [weighKs, costNs, costBs]
      | cons k ks ihk =>
        intro hk w h
        unfold weighKs at h ⊢
        by_cases hw : w ≤ m
        · rw [if_pos hw] at h ⊢
          have h1 := weighKs_ge ks m (w + weighN k (m - w))
          have h2 := hk k (by simp) (m - w) (by omega)
          obtain ⟨h3, h4⟩ := ihk (fun x hx => hk x (by simp [hx])) _ h
          have h5 := costN_pos k
          simp only [costNs, costBs, List.length_cons]
          omega
        · rw [if_neg hw] at h
          omega
    obtain ⟨h1, h2⟩ := key n.kids (fun k hk m h => (ih k hk m h).2.1) _ hm
    have h3 := weighKs_ge n.kids m (weighAs m (headW m n) n.attrs)
    have h4 := attrs_few (m := m) n.attrs (headW m n) (by unfold headW; omega) (by omega)
    have h5 : headW m n ≤ m := by omega
    have h6 : 1 + n.text.size + n.name.1.size + n.name.2.size + n.attrs.length ≤ headW m n := by unfold headW at h5 ⊢; omega
    have h7 : ownB n ≤ n.text.size + n.name.1.size + n.name.2.size + attrsS n.attrs := by unfold ownB; split <;> omega
    rw [costN_is, costB_is]
    omega
theorem costs_app (a b : List Nd) : costNs (a ++ b) = costNs a + costNs b ∧ costBs (a ++ b) = costBs a + costBs b := by
  induction a with
  | nil => simp [costNs, costBs]
  | cons k a ih =>
    rw [List.cons_append]
    simp only [costNs, costBs]
    omega
mutual
/-- No row in it is longer than so many. -/
def lenN (B : Nat) : Nd → Prop
  | .mk _ _ asz ks _ => asz.length ≤ B ∧ ks.length ≤ B ∧ lenKs B ks
def lenKs (B : Nat) : List Nd → Prop
  | [] => True
  | k :: ks => lenN B k ∧ lenKs B ks
end
abbrev smallN (n : Nd) : Prop := lenN 1000000 n
theorem lenN_is (B : Nat) (n : Nd) : lenN B n ↔ n.attrs.length ≤ B ∧ n.kids.length ≤ B ∧ ∀ k ∈ n.kids, lenN B k := by
  have key : ∀ ks : List Nd, lenKs B ks ↔ ∀ k ∈ ks, lenN B k := by
    intro ks
    induction ks with
    | nil => simp [lenKs]
    | cons k ks ih => simp [lenKs, ih]
  cases n with
  | mk k nm asz ks t =>
    simp only [lenN, Nd.attrs, Nd.kids]
    rw [key]
theorem smallN_is (n : Nd) : smallN n ↔ n.attrs.length ≤ 1000000 ∧ n.kids.length ≤ 1000000 ∧ ∀ k ∈ n.kids, smallN k := lenN_is 1000000 n
end Wb
namespace Wb
def Nd.withKids (n : Nd) (ks : List Nd) : Nd := .mk n.kind n.name n.attrs ks n.text
theorem Nd.kids_with (n : Nd) (ks : List Nd) : (n.withKids ks).kids = ks := rfl
theorem Nd.eta (n : Nd) : Nd.mk n.kind n.name n.attrs n.kids n.text = n := by cases n; rfl
def atP : Nd → List Int → Option Nd
  | n, [] => some n
  | n, p :: ps => if p < 0 then none else match n.kids[p.toNat]? with
    | some k => atP k ps
    | none => none
theorem atP_cons (n : Nd) (p : Int) (ps : List Int) : atP n (p :: ps) = if p < 0 then none else match n.kids[p.toNat]? with | some k => atP k ps | none => none := rfl
def chP (f : Nd → Option Nd) : Nd → List Int → Option Nd
  | n, [] => if n.kind = 1 then f n else none
  | n, p :: ps => if p < 0 then none else match n.kids[p.toNat]? with
    | some k => (chP f k ps).map fun k' => n.withKids (n.kids.set p.toNat k')
    | none => none
theorem chP_cons (f : Nd → Option Nd) (n : Nd) (p : Int) (ps : List Int) : chP f n (p :: ps) = if p < 0 then none else match n.kids[p.toNat]? with | some k => (chP f k ps).map fun k' => n.withKids (n.kids.set p.toNat k') | none => none := rfl
def setP : Nd → List Int → Nd → Nd
  | _, [], x => x
  | n, p :: ps, x => match n.kids[p.toNat]? with
    | some k => n.withKids (n.kids.set p.toNat (setP k ps x))
    | none => n
theorem setP_cons (n : Nd) (p : Int) (ps : List Int) (x : Nd) : setP n (p :: ps) x = match n.kids[p.toNat]? with | some k => n.withKids (n.kids.set p.toNat (setP k ps x)) | none => n := rfl
def textsL : List Nd → List UInt8
  | [] => []
  | k :: ks => k.text.data.toList ++ textsL ks
def joinK : List Nd → List Nd
  | [] => []
  | k :: ks => if k.kind = 2 then .mk k.kind k.name k.attrs k.kids ⟨(k.text.data.toList ++ textsL (ks.takeWhile fun x => x.kind = 2)).toArray⟩ :: joinK (ks.dropWhile fun x => x.kind = 2) else k :: joinK ks
termination_by l => l.length
decreasing_by
  · have h1 := congrArg List.length (List.takeWhile_append_dropWhile (p := fun x : Nd => decide (x.kind = 2)) (l := ks))
    rw [List.length_append] at h1
    simp only [List.length_cons]
    omega
  · simp
def txEnd (ks : List Nd) (p : Nat) : Nat := p + ((ks.drop p).takeWhile fun x => x.kind = 2).length
theorem txEnd_go {ks : List Nd} {p : Nat} {x : Nd} (h : ks[p]? = some x) : txEnd ks p = if x.kind = 2 then txEnd ks (p + 1) else p := by
  obtain ⟨hp, e⟩ := List.getElem?_eq_some_iff.1 h
  unfold txEnd
  rw [List.drop_eq_getElem_cons hp, e]
  by_cases hk : x.kind = 2
  · rw [if_pos hk, List.takeWhile_cons_of_pos (by simpa using hk), List.length_cons]; omega
  · rw [if_neg hk, List.takeWhile_cons_of_neg (by simpa using hk)]; simp
theorem txEnd_end {ks : List Nd} {p : Nat} (h : ks.length ≤ p) : txEnd ks p = p := by
  unfold txEnd
  rw [List.drop_eq_nil_of_le h]; rfl
theorem txEnd_le {ks : List Nd} {p : Nat} (h : p ≤ ks.length) : p ≤ txEnd ks p ∧ txEnd ks p ≤ ks.length := by
  have h1 := congrArg List.length (List.takeWhile_append_dropWhile (p := fun x : Nd => decide (x.kind = 2)) (l := ks.drop p))
  rw [List.length_append, List.length_drop] at h1
  unfold txEnd
  omega
def noAdj : Int → List Nd → Prop
  | _, [] => True
  | a, k :: ks => ¬ (a = 2 ∧ k.kind = 2) ∧ noAdj k.kind ks
theorem joinK_same : ∀ (ks : List Nd) (a : Int), noAdj a ks → joinK ks = ks
  | [], _, _ => by rw [joinK]
  | k :: ks, a, h => by
    rw [joinK]
    obtain ⟨_, h2⟩ := h
    by_cases hk : k.kind = 2
    · rw [if_pos hk]
      have ht : ks.takeWhile (fun x => decide (x.kind = 2)) = [] := by
        cases ks with
        | nil => rfl
        | cons y ys =>
          rw [List.takeWhile_cons, if_neg]
          intro e
          exact h2.1 ⟨hk, by simpa using e⟩
      have hd : ks.dropWhile (fun x => decide (x.kind = 2)) = ks := by
        have := List.takeWhile_append_dropWhile (p := fun x : Nd => decide (x.kind = 2)) (l := ks)
        rw [ht, List.nil_append] at this
        exact this
      rw [ht, hd, joinK_same ks _ h2]
      simp only [textsL, List.append_nil]
      rw [Nd.eta]
    · rw [if_neg hk, joinK_same ks _ h2]
termination_by ks => ks.length
decreasing_by all_goals simp
theorem chP_some {f : Nd → Option Nd} : ∀ (l : List Int) (n m : Nd), chP f n l = some m → ∃ e e', atP n l = some e ∧ e.kind = 1 ∧ f e = some e' ∧ m = setP n l e'
  | [], n, m, h => by
    unfold chP at h
    by_cases hk : n.kind = 1
    · rw [if_pos hk] at h
      exact ⟨n, m, rfl, hk, h, rfl⟩
    · rw [if_neg hk] at h; cases h
  | p :: ps, n, m, h => by
    rw [chP_cons] at h
    by_cases hp : p < 0
    · rw [if_pos hp] at h; cases h
    · rw [if_neg hp] at h
      cases hk : n.kids[p.toNat]? with
      | none => rw [hk] at h; cases h
      | some k =>
        rw [hk] at h
        simp only [Option.map_eq_some_iff] at h
        obtain ⟨k', h1, h2⟩ := h
        obtain ⟨e, e', a1, a2, a3, a4⟩ := chP_some ps k k' h1
        refine ⟨e, e', by rw [atP_cons, if_neg hp, hk]; exact a1, a2, a3, ?_⟩
        rw [setP_cons, hk, ← h2, a4]
theorem atP_app : ∀ (l : List Int) (n : Nd) (p : Int), atP n (l ++ [p]) = match atP n l with | some e => if p < 0 then none else e.kids[p.toNat]? | none => none
  | [], n, p => by
    rw [List.nil_append, atP_cons]
    simp only [atP]
    split
    · rfl
    · cases n.kids[p.toNat]? <;> rfl
  | q :: l, n, p => by
    rw [List.cons_append, atP_cons, atP_cons]
    split
    · rfl
    · cases n.kids[q.toNat]? with
      | none => rfl
      | some k => exact atP_app l k p
theorem setP_app : ∀ (l : List Int) (n : Nd) (p : Int) (e x : Nd), atP n l = some e → p.toNat < e.kids.length → setP n (l ++ [p]) x = setP n l (e.withKids (e.kids.set p.toNat x))
  | [], n, p, e, x, h, hl => by
    simp only [atP, Option.some.injEq] at h
    subst h
    rw [List.nil_append, setP_cons, List.getElem?_eq_getElem hl]
    rfl
  | q :: l, n, p, e, x, h, hl => by
    rw [atP_cons] at h
    by_cases hq : q < 0
    · rw [if_pos hq] at h; cases h
    · rw [if_neg hq] at h
      rw [List.cons_append, setP_cons, setP_cons]
      cases hk : n.kids[q.toNat]? with
      | none => rfl
      | some k =>
        rw [hk] at h
        simp only
        rw [setP_app l k p e x h hl]
end Wb
