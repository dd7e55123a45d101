/- Kit Mem PrD QnPlain PrE LxTok LxTok3 TrR TrU PrP PrQ PrR QdP QdQ. -/
import Derived.WalkKit
import Derived.WalkSpells
import Derived.WalkLawsBesides
import Derived.Lib.Hide
import Derived.Laws.BitsAllLaws
import Derived.Below
import Derived.Laws.OwnMore
import Derived.Laws.AppendOwnNone
import Derived.Deep.AppendLies
import Derived.Deep.Draws
import Derived.Maps.OwnSet
import Derived.OwnWalk
import Derived.Laws.ResultCell
import Derived.Laws.Rows
import Derived.Lib.Bytealg
import Derived.Laws.Strings
import Derived.Laws.Externs
import Derived.Test.YtbeglliabpflpaaGreatDoorCA1
namespace Wb
open Go
theorem ret_b {a b : Bool} (h : a = b) : Ending.returned (.bool a) = Ending.returned (.bool b) := by rw [h]
theorem ret_i {k : IntKind} {a b : Int} (h : a = b) : Ending.returned (.int k a) = Ending.returned (.int k b) := by rw [h]
theorem ret_s {a b : ByteArray} (h : a = b) : Ending.returned (.string a) = Ending.returned (.string b) := by rw [h]
theorem ret_ii {k k' : IntKind} {a b a' b' : Int} (h : a = b) (h' : a' = b') :
    Ending.returned (.tuple #[.int k a, .int k' a']) = Ending.returned (.tuple #[.int k b, .int k' b']) := by rw [h, h']
theorem and_low_nat (x k : Nat) : x &&& (2 ^ k - 1) = x % 2 ^ k := Nat.and_two_pow_sub_one_eq_mod x k
theorem u8_and15 (c : Int) (h0 : 0 ≤ c) (h1 : c < 256) : bits .and .u8 c 15 = c % 16 := by
  rw [u8_and c 15 h0 h1 (by omega) (by omega)]
  have := and_low_nat c.toNat 4
  simp only [show (2 : Nat) ^ 4 - 1 = 15 from rfl, show (2 : Nat) ^ 4 = 16 from rfl] at this
  rw [show (15 : Int).toNat = 15 from rfl, this]
  omega
theorem or_nat (a b k : Nat) (hb : b < 2 ^ k) : a * 2 ^ k ||| b = a * 2 ^ k + b := by
  have := Nat.shiftLeft_add_eq_or_of_lt hb a
  rw [Nat.shiftLeft_eq] at this
  exact this.symm
theorem u8_or_base (m k M K : Nat) (x : Int) (eK : K = 2 ^ k) (eM : M = m * K) (h0 : 0 ≤ x) (h1 : x < (K : Int)) (hs : (M : Int) + x < 256) : bits .or .u8 (M : Int) x = (M : Int) + x := by
  obtain ⟨X, rfl⟩ := Int.eq_ofNat_of_zero_le h0
  have hX : X < K := by omega
  rw [u8_or_nat M X (by omega) (by omega)]
  subst eM
  subst eK
  rw [or_nat m X k hX]
  omega
theorem ofInt_i32 (a : Nat) (ha : a < 2147483648) : (BitVec.ofInt 32 (a : Int)).toNat = a := by
  rw [BitVec.ofInt_natCast, BitVec.toNat_ofNat]; exact Nat.mod_eq_of_lt (by omega)
theorem i32_and_nat (a b : Nat) (ha : a < 2147483648) (hb : b < 2147483648) : bits .and .i32 (a : Int) (b : Int) = ((a &&& b : Nat) : Int) := by
  have hx : a &&& b < 2 ^ 31 := Nat.and_lt_two_pow _ (by omega)
  show IntKind.i32.wrap ((BitVec.ofInt 32 (a : Int) &&& BitVec.ofInt 32 (b : Int)).toNat : Int) = _
  rw [BitVec.toNat_and, ofInt_i32 a ha, ofInt_i32 b hb]
  simp only [IntKind.wrap, IntKind.bits, IntKind.signed]
  simp
  omega
theorem i32_or_nat (a b : Nat) (ha : a < 2147483648) (hb : b < 2147483648) : bits .or .i32 (a : Int) (b : Int) = ((a ||| b : Nat) : Int) := by
  have hx : a ||| b < 2 ^ 31 := Nat.or_lt_two_pow (by omega) (by omega)
  show IntKind.i32.wrap ((BitVec.ofInt 32 (a : Int) ||| BitVec.ofInt 32 (b : Int)).toNat : Int) = _
  rw [BitVec.toNat_or, ofInt_i32 a ha, ofInt_i32 b hb]
  simp only [IntKind.wrap, IntKind.bits, IntKind.signed]
  simp
  omega
theorem i32_and63 (c : Int) (h0 : 0 ≤ c) (h1 : c < 2147483648) : bits .and .i32 c 63 = c % 64 := by
  obtain ⟨C, rfl⟩ := Int.eq_ofNat_of_zero_le h0
  have h := i32_and_nat C 63 (by omega) (by decide)
  have := and_low_nat C 6
  simp only [show (2 : Nat) ^ 6 - 1 = 63 from rfl, show (2 : Nat) ^ 6 = 64 from rfl] at this
  rw [this] at h
  simpa using h
theorem i32_or64 (a b : Int) (h0 : 0 ≤ a) (h1 : a < 33554432) (h2 : 0 ≤ b) (h3 : b < 64) : bits .or .i32 (a * 64) b = a * 64 + b := by
  obtain ⟨A, rfl⟩ := Int.eq_ofNat_of_zero_le h0
  obtain ⟨B, rfl⟩ := Int.eq_ofNat_of_zero_le h2
  have h := i32_or_nat (A * 2 ^ 6) B (by simp; omega) (by omega)
  rw [or_nat A B 6 (by simp; omega)] at h
  simpa using h
end Wb
namespace Wb
open Go Go.RowKit
theorem add_succ (a : Addr) (n k : Nat) (hk : 0 < k) : a.add (n + k) = ⟨(a.add n).block, (a.add n).off + k, none⟩ := by
  unfold Addr.add
  rw [if_neg (by omega)]
  split
  · subst_vars; simp
  · simp; omega
theorem add_block (a : Addr) (n : Nat) : (a.add n).block = a.block := by unfold Addr.add; split <;> rfl
theorem of_alloc {w w' : World} {o : Obj} (h : Below (w.alloc o).heap.size (w.alloc o) w') : Below w.heap.size w w' :=
  ((Below.refl w.heap.size w).alloc (Nat.le_refl _) o).trans (h.mono (by simp))
def Sl (w : World) (sz : Nat) (A : Option Addr) (n : Nat) (xs : List Value) : Prop :=
  xs.length = n * sz ∧ (0 < n → ∃ ad, A = some ad ∧ ad.block < w.heap.size ∧ ∀ j u, xs[j]? = some u → w.cell? (ad.add j) = some u)
theorem Sl.nil (w : World) (sz : Nat) (A : Option Addr) : Sl w sz A 0 [] := ⟨by simp, fun h => absurd h (by omega)⟩
theorem Sl.keep {w w' : World} {sz n : Nat} {A : Option Addr} {xs : List Value} (h : Sl w sz A n xs) (hs : w.heap.size ≤ w'.heap.size)
    (hc : ∀ p : Addr, p.block < w.heap.size → w'.cell? p = w.cell? p) : Sl w' sz A n xs := by
  refine ⟨h.1, fun hn => ?_⟩
  obtain ⟨ad, e, hb, hcell⟩ := h.2 hn
  exact ⟨ad, e, by omega, fun j u hu => (hc _ (by rw [add_block]; exact hb)).trans (hcell j u hu)⟩
theorem Sl.below {w w' : World} {sz n : Nat} {A : Option Addr} {xs : List Value} (h : Sl w sz A n xs) (hb : Below w.heap.size w w') : Sl w' sz A n xs :=
  h.keep hb.size fun _ hp => hb.cell hp
theorem Sl.alloc {w : World} {sz n : Nat} {A : Option Addr} {xs : List Value} (h : Sl w sz A n xs) (o : Obj) : Sl (w.alloc o) sz A n xs :=
  h.below ((Below.refl _ _).alloc (Nat.le_refl _) o)
theorem Sl.of_own {w : World} {base sz n c : Nat} {e : TypeId} {A : Option Addr} {xs : List Value} (h : w.ownsRow base e sz (.slice A n c) n xs) : Sl w sz A n xs := by
  refine ⟨h.1, fun hn => ?_⟩
  obtain ⟨g, cap, hv, _, hlt⟩ := h.form hn
  have hA : A = some ⟨g, 0, none⟩ := by injection hv
  subst hA
  exact ⟨_, rfl, hlt, h.cells (g := g) rfl⟩
abbrev Pr := ByteArray × ByteArray
def cells2 (l : List Pr) : List Value := l.flatMap fun p => [.string p.1, .string p.2]
theorem cells2_nil : cells2 [] = [] := rfl
theorem cells2_cons (p : Pr) (l : List Pr) : cells2 (p :: l) = .string p.1 :: .string p.2 :: cells2 l := rfl
theorem cells2_append (a b : List Pr) : cells2 (a ++ b) = cells2 a ++ cells2 b := by simp [cells2]
theorem cells2_at : ∀ (l : List Pr) (k : Nat) (x : Pr), l[k]? = some x → (cells2 l)[k * 2]? = some (.string x.1) ∧ (cells2 l)[k * 2 + 1]? = some (.string x.2)
  | [], k, x, h => by simp at h
  | p :: l, 0, x, h => by simp at h; subst h; simp [cells2_cons]
  | p :: l, k + 1, x, h => by
    have := cells2_at l k x (by simpa using h)
    rw [cells2_cons, show (k + 1) * 2 = k * 2 + 1 + 1 from by omega]
    simpa using this
theorem cells2_one (l : List Pr) : ∀ u ∈ cells2 l, u.oneCell' = true := by
  intro u hu
  simp only [cells2, List.mem_flatMap] at hu
  obtain ⟨p, _, hp⟩ := hu
  simp at hp
  rcases hp with rfl | rfl <;> rfl
def Sl2 (w : World) (A : Option Addr) (l : List Pr) : Prop := Sl w 2 A l.length (cells2 l)
theorem Sl2.nil (w : World) (A : Option Addr) : Sl2 w A [] := Sl.nil w 2 A
theorem Sl2.below {w w' : World} {A : Option Addr} {l : List Pr} (h : Sl2 w A l) (hb : Below w.heap.size w w') : Sl2 w' A l := Sl.below h hb
theorem Sl2.alloc {w : World} {A : Option Addr} {l : List Pr} (h : Sl2 w A l) (o : Obj) : Sl2 (w.alloc o) A l := Sl.alloc h o
theorem Sl2.at_ {w : World} {A : Option Addr} {l : List Pr} (h : Sl2 w A l) {k : Nat} {x : Pr} (hx : l[k]? = some x) :
    ∃ ad, A = some ad ∧ ad.block < w.heap.size ∧ w.cell? (ad.add (k * 2)) = some (.string x.1) ∧ w.cell? ⟨(ad.add (k * 2)).block, (ad.add (k * 2)).off + 1, none⟩ = some (.string x.2) := by
  have hk : k < l.length := (List.getElem?_eq_some_iff.1 hx).1
  obtain ⟨ad, e, hb, hc⟩ := h.2 (by omega)
  obtain ⟨h1, h2⟩ := cells2_at l k x hx
  refine ⟨ad, e, hb, hc _ _ h1, ?_⟩
  rw [← hc _ _ h2, add_succ _ _ 1 (by omega)]
theorem Sl2.of_own {w : World} {base c : Nat} {e : TypeId} {A : Option Addr} {l : List Pr} (h : w.ownsRow base e 2 (.slice A l.length c) l.length (cells2 l)) : Sl2 w A l := Sl.of_own h
section
variable {P : Program} (w : World)
theorem run_append_none' (base : Nat) (t ty e : TypeId) (i : TypeInfo) (size : Nat) (ht : P.underlying t = some (.slice e)) (hi : P.info? e = some i)
    (v : Value) (n : Nat) (xs : List Value) (hown : w.ownsRow base e size v n xs) (c : Nat) : (Builtin.append_ #[t, t] ty #[v, .slice none 0 c]).run P w = .ok v w := by
  rcases hown.2 with ⟨rfl, rfl⟩ | ⟨g, cap, cur, rfl, _, _, hnc, _⟩
  · simp [Builtin.append_, run_underlying ht, Go.sizeOf, typeInfo, hi, Builtin.lenOf, Builtin.firstCells]
  · simp [Builtin.append_, run_underlying ht, Go.sizeOf, typeInfo, hi, Builtin.lenOf, Builtin.firstCells, hnc, storeCells]
theorem run_append_sl (base : Nat) (t ty e : TypeId) (i : TypeInfo) (z : Value) (size bytes : Nat) (ht : P.underlying t = some (.slice e)) (hi : P.info? e = some i) (hz : i.zero = some z)
    (hsize : i.size = size) (hby : i.bytes = bytes) (hzs : z.cells.size = size) (hsz : 0 < size)
    (v : Value) (n : Nat) (xs : List Value) (hown : w.ownsRow base e size v n xs) (A : Option Addr) (m c : Nat) (news : List Value) (hr : Sl w size A m news) (h1 : ∀ u ∈ news, u.oneCell' = true)
    (h63 : n + m ≤ maxLen) (hbytes : (n + m) * bytes ≤ 140737488355328) (hbase : base ≤ w.heap.size) :
    ∃ v' w', (Builtin.append_ #[t, t] ty #[v, .slice A m c]).run P w = .ok v' w' ∧ w'.ownsRow base e size v' (n + m) (xs ++ news) ∧ w.grownBy w' v.ownBlock ∧
      (v'.ownBlock = v.ownBlock ∨ v'.ownBlock = some w.heap.size) := by
  by_cases hm : m = 0
  · subst hm
    have hn : news = [] := List.eq_nil_of_length_eq_zero (by simpa using hr.1)
    subst hn
    cases A with
    | none => exact ⟨v, w, run_append_none' w base t ty e i size ht hi v n xs hown c, by simpa using hown, World.grownBy.refl w _, .inl rfl⟩
    | some ad =>
      obtain ⟨v', w', h, h2, h3, _, h5⟩ := run_append_own_at (P := P) w base t ty e i z size bytes ht hi hz hsize hby hzs hsz v n xs hown ad 0 c [] (by simp) (by simp) h1 h63 hbytes hbase
      exact ⟨v', w', h, h2, h3, h5⟩
  · obtain ⟨ad, rfl, _, hc⟩ := hr.2 (by omega)
    obtain ⟨v', w', h, h2, h3, _, h5⟩ := run_append_own_at (P := P) w base t ty e i z size bytes ht hi hz hsize hby hzs hsz v n xs hown ad m c news hr.1 hc h1 h63 hbytes hbase
    exact ⟨v', w', h, h2, h3, h5⟩
theorem wp_append_sl {o : Oper} {a : Act} {K : Act → World → Prop} {Q : Exit → Act → World → Prop} (s x : Operand) (t : TypeId)
    (ho : o.op = .call { callee := .builtin .append, args := #[s, x], argTypes := #[t, t] })
    (base : Nat) (e : TypeId) (i : TypeInfo) (z : Value) (size bytes : Nat) (ht : P.underlying t = some (.slice e)) (hi : P.info? e = some i) (hz : i.zero = some z)
    (hsize : i.size = size) (hby : i.bytes = bytes) (hzs : z.cells.size = size) (hsz : 0 < size)
    (v : Value) (n : Nat) (xs : List Value) (hs : a.eval s = v) (hown : w.ownsRow base e size v n xs) (A : Option Addr) (m c : Nat) (news : List Value) (hx : a.eval x = .slice A m c)
    (hr : Sl w size A m news) (h1 : ∀ u ∈ news, u.oneCell' = true) (h63 : n + m ≤ maxLen) (hbytes : (n + m) * bytes ≤ 140737488355328) (hbase : base ≤ w.heap.size)
    (h : ∀ v' w', w'.ownsRow base e size v' (n + m) (xs ++ news) → w.grownBy w' v.ownBlock → (v'.ownBlock = v.ownBlock ∨ v'.ownBlock = some w.heap.size) → K (a.put o.dst v') w') : o.wp P a w K Q := by
  obtain ⟨v', w', hrun, h2, h3, h4⟩ := run_append_sl (P := P) w base t o.type e i z size bytes ht hi hz hsize hby hzs hsz v n xs hown A m c news hr h1 h63 hbytes hbase
  unfold Oper.wp execOp
  simp only [ho, resolve, invoke, builtin, Sem.run_bind, Sem.run_pure, Result.andThen_ok, List.map_toArray, List.map_cons, List.map_nil, hs, hx, hrun]
  exact h v' w' h2 h3 h4
theorem wpList_append_sl {ops : Array Oper} {rest : List Oper} {o : Oper} {a : Act} {Q : Exit → Act → World → Prop} (hgd : o.guard = none) (s x : Operand) (t : TypeId)
    (ho : o.op = .call { callee := .builtin .append, args := #[s, x], argTypes := #[t, t] })
    (base : Nat) (e : TypeId) (i : TypeInfo) (z : Value) (size bytes : Nat) (ht : P.underlying t = some (.slice e)) (hi : P.info? e = some i) (hz : i.zero = some z)
    (hsize : i.size = size) (hby : i.bytes = bytes) (hzs : z.cells.size = size) (hsz : 0 < size)
    (v : Value) (n : Nat) (xs : List Value) (hs : a.eval s = v) (hown : w.ownsRow base e size v n xs) (A : Option Addr) (m c : Nat) (news : List Value) (hx : a.eval x = .slice A m c)
    (hr : Sl w size A m news) (h1 : ∀ u ∈ news, u.oneCell' = true) (h63 : n + m ≤ maxLen) (hbytes : (n + m) * bytes ≤ 140737488355328) (hbase : base ≤ w.heap.size)
    (h : ∀ v' w', w'.ownsRow base e size v' (n + m) (xs ++ news) → w.grownBy w' v.ownBlock → (v'.ownBlock = v.ownBlock ∨ v'.ownBlock = some w.heap.size) → wpList P ops Q rest (a.put o.dst v') w') : wpList P ops Q (o :: rest) a w :=
  wpList_plain hgd fun _ hK => wp_append_sl w s x t ho base e i z size bytes ht hi hz hsize hby hzs hsz v n xs hs hown A m c news hx hr h1 h63 hbytes hbase fun v' w' h2 h3 h4 => hK _ _ (h v' w' h2 h3 h4)
theorem step_append_sl {ops : Array Oper} {o : Oper} {a : Act} {K : Act → World → Prop} {Q : Exit → Act → World → Prop} {E : Prop} (hgd : o.guard = none) (s x : Operand) (t : TypeId)
    (ho : o.op = .call { callee := .builtin .append, args := #[s, x], argTypes := #[t, t] })
    (base : Nat) (e : TypeId) (i : TypeInfo) (z : Value) (size bytes : Nat) (ht : P.underlying t = some (.slice e)) (hi : P.info? e = some i) (hz : i.zero = some z)
    (hsize : i.size = size) (hby : i.bytes = bytes) (hzs : z.cells.size = size) (hsz : 0 < size)
    (v : Value) (n : Nat) (xs : List Value) (hs : a.eval s = v) (hown : w.ownsRow base e size v n xs) (A : Option Addr) (m c : Nat) (news : List Value) (hx : a.eval x = .slice A m c)
    (hr : Sl w size A m news) (h1 : ∀ u ∈ news, u.oneCell' = true) (h63 : n + m ≤ maxLen) (hbytes : (n + m) * bytes ≤ 140737488355328) (hbase : base ≤ w.heap.size)
    (h : ∀ v' w', w'.ownsRow base e size v' (n + m) (xs ++ news) → w.grownBy w' v.ownBlock → (v'.ownBlock = v.ownBlock ∨ v'.ownBlock = some w.heap.size) → K (a.put o.dst v') w') :
    if Region.wanted o (yielded ops a.tmps) = true then Oper.wp P o a w K Q else E := by
  rw [if_pos (by simp [Region.wanted, hgd])]
  exact wp_append_sl w s x t ho base e i z size bytes ht hi hz hsize hby hzs hsz v n xs hs hown A m c news hx hr h1 h63 hbytes hbase h
end
theorem kept_block {w w2 : World} {o : Obj} (hb : Below (w.alloc o).heap.size (w.alloc o) w2) : w2.heap[w.heap.size]? = some o :=
  (hb.block w.heap.size (by simp)).trans (heap_alloc_new w o)
theorem still_block {w w2 : World} {g : Nat} {o : Obj} (h : w.heap[g]? = some o) (hb : Below w.heap.size w w2) : w2.heap[g]? = some o :=
  (hb.block g (Array.getElem?_eq_some_iff.1 h).1).trans h
theorem blk_cell {w : World} {g : Nat} {cs : Array Value} {t : TypeId} (h : w.heap[g]? = some (.cells cs t (0, 0))) (i : Nat) : w.cell? ⟨g, i, none⟩ = cs[i]? := cell_of_row w g i cs t (0, 0) h
theorem blk_free {w : World} {g : Nat} {cs : Array Value} {t : TypeId} (h : w.heap[g]? = some (.cells cs t (0, 0))) (i : Nat) : w.frozen? ⟨g, i, none⟩ = false := frozen_of_row w g i cs t h
theorem blk_set {w : World} {g : Nat} {cs : Array Value} {t : TypeId} (h : w.heap[g]? = some (.cells cs t (0, 0))) (i : Nat) (u : Value) : (w.setCell ⟨g, i, none⟩ u).heap[g]? = some (.cells (cs.setIfInBounds i u) t (0, 0)) :=
  heap_setCell_same w g i cs t u h
theorem results_cell2 {P : Program} {fn : Func} {p u : Tmp} {ty : TypeId} (h : fn.results = #[.cell p ty, .tmp u]) (tmps : Array Value) (w : World) (g : Nat) (t : TypeId) (cs : Array Value) (d : TypeDesc)
    (hp : tmps.getD p undef = .pointer (some ⟨g, 0, none⟩)) (hg : w.heap[g]? = some (.cells cs t (0, 0)))
    (hu : P.underlying ty = some d) (hd : (match d with | .struct _ | .array _ _ => true | _ => false) = true) (hi : (P.info? ty).map (·.size) = some cs.size) :
    (results fn tmps).run P w = .ok (.tuple #[.agg cs, tmps.getD u undef]) w := by
  rw [results_cell_tmp h]
  have hp' : tmps[p]?.getD undef = .pointer (some ⟨g, 0, none⟩) := by simpa using hp
  simp [hp', asAddr, Result.andThen, run_loadVar_row w g t ty cs (0, 0) d hg hu hd hi]
theorem own_shape {w : World} {base sz n : Nat} {e : TypeId} {v : Value} {xs : List Value} (h : w.ownsRow base e sz v n xs) : ∃ A c, v = .slice A n c := by
  rcases h.2 with ⟨rfl, rfl⟩ | ⟨g, cap, _, rfl, _⟩
  · exact ⟨none, 0, rfl⟩
  · exact ⟨_, _, rfl⟩
theorem Sl.lit (w : World) (sz : Nat) (cs : List Value) (t : TypeId) (n : Nat) (h : cs.length = n * sz) : Sl (w.alloc (.cells cs.toArray t)) sz (some ⟨w.heap.size, 0, none⟩) n cs := by
  refine ⟨h, fun _ => ⟨_, rfl, by simp, fun j u hu => ?_⟩⟩
  rw [Addr.add_lit, cell_of_row _ _ _ _ _ (0, 0) (heap_alloc_new w _)]
  simpa using hu
end Wb
namespace Wb
open Go.Lib (compareBytes)
theorem ba_data {a b : ByteArray} (h : a.data.toList = b.data.toList) : a = b := by
  cases a; cases b
  simp only at h
  rw [Array.toList_inj.1 h]
end Wb
namespace Wb
open Go
def eqT (a b : ByteArray) : Bool := a.toList == b.toList
theorem eqT_iff (a b : ByteArray) : eqT a b = true ↔ a = b := by
  unfold eqT
  rw [ByteArray.toList_eq, ByteArray.toList_eq, beq_iff_eq]
  constructor
  · intro h
    cases a; cases b
    simp only at h
    rw [Array.toList_inj.1 h]
  · rintro rfl; rfl
theorem eqT_dec (a b : ByteArray) : eqT a b = decide (a = b) := by
  rw [Bool.eq_iff_iff, eqT_iff]; simp
theorem eqT_self (a : ByteArray) : eqT a a = true := (eqT_iff _ _).2 rfl
theorem eqT_false {a b : ByteArray} : eqT a b = false ↔ a ≠ b := by rw [eqT_dec]; simp
theorem toList_nil_iff (a : ByteArray) : a.toList = [] ↔ a = ⟨#[]⟩ := by
  rw [ByteArray.toList_eq]
  constructor
  · intro h; cases a; simp only at h; rw [Array.toList_eq_nil_iff.1 h]
  · rintro rfl; rfl
def sE : ByteArray := ⟨#[]⟩
def sXmlns : ByteArray := ⟨#[120, 109, 108, 110, 115]⟩
def sXmlQ : ByteArray := ⟨#[120, 109, 108]⟩
def sXML : ByteArray := ⟨#[104, 116, 116, 112, 58, 47, 47, 119, 119, 119, 46, 119, 51, 46, 111, 114, 103, 47, 88, 77, 76, 47, 49, 57, 57, 56, 47, 110, 97, 109, 101, 115, 112, 97, 99, 101]⟩
def sXMLNS : ByteArray := ⟨#[104, 116, 116, 112, 58, 47, 47, 119, 119, 119, 46, 119, 51, 46, 111, 114, 103, 47, 50, 48, 48, 48, 47, 120, 109, 108, 110, 115, 47]⟩
theorem empty_eq (p : ByteArray) : p.toList.isEmpty = eqT p sE := by
  unfold eqT
  rw [(toList_nil_iff sE).2 rfl]
  cases p.toList <;> rfl
def bindB (p s : ByteArray) : Int :=
  if !(eqT p sE) && !(nameB p.data.toList) then 12
  else if eqT p sXmlns || (eqT p sXmlQ && !(eqT s sXML)) || (!(eqT p sXmlQ) && (eqT s sXML || eqT s sXMLNS)) || (!(eqT p sE) && eqT s sE) then 13 else 0
theorem sXML_ne : sXML ≠ sXMLNS := by decide
def lastB : List Pr → ByteArray → Option ByteArray
  | [], _ => none
  | x :: l, p => match lastB l p with
    | some s => some s
    | none => if eqT x.1 p then some x.2 else none
theorem lastB_snoc (l : List Pr) (x : Pr) (p : ByteArray) : lastB (l ++ [x]) p = if eqT x.1 p then some x.2 else lastB l p := by
  induction l with
  | nil => simp [lastB]
  | cons y l ih =>
    simp only [List.cons_append, lastB, ih]
    by_cases h : eqT x.1 p = true <;> simp [h]
theorem take_snoc {α : Type} (l : List α) (k : Nat) (x : α) (h : l[k]? = some x) : l.take (k + 1) = l.take k ++ [x] := by
  rw [List.take_add_one, h]; rfl
theorem lastB_step {l : List Pr} {k : Nat} {x : Pr} (h : l[k]? = some x) (p : ByteArray) : lastB (l.take (k + 1)) p = if eqT x.1 p then some x.2 else lastB (l.take k) p := by
  rw [take_snoc l k x h, lastB_snoc]
theorem lastB_hit {l : List Pr} {k : Nat} {x : Pr} (h : l[k]? = some x) {p : ByteArray} (hp : (x.1.toList == p.toList) = true) : lastB (l.take (k + 1)) p = some x.2 := by
  rw [lastB_step h, show eqT x.1 p = true from hp]; rfl
theorem lastB_miss {l : List Pr} {k : Nat} {x : Pr} (h : l[k]? = some x) {p : ByteArray} (hp : (x.1.toList == p.toList) = false) : lastB (l.take (k + 1)) p = lastB (l.take k) p := by
  rw [lastB_step h, show eqT x.1 p = false from hp]; rfl
def findB (l : List Pr) (p : ByteArray) : ByteArray × Bool :=
  if eqT p sXmlQ then (sXML, true) else match lastB l p with
    | some s => (s, true)
    | none => (sE, eqT p sE)
theorem findB_xml {l : List Pr} {p : ByteArray} (h : eqT p sXmlQ = true) : findB l p = (sXML, true) := by unfold findB; rw [h]; rfl
theorem findB_some {l : List Pr} {p s : ByteArray} (h : eqT p sXmlQ = false) (hl : lastB l p = some s) : findB l p = (s, true) := by unfold findB; rw [h, hl]; rfl
theorem findB_none {l : List Pr} {p : ByteArray} (h : eqT p sXmlQ = false) (hl : lastB l p = none) : findB l p = (sE, eqT p sE) := by unfold findB; rw [h, hl]; rfl
def cIx (q : ByteArray) : Option Nat := (List.range q.size).find? fun i => q[i]! == 58
theorem firstIdx_c' (s : ByteArray) : firstIdx s 58 = match cIx s with | some k => (k : Int) | none => -1 := rfl
theorem cIx_some (q : ByteArray) (k : Nat) : cIx q = some k ↔ k < q.size ∧ q[k]! = 58 ∧ ∀ i, i < k → q[i]! ≠ 58 := by
  unfold cIx
  rw [List.find?_range_eq_some]
  simp only [beq_iff_eq, List.mem_range, Bool.not_eq_eq_eq_not, Bool.not_true, beq_eq_false_iff_ne, ne_eq]
  constructor
  · rintro ⟨a, b, c⟩; exact ⟨b, a, c⟩
  · rintro ⟨a, b, c⟩; exact ⟨b, a, c⟩
def splitB (q : ByteArray) : ByteArray × ByteArray × Bool :=
  match cIx q with
  | none => if nameB q.data.toList then (sE, q, true) else (sE, sE, false)
  | some k => if nameB (q.extract 0 k).data.toList && nameB (q.extract (k + 1) q.size).data.toList then (q.extract 0 k, q.extract (k + 1) q.size, true) else (sE, sE, false)
theorem splitB_none {q : ByteArray} (h : cIx q = none) {b : Bool} (hb : nameB q.data.toList = b) : splitB q = if b then (sE, q, true) else (sE, sE, false) := by
  unfold splitB; rw [h]; subst hb; rfl
theorem splitB_some {q : ByteArray} {k : Nat} (h : cIx q = some k) {b c : Bool} (hb : nameB (q.extract 0 k).data.toList = b) (hc : nameB (q.extract (k + 1) q.size).data.toList = c) :
    splitB q = if b && c then (q.extract 0 k, q.extract (k + 1) q.size, true) else (sE, sE, false) := by
  unfold splitB; rw [h]; subst hb; subst hc; rfl
theorem splitB_half {q : ByteArray} {k : Nat} (h : cIx q = some k) (hb : nameB (q.extract 0 k).data.toList = false) : splitB q = (sE, sE, false) := by
  rw [splitB_some h hb rfl]; rfl
def resB (l : List Pr) (q : ByteArray) (attr : Bool) : Pr × Int :=
  if !(splitB q).2.2 then ((sE, sE), 12)
  else if attr && eqT (splitB q).1 sE then ((sE, (splitB q).2.1), 0)
  else if !(findB l (splitB q).1).2 || eqT (splitB q).1 sXmlns then ((sE, sE), 13)
  else (((findB l (splitB q).1).1, (splitB q).2.1), 0)
theorem resB_bad {l : List Pr} {q p lo : ByteArray} (attr : Bool) (h : splitB q = (p, lo, false)) : resB l q attr = ((sE, sE), 12) := by
  unfold resB; rw [h]; rfl
theorem resB_bare {l : List Pr} {q p lo : ByteArray} (h : splitB q = (p, lo, true)) (h1 : eqT p sE = true) : resB l q true = ((sE, lo), 0) := by
  unfold resB; rw [h]; simp only [h1]; rfl
theorem resB_full {l : List Pr} {q p lo s : ByteArray} {fo b1 attr : Bool} (h : splitB q = (p, lo, true)) (h1 : (attr && eqT p sE) = false) (hf : findB l p = (s, fo)) (hb : eqT p sXmlns = b1) :
    resB l q attr = if !fo || b1 then ((sE, sE), 13) else ((s, lo), 0) := by
  unfold resB; rw [h]; simp only [h1, hf, hb]; rfl
theorem res_end {n1 n2 a b : ByteArray} {er c : Int} {r : Pr × Int} (h : r = ((n1, n2), er)) (h' : r = ((a, b), c)) : n1 = a ∧ n2 = b ∧ er = c := by
  rw [h] at h'; simp only [Prod.mk.injEq] at h'; exact ⟨h'.1.1, h'.1.2, h'.2⟩
theorem lastB_mem : ∀ {l : List Pr} {p s : ByteArray}, lastB l p = some s → ∃ x ∈ l, x.2 = s
  | [], _, _, h => by simp [lastB] at h
  | x :: l, p, s, h => by
    unfold lastB at h
    cases hl : lastB l p with
    | some t =>
      rw [hl] at h
      simp only [Option.some.injEq] at h
      subst h
      obtain ⟨y, hy, e⟩ := lastB_mem hl
      exact ⟨y, by simp [hy], e⟩
    | none =>
      rw [hl] at h
      cases hx : eqT x.1 p
      · rw [hx] at h; simp at h
      · rw [hx] at h
        simp only [if_true, Option.some.injEq] at h
        exact ⟨x, by simp, h⟩
theorem findB_size {l : List Pr} {p : ByteArray} {M : Nat} (hM : 64 ≤ M) (h : ∀ x ∈ l, x.2.size ≤ M) : (findB l p).1.size ≤ M := by
  unfold findB
  split
  · have : sXML.size = 36 := by decide
    simp only; omega
  · split
    · rename_i s hs
      obtain ⟨x, hx, e⟩ := lastB_mem hs
      rw [← e]; exact h x hx
    · have : sE.size = 0 := by decide
      simp only; omega
end Wb
namespace Wb
def digT (n : Nat) : List UInt8 := if n < 10 then [(48 + n).toUInt8] else [(48 + n / 10).toUInt8, (48 + n % 10).toUInt8]
def numT (i : Nat) : List UInt8 := 110 :: digT (i + 1)
def sXmlK : List UInt8 := [120, 109, 108, 58]
def idxB (x : ByteArray) : List ByteArray → Nat
  | [] => 0
  | y :: l => if y = x then 0 else idxB x l + 1
theorem idxB_at : ∀ {l : List ByteArray} {x : ByteArray} {k : Nat} (hk : k < l.length), l[k]'hk = x → (∀ j (hj : j < l.length), j < k → l[j] ≠ x) → idxB x l = k
  | [], _, _, hk, _, _ => by simp at hk
  | y :: l, x, 0, hk, h, _ => by
    have h : y = x := h
    unfold idxB
    rw [if_pos h]
  | y :: l, x, k + 1, hk, h, hn => by
    have hy : y ≠ x := hn 0 (by simp) (by omega)
    unfold idxB
    rw [if_neg hy, idxB_at (k := k) (l := l) (x := x) (by simpa using hk) (by simpa using h) (fun j hj hjk => by
      have := hn (j + 1) (by simpa using hj) (by omega)
      simpa using this)]
theorem idxB_lt : ∀ {l : List ByteArray} {x : ByteArray}, x ∈ l → idxB x l < l.length
  | y :: l, x, h => by
    unfold idxB
    by_cases e : y = x
    · rw [if_pos e]; simp
    · rw [if_neg e]
      have : x ∈ l := by
        rcases List.mem_cons.1 h with h | h
        · exact absurd h.symm e
        · exact h
      have := idxB_lt this
      simp only [List.length_cons]; omega
end Wb
namespace Wb
def blkB (c : UInt8) : Bool := c == 9 || c == 10 || c == 13 || c == 32
def wordB (c : UInt8) : Bool := !(blkB c) && c != 47 && c != 62 && c != 61 && c != 60 && c != 34 && c != 39 && c != 38
def endsL : List UInt8 → List UInt8
  | [] => []
  | c :: l => if c = 13 then (if l.take 1 = [10] then endsL l else 10 :: endsL l) else c :: endsL l
end Wb
namespace Wb
def TxtOK (l : List UInt8) : Prop := ∃ ns : List Int, (∀ n ∈ ns, charB n = true) ∧ l = ns.flatMap enc
theorem b8_nat (n : Int) (h0 : 0 ≤ n) (h1 : n < 256) : ((b8 n).toNat : Int) = n := by
  unfold b8
  simp
  omega
theorem enc_low {n : Int} {b : UInt8} (h : b ∈ enc n) (hb : b.toNat < 128) : enc n = [b] ∧ n = b.toNat := by
  unfold enc at h ⊢
  split at h
  · rename_i hs
    have hr := (sgn_iff n).1 hs
    rw [if_pos hs]
    split at h
    · rename_i h1
      rw [if_pos h1]
      simp only [List.mem_singleton] at h
      subst h
      exact ⟨rfl, (b8_nat n (by omega) (by omega)).symm⟩
    · exfalso
      split at h
      · simp only [List.mem_cons, List.not_mem_nil, or_false] at h
        rcases h with rfl | rfl
        · have := b8_nat (192 + n / 64) (by omega) (by omega); omega
        · have := b8_nat (128 + n % 64) (by omega) (by omega); omega
      · split at h
        · simp only [List.mem_cons, List.not_mem_nil, or_false] at h
          rcases h with rfl | rfl | rfl
          · have := b8_nat (224 + n / 4096) (by omega) (by omega); omega
          · have := b8_nat (128 + n / 64 % 64) (by omega) (by omega); omega
          · have := b8_nat (128 + n % 64) (by omega) (by omega); omega
        · simp only [List.mem_cons, List.not_mem_nil, or_false] at h
          rcases h with rfl | rfl | rfl | rfl
          · have := b8_nat (240 + n / 262144) (by omega) (by omega); omega
          · have := b8_nat (128 + n / 4096 % 64) (by omega) (by omega); omega
          · have := b8_nat (128 + n / 64 % 64) (by omega) (by omega); omega
          · have := b8_nat (128 + n % 64) (by omega) (by omega); omega
  · simp at h
end Wb
namespace Wb
def TxtB (s : ByteArray) : Prop := TxtOK s.data.toList
end Wb
namespace Wb
theorem word_low {c : UInt8} (h : wordB c = false) : c.toNat < 128 := by
  unfold wordB blkB at h
  simp at h
  apply Classical.byContradiction
  intro hn
  have ne : ∀ d : UInt8, d.toNat < 128 → c ≠ d := fun d hd e => by rw [e] at hn; omega
  have := h (ne 9 (by decide)) (ne 10 (by decide)) (ne 13 (by decide)) (ne 32 (by decide)) (ne 47 (by decide)) (ne 62 (by decide)) (ne 61 (by decide)) (ne 60 (by decide)) (ne 34 (by decide)) (ne 39 (by decide))
  exact ne 38 (by decide) this
theorem tw_each (p : UInt8 → Bool) : ∀ (l : List UInt8), ∀ c ∈ l.takeWhile p, p c = true
  | [], c, h => by simp at h
  | d :: l, c, h => by
    by_cases hd : p d = true
    · rw [List.takeWhile_cons_of_pos hd] at h
      rcases List.mem_cons.1 h with rfl | h
      · exact hd
      · exact tw_each p l c h
    · rw [List.takeWhile_cons_of_neg hd] at h
      simp at h
end Wb
namespace Wb
theorem part_word : ∀ c : Fin 128, partB (c.val : Int) = true → wordB (UInt8.ofNat c.val) = true ∧ UInt8.ofNat c.val ≠ 58 ∧ UInt8.ofNat c.val ≠ 63 ∧ UInt8.ofNat c.val ≠ 33 := by decide +kernel
theorem enc_part_word {n : Int} (hn : partB n = true) {b : UInt8} (hb : b ∈ enc n) : wordB b = true ∧ b ≠ 58 ∧ b ≠ 63 ∧ b ≠ 33 := by
  by_cases hl : b.toNat < 128
  · obtain ⟨_, rfl⟩ := enc_low hb hl
    have := part_word ⟨b.toNat, hl⟩ hn
    simpa using this
  · refine ⟨?_, ?_, ?_, ?_⟩
    · cases h : wordB b with
      | true => rfl
      | false => exact absurd (word_low h) hl
    · intro e; subst e; exact hl (by decide)
    · intro e; subst e; exact hl (by decide)
    · intro e; subst e; exact hl (by decide)
end Wb
namespace Wb
theorem num_len : ∀ i : Fin 32, (numT i.val).length ≤ 3 := by decide +kernel
end Wb
namespace Wb
open Go
theorem ext_list (s : ByteArray) (a b : Nat) : (s.extract a b).data.toList = (s.data.toList.drop a).take (b - a) := by
  simp [ByteArray.data_extract]
theorem to_list (s : ByteArray) : (⟨s.data.toList.toArray⟩ : ByteArray) = s := by
  apply ba_data; simp
theorem bind_dfl {own : ByteArray} (h1 : own ≠ sXML) (h2 : own ≠ sXMLNS) : bindB sE own = 0 := by
  have e5 := eqT_false.2 h1
  have e6 := eqT_false.2 h2
  have e1 : eqT sE sE = true := eqT_self _
  have e2 : eqT sE sXmlns = false := eqT_false.2 (by decide)
  have e3 : eqT sE sXmlQ = false := eqT_false.2 (by decide)
  unfold bindB
  rw [e1, e2, e3, e5, e6]
  rfl
end Wb
namespace Wb
def plC (c : UInt8) : Bool := (decide (97 ≤ c.toNat) && decide (c.toNat ≤ 122)) || (decide (65 ≤ c.toNat) && decide (c.toNat ≤ 90)) || (decide (48 ≤ c.toNat) && decide (c.toNat ≤ 57)) ||
  c == 45 || c == 46 || c == 95 || c == 126
def hexG (n : Nat) : UInt8 := if n < 10 then UInt8.ofNat (48 + n) else UInt8.ofNat (55 + n)
def dgV (c : UInt8) : Int :=
  if 48 ≤ c.toNat ∧ c.toNat ≤ 57 then c.toNat - 48 else if 65 ≤ c.toNat ∧ c.toNat ≤ 70 then c.toNat - 55 else if 97 ≤ c.toNat ∧ c.toNat ≤ 102 then c.toNat - 87 else -1
def pctC (keep : List UInt8) (c : UInt8) : List UInt8 := if ((plC c || keep.contains c) && c != 37) = true then [c] else [37, hexG (c.toNat / 16), hexG (c.toNat % 16)]
def pctE (keep s : List UInt8) : List UInt8 := s.flatMap (pctC keep)
def pctD : List UInt8 → Option (List UInt8)
  | [] => some []
  | c :: l => if c = 37 then
      match l with
      | a :: b :: r => if dgV a < 0 ∨ dgV b < 0 then none else (pctD r).map (UInt8.ofNat (dgV a * 16 + dgV b).toNat :: ·)
      | _ => none
    else (pctD l).map (c :: ·)
def decP (s : List UInt8) : List UInt8 × Int := match pctD s with
  | none => ([], 32)
  | some t => if 0 ≤ chk t then ([], 10) else (t, 0)
def pieceA (by_ : UInt8) : List UInt8 → List UInt8 → List (List UInt8)
  | cur, [] => [cur]
  | cur, c :: l => if c = by_ then cur :: pieceA by_ [] l else pieceA by_ (cur ++ [c]) l
def pieceF (by_ : UInt8) (s : List UInt8) : List (List UInt8) := pieceA by_ [] s
def joinB (by_ : UInt8) : List (List UInt8) → List UInt8
  | [] => []
  | [x] => x
  | x :: y :: r => x ++ by_ :: joinB by_ (y :: r)
theorem pctD_one {c : UInt8} (l : List UInt8) (h : c ≠ 37) : pctD (c :: l) = (pctD l).map (c :: ·) := by
  match l with
  | [] => rw [pctD.eq_def]; simp only [h, if_false]
  | [x] => rw [pctD.eq_def]; simp only [h, if_false]
  | x :: y :: r => rw [pctD.eq_def]; simp only [h, if_false]
theorem pctD_esc (a b : UInt8) (r : List UInt8) : pctD (37 :: a :: b :: r) = if dgV a < 0 ∨ dgV b < 0 then none else (pctD r).map (UInt8.ofNat (dgV a * 16 + dgV b).toNat :: ·) := by
  rw [pctD, if_pos rfl]
theorem pctD_end {l : List UInt8} (h : l.length < 2) : pctD (37 :: l) = none := by
  match l, h with
  | [], _ => rfl
  | [x], _ => rfl
theorem dgV_bd (c : UInt8) : dgV c = -1 ∨ (0 ≤ dgV c ∧ dgV c ≤ 15) := by
  unfold dgV
  repeat' split
  all_goals omega
theorem pctE_append (keep s t : List UInt8) : pctE keep (s ++ t) = pctE keep s ++ pctE keep t := by
  unfold pctE
  rw [List.flatMap_append]
theorem pctC_len (keep : List UInt8) (c : UInt8) : 1 ≤ (pctC keep c).length ∧ (pctC keep c).length ≤ 3 := by
  unfold pctC
  split <;> simp
theorem pctE_len (keep : List UInt8) : ∀ s : List UInt8, (pctE keep s).length ≤ 3 * s.length
  | [] => Nat.le_refl _
  | c :: l => by
    have := pctE_len keep l
    have h := (pctC_len keep c).2
    unfold pctE at this ⊢
    rw [List.flatMap_cons, List.length_append, List.length_cons]
    omega
theorem pctD_append (t : List UInt8) : ∀ (n : Nat) (s a : List UInt8), s.length ≤ n → pctD s = some a → pctD (s ++ t) = (pctD t).map (a ++ ·)
  | _, [], a, _, h => by
    rw [pctD] at h
    cases h
    rw [List.nil_append]
    cases pctD t <;> rfl
  | 0, c :: l, _, hn, _ => by simp at hn
  | n + 1, c :: l, a, hn, h => by
    rw [List.length_cons] at hn
    by_cases hc : c = 37
    · subst hc
      match l, hn, h with
      | x :: y :: r, hn, h =>
        simp only [List.length_cons] at hn
        rw [pctD_esc] at h
        rw [List.cons_append, List.cons_append, List.cons_append, pctD_esc]
        split at h
        · cases h
        · rename_i hx
          rw [if_neg hx]
          obtain ⟨b, hb, rfl⟩ := Option.map_eq_some_iff.1 h
          rw [pctD_append t n r b (by omega) hb, Option.map_map]
          rfl
      | [x], _, h =>
        rw [pctD_end (by simp)] at h
        cases h
      | [], _, h =>
        rw [pctD_end (by simp)] at h
        cases h
    · rw [pctD_one _ hc] at h
      rw [List.cons_append, pctD_one _ hc]
      obtain ⟨b, hb, rfl⟩ := Option.map_eq_some_iff.1 h
      rw [pctD_append t n l b (by omega) hb, Option.map_map]
      rfl
theorem pctD_len : ∀ (n : Nat) (s a : List UInt8), s.length ≤ n → pctD s = some a → a.length ≤ s.length
  | _, [], a, _, h => by
    rw [pctD] at h
    cases h
    exact Nat.le_refl _
  | 0, c :: l, _, hn, _ => by simp at hn
  | n + 1, c :: l, a, hn, h => by
    rw [List.length_cons] at hn ⊢
    by_cases hc : c = 37
    · subst hc
      match l, hn, h with
      | x :: y :: r, hn, h =>
        simp only [List.length_cons] at hn ⊢
        rw [pctD_esc] at h
        split at h
        · cases h
        · obtain ⟨b, hb, rfl⟩ := Option.map_eq_some_iff.1 h
          have := pctD_len n r b (by omega) hb
          rw [List.length_cons]
          omega
      | [x], _, h =>
        rw [pctD_end (by simp)] at h
        cases h
      | [], _, h =>
        rw [pctD_end (by simp)] at h
        cases h
    · rw [pctD_one _ hc] at h
      obtain ⟨b, hb, rfl⟩ := Option.map_eq_some_iff.1 h
      have := pctD_len n l b (by omega) hb
      rw [List.length_cons]
      omega
theorem decP_len (s : List UInt8) : (decP s).1.length ≤ s.length := by
  unfold decP
  split
  · simp
  · rename_i t ht
    split
    · simp
    · exact pctD_len _ s t (Nat.le_refl _) ht
end Wb
namespace Wb
theorem joinB_cons (by_ : UInt8) (x : List UInt8) {l : List (List UInt8)} (h : l ≠ []) : joinB by_ (x :: l) = x ++ by_ :: joinB by_ l := by
  match l, h with
  | y :: r, _ => rfl
theorem pcs_len (by_ : UInt8) : ∀ (cur s : List UInt8), (pieceA by_ cur s).length ≤ s.length + 1
  | _, [] => by rw [pieceA]; simp
  | cur, c :: l => by
    rw [pieceA]
    have h1 := pcs_len by_ [] l
    have h2 := pcs_len by_ (cur ++ [c]) l
    split
    · simp only [List.length_cons]; omega
    · simp only [List.length_cons]; omega
theorem piece_size (by_ : UInt8) : ∀ (cur s : List UInt8), ∀ x ∈ pieceA by_ cur s, x.length ≤ cur.length + s.length
  | cur, [], x, hx => by
    rw [pieceA, List.mem_singleton] at hx
    subst hx
    simp
  | cur, c :: l, x, hx => by
    rw [pieceA] at hx
    rw [List.length_cons]
    split at hx
    · rcases List.mem_cons.1 hx with rfl | hx
      · omega
      · have := piece_size by_ [] l x hx
        rw [List.length_nil] at this
        omega
    · have := piece_size by_ (cur ++ [c]) l x hx
      rw [List.length_append, List.length_singleton] at this
      omega
theorem join_snoc (by_ : UInt8) (y : List UInt8) : ∀ l : List (List UInt8), joinB by_ (l ++ [y]) = joinB by_ l ++ ((if l.length = 0 then [] else [by_]) ++ y)
  | [] => rfl
  | [x] => by
    show x ++ by_ :: y = x ++ ([by_] ++ y)
    rfl
  | x :: z :: r => by
    have h := join_snoc by_ y (z :: r)
    rw [List.cons_append, joinB_cons by_ x (by simp), h, joinB_cons by_ x (by simp), List.append_assoc]
    rfl
theorem enc_step (keep s : List UInt8) (i : Nat) (h : i < s.length) : pctE keep (s.take (i + 1)) = pctE keep (s.take i) ++ pctC keep s[i] := by
  rw [← List.take_append_getElem h, pctE_append]
  congr 1
  unfold pctE
  rw [List.flatMap_singleton]
def DecAt (s b : List UInt8) (i : Nat) : Prop := pctD s = (pctD (s.drop i)).map (b ++ ·)
theorem decAt_zero (s : List UInt8) : DecAt s [] 0 := by
  unfold DecAt
  rw [List.drop_zero]
  cases pctD s <;> rfl
theorem pdrop_at {s : List UInt8} {i : Nat} (h : i < s.length) : s.drop i = s[i] :: s.drop (i + 1) := List.drop_eq_getElem_cons h
theorem decAt_one {s b : List UInt8} {i : Nat} (hd : DecAt s b i) (h : i < s.length) (hc : s[i] ≠ 37) : DecAt s (b ++ [s[i]]) (i + 1) := by
  unfold DecAt at hd ⊢
  rw [hd, pdrop_at h, pctD_one _ hc, Option.map_map]
  congr 1
  funext x
  simp
theorem decAt_bad {s b : List UInt8} {i : Nat} (hd : DecAt s b i) (h : i < s.length) (hc : s[i] = 37) (hb : s.length ≤ i + 2 ∨ (∃ h2 : i + 2 < s.length, dgV s[i + 1] < 0 ∨ dgV s[i + 2] < 0)) : pctD s = none := by
  unfold DecAt at hd
  rw [hd, pdrop_at h, hc]
  rcases hb with hb | ⟨h2, hb⟩
  · rw [pctD_end (by rw [List.length_drop]; omega)]
    rfl
  · rw [pdrop_at (show i + 1 < s.length by omega), pdrop_at (show i + 1 + 1 < s.length by omega), pctD_esc, if_pos hb]
    rfl
theorem decAt_esc {s b : List UInt8} {i : Nat} (hd : DecAt s b i) (h : i + 2 < s.length) (hc : s[i] = 37) (h1 : 0 ≤ dgV s[i + 1]) (h2 : 0 ≤ dgV s[i + 2]) :
    DecAt s (b ++ [UInt8.ofNat (dgV s[i + 1] * 16 + dgV s[i + 2]).toNat]) (i + 3) := by
  unfold DecAt at hd ⊢
  rw [hd, pdrop_at (show i < s.length by omega), hc, pdrop_at (show i + 1 < s.length by omega), pdrop_at (show i + 1 + 1 < s.length by omega), pctD_esc, if_neg (by have h2 : 0 ≤ dgV s[i + 1 + 1] := h2; omega), Option.map_map]
  congr 1
  funext x
  simp
theorem decAt_end {s b : List UInt8} {i : Nat} (hd : DecAt s b i) (h : s.length ≤ i) : pctD s = some b := by
  unfold DecAt at hd
  rw [hd, List.drop_eq_nil_of_le h]
  show some (b ++ []) = some b
  rw [List.append_nil]
end Wb
