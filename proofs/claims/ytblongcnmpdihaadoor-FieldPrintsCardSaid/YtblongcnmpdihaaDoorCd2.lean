/- FdW Kit Mem Mem2 Mem3 Plain. -/
import Derived.WalkKit
import Derived.WalkSpells
import Derived.WalkLawsBesides
import Derived.Lib.Hide
import Derived.Laws.BitsAllLaws
import Derived.Below
import Derived.Laws.OwnMore
import Derived.Laws.AppendOwnNone
import Derived.Deep.AppendLies
import Derived.Deep.Draws
import Derived.Maps.OwnSet
import Derived.OwnWalk
import Derived.Laws.ResultCell
import Derived.Laws.Rows
import Derived.Deep.AppendSrc
import Derived.Test.YtblongcnmpdihaaDoorCd1
namespace Wb
open Go
theorem cut_cons (b : UInt8) (l sub : List UInt8) : Lib.cut (b :: l) sub = if sub.isPrefixOf (b :: l) = true then ([], (b :: l).drop sub.length, true) else if (Lib.cut l sub).2.2 = true then (b :: (Lib.cut l sub).1, (Lib.cut l sub).2.1, true) else (b :: l, [], false) := by
  unfold Lib.cut
  rw [Lib.index]
  have := Lib.index_ge l sub
  cases h : sub.isPrefixOf (b :: l)
  · rw [if_neg (show ¬ (false = true) by simp), if_neg (show ¬ (false = true) by simp)]
    by_cases hm : Lib.index l sub = -1
    · rw [hm]; rfl
    · have hix : (if (Lib.index l sub == -1) = true then (-1 : Int) else Lib.index l sub + 1) = Lib.index l sub + 1 := if_neg (by simpa using hm)
      rw [hix, if_pos (show 0 ≤ Lib.index l sub + 1 by omega), if_pos (show 0 ≤ Lib.index l sub by omega)]
      obtain ⟨k, hk⟩ : ∃ k : Nat, Lib.index l sub = k := ⟨(Lib.index l sub).toNat, by omega⟩
      rw [hk]
      simp only [if_true]
      rw [show ((k : Int) + 1).toNat = k + 1 by omega, show ((k : Int)).toNat = k by omega, List.take_succ_cons, show k + 1 + sub.length = (k + sub.length) + 1 by omega, List.drop_succ_cons]
  · simp
theorem cut_line : ∀ s : List UInt8, Lib.cut s [13, 10] = match lineC s with
    | some (a, b) => (a, b, true)
    | none => (s, [], false)
  | [] => rfl
  | c :: l => by
    cases l with
    | nil => rw [cut_cons]; simp [lineC, List.isPrefixOf, Lib.cut, Lib.index]
    | cons d l2 =>
      have e : lineC (c :: d :: l2) = if c = 13 ∧ d = 10 then some ([], l2) else match lineC (d :: l2) with
          | some (a, b) => some (c :: a, b)
          | none => none := by rw [lineC.eq_def]; rfl
      rw [cut_cons, cut_line (d :: l2), e]
      simp only [List.isPrefixOf, Bool.and_true]
      by_cases hc : c = 13 ∧ d = 10
      · obtain ⟨rfl, rfl⟩ := hc
        simp
      · rw [if_neg hc, if_neg (by simp only [Bool.and_eq_true, beq_iff_eq]; exact fun e => hc ⟨e.1.symm, e.2.symm⟩)]
        cases lineC (d :: l2) with
        | none => rfl
        | some p => rfl
theorem cut_colon : ∀ s : List UInt8, Lib.cut s [58] = if (s.takeWhile (fun c => c != 58)).length = s.length then (s, [], false) else (s.takeWhile (fun c => c != 58), s.drop ((s.takeWhile (fun c => c != 58)).length + 1), true)
  | [] => rfl
  | c :: l => by
    rw [cut_cons, cut_colon l]
    by_cases hc : c = 58
    · subst hc
      rw [if_pos (by simp [List.isPrefixOf]), if_neg (by simp)]
      simp
    · have hb : (c != 58) = true := by simpa using hc
      rw [if_neg (by simp [List.isPrefixOf]; exact fun e => hc e.symm), List.takeWhile_cons, if_pos hb]
      by_cases hl : (l.takeWhile (fun c => c != 58)).length = l.length
      · simp only [List.length_cons, hl, if_true, Bool.false_eq_true, if_false]
      · simp only [List.length_cons, Nat.add_right_cancel_iff, hl, if_true, if_false, List.drop_succ_cons]
def headB (s : List UInt8) : Bool := (s.head?.map blankB).getD false
theorem skip_self (s : List UInt8) : s.dropWhile blankB = s ↔ headB s = false := dropW_self blankB s
def cutL : Nat → List UInt8 → Option (List (List UInt8) × List UInt8)
  | 0, _ => none
  | f + 1, s => match lineC s with
    | none => none
    | some (a, r) => if headB r = true then match cutL f r with
        | some (ls, r2) => some (a :: ls, r2)
        | none => none
      else some ([a], r)
theorem cutL_log : ∀ (f : Nat) (s : List UInt8), logL f s = match cutL f s with
    | some (ls, r) => some (ls.flatten, longB ls, r)
    | none => none
  | 0, _ => rfl
  | f + 1, s => by
    rw [logL, cutL]
    cases lineC s with
    | none => rfl
    | some p =>
      obtain ⟨a, r⟩ := p
      simp only
      unfold headB
      by_cases h : (r.head?.map blankB).getD false = true
      · rw [if_pos h, if_pos h, cutL_log f r]
        cases cutL f r with
        | none => rfl
        | some q => simp [longB]
      · rw [if_neg h, if_neg h]
        simp [longB]
theorem lineC_len : ∀ (s a r : List UInt8), lineC s = some (a, r) → a.length + 2 + r.length = s.length
  | [], a, r, h => by simp [lineC] at h
  | c :: l, a, r, h => by
    unfold lineC at h
    cases l with
    | nil => simp at h
    | cons d l2 =>
      simp only at h
      by_cases hc : c = 13 ∧ d = 10
      · rw [if_pos hc] at h
        simp only [Option.some.injEq, Prod.mk.injEq] at h
        rw [← h.1, ← h.2]
        simp
        omega
      · rw [if_neg hc] at h
        cases hl : lineC (d :: l2) with
        | none => rw [hl] at h; cases h
        | some p =>
          obtain ⟨x, y⟩ := p
          rw [hl] at h
          simp only [Option.some.injEq, Prod.mk.injEq] at h
          have := lineC_len (d :: l2) x y hl
          rw [← h.1, ← h.2]
          simp only [List.length_cons] at this ⊢
          omega
theorem cutL_len : ∀ (f : Nat) (s : List UInt8) (ls : List (List UInt8)) (r : List UInt8), cutL f s = some (ls, r) → (ls.map List.length).sum + 2 * ls.length + r.length = s.length
  | 0, _, _, _, h => by cases h
  | f + 1, s, ls, r, h => by
    rw [cutL] at h
    cases hl : lineC s with
    | none => rw [hl] at h; cases h
    | some p =>
      obtain ⟨a, q⟩ := p
      rw [hl] at h
      have h1 := lineC_len s a q hl
      simp only at h
      split at h
      · cases hc : cutL f q with
        | none => rw [hc] at h; cases h
        | some z =>
          obtain ⟨ls2, r2⟩ := z
          rw [hc] at h
          simp only [Option.some.injEq, Prod.mk.injEq] at h
          have := cutL_len f q ls2 r2 hc
          rw [← h.1, ← h.2]
          simp only [List.map_cons, List.sum_cons, List.length_cons]
          omega
      · simp only [Option.some.injEq, Prod.mk.injEq] at h
        rw [← h.1, ← h.2]
        simp
        omega
theorem cutL_ne : ∀ (f : Nat) (s : List UInt8) (ls : List (List UInt8)) (r : List UInt8), cutL f s = some (ls, r) → ls ≠ []
  | 0, _, _, _, h => by cases h
  | f + 1, s, ls, r, h => by
    rw [cutL] at h
    split at h
    · cases h
    · split at h
      · split at h
        · simp only [Option.some.injEq, Prod.mk.injEq] at h; rw [← h.1]; simp
        · cases h
      · simp only [Option.some.injEq, Prod.mk.injEq] at h; rw [← h.1]; simp
theorem cutL_step (f : Nat) (s a r : List UInt8) (hl : lineC s = some (a, r)) (hf : s.length < f) : ∃ g, r.length < g ∧ cutL f s = if headB r = true then (cutL g r).map (fun p => (a :: p.1, p.2)) else some ([a], r) := by
  obtain ⟨g, rfl⟩ : ∃ g, f = g + 1 := ⟨f - 1, by omega⟩
  have := lineC_len s a r hl
  refine ⟨g, by omega, ?_⟩
  rw [cutL, hl]
  simp only
  cases cutL g r <;> rfl
theorem cutL_stop (f : Nat) (s : List UInt8) (hl : lineC s = none) : cutL f s = none := by
  cases f with
  | zero => rfl
  | succ f => rw [cutL, hl]
def parsedF (line : List UInt8) : Except Int (List UInt8 × List UInt8) :=
  let nm := line.takeWhile (fun c => c != 58)
  if headB line = true ∨ nm.length = line.length then .error 4 else if namedF nm = false then .error 12 else
    if plainF (line.drop (nm.length + 1)) = false then .error 4 else .ok (nm, trimF (line.drop (nm.length + 1)))
theorem parseL_way (f k : Nat) (s : List UInt8) : parseL (f + 1) k s = if s.take 2 = [13, 10] then .ok ([], s.drop 2) else match cutL (s.length + 1) s with
    | none => .error 2
    | some (ls, rest) => if k = 8 ∨ longB ls = true then .error 3 else match parsedF ls.flatten with
      | .error e => .error e
      | .ok x => match parseL f (k + 1) rest with
        | .ok (l, r) => .ok (x :: l, r)
        | .error e => .error e := by
  rw [parseL, cutL_log]
  split
  · rfl
  · cases cutL (s.length + 1) s with
    | none => rfl
    | some p =>
      obtain ⟨ls, rest⟩ := p
      simp only
      split
      · rfl
      · unfold parsedF headB
        simp only
        split
        · rfl
        · split
          · rfl
          · split
            · rfl
            · rfl
theorem trim_way (p : UInt8 → Bool) : ∀ l : List UInt8, (l.reverse.dropWhile p).reverse.dropWhile p = ((l.dropWhile p).reverse.dropWhile p).reverse
  | [] => rfl
  | c :: t => by
    have ih := trim_way p t
    rw [List.reverse_cons, List.dropWhile_append]
    cases hc : p c
    · have e : (if (t.reverse.dropWhile p).isEmpty = true then [c].dropWhile p else t.reverse.dropWhile p ++ [c]) = t.reverse.dropWhile p ++ [c] := by
        split
        · rename_i h
          rw [List.isEmpty_iff.1 h, List.dropWhile_cons, if_neg (by rw [hc]; simp)]
          rfl
        · rfl
      rw [e, List.reverse_append, List.reverse_cons, List.reverse_nil, List.nil_append, List.cons_append, List.nil_append, List.dropWhile_cons, if_neg (by rw [hc]; simp), List.dropWhile_cons, if_neg (by rw [hc]; simp), List.reverse_cons, List.dropWhile_append, e]
      simp
    · rw [show (c :: t).dropWhile p = t.dropWhile p by rw [List.dropWhile_cons, if_pos hc], ← ih]
      split
      · rename_i h
        rw [List.isEmpty_iff.1 h, List.dropWhile_cons, if_pos hc]
        rfl
      · rw [List.reverse_append, List.reverse_cons, List.reverse_nil, List.nil_append, List.cons_append, List.nil_append, List.dropWhile_cons, if_pos hc]
theorem trimS_trimF (l : List UInt8) : Lib.trimS l [32, 9] = trimF l := by
  have e : (fun c : UInt8 => ([32, 9] : List UInt8).contains c) = blankB := by
    funext c
    unfold blankB
    rw [List.contains_eq_any_beq]
    simp only [List.any_cons, List.any_nil, Bool.or_false]
  unfold Lib.trimS Lib.trimLeftS Lib.trimRightS trimF
  rw [e]
  exact trim_way blankB l
theorem trimF_sub (l : List UInt8) : (trimF l).length ≤ l.length := by
  unfold trimF
  have h1 := (List.dropWhile_suffix blankB (l := l)).length_le
  have h2 := (List.dropWhile_suffix blankB (l := (l.dropWhile blankB).reverse)).length_le
  simp only [List.length_reverse] at h1 h2 ⊢
  omega
end Wb
namespace Wb
open Go
theorem ret_b {a b : Bool} (h : a = b) : Ending.returned (.bool a) = Ending.returned (.bool b) := by rw [h]
end Wb
namespace Wb
open Go Go.RowKit
theorem add_succ (a : Addr) (n k : Nat) (hk : 0 < k) : a.add (n + k) = ⟨(a.add n).block, (a.add n).off + k, none⟩ := by
  unfold Addr.add
  rw [if_neg (by omega)]
  split
  · subst_vars; simp
  · simp; omega
theorem add_block (a : Addr) (n : Nat) : (a.add n).block = a.block := by unfold Addr.add; split <;> rfl
def Sl (w : World) (sz : Nat) (A : Option Addr) (n : Nat) (xs : List Value) : Prop :=
  xs.length = n * sz ∧ (0 < n → ∃ ad, A = some ad ∧ ad.block < w.heap.size ∧ ∀ j u, xs[j]? = some u → w.cell? (ad.add j) = some u)
theorem Sl.nil (w : World) (sz : Nat) (A : Option Addr) : Sl w sz A 0 [] := ⟨by simp, fun h => absurd h (by omega)⟩
theorem Sl.keep {w w' : World} {sz n : Nat} {A : Option Addr} {xs : List Value} (h : Sl w sz A n xs) (hs : w.heap.size ≤ w'.heap.size)
    (hc : ∀ p : Addr, p.block < w.heap.size → w'.cell? p = w.cell? p) : Sl w' sz A n xs := by
  refine ⟨h.1, fun hn => ?_⟩
  obtain ⟨ad, e, hb, hcell⟩ := h.2 hn
  exact ⟨ad, e, by omega, fun j u hu => (hc _ (by rw [add_block]; exact hb)).trans (hcell j u hu)⟩
theorem Sl.below {w w' : World} {sz n : Nat} {A : Option Addr} {xs : List Value} (h : Sl w sz A n xs) (hb : Below w.heap.size w w') : Sl w' sz A n xs :=
  h.keep hb.size fun _ hp => hb.cell hp
theorem Sl.alloc {w : World} {sz n : Nat} {A : Option Addr} {xs : List Value} (h : Sl w sz A n xs) (o : Obj) : Sl (w.alloc o) sz A n xs :=
  h.below ((Below.refl _ _).alloc (Nat.le_refl _) o)
theorem Sl.of_own {w : World} {base sz n c : Nat} {e : TypeId} {A : Option Addr} {xs : List Value} (h : w.ownsRow base e sz (.slice A n c) n xs) : Sl w sz A n xs := by
  refine ⟨h.1, fun hn => ?_⟩
  obtain ⟨g, cap, hv, _, hlt⟩ := h.form hn
  have hA : A = some ⟨g, 0, none⟩ := by injection hv
  subst hA
  exact ⟨_, rfl, hlt, h.cells (g := g) rfl⟩
abbrev Pr := ByteArray × ByteArray
def cells2 (l : List Pr) : List Value := l.flatMap fun p => [.string p.1, .string p.2]
theorem cells2_nil : cells2 [] = [] := rfl
theorem cells2_cons (p : Pr) (l : List Pr) : cells2 (p :: l) = .string p.1 :: .string p.2 :: cells2 l := rfl
theorem cells2_append (a b : List Pr) : cells2 (a ++ b) = cells2 a ++ cells2 b := by simp [cells2]
theorem cells2_length (l : List Pr) : (cells2 l).length = l.length * 2 := by
  induction l with
  | nil => rfl
  | cons p l ih => rw [cells2_cons]; simp [ih]; omega
theorem cells2_at : ∀ (l : List Pr) (k : Nat) (x : Pr), l[k]? = some x → (cells2 l)[k * 2]? = some (.string x.1) ∧ (cells2 l)[k * 2 + 1]? = some (.string x.2)
  | [], k, x, h => by simp at h
  | p :: l, 0, x, h => by simp at h; subst h; simp [cells2_cons]
  | p :: l, k + 1, x, h => by
    have := cells2_at l k x (by simpa using h)
    rw [cells2_cons, show (k + 1) * 2 = k * 2 + 1 + 1 from by omega]
    simpa using this
theorem cells2_one (l : List Pr) : ∀ u ∈ cells2 l, u.oneCell' = true := by
  intro u hu
  simp only [cells2, List.mem_flatMap] at hu
  obtain ⟨p, _, hp⟩ := hu
  simp at hp
  rcases hp with rfl | rfl <;> rfl
def Sl2 (w : World) (A : Option Addr) (l : List Pr) : Prop := Sl w 2 A l.length (cells2 l)
theorem Sl2.nil (w : World) (A : Option Addr) : Sl2 w A [] := Sl.nil w 2 A
theorem Sl2.below {w w' : World} {A : Option Addr} {l : List Pr} (h : Sl2 w A l) (hb : Below w.heap.size w w') : Sl2 w' A l := Sl.below h hb
theorem Sl2.at_ {w : World} {A : Option Addr} {l : List Pr} (h : Sl2 w A l) {k : Nat} {x : Pr} (hx : l[k]? = some x) :
    ∃ ad, A = some ad ∧ ad.block < w.heap.size ∧ w.cell? (ad.add (k * 2)) = some (.string x.1) ∧ w.cell? ⟨(ad.add (k * 2)).block, (ad.add (k * 2)).off + 1, none⟩ = some (.string x.2) := by
  have hk : k < l.length := (List.getElem?_eq_some_iff.1 hx).1
  obtain ⟨ad, e, hb, hc⟩ := h.2 (by omega)
  obtain ⟨h1, h2⟩ := cells2_at l k x hx
  refine ⟨ad, e, hb, hc _ _ h1, ?_⟩
  rw [← hc _ _ h2, add_succ _ _ 1 (by omega)]
theorem Sl2.of_own {w : World} {base c : Nat} {e : TypeId} {A : Option Addr} {l : List Pr} (h : w.ownsRow base e 2 (.slice A l.length c) l.length (cells2 l)) : Sl2 w A l := Sl.of_own h
section
variable {P : Program} (w : World)
theorem run_append_none' (base : Nat) (t ty e : TypeId) (i : TypeInfo) (size : Nat) (ht : P.underlying t = some (.slice e)) (hi : P.info? e = some i)
    (v : Value) (n : Nat) (xs : List Value) (hown : w.ownsRow base e size v n xs) (c : Nat) : (Builtin.append_ #[t, t] ty #[v, .slice none 0 c]).run P w = .ok v w := by
  rcases hown.2 with ⟨rfl, rfl⟩ | ⟨g, cap, cur, rfl, _, _, hnc, _⟩
  · simp [Builtin.append_, run_underlying ht, Go.sizeOf, typeInfo, hi, Builtin.lenOf, Builtin.firstCells]
  · simp [Builtin.append_, run_underlying ht, Go.sizeOf, typeInfo, hi, Builtin.lenOf, Builtin.firstCells, hnc, storeCells]
theorem run_append_sl (base : Nat) (t ty e : TypeId) (i : TypeInfo) (z : Value) (size bytes : Nat) (ht : P.underlying t = some (.slice e)) (hi : P.info? e = some i) (hz : i.zero = some z)
    (hsize : i.size = size) (hby : i.bytes = bytes) (hzs : z.cells.size = size) (hsz : 0 < size)
    (v : Value) (n : Nat) (xs : List Value) (hown : w.ownsRow base e size v n xs) (A : Option Addr) (m c : Nat) (news : List Value) (hr : Sl w size A m news) (h1 : ∀ u ∈ news, u.oneCell' = true)
    (h63 : n + m ≤ maxLen) (hbytes : (n + m) * bytes ≤ 140737488355328) (hbase : base ≤ w.heap.size) :
    ∃ v' w', (Builtin.append_ #[t, t] ty #[v, .slice A m c]).run P w = .ok v' w' ∧ w'.ownsRow base e size v' (n + m) (xs ++ news) ∧ w.grownBy w' v.ownBlock ∧
      (v'.ownBlock = v.ownBlock ∨ v'.ownBlock = some w.heap.size) := by
  by_cases hm : m = 0
  · subst hm
    have hn : news = [] := List.eq_nil_of_length_eq_zero (by simpa using hr.1)
    subst hn
    cases A with
    | none => exact ⟨v, w, run_append_none' w base t ty e i size ht hi v n xs hown c, by simpa using hown, World.grownBy.refl w _, .inl rfl⟩
    | some ad =>
      obtain ⟨v', w', h, h2, h3, _, h5⟩ := run_append_own_at (P := P) w base t ty e i z size bytes ht hi hz hsize hby hzs hsz v n xs hown ad 0 c [] (by simp) (by simp) h1 h63 hbytes hbase
      exact ⟨v', w', h, h2, h3, h5⟩
  · obtain ⟨ad, rfl, _, hc⟩ := hr.2 (by omega)
    obtain ⟨v', w', h, h2, h3, _, h5⟩ := run_append_own_at (P := P) w base t ty e i z size bytes ht hi hz hsize hby hzs hsz v n xs hown ad m c news hr.1 hc h1 h63 hbytes hbase
    exact ⟨v', w', h, h2, h3, h5⟩
theorem wp_append_sl {o : Oper} {a : Act} {K : Act → World → Prop} {Q : Exit → Act → World → Prop} (s x : Operand) (t : TypeId)
    (ho : o.op = .call { callee := .builtin .append, args := #[s, x], argTypes := #[t, t] })
    (base : Nat) (e : TypeId) (i : TypeInfo) (z : Value) (size bytes : Nat) (ht : P.underlying t = some (.slice e)) (hi : P.info? e = some i) (hz : i.zero = some z)
    (hsize : i.size = size) (hby : i.bytes = bytes) (hzs : z.cells.size = size) (hsz : 0 < size)
    (v : Value) (n : Nat) (xs : List Value) (hs : a.eval s = v) (hown : w.ownsRow base e size v n xs) (A : Option Addr) (m c : Nat) (news : List Value) (hx : a.eval x = .slice A m c)
    (hr : Sl w size A m news) (h1 : ∀ u ∈ news, u.oneCell' = true) (h63 : n + m ≤ maxLen) (hbytes : (n + m) * bytes ≤ 140737488355328) (hbase : base ≤ w.heap.size)
    (h : ∀ v' w', w'.ownsRow base e size v' (n + m) (xs ++ news) → w.grownBy w' v.ownBlock → (v'.ownBlock = v.ownBlock ∨ v'.ownBlock = some w.heap.size) → K (a.put o.dst v') w') : o.wp P a w K Q := by
  obtain ⟨v', w', hrun, h2, h3, h4⟩ := run_append_sl (P := P) w base t o.type e i z size bytes ht hi hz hsize hby hzs hsz v n xs hown A m c news hr h1 h63 hbytes hbase
  unfold Oper.wp execOp
  simp only [ho, resolve, invoke, builtin, Sem.run_bind, Sem.run_pure, Result.andThen_ok, List.map_toArray, List.map_cons, List.map_nil, hs, hx, hrun]
  exact h v' w' h2 h3 h4
theorem wpList_append_sl {ops : Array Oper} {rest : List Oper} {o : Oper} {a : Act} {Q : Exit → Act → World → Prop} (hgd : o.guard = none) (s x : Operand) (t : TypeId)
    (ho : o.op = .call { callee := .builtin .append, args := #[s, x], argTypes := #[t, t] })
    (base : Nat) (e : TypeId) (i : TypeInfo) (z : Value) (size bytes : Nat) (ht : P.underlying t = some (.slice e)) (hi : P.info? e = some i) (hz : i.zero = some z)
    (hsize : i.size = size) (hby : i.bytes = bytes) (hzs : z.cells.size = size) (hsz : 0 < size)
    (v : Value) (n : Nat) (xs : List Value) (hs : a.eval s = v) (hown : w.ownsRow base e size v n xs) (A : Option Addr) (m c : Nat) (news : List Value) (hx : a.eval x = .slice A m c)
    (hr : Sl w size A m news) (h1 : ∀ u ∈ news, u.oneCell' = true) (h63 : n + m ≤ maxLen) (hbytes : (n + m) * bytes ≤ 140737488355328) (hbase : base ≤ w.heap.size)
    (h : ∀ v' w', w'.ownsRow base e size v' (n + m) (xs ++ news) → w.grownBy w' v.ownBlock → (v'.ownBlock = v.ownBlock ∨ v'.ownBlock = some w.heap.size) → wpList P ops Q rest (a.put o.dst v') w') : wpList P ops Q (o :: rest) a w :=
  wpList_plain hgd fun _ hK => wp_append_sl w s x t ho base e i z size bytes ht hi hz hsize hby hzs hsz v n xs hs hown A m c news hx hr h1 h63 hbytes hbase fun v' w' h2 h3 h4 => hK _ _ (h v' w' h2 h3 h4)
end
theorem still_block {w w2 : World} {g : Nat} {o : Obj} (h : w.heap[g]? = some o) (hb : Below w.heap.size w w2) : w2.heap[g]? = some o :=
  (hb.block g (Array.getElem?_eq_some_iff.1 h).1).trans h
theorem blk_cell {w : World} {g : Nat} {cs : Array Value} {t : TypeId} (h : w.heap[g]? = some (.cells cs t (0, 0))) (i : Nat) : w.cell? ⟨g, i, none⟩ = cs[i]? := cell_of_row w g i cs t (0, 0) h
theorem blk_free {w : World} {g : Nat} {cs : Array Value} {t : TypeId} (h : w.heap[g]? = some (.cells cs t (0, 0))) (i : Nat) : w.frozen? ⟨g, i, none⟩ = false := frozen_of_row w g i cs t h
theorem blk_set {w : World} {g : Nat} {cs : Array Value} {t : TypeId} (h : w.heap[g]? = some (.cells cs t (0, 0))) (i : Nat) (u : Value) : (w.setCell ⟨g, i, none⟩ u).heap[g]? = some (.cells (cs.setIfInBounds i u) t (0, 0)) :=
  heap_setCell_same w g i cs t u h
theorem results_cell2 {P : Program} {fn : Func} {p u : Tmp} {ty : TypeId} (h : fn.results = #[.cell p ty, .tmp u]) (tmps : Array Value) (w : World) (g : Nat) (t : TypeId) (cs : Array Value) (d : TypeDesc)
    (hp : tmps.getD p undef = .pointer (some ⟨g, 0, none⟩)) (hg : w.heap[g]? = some (.cells cs t (0, 0)))
    (hu : P.underlying ty = some d) (hd : (match d with | .struct _ | .array _ _ => true | _ => false) = true) (hi : (P.info? ty).map (·.size) = some cs.size) :
    (results fn tmps).run P w = .ok (.tuple #[.agg cs, tmps.getD u undef]) w := by
  rw [results_cell_tmp h]
  have hp' : tmps[p]?.getD undef = .pointer (some ⟨g, 0, none⟩) := by simpa using hp
  simp [hp', asAddr, Result.andThen, run_loadVar_row w g t ty cs (0, 0) d hg hu hd hi]
theorem own_shape {w : World} {base sz n : Nat} {e : TypeId} {v : Value} {xs : List Value} (h : w.ownsRow base e sz v n xs) : ∃ A c, v = .slice A n c := by
  rcases h.2 with ⟨rfl, rfl⟩ | ⟨g, cap, _, rfl, _⟩
  · exact ⟨none, 0, rfl⟩
  · exact ⟨_, _, rfl⟩
theorem Sl.lit (w : World) (sz : Nat) (cs : List Value) (t : TypeId) (n : Nat) (h : cs.length = n * sz) : Sl (w.alloc (.cells cs.toArray t)) sz (some ⟨w.heap.size, 0, none⟩) n cs := by
  refine ⟨h, fun _ => ⟨_, rfl, by simp, fun j u hu => ?_⟩⟩
  rw [Addr.add_lit, cell_of_row _ _ _ _ _ (0, 0) (heap_alloc_new w _)]
  simpa using hu
end Wb
namespace Wb
open Go Go.RowKit
theorem own_below {w w2 : World} {base sz n : Nat} {e : TypeId} {v : Value} {xs : List Value} (h : w.ownsRow base e sz v n xs) (hb : Below w.heap.size w w2) : w2.ownsRow base e sz v n xs := by
  refine ⟨h.1, ?_⟩
  rcases h.2 with hn | ⟨g, cap, cur, rfl, hbg, hg, rest⟩
  · exact .inl hn
  · exact .inr ⟨g, cap, cur, rfl, hbg, still_block hg hb, rest⟩
theorem grown_block {w w2 : World} {g : Nat} {o : Obj} {row : Option Nat} (h : w.heap[g]? = some o) (hg : w.grownBy w2 row) (hne : some g ≠ row) : w2.heap[g]? = some o :=
  (hg.block g (Array.getElem?_eq_some_iff.1 h).1 hne).trans h
def cells1 (l : List ByteArray) : List Value := l.map Value.string
theorem cells1_at (l : List ByteArray) (k : Nat) (x : ByteArray) (h : l[k]? = some x) : (cells1 l)[k]? = some (.string x) := by
  unfold cells1; rw [List.getElem?_map, h]; rfl
theorem cells1_one (l : List ByteArray) : ∀ u ∈ cells1 l, u.oneCell' = true := by
  intro u hu
  obtain ⟨x, _, rfl⟩ := List.mem_map.1 hu
  rfl
theorem cells1_append (a b : List ByteArray) : cells1 (a ++ b) = cells1 a ++ cells1 b := by simp [cells1]
def Sl1 (w : World) (A : Option Addr) (l : List ByteArray) : Prop := Sl w 1 A l.length (cells1 l)
theorem Sl1.below {w w' : World} {A : Option Addr} {l : List ByteArray} (h : Sl1 w A l) (hb : Below w.heap.size w w') : Sl1 w' A l := Sl.below h hb
theorem Sl1.at_ {w : World} {A : Option Addr} {l : List ByteArray} (h : Sl1 w A l) {k : Nat} {x : ByteArray} (hx : l[k]? = some x) :
    ∃ ad, A = some ad ∧ ad.block < w.heap.size ∧ w.cell? (ad.add k) = some (.string x) := by
  have hk : k < l.length := (List.getElem?_eq_some_iff.1 hx).1
  obtain ⟨ad, e, hb, hc⟩ := h.2 (by omega)
  exact ⟨ad, e, hb, hc _ _ (cells1_at l k x hx)⟩
end Wb
namespace Wb
open Go Go.RowKit
def cellsB (l : List UInt8) : List Value := l.map fun b => Value.int .u8 b.toNat
theorem cellsB_length (l : List UInt8) : (cellsB l).length = l.length := by simp [cellsB]
theorem cellsB_one (l : List UInt8) : ∀ u ∈ cellsB l, u.oneCell' = true := by
  intro u hu
  obtain ⟨_, _, rfl⟩ := List.mem_map.1 hu
  rfl
section
variable {P : Program} (w : World)
end
end Wb
namespace Wb
end Wb
namespace Wb
end Wb
namespace Wb
end Wb
namespace Wb
theorem drop_cons (s : ByteArray) (k : Nat) (h : k < s.size) : s.data.toList.drop k = s[k] :: s.data.toList.drop (k + 1) := by
  rw [List.drop_eq_getElem_cons (by simpa using h)]; rfl
end Wb
namespace Wb
end Wb
namespace Wb
end Wb
namespace Wb
end Wb
