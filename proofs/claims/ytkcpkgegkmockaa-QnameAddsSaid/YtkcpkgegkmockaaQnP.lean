
/- Walk of the statement on a scope with one binding more. -/
import Derived.Test.YtkcpkgegkmockaaQnO
namespace Go.Proofs.Ytkcpkgegkmockaa
open Go.RowKit Wb Go.Maps

section
variable {P : Program} (w : World)

/-- 'make([]T, 0, n)', the new block written out. -/
theorem wpList_make_blk {ops : Array Oper} {rest : List Oper} {o : Oper} {a : Act} {Q : Exit → Act → World → Prop} (hg : o.guard = none) (l c : Operand) (t : TypeId) (hop : o.op = Op.makeSlice t l c)
    (e : TypeId) (i : TypeInfo) (z : Value) (size : Nat) (h1 : P.underlying t = some (.slice e)) (h2 : P.info? e = some i) (h3 : i.zero = some z) (h4 : i.size = size)
    (C : Int) (n : Nat) (hl : a.eval l = .int .i64 0) (hc : a.eval c = .int .i64 C) (hC : C = (n : Int)) (b2 : (i.bytes : Int) * n ≤ 281474976710656) (b3 : (n : Int) ≤ 9223372036854775807)
    (hK : wpList P ops Q rest (a.put o.dst (.slice (some ⟨w.heap.size, 0, none⟩) 0 n)) (w.alloc (.cells (madeCells z.cells (n * size)) e))) : wpList P ops Q (o :: rest) a w := by
  refine wpList_plain hg fun K hK' => ?_
  have hrun := run_make (P := P) w t e i z h1 h2 h3 .i64 .i64 0 n (Int.le_refl _) (by omega) b2 b3
  simp only [Int.toNat_zero, Int.toNat_natCast] at hrun
  subst hC
  subst h4
  unfold Oper.wp
  simp [execOp, hop, hl, hc, hrun, Result.andThen]
  exact hK' _ _ hK

/-- append within the capacity onto an empty slice at the head of a block that is known whole. -/
theorem wpList_append_blk {ops : Array Oper} {rest : List Oper} {o : Oper} {a : Act} {Q : Exit → Act → World → Prop} (hgd : o.guard = none) (s x : Operand) (t : TypeId)
    (ho : o.op = .call { callee := .builtin .append, args := #[s, x], argTypes := #[t, t] })
    (e : TypeId) (i : TypeInfo) (size : Nat) (ht : P.underlying t = some (.slice e)) (hi : P.info? e = some i) (hsize : i.size = size)
    (g cap : Nat) (cur : Array Value) (hg : w.heap[g]? = some (.cells cur e (0, 0))) (hcm : cap ≤ maxLen) (hcur : cur.size = cap * size) (hs : a.eval s = .slice (some ⟨g, 0, none⟩) 0 cap)
    (A : Option Addr) (m c : Nat) (news : List Value) (hx : a.eval x = .slice A m c) (hr : Sl w size A m news) (h1 : ∀ u ∈ news, u.oneCell' = true) (hroom : m ≤ cap)
    (h : ∀ w', w'.heap[g]? = some (.cells (news ++ cur.toList.drop news.length).toArray e (0, 0)) → w.grownBy w' (some g) → wpList P ops Q rest (a.put o.dst (.slice (some ⟨g, 0, none⟩) m cap)) w') : wpList P ops Q (o :: rest) a w := by
  refine wpList_plain hgd fun K hK => ?_
  have key : ∃ w', (Builtin.append_ #[t, t] o.type #[.slice (some ⟨g, 0, none⟩) 0 cap, .slice A m c]).run P w = .ok (.slice (some ⟨g, 0, none⟩) m cap) w' ∧
      w'.heap[g]? = some (.cells (news ++ cur.toList.drop news.length).toArray e (0, 0)) ∧ w.grownBy w' (some g) := by
    by_cases hm : m = 0
    · subst hm
      have hn : news = [] := List.eq_nil_of_length_eq_zero (by simpa using hr.1)
      subst hn
      cases A with
      | none =>
        refine ⟨w, run_append_none' w 0 t o.type e i size ht hi _ 0 [] ⟨by simp, .inr ⟨g, cap, cur, rfl, Nat.zero_le _, hg, Nat.zero_le _, hcm, hcur, by simp⟩⟩ c, by simpa using hg, World.grownBy.refl w _⟩
      | some ad =>
        subst hsize
        have hrun := run_append_room (P := P) w t o.type e i ht hi g 0 cap cur hg ad 0 c [] (by simp) (by simp) h1 (by omega) (by simp)
        exact ⟨_, hrun, by simpa using setRow_heap w g cur _ e _ hg, ⟨rfl, rfl, rfl, by simp, fun k _ hk => setRow_other w g k _ (fun e => hk (by simp [e]))⟩⟩
    · obtain ⟨ad, rfl, _, hc⟩ := hr.2 (by omega)
      subst hsize
      have hrun := run_append_room (P := P) w t o.type e i ht hi g 0 cap cur hg ad m c news hr.1 hc h1 (by omega) (by rw [hr.1, hcur, Nat.zero_mul, Nat.zero_add]; exact Nat.mul_le_mul_right _ hroom)
      exact ⟨w.setRow g (news ++ cur.toList.drop news.length).toArray, by simpa using hrun, setRow_heap w g cur _ e _ hg, ⟨rfl, rfl, rfl, by simp, fun k _ hk => setRow_other w g k _ (fun e => hk (by simp [e]))⟩⟩
  obtain ⟨w', hrun, h2, h3⟩ := key
  unfold Oper.wp execOp
  simp only [ho, resolve, invoke, builtin, Sem.run_bind, Sem.run_pure, Result.andThen_ok, List.map_toArray, List.map_cons, List.map_nil, hs, hx, hrun]
  exact hK _ _ (h w' h2 h3)
end

theorem Sl2.of_block {w : World} {g : Nat} {t : TypeId} {l : List Pr} {more : List Value} (h : w.heap[g]? = some (.cells (cells2 l ++ more).toArray t (0, 0))) : Sl2 w (some ⟨g, 0, none⟩) l := by
  refine ⟨cells2_length l, fun _ => ⟨_, rfl, (Array.getElem?_eq_some_iff.1 h).1, fun j u hu => ?_⟩⟩
  rw [Addr.add_lit, blk_cell h, Nat.zero_add, List.getElem?_toArray, List.getElem?_append_left (List.getElem?_eq_some_iff.1 hu).1]
  exact hu

theorem made_at (n j : Nat) (h : j < n) : (madeCells (Value.agg #[.string ⟨#[]⟩, .string ⟨#[]⟩]).cells n)[j]? = some (.string ⟨#[]⟩) := by
  unfold madeCells
  rw [Array.getElem?_map, Array.getElem?_range, if_pos h]
  have : j % 2 = 0 ∨ j % 2 = 1 := by omega
  rcases this with e | e <;> simp [Value.cells, e]

theorem spare_cell {w : World} {g : Nat} {t : TypeId} {l : List Pr} {n : Nat} (h : w.heap[g]? = some (.cells (cells2 l ++ (madeCells (Value.agg #[.string ⟨#[]⟩, .string ⟨#[]⟩]).cells n).toList.drop (cells2 l).length).toArray t (0, 0))) (j : Nat)
    (h1 : l.length * 2 ≤ j) (h2 : j < n) : w.cell? ⟨g, j, none⟩ = some (.string ⟨#[]⟩) := by
  rw [blk_cell h, List.getElem?_toArray, List.getElem?_append_right (by rw [cells2_length]; exact h1), List.getElem?_drop]
  have e : (cells2 l).length + (j - (cells2 l).length) = j := by rw [cells2_length]; omega
  rw [e, Array.getElem?_toList]
  exact made_at n j h2

def addR (l : List Pr) (p s : ByteArray) : List Pr × Int := if bindB p s = 0 then (l ++ [(p, s)], 0) else ([], bindB p s)
theorem addR_len {l X : List Pr} {p s : ByteArray} {er : Int} (h : addR l p s = (X, er)) : X.length ≤ l.length + 1 := by
  unfold addR at h
  split at h <;> (simp only [Prod.mk.injEq] at h; obtain ⟨rfl, _⟩ := h; simp)
theorem AddPost.out {l X : List Pr} {p s : ByteArray} {er : Int} {w w' : World} {e : Ending} (h : AddPost l p s w e w') (hr : addR l p s = (X, er)) :
    Below w.heap.size w w' ∧ ∃ C k, e = .returned (.tuple #[.slice C X.length k, .int .i64 er]) ∧ Sl2 w' C X := by
  obtain ⟨h1, h2, h3⟩ := h.split rfl
  refine ⟨h1, ?_⟩
  unfold addR at hr
  by_cases h0 : bindB p s = 0
  · rw [if_pos h0] at hr
    simp only [Prod.mk.injEq] at hr
    obtain ⟨rfl, rfl⟩ := hr
    obtain ⟨C, k, e1, hC, _⟩ := h2 h0
    exact ⟨C, k, e1, hC⟩
  · rw [if_neg h0] at hr
    simp only [Prod.mk.injEq] at hr
    obtain ⟨rfl, rfl⟩ := hr
    exact ⟨none, 0, h3 h0, Sl2.nil _ _⟩

set_option maxHeartbeats 4000000 in
set_option maxRecDepth 100000 in
theorem adds_walk (A : Option Addr) (l : List Pr) (c : Nat) (p s o : ByteArray) (w : World) (hA : Sl2 w A l) :
    Calls Try.prog 4 #[.slice A l.length c, .string p, .string s, .string o] w fun e w' => e = .returned (.bool true) ∧ Below w.heap.size w w' := by
  obtain ⟨i0, hi, hz0, hz1, hz2⟩ := info_parts bind_info
  go_enter Try.func4, Try.ntmps4
  go_wp2_with fail
  refine (awake_any _).mono ?_
  rintro e w1 ⟨rfl, hb⟩
  go_wp2_with fail
  refine (few_any A l c _ (hA.below hb)).mono ?_
  rintro e w2 ⟨hb2, b, rfl, hfew⟩
  replace hb := hb.trans (hb2.mono hb.size)
  clear hb2
  cases b
  · clear hfew
    go_wp2
    go_ret
    exact ⟨rfl, hb⟩
  have hl2 : l.length < 3000 := by have := hfew rfl; omega
  clear hfew
  by_cases hp : (3000 : Int) < p.size
  · go_wp2
    go_ret
    exact ⟨rfl, hb⟩
  by_cases hs : (3000 : Int) < s.size
  · go_wp2
    go_ret
    exact ⟨rfl, hb⟩
  by_cases ho : (3000 : Int) < o.size
  · go_wp2
    go_ret
    exact ⟨rfl, hb⟩
  go_wp2_with (first
    | (at_make; refine wpList_make_blk _ rfl _ _ _ rfl 35 i0 (.agg #[.string ⟨#[]⟩, .string ⟨#[]⟩]) 2 Try.underlying26 hi hz0 hz1 _ (l.length + 2) rfl rfl (by omega) (by rw [hz2]; omega) (by omega) ?_)
    | (at_builtin; refine wpList_append_blk _ rfl (.tmp 41) (.tmp 42) _ rfl 35 i0 2 Try.underlying26 hi hz1 w2.heap.size (l.length + 2) _ (heap_alloc_new w2 _) (by simp only [maxLen]; omega) (size_madeCells _ _) rfl A l.length c (cells2 l) rfl ((hA.below hb).alloc _) (cells2_one l) (by omega) ?_; intro w3 hm3 hg3))
  have hb3 : Below w.heap.size w w3 := (hb.alloc hb.size _).grown hg3 (hb.alloc hb.size _).size (fun k hk => by injection hk with hk; subst hk; exact hb.size)
  have hM := Sl2.of_block hm3
  have HM := Lib.hid hm3
  clear hb hg3 hm3
  have hb := hb3
  clear hb3
  obtain ⟨X, er, hX⟩ : ∃ X er, addR l p s = (X, er) := ⟨_, _, rfl⟩
  have hXl := addR_len hX
  have HX := Lib.hid hX
  clear hX
  obtain ⟨f1, f2, hf⟩ : ∃ f1 f2, findB l o = (f1, f2) := ⟨_, _, rfl⟩
  have HF := Lib.hid hf
  clear hf
  refine (add_any (some ⟨w2.heap.size, 0, none⟩) l (l.length + 2) p s _ (by omega) (by omega) hM).mono ?_
  rintro e w4 hP
  obtain ⟨hb2, C, k1, rfl, hC⟩ := hP.out HX.out
  replace HM := Lib.hid (still_block HM.out hb2)
  replace hb := hb.trans (hb2.mono hb.size)
  clear hP hb2 hM
  go_wp2_with fail
  refine (radd_any A l c p s _ (by omega) (by omega) (hA.below hb)).mono ?_
  rintro e w5 hP
  obtain ⟨hb2, D, k2, rfl, hD⟩ := hP.out HX.out
  replace HM := Lib.hid (still_block HM.out hb2)
  replace hC := hC.below hb2
  replace hb := hb.trans (hb2.mono hb.size)
  clear hP hb2
  go_wp2_with fail
  refine (binds_same C D X k1 k2 _ (by omega) hC hD).mono ?_
  rintro e w6 ⟨rfl, hb2⟩
  replace HM := Lib.hid (still_block HM.out hb2)
  replace hb := hb.trans (hb2.mono hb.size)
  clear hb2 hC hD
  go_wp2_with fail
  refine (binds_same (some ⟨w2.heap.size, 0, none⟩) A l (l.length + 2) c _ (by omega) (Sl2.of_block HM.out) (hA.below hb)).mono ?_
  rintro e w7 ⟨rfl, hb2⟩
  replace HM := Lib.hid (still_block HM.out hb2)
  replace hb := hb.trans (hb2.mono hb.size)
  clear hb2
  have c1 := spare_cell HM.out (l.length * 2) (Nat.le_refl _) (by omega)
  have c2 := spare_cell HM.out (l.length * 2 + 1) (by omega) (by omega)
  have hM := Sl2.of_block HM.out
  go_wp2_with fail
  clear c1 c2
  refine (find_any (some ⟨w2.heap.size, 0, none⟩) l (l.length + 2) o _ (by omega) hM).mono ?_
  rw [HF.out]
  rintro e w8 ⟨rfl, rfl⟩
  go_wp2_with fail
  refine (rfind_any A l c o _ (by omega) (hA.below hb)).mono ?_
  rw [HF.out]
  rintro e w9 ⟨rfl, rfl⟩
  go_wp2
  go_ret
  exact ⟨rfl, hb⟩
end Go.Proofs.Ytkcpkgegkmockaa
