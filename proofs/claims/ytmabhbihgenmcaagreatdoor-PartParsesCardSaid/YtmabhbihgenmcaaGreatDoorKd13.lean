/- GvP QaV Scope. -/
import Derived.Deep.SlicePairs
import Derived.Carry
import Derived.Shelf.Vars
import Derived.Lib.LaidU8
import Derived.Lib.LaidTab
import Derived.MakeChecks
import Derived.WideShapes
import Derived.WalkKit
import Derived.ProofKit
import Derived.OpenShut
import Derived.ShutString
import Derived.Lay
import Derived.LaidMore
import Derived.Stop.Joined
import Derived.SevenTiedAt
import Derived.Test.YtmabhbihgenmcaaGreatDoorRows
import Derived.Scope
import Derived.ScopeJumps
import Derived.WalkMore
import Derived.Test.YtmabhbihgenmcaaGreatDoorKd3
import Derived.Test.YtmabhbihgenmcaaGreatDoorKd10
import Derived.Test.YtmabhbihgenmcaaGreatDoorKd12
namespace Go.Proofs.YtmabhbihgenmcaaGreatDoor
open Go.ChangeShapes Go.WideShapes Go.ChangeAt Go.RowKit Wb
set_option linter.unusedVariables false
theorem space_data : (Rows.laid_strings_asciiSpace : DataW Unit) = Lib.tabData .u8 Lib.asciiSpaceTab := by kernel_rfl
set_option maxRecDepth 1000000 in
theorem gvf_of {W : World} {L : List (String × DataW Unit)} (hmem : ("strings.asciiSpace", Rows.laid_strings_asciiSpace) ∈ L) (hL : laidMetH Tryz.prog L W) (hp : laidMetH Tryz.prog L W = laidMet Tryz.prog L W) (hsh : W.ShapedOpen Tryz.prog) : GvF W := by
  rw [hp] at hL
  have r1 : Lib.VarReads Tryz.prog W "strings.asciiSpace" Rows.laid_strings_asciiSpace := Lib.laidMet.reads hL hmem
  have hml := cell_of_shapedOpen_int (P := Tryz.prog) (g := 1) (t := 3) (zero := #[.int .i64 0]) hsh (of_decide_eq_true (by kernel_rfl)) (by kernel_rfl) rfl (by kernel_rfl) (by kernel_rfl) Tryz.underlying3
  obtain ⟨g1, t1, cs1, f1, p1, hg1, ht1, hv1, hd1⟩ := r1
  obtain rfl := Option.some.inj ((show Tryz.prog.globalNamed "strings.asciiSpace" = some 2 by kernel_rfl).symm.trans hg1)
  obtain rfl := Option.some.inj ((show (Tryz.prog.globals[2]?).map (·.type) = some 141 by kernel_rfl).symm.trans ht1)
  rw [space_data] at hd1
  have hc1 := Lib.cells_of_tab (n := 256) Tryz.underlying141 Tryz.underlying5 (by kernel_rfl) (by kernel_rfl) hd1
  refine ⟨hml, ?_⟩
  unfold Lib.TabIs
  rw [hv1, ← hc1]
theorem pow_data : (Rows.laid_internal_strconv_uint64pow10 : DataW Unit) = Lib.tabData .u64 Lib.pow10Tab := by kernel_rfl
set_option maxRecDepth 1000000 in
theorem gvp_of {W : World} {L : List (String × DataW Unit)} (hmem : ("strings.asciiSpace", Rows.laid_strings_asciiSpace) ∈ L) (hmem2 : ("internal/strconv.uint64pow10", Rows.laid_internal_strconv_uint64pow10) ∈ L) (hL : laidMetH Tryz.prog L W) (hp : laidMetH Tryz.prog L W = laidMet Tryz.prog L W) (hsh : W.ShapedOpen Tryz.prog) : GvP W := by
  refine ⟨gvf_of hmem hL hp hsh, ?_⟩
  rw [hp] at hL
  have r1 : Lib.VarReads Tryz.prog W "internal/strconv.uint64pow10" Rows.laid_internal_strconv_uint64pow10 := Lib.laidMet.reads hL hmem2
  obtain ⟨g1, t1, cs1, f1, p1, hg1, ht1, hv1, hd1⟩ := r1
  obtain rfl := Option.some.inj ((show Tryz.prog.globalNamed "internal/strconv.uint64pow10" = some 0 by kernel_rfl).symm.trans hg1)
  obtain rfl := Option.some.inj ((show (Tryz.prog.globals[0]?).map (·.type) = some 131 by kernel_rfl).symm.trans ht1)
  rw [pow_data] at hd1
  have hc1 := Lib.cells_of_tab (n := 20) Tryz.underlying131 Tryz.underlying67 (by kernel_rfl) (by kernel_rfl) hd1
  unfold Lib.TabIs
  rw [hv1, ← hc1]
theorem handed {H : Type} {enc : TypeId × Value → H} {a : Assume} {C : Checked} {os : Os} {f : FuncId} {fn : Func} {s : ChangeSpec} {conds : List PathCond} {apart fresh handsOn again : Bool} {X : World → Array Value → Prop}
    (hX : ∀ (w w' : World) (args : Array Value), w.heap = w'.heap → X w args → X w' args)
    (own : ownKnob C.prog.godebug = none) (started : os.Started) (noInit : C.prog.inits.idxOf? f = none) (hfn : C.prog.funcs[f]? = some fn)
    (witness : ∃ (w : World) (tape : Tape) (i : Input), w.os = os ∧ (w.forCall tape i).Shaped C.prog ∧ i.vars = [] ∧ Input.okWide C.prog (w.forCall tape i) .any w.heap.size f i ∧
      ((s.pre enc C.prog fn conds apart (w.forCall tape i).memory i.args ∧ X (w.forCall tape i).memory i.args) ∧ sizedMet enc C.prog fn (OpenSpec.ofChange s) apart (w.forCall tape i).memory i.args) ∧ a.holds C.prog (lone (Frame.enter C.prog f i.args .normal) [] (w.forCall tape i)))
    (contract : ∀ (W : World) (base : Nat) (args : Array Value) (ds gs : List (DataW H)) (before : List MemPlace),
      (∀ (j : Nat) t v, fn.params[j]? = some t → args[j]? = some v → Value.okWide C.prog W .any base t v) →
      DataW.Whole enc C.prog fn.params.toList s.vars apart W args.toList ds gs before → X W args → W.ShapedOpen C.prog →
      Calls C.prog f args W fun e W' => ∃ v, e = .returned v ∧ s.post enc C.prog fn apart fresh handsOn again W args v W') :
    ReturnsInHanded a C os f .any (fun w args => (s.pre enc C.prog fn conds apart w args ∧ X w args) ∧ sizedMet enc C.prog fn (OpenSpec.ofChange s) apart w args) (s.post enc C.prog fn apart fresh handsOn again) := by
  refine returnsInHanded_of_calls own started noInit witness ?_
  intro w tape i _ hsh _ hok hpre hholds
  obtain ⟨_, _, _, fn', hfn', _, _, _, _, hval⟩ := hok
  have e : fn' = fn := Option.some.inj (hfn'.symm.trans hfn)
  subst e
  obtain ⟨⟨⟨ds, gs, before, hw, hc⟩, hx⟩, hz⟩ := hpre
  have hw' := DataW.Whole.of_heap (w' := w.forCall tape i) (by rfl) hw
  refine (contract (w.forCall tape i) w.heap.size i.args ds gs before hval hw' (hX _ _ _ (by rfl) hx) hsh).mono fun e W' ⟨v, he, hp⟩ => ?_
  subst he
  exact ChangeSpec.post_blind hp
end Go.Proofs.YtmabhbihgenmcaaGreatDoor
namespace Wb
open Go
theorem findD_none_iff (b : List UInt8) : ∀ s : List UInt8, findD b s = none ↔ inF (lineD b) s = false
  | [] => by
    refine ⟨fun _ => ?_, fun _ => rfl⟩
    unfold inF lineD
    rfl
  | c :: l => by
    rw [findD, inF_cons]
    cases h : (lineD b).isPrefixOf (c :: l)
    · rw [if_neg (by simp), Option.map_eq_none_iff, findD_none_iff b l]
      simp
    · rw [if_pos rfl]
      simp
theorem nextD_clash (b body : List UInt8) : (nextD b body = none ↔ clashB b body = false) := by
  unfold clashB
  rw [← findD_none_iff, findD_two]
  unfold nextD
  split
  · simp
  · rw [Option.map_eq_none_iff]
theorem next_clash {b body : List UInt8} {r : Int} (h : NextIs b body 0 r) : (r = -1 ∧ clashB b body = false) ∨ ∃ k : Nat, r = k ∧ k ≤ body.length ∧ clashB b body = true := by
  have h2 := next_D (.inl rfl) h
  rw [List.drop_zero] at h2
  rcases h2 with ⟨h1, h3⟩ | ⟨k, h1, _, h4, _, h5⟩
  · exact .inl ⟨h1, (nextD_clash b body).1 h3⟩
  · refine .inr ⟨k, h1, ?_, ?_⟩
    · unfold dAt at h4
      rw [Bool.and_eq_true] at h4
      have := pre_len h4.1
      rw [delB_len, List.length_drop] at this
      omega
    · cases hq : clashB b body
      · rw [(nextD_clash b body).2 hq] at h5
        cases h5
      · rfl
theorem suf_at {s : List UInt8} {k : Nat} (hk : k ≤ s.length) : Lib.hasSuffix (s.take k) [13, 10] = (decide (2 ≤ k) && ([13, 10] : List UInt8).isPrefixOf (s.drop (k - 2))) := by
  rw [Bool.eq_iff_iff, Bool.and_eq_true, decide_eq_true_eq]
  unfold Lib.hasSuffix
  rw [List.isSuffixOf_iff_suffix, List.isPrefixOf_iff_prefix]
  constructor
  · intro h
    have hl := h.length_le
    rw [List.length_take] at hl
    simp only [List.length_cons, List.length_nil] at hl
    have h2 : 2 ≤ k := by omega
    refine ⟨h2, ?_⟩
    obtain ⟨x, hx⟩ := h
    have hxl : x.length = k - 2 := by
      have := congrArg List.length hx
      rw [List.length_append, List.length_take] at this
      simp only [List.length_cons, List.length_nil] at this
      omega
    have : (s.take k).drop (k - 2) = [13, 10] := by rw [← hx, ← hxl, List.drop_left]
    rw [List.drop_take] at this
    rw [← this]
    exact List.take_prefix _ _
  · rintro ⟨h2, x, hx⟩
    have : (s.take k) = s.take (k - 2) ++ [13, 10] := by
      have e := List.take_append_drop (k - 2) (s.take k)
      rw [List.take_take, List.drop_take, ← hx, Nat.min_eq_left (by omega), show k - (k - 2) = ([13, 10] : List UInt8).length from by simp; omega, List.take_left] at e
      exact e.symm
    rw [this]
    exact ⟨_, rfl⟩
theorem dAt_suf {b s : List UInt8} {k : Nat} (hk : k ≤ s.length) (h : (delB b).isPrefixOf (s.drop k) = true) : dAt b s k = (decide (k = 0) || Lib.hasSuffix (s.take k) [13, 10]) := by
  unfold dAt
  rw [h, suf_at hk, Bool.true_and]
theorem idx_step {b s : List UInt8} {a : Nat} (ha : a ≤ s.length) (h : ∀ i, i < a → dAt b s i = false) :
    (Lib.index (s.drop a) (delB b) = -1 ∧ NextIs b s 0 (-1)) ∨ ∃ n : Nat, Lib.index (s.drop a) (delB b) = n ∧ a + n + (2 + b.length) ≤ s.length ∧ (delB b).isPrefixOf (s.drop (a + n)) = true ∧ ∀ i, i < a + n → dAt b s i = false := by
  rcases Lib.index_spec (s.drop a) (delB b) with ⟨h1, h2⟩ | ⟨n, h1, _, h3, h4⟩
  · refine .inl ⟨h1, .inl ⟨rfl, fun i _ => ?_⟩⟩
    by_cases hi : i < a
    · exact h i hi
    · unfold dAt
      have : (delB b).isPrefixOf (s.drop i) = false := by
        by_cases hl : i ≤ s.length
        · have := h2 (i - a) (by rw [List.length_drop]; omega)
          unfold Lib.occAt at this
          rwa [List.drop_drop, show a + (i - a) = i from by omega] at this
        · cases hq : (delB b).isPrefixOf (s.drop i)
          · rfl
          · have := pre_len hq
            rw [delB_len, List.length_drop] at this
            omega
      rw [this]
      rfl
  · have hp : (delB b).isPrefixOf (s.drop (a + n)) = true := by
      unfold Lib.occAt at h3
      rwa [List.drop_drop] at h3
    have hl := pre_len hp
    rw [delB_len, List.length_drop] at hl
    refine .inr ⟨n, h1, by omega, hp, fun i hi => ?_⟩
    by_cases hia : i < a
    · exact h i hia
    · unfold dAt
      have := h4 (i - a) (by omega)
      unfold Lib.occAt at this
      rw [List.drop_drop, show a + (i - a) = i from by omega] at this
      rw [this]
      rfl
theorem text_cut {b Y : List UInt8} {r : Int} (h : NextIs b (13 :: 10 :: Y) 0 r) : (r = -1 ∧ nextD b Y = none) ∨ ∃ k : Nat, r = k ∧ k ≤ Y.length + 2 ∧
    nextD b Y = some (Lib.trimSuffix (Lib.trimPrefix ((13 :: 10 :: Y).take k) [13, 10]) [13, 10], (13 :: 10 :: Y).drop k) ∧ (delB b).isPrefixOf ((13 :: 10 :: Y).drop k) = true := by
  have d0 : dAt b (13 :: 10 :: Y) 0 = false := by
    unfold dAt delB
    rw [List.drop_zero, List.isPrefixOf_cons_cons, show ((45 : UInt8) == 13) = false from by decide]
    rfl
  have d1 : dAt b (13 :: 10 :: Y) 1 = false := by
    unfold dAt delB
    rw [List.drop_succ_cons, List.drop_zero, List.isPrefixOf_cons_cons, show ((45 : UInt8) == 10) = false from by decide]
    rfl
  have d3 : dAt b (13 :: 10 :: Y) 3 = false := by
    unfold dAt
    rw [show (13 :: 10 :: Y).drop (3 - 2) = 10 :: Y from rfl, List.isPrefixOf_cons_cons, show ((13 : UInt8) == 10) = false from by decide]
    simp
  have h2 : NextIs b (13 :: 10 :: Y) 2 r := by
    rcases h with ⟨h1, h2⟩ | ⟨k, h1, _, h3, h4⟩
    · exact .inl ⟨h1, fun i _ => h2 i (Nat.zero_le _)⟩
    · refine .inr ⟨k, h1, ?_, h3, fun i _ hi => h4 i (Nat.zero_le _) hi⟩
      cases k with
      | zero => rw [d0] at h3; cases h3
      | succ k =>
        cases k with
        | zero => rw [d1] at h3; cases h3
        | succ k => omega
  have hl2 : LineAt (13 :: 10 :: Y) 2 := .inr ⟨Nat.le_refl _, by simp [List.isPrefixOf]⟩
  rcases next_D hl2 h2 with ⟨h3, h4⟩ | ⟨k, h3, h4, h5, h6, h7⟩
  · exact .inl ⟨h3, h4⟩
  · right
    have hp : (delB b).isPrefixOf ((13 :: 10 :: Y).drop k) = true := by
      unfold dAt at h5
      rw [Bool.and_eq_true] at h5
      exact h5.1
    have hkl : k ≤ Y.length + 2 := by
      have := pre_len hp
      rw [delB_len, List.length_drop] at this
      simp only [List.length_cons] at this
      omega
    refine ⟨k, h3, hkl, ?_, hp⟩
    have e : (13 :: 10 :: Y).drop 2 = Y := rfl
    rw [e] at h7
    rw [h7]
    congr 2
    have htp : Lib.trimPrefix ((13 :: 10 :: Y).take k) [13, 10] = Y.take (k - 2) := by
      obtain ⟨m, rfl⟩ : ∃ m, k = m + 2 := ⟨k - 2, by omega⟩
      unfold Lib.trimPrefix Lib.hasPrefix
      rw [List.take_succ_cons, List.take_succ_cons, if_pos (by simp [List.isPrefixOf])]
      rfl
    rw [htp]
    by_cases hk2 : k = 2
    · subst hk2
      unfold Lib.trimSuffix
      split
      · simp
      · rfl
    · have hk4 : 4 ≤ k := by
        cases Nat.lt_or_ge k 4 with
        | inr h' => exact h'
        | inl h' =>
          obtain rfl : k = 3 := by omega
          rw [d3] at h5
          cases h5
      have hs : Lib.hasSuffix (Y.take (k - 2)) [13, 10] = true := by
        rw [suf_at (by omega), Bool.and_eq_true, decide_eq_true_eq]
        refine ⟨by omega, ?_⟩
        rcases h6 with h6 | ⟨_, h6⟩
        · omega
        · obtain ⟨m, rfl⟩ : ∃ m, k = m + 4 := ⟨k - 4, by omega⟩
          exact h6
      unfold Lib.trimSuffix
      rw [if_pos hs]
      rw [List.length_take, List.take_take]
      congr 1
      simp only [List.length_cons, List.length_nil]
      omega
end Wb
namespace Wb
open Go
def jumpsTo (J : Nat → Act → World → Prop) (Q : Exit → Act → World → Prop) : Exit → Act → World → Prop
  | .goto l, a, w => J l a w
  | e, a, w => Q e a w
section
variable {P : Program} {a : Act} {w : World} {Q : Exit → Act → World → Prop}
theorem jumpsTo_normal {J : Nat → Act → World → Prop} : jumpsTo J Q .normal a w = Q .normal a w := rfl
theorem jumpsTo_ret {J : Nat → Act → World → Prop} : jumpsTo J Q .ret a w = Q .ret a w := rfl
theorem jumpsTo_panic {J : Nat → Act → World → Prop} (ch : List PanicEntry) : jumpsTo J Q (.panic ch) a w = Q (.panic ch) a w := rfl
theorem jumpsTo_goto {J : Nat → Act → World → Prop} (l : Nat) : jumpsTo J Q (.goto l) a w = J l a w := rfl
theorem wp_scope_ghost {c : Code} (J : Nat → Nat → Act → World → Prop)
    (first : c.wp P (jumpsTo (fun l a' w' => ∃ n, J l n a' w') Q) a w)
    (pass : ∀ l n a w, J l n a w → ∃ rest, findLabel c l = some rest ∧ rest.wp P (jumpsTo (fun l' a' w' => ∃ n', n' < n ∧ J l' n' a' w') Q) a w) : (Code.scope c).wp P Q a w := by
  intro b k cs
  have key : ∀ n l a w, J l n a w → ∃ rest, gotoIn l (.inScope c :: k) = some (.code rest :: .inScope c :: k) ∧ ∃ e a' w', Q e a' w' ∧ Arrives P (lone (b.at a (.code rest :: .inScope c :: k)) cs w) b k cs e a' w' := by
    intro n
    induction n using Nat.strongRecOn with
    | _ n ih =>
      intro l a w hJ
      obtain ⟨rest, hf, hp⟩ := pass l n a w hJ
      have hg : gotoIn l (.inScope c :: k) = some (.code rest :: .inScope c :: k) := by simp [gotoIn, hf]
      refine ⟨rest, hg, ?_⟩
      obtain ⟨e, a₁, w₁, hq, harr⟩ := hp b (.inScope c :: k) cs
      cases e with
      | normal => exact ⟨.normal, a₁, w₁, hq, Steps.trans harr (.one step_inScope)⟩
      | exit id => exact ⟨.exit id, a₁, w₁, hq, fun k' hk => harr k' (by simp [exitTo, hk])⟩
      | goto l' =>
        obtain ⟨n', hlt, hJ'⟩ := hq
        obtain ⟨rest', hg', e₂, a₂, w₂, hq₂, harr₂⟩ := ih n' hlt l' a₁ w₁ hJ'
        exact ⟨e₂, a₂, w₂, hq₂, .of_steps (harr _ hg') harr₂⟩
      | ret => exact ⟨_, a₁, w₁, hq, harr⟩
      | panic ch => exact ⟨_, a₁, w₁, hq, harr⟩
      | outgrown => exact ⟨_, a₁, w₁, hq, harr⟩
  obtain ⟨e, a₁, w₁, hq, harr⟩ := first b (.inScope c :: k) cs
  cases e with
  | normal => exact ⟨.normal, a₁, w₁, hq, .head step_scope (Steps.trans harr (.one step_inScope))⟩
  | exit id => exact ⟨.exit id, a₁, w₁, hq, fun k' hk => .head step_scope (harr k' (by simp [exitTo, hk]))⟩
  | goto l' =>
    obtain ⟨n', hJ'⟩ := hq
    obtain ⟨rest', hg', e₂, a₂, w₂, hq₂, harr₂⟩ := key n' l' a₁ w₁ hJ'
    exact ⟨e₂, a₂, w₂, hq₂, .of_steps (.head step_scope (harr _ hg')) harr₂⟩
  | ret => exact ⟨_, a₁, w₁, hq, .of_steps (.one step_scope) harr⟩
  | panic ch => exact ⟨_, a₁, w₁, hq, .of_steps (.one step_scope) harr⟩
  | outgrown => exact ⟨_, a₁, w₁, hq, .of_steps (.one step_scope) harr⟩
theorem jumpsTo_weaken {c : Code} {J J' : Nat → Act → World → Prop} (h : ∀ l a w, J l a w → J' l a w) (hc : c.wp P (jumpsTo J Q) a w) : c.wp P (jumpsTo J' Q) a w := by
  refine Code.wp_mono ?_ hc
  intro e a w hq
  cases e with
  | goto l => exact h l a w hq
  | normal => exact hq
  | exit id => exact hq
  | ret => exact hq
  | panic ch => exact hq
  | outgrown => exact hq
end
end Wb
