/- QaV Scope QcB FfB. -/
import Derived.Scope
import Derived.ScopeJumps
import Derived.WalkMore
import Derived.Deep.RegionLaw
import Derived.Deep.Cut
import Derived.Test.YtmabhbihgenmcaaGreatDoorKc10
import Derived.Test.YtmabhbihgenmcaaGreatDoorKc12
import Derived.Test.YtmabhbihgenmcaaGreatDoorKc13
namespace Wb
open Go
theorem findD_none_iff (b : List UInt8) : ∀ s : List UInt8, findD b s = none ↔ inF (lineD b) s = false
  | [] => by
    refine ⟨fun _ => ?_, fun _ => rfl⟩
    unfold inF lineD
    rfl
  | c :: l => by
    rw [findD, inF_cons]
    cases h : (lineD b).isPrefixOf (c :: l)
    · rw [if_neg (by simp), Option.map_eq_none_iff, findD_none_iff b l]
      simp
    · rw [if_pos rfl]
      simp
theorem nextD_clash (b body : List UInt8) : (nextD b body = none ↔ clashB b body = false) := by
  unfold clashB
  rw [← findD_none_iff, findD_two]
  unfold nextD
  split
  · simp
  · rw [Option.map_eq_none_iff]
theorem next_clash {b body : List UInt8} {r : Int} (h : NextIs b body 0 r) : (r = -1 ∧ clashB b body = false) ∨ ∃ k : Nat, r = k ∧ k ≤ body.length ∧ clashB b body = true := by
  have h2 := next_D (.inl rfl) h
  rw [List.drop_zero] at h2
  rcases h2 with ⟨h1, h3⟩ | ⟨k, h1, _, h4, _, h5⟩
  · exact .inl ⟨h1, (nextD_clash b body).1 h3⟩
  · refine .inr ⟨k, h1, ?_, ?_⟩
    · unfold dAt at h4
      rw [Bool.and_eq_true] at h4
      have := pre_len h4.1
      rw [delB_len, List.length_drop] at this
      omega
    · cases hq : clashB b body
      · rw [(nextD_clash b body).2 hq] at h5
        cases h5
      · rfl
theorem suf_at {s : List UInt8} {k : Nat} (hk : k ≤ s.length) : Lib.hasSuffix (s.take k) [13, 10] = (decide (2 ≤ k) && ([13, 10] : List UInt8).isPrefixOf (s.drop (k - 2))) := by
  rw [Bool.eq_iff_iff, Bool.and_eq_true, decide_eq_true_eq]
  unfold Lib.hasSuffix
  rw [List.isSuffixOf_iff_suffix, List.isPrefixOf_iff_prefix]
  constructor
  · intro h
    have hl := h.length_le
    rw [List.length_take] at hl
    simp only [List.length_cons, List.length_nil] at hl
    have h2 : 2 ≤ k := by omega
    refine ⟨h2, ?_⟩
    obtain ⟨x, hx⟩ := h
    have hxl : x.length = k - 2 := by
      have := congrArg List.length hx
      rw [List.length_append, List.length_take] at this
      simp only [List.length_cons, List.length_nil] at this
      omega
    have : (s.take k).drop (k - 2) = [13, 10] := by rw [← hx, ← hxl, List.drop_left]
    rw [List.drop_take] at this
    rw [← this]
    exact List.take_prefix _ _
  · rintro ⟨h2, x, hx⟩
    have : (s.take k) = s.take (k - 2) ++ [13, 10] := by
      have e := List.take_append_drop (k - 2) (s.take k)
      rw [List.take_take, List.drop_take, ← hx, Nat.min_eq_left (by omega), show k - (k - 2) = ([13, 10] : List UInt8).length from by simp; omega, List.take_left] at e
      exact e.symm
    rw [this]
    exact ⟨_, rfl⟩
theorem dAt_suf {b s : List UInt8} {k : Nat} (hk : k ≤ s.length) (h : (delB b).isPrefixOf (s.drop k) = true) : dAt b s k = (decide (k = 0) || Lib.hasSuffix (s.take k) [13, 10]) := by
  unfold dAt
  rw [h, suf_at hk, Bool.true_and]
theorem idx_step {b s : List UInt8} {a : Nat} (ha : a ≤ s.length) (h : ∀ i, i < a → dAt b s i = false) :
    (Lib.index (s.drop a) (delB b) = -1 ∧ NextIs b s 0 (-1)) ∨ ∃ n : Nat, Lib.index (s.drop a) (delB b) = n ∧ a + n + (2 + b.length) ≤ s.length ∧ (delB b).isPrefixOf (s.drop (a + n)) = true ∧ ∀ i, i < a + n → dAt b s i = false := by
  rcases Lib.index_spec (s.drop a) (delB b) with ⟨h1, h2⟩ | ⟨n, h1, _, h3, h4⟩
  · refine .inl ⟨h1, .inl ⟨rfl, fun i _ => ?_⟩⟩
    by_cases hi : i < a
    · exact h i hi
    · unfold dAt
      have : (delB b).isPrefixOf (s.drop i) = false := by
        by_cases hl : i ≤ s.length
        · have := h2 (i - a) (by rw [List.length_drop]; omega)
          unfold Lib.occAt at this
          rwa [List.drop_drop, show a + (i - a) = i from by omega] at this
        · cases hq : (delB b).isPrefixOf (s.drop i)
          · rfl
          · have := pre_len hq
            rw [delB_len, List.length_drop] at this
            omega
      rw [this]
      rfl
  · have hp : (delB b).isPrefixOf (s.drop (a + n)) = true := by
      unfold Lib.occAt at h3
      rwa [List.drop_drop] at h3
    have hl := pre_len hp
    rw [delB_len, List.length_drop] at hl
    refine .inr ⟨n, h1, by omega, hp, fun i hi => ?_⟩
    by_cases hia : i < a
    · exact h i hia
    · unfold dAt
      have := h4 (i - a) (by omega)
      unfold Lib.occAt at this
      rw [List.drop_drop, show a + (i - a) = i from by omega] at this
      rw [this]
      rfl
theorem text_cut {b Y : List UInt8} {r : Int} (h : NextIs b (13 :: 10 :: Y) 0 r) : (r = -1 ∧ nextD b Y = none) ∨ ∃ k : Nat, r = k ∧ k ≤ Y.length + 2 ∧
    nextD b Y = some (Lib.trimSuffix (Lib.trimPrefix ((13 :: 10 :: Y).take k) [13, 10]) [13, 10], (13 :: 10 :: Y).drop k) ∧ (delB b).isPrefixOf ((13 :: 10 :: Y).drop k) = true := by
  have d0 : dAt b (13 :: 10 :: Y) 0 = false := by
    unfold dAt delB
    rw [List.drop_zero, List.isPrefixOf_cons_cons, show ((45 : UInt8) == 13) = false from by decide]
    rfl
  have d1 : dAt b (13 :: 10 :: Y) 1 = false := by
    unfold dAt delB
    rw [List.drop_succ_cons, List.drop_zero, List.isPrefixOf_cons_cons, show ((45 : UInt8) == 10) = false from by decide]
    rfl
  have d3 : dAt b (13 :: 10 :: Y) 3 = false := by
    unfold dAt
    rw [show (13 :: 10 :: Y).drop (3 - 2) = 10 :: Y from rfl, List.isPrefixOf_cons_cons, show ((13 : UInt8) == 10) = false from by decide]
    simp
  have h2 : NextIs b (13 :: 10 :: Y) 2 r := by
    rcases h with ⟨h1, h2⟩ | ⟨k, h1, _, h3, h4⟩
    · exact .inl ⟨h1, fun i _ => h2 i (Nat.zero_le _)⟩
    · refine .inr ⟨k, h1, ?_, h3, fun i _ hi => h4 i (Nat.zero_le _) hi⟩
      cases k with
      | zero => rw [d0] at h3; cases h3
      | succ k =>
        cases k with
        | zero => rw [d1] at h3; cases h3
        | succ k => omega
  have hl2 : LineAt (13 :: 10 :: Y) 2 := .inr ⟨Nat.le_refl _, by simp [List.isPrefixOf]⟩
  rcases next_D hl2 h2 with ⟨h3, h4⟩ | ⟨k, h3, h4, h5, h6, h7⟩
  · exact .inl ⟨h3, h4⟩
  · right
    have hp : (delB b).isPrefixOf ((13 :: 10 :: Y).drop k) = true := by
      unfold dAt at h5
      rw [Bool.and_eq_true] at h5
      exact h5.1
    have hkl : k ≤ Y.length + 2 := by
      have := pre_len hp
      rw [delB_len, List.length_drop] at this
      simp only [List.length_cons] at this
      omega
    refine ⟨k, h3, hkl, ?_, hp⟩
    have e : (13 :: 10 :: Y).drop 2 = Y := rfl
    rw [e] at h7
    rw [h7]
    congr 2
    have htp : Lib.trimPrefix ((13 :: 10 :: Y).take k) [13, 10] = Y.take (k - 2) := by
      obtain ⟨m, rfl⟩ : ∃ m, k = m + 2 := ⟨k - 2, by omega⟩
      unfold Lib.trimPrefix Lib.hasPrefix
      rw [List.take_succ_cons, List.take_succ_cons, if_pos (by simp [List.isPrefixOf])]
      rfl
    rw [htp]
    by_cases hk2 : k = 2
    · subst hk2
      unfold Lib.trimSuffix
      split
      · simp
      · rfl
    · have hk4 : 4 ≤ k := by
        cases Nat.lt_or_ge k 4 with
        | inr h' => exact h'
        | inl h' =>
          obtain rfl : k = 3 := by omega
          rw [d3] at h5
          cases h5
      have hs : Lib.hasSuffix (Y.take (k - 2)) [13, 10] = true := by
        rw [suf_at (by omega), Bool.and_eq_true, decide_eq_true_eq]
        refine ⟨by omega, ?_⟩
        rcases h6 with h6 | ⟨_, h6⟩
        · omega
        · obtain ⟨m, rfl⟩ : ∃ m, k = m + 4 := ⟨k - 4, by omega⟩
          exact h6
      unfold Lib.trimSuffix
      rw [if_pos hs]
      rw [List.length_take, List.take_take]
      congr 1
      simp only [List.length_cons, List.length_nil]
      omega
end Wb
namespace Wb
open Go
def jumpsTo (J : Nat → Act → World → Prop) (Q : Exit → Act → World → Prop) : Exit → Act → World → Prop
  | .goto l, a, w => J l a w
  | e, a, w => Q e a w
section
variable {P : Program} {a : Act} {w : World} {Q : Exit → Act → World → Prop}
theorem jumpsTo_normal {J : Nat → Act → World → Prop} : jumpsTo J Q .normal a w = Q .normal a w := rfl
theorem jumpsTo_ret {J : Nat → Act → World → Prop} : jumpsTo J Q .ret a w = Q .ret a w := rfl
theorem jumpsTo_panic {J : Nat → Act → World → Prop} (ch : List PanicEntry) : jumpsTo J Q (.panic ch) a w = Q (.panic ch) a w := rfl
theorem jumpsTo_goto {J : Nat → Act → World → Prop} (l : Nat) : jumpsTo J Q (.goto l) a w = J l a w := rfl
theorem wp_scope_ghost {c : Code} (J : Nat → Nat → Act → World → Prop)
    (first : c.wp P (jumpsTo (fun l a' w' => ∃ n, J l n a' w') Q) a w)
    (pass : ∀ l n a w, J l n a w → ∃ rest, findLabel c l = some rest ∧ rest.wp P (jumpsTo (fun l' a' w' => ∃ n', n' < n ∧ J l' n' a' w') Q) a w) : (Code.scope c).wp P Q a w := by
  intro b k cs
  have key : ∀ n l a w, J l n a w → ∃ rest, gotoIn l (.inScope c :: k) = some (.code rest :: .inScope c :: k) ∧ ∃ e a' w', Q e a' w' ∧ Arrives P (lone (b.at a (.code rest :: .inScope c :: k)) cs w) b k cs e a' w' := by
    intro n
    induction n using Nat.strongRecOn with
    | _ n ih =>
      intro l a w hJ
      obtain ⟨rest, hf, hp⟩ := pass l n a w hJ
      have hg : gotoIn l (.inScope c :: k) = some (.code rest :: .inScope c :: k) := by simp [gotoIn, hf]
      refine ⟨rest, hg, ?_⟩
      obtain ⟨e, a₁, w₁, hq, harr⟩ := hp b (.inScope c :: k) cs
      cases e with
      | normal => exact ⟨.normal, a₁, w₁, hq, Steps.trans harr (.one step_inScope)⟩
      | exit id => exact ⟨.exit id, a₁, w₁, hq, fun k' hk => harr k' (by simp [exitTo, hk])⟩
      | goto l' =>
        obtain ⟨n', hlt, hJ'⟩ := hq
        obtain ⟨rest', hg', e₂, a₂, w₂, hq₂, harr₂⟩ := ih n' hlt l' a₁ w₁ hJ'
        exact ⟨e₂, a₂, w₂, hq₂, .of_steps (harr _ hg') harr₂⟩
      | ret => exact ⟨_, a₁, w₁, hq, harr⟩
      | panic ch => exact ⟨_, a₁, w₁, hq, harr⟩
      | outgrown => exact ⟨_, a₁, w₁, hq, harr⟩
  obtain ⟨e, a₁, w₁, hq, harr⟩ := first b (.inScope c :: k) cs
  cases e with
  | normal => exact ⟨.normal, a₁, w₁, hq, .head step_scope (Steps.trans harr (.one step_inScope))⟩
  | exit id => exact ⟨.exit id, a₁, w₁, hq, fun k' hk => .head step_scope (harr k' (by simp [exitTo, hk]))⟩
  | goto l' =>
    obtain ⟨n', hJ'⟩ := hq
    obtain ⟨rest', hg', e₂, a₂, w₂, hq₂, harr₂⟩ := key n' l' a₁ w₁ hJ'
    exact ⟨e₂, a₂, w₂, hq₂, .of_steps (.head step_scope (harr _ hg')) harr₂⟩
  | ret => exact ⟨_, a₁, w₁, hq, .of_steps (.one step_scope) harr⟩
  | panic ch => exact ⟨_, a₁, w₁, hq, .of_steps (.one step_scope) harr⟩
  | outgrown => exact ⟨_, a₁, w₁, hq, .of_steps (.one step_scope) harr⟩
theorem jumpsTo_weaken {c : Code} {J J' : Nat → Act → World → Prop} (h : ∀ l a w, J l a w → J' l a w) (hc : c.wp P (jumpsTo J Q) a w) : c.wp P (jumpsTo J' Q) a w := by
  refine Code.wp_mono ?_ hc
  intro e a w hq
  cases e with
  | goto l => exact h l a w hq
  | normal => exact hq
  | exit id => exact hq
  | ret => exact hq
  | panic ch => exact hq
  | outgrown => exact hq
end
end Wb
namespace Wb
open Go Go.RowKit
theorem skip_seq {y : Code} {P : Program} {Q : Exit → Act → World → Prop} {a : Act} {w : World} (h : y.wp P Q a w) : (Code.seq .skip y).wp P Q a w := wp_seq (wp_skip h)
theorem wp_scope_by {c : Code} {P : Program} {a : Act} {w : World} {Q : Exit → Act → World → Prop} (J : Nat → Nat → Act → World → Prop)
    (pass : ∀ l n a w, J l n a w → ∃ rest, findLabel c l = some (.seq .skip rest) ∧ rest.wp P (jumpsTo (fun l' a' w' => ∃ n', n' < n ∧ J l' n' a' w') Q) a w)
    (first : (∀ l n a w rest, J l n a w → findLabel c l = some (.seq .skip rest) → rest.wp P (jumpsTo (fun l' a' w' => ∃ n', J l' n' a' w') Q) a w) → c.wp P (jumpsTo (fun l a' w' => ∃ n, J l n a' w') Q) a w) : (Code.scope c).wp P Q a w := by
  refine wp_scope_ghost J (first ?_) (fun l n a w hJ => (pass l n a w hJ).elim fun rest h => ⟨_, h.1, skip_seq h.2⟩)
  intro l n a w rest hJ hf
  obtain ⟨rest', hf', hp⟩ := pass l n a w hJ
  obtain rfl : rest' = rest := by have := Option.some.inj (hf'.symm.trans hf); injection this
  exact jumpsTo_weaken (fun l a w ⟨n', _, h⟩ => ⟨n', h⟩) hp
def CutP (b : List UInt8) (s : ByteArray) (e : Ending) : Prop := ∃ r, NextIs b s.data.toList 0 r ∧ ((r = -1 ∧ e = .returned (.tuple #[.string ⟨#[]⟩, .string ⟨#[]⟩, .bool false])) ∨
  ∃ k : Nat, r = k ∧ k + (2 + b.length) ≤ s.size ∧ e = .returned (.tuple #[.string (s.extract 0 k), .string (s.extract (k + (2 + b.length)) s.size), .bool true]))
def CutF (s bb mk : ByteArray) (at_ : Nat) (a : Act) : Prop := ∃ (u2 u3 u4 u5 u6 u9 u10 u11 u12 u13 u14 u15 u16 u17 u18 u19 u20 u21 u22 u23 u24 u25 u26 u27 u28 u29 u30 u31 u32 u33 u34 u35 u36 u37 u38 u39 u40 u41 : Value), a = { tmps := #[.string s, .string bb, u2, u3, u4, u5, u6, .string mk, .int .i64 at_, u9, u10, u11, u12, u13, u14, u15, u16, u17, u18, u19, u20, u21, u22, u23, u24, u25, u26, u27, u28, u29, u30, u31, u32, u33, u34, u35, u36, u37, u38, u39, u40, u41], defers := [] }
def CutJ (s bb mk : ByteArray) (w0 : World) (l n : Nat) (a : Act) (w : World) : Prop := l = 0 ∧ ∃ at_ : Nat, CutF s bb mk at_ a ∧ n + at_ = s.size + 1 ∧ at_ ≤ s.size ∧ Hid (∀ i, i < at_ → dAt bb.data.toList s.data.toList i = false) ∧ Hid (RowKit.Below w0.heap.size w0 w)
end Wb
namespace Go.Proofs.YtmabhbihgenmcaaGreatDoor
open Go.RowKit Wb
theorem sindexG_any (s t : ByteArray) (w : World) (hs : s.size ≤ 1000000000) (hG : GvF w) :
    Calls Tryz.prog 53 #[.string s, .string t] w fun e w' => e = .returned (.int .i64 (Lib.index s.data.toList t.data.toList)) ∧ w' = w := by
  obtain ⟨⟨m, hm⟩, _⟩ := hG
  exact Tryz.strings_Index s t m w (by omega) hm
set_option maxRecDepth 100000 in
set_option maxHeartbeats 4000000 in
theorem pcut_any (s b : ByteArray) (w : World) (hs : s.size ≤ 1000000000) (hb : b.size ≤ 1000000000) (hG : GvF w) :
    Calls Tryz.prog 32 #[.string s, .string b] w fun e w' => CutP b.data.toList s e ∧ Below w.heap.size w w' := by
  have HG := Lib.hid hG
  clear hG
  have g1 : ¬ 9223372036854775807 < (⟨#[45, 45]⟩ : ByteArray).size + b.size := by have : (⟨#[45, 45]⟩ : ByteArray).size = 2 := rfl; omega
  obtain ⟨mk, hmk⟩ : ∃ mk, (⟨#[45, 45]⟩ : ByteArray) ++ b = mk := ⟨_, rfl⟩
  have hml : mk.data.toList = delB b.data.toList := by
    rw [← hmk, ByteArray.data_append, Array.toList_append]
    rfl
  have hms : mk.size = 2 + b.size := by rw [← hmk, ByteArray.size_append]; rfl
  have hbl : b.data.toList.length = b.size := (ba_size b).symm
  have HML := Lib.hid hml
  have HMK := Lib.hid hmk
  have HBL := Lib.hid hbl
  have HB0 := Lib.hid (Below.refl w.heap.size w)
  obtain ⟨w0, hw0⟩ : ∃ w0, w0 = w := ⟨w, rfl⟩
  rw [← hw0] at HB0
  have HW0 := Lib.hid hw0
  have HGV := Lib.hid (fun (w1 : World) (h : Below w0.heap.size w0 w1) => HG.out.next (by rw [← HW0.out]; exact h))
  clear hml hmk hbl
  go_enter Tryz.func32, Tryz.ntmps32
  go_wp2
  refine wp_scope_by (CutJ s b mk w0) ?_ ?_
  · rintro l n a w1 ⟨rfl, at_, ⟨u2, u3, u4, u5, u6, u9, u10, u11, u12, u13, u14, u15, u16, u17, u18, u19, u20, u21, u22, u23, u24, u25, u26, u27, u28, u29, u30, u31, u32, u33, u34, u35, u36, u37, u38, u39, u40, u41, rfl⟩, hn, ha, HD, HB⟩
    refine ⟨_, rfl, ?_⟩
    have hix := idx_step (b := b.data.toList) (s := s.data.toList) (a := at_) (by rw [← ba_size]; exact ha) HD.out
    have hk := sindexG_any (s.extract at_ s.size) mk w1 (by rw [ByteArray.size_extract]; omega) (HGV.out w1 HB.out)
    rw [show (s.extract at_ s.size).data.toList = s.data.toList.drop at_ from by rw [Lib.extract_from], HML.out] at hk
    rcases hix with ⟨hi, hN⟩ | ⟨n1, hi, hn1, hp, hD2⟩
    · rw [hi] at hk
      have HN := Lib.hid hN
      clear hi hN
      go_wp2_with fail
      refine hk.mono ?_
      rintro e w2 ⟨rfl, rfl⟩
      clear hk
      go_wp2
      rw [jumpsTo_ret]
      go_ret3
      exact ⟨⟨-1, HN.out, .inl ⟨rfl, rfl⟩⟩, by rw [← HW0.out]; exact HB.out⟩
    · rw [hi] at hk
      have hn2 : at_ + n1 + (2 + b.size) ≤ s.size := by have h := HBL.out; have h2 := ba_size s; omega
      have hda := dAt_suf (b := b.data.toList) (s := s.data.toList) (k := at_ + n1) (by have h2 := ba_size s; omega) hp
      have HD2 := Lib.hid hD2
      have hsf := fun (w : World) => Tryz.strings_HasSuffix (s.extract 0 (at_ + n1)) ⟨#[13, 10]⟩ w (by rw [ByteArray.size_extract]; omega)
      rw [show (s.extract 0 (at_ + n1)).data.toList = s.data.toList.take (at_ + n1) from by rw [Lib.extract_upto], show (⟨#[13, 10]⟩ : ByteArray).data.toList = [13, 10] from rfl] at hsf
      have ha2 : at_ + n1 ≤ s.size := by omega
      clear hn1
      have hmi : (at_ : Int) + (n1 : Int) = ((at_ + n1 : Nat) : Int) := by omega
      have hn1m : at_ ≤ at_ + n1 := by omega
      clear hi hD2 hp
      generalize at_ + n1 = m at *
      have hm0 : (0 : Int) ≤ (m : Int) := by omega
      have hm1 : (m : Int) ≤ (s.size : Int) := by omega
      have hm2 : (m : Int) + (mk.size : Int) ≤ (s.size : Int) := by omega
      have hm3 : (0 : Int) ≤ (m : Int) + (mk.size : Int) := by omega
      have hend : dAt b.data.toList s.data.toList m = true → ∀ w3, Below w0.heap.size w0 w3 → (CutP b.data.toList s (.returned (.tuple #[.string (s.extract 0 m), .string (s.extract (m + (2 + b.size)) s.size), .bool true])) ∧ Below w.heap.size w w3) := fun hd w3 hb => by
        refine ⟨⟨m, .inr ⟨m, rfl, Nat.zero_le _, hd, fun i _ hi => HD2.out i hi⟩, .inr ⟨m, rfl, ?_, ?_⟩⟩, by rw [← HW0.out]; exact hb⟩
        · rw [HBL.out]; exact hn2
        · rw [HBL.out]
      have HEND := Lib.hid hend
      clear hend
      by_cases h0 : m = 0
      · rw [decide_eq_true h0, Bool.true_or] at hda
        have HE0 := Lib.hid (fun (w3 : World) (hb : Below w0.heap.size w0 w3) => (show CutP b.data.toList s (.returned (.tuple #[.string ByteArray.empty, .string (s.extract (2 + b.size) s.size), .bool true])) ∧ Below w.heap.size w w3 from by
          have h := HEND.out hda w3 hb
          rw [h0, Nat.zero_add, show s.extract 0 0 = ByteArray.empty from eq_of_lists (by rw [Lib.extract_data]; rfl)] at h
          exact h))
        have hmz : (m : Int) = 0 := by omega
        clear hda hsf h0
        go_wp2_with fail
        refine hk.mono ?_
        rintro e w2 ⟨rfl, rfl⟩
        clear hk
        go_wp2
        go_region
        go_wp2
        rw [jumpsTo_ret]
        go_ret3
        exact HE0.out _ HB.out.drew
      · rw [decide_eq_false h0, Bool.false_or] at hda
        have hmz : ¬ (m : Int) ≤ 0 := by omega
        have hmz2 : (0 : Int) < (m : Int) := by omega
        cases hq : Lib.hasSuffix (s.data.toList.take m) [13, 10]
        · rw [hq] at hsf hda
          have HDA := Lib.hid hda
          clear hda hq
          go_wp2_with fail
          refine hk.mono ?_
          rintro e w2 ⟨rfl, rfl⟩
          clear hk
          have hsf2 := hsf w2
          clear hsf
          go_wp2_with fail
          refine hsf2.mono ?_
          rintro e w3 ⟨rfl, rfl⟩
          clear hsf2
          go_wp2
          go_step3
          exact ⟨s.size - m, by omega, rfl, m + 1, ⟨_, _, _, _, _, _, _, _, _, _, _, _, _, _, _, _, _, _, _, _, _, _, _, _, _, _, _, _, _, _, _, _, _, _, _, _, _, _, rfl⟩, by omega, by omega, Lib.hid (fun i hi => by
            by_cases hm : i = m
            · rw [hm]; exact HDA.out
            · exact HD2.out i (by omega)), HB⟩
        · rw [hq] at hsf hda
          have HDA := Lib.hid hda
          clear hda hq
          go_wp2_with fail
          refine hk.mono ?_
          rintro e w2 ⟨rfl, rfl⟩
          clear hk
          have hsf2 := hsf w2
          clear hsf
          go_wp2_with fail
          refine hsf2.mono ?_
          rintro e w3 ⟨rfl, rfl⟩
          clear hsf2
          go_wp2
          go_region
          go_wp2
          rw [jumpsTo_ret]
          go_ret3
          exact HEND.out HDA.out _ HB.out.drew
  · intro here
    go_upto_region 2 with fail
    rename_i hK
    apply wp_label
    refine hK _ _ ?_
    rw [HMK.out]
    exact here 0 (s.size + 1) _ _ _ ⟨rfl, 0, ⟨_, _, _, _, _, _, _, _, _, _, _, _, _, _, _, _, _, _, _, _, _, _, _, _, _, _, _, _, _, _, _, _, _, _, _, _, _, _, rfl⟩, by omega, by omega, Lib.hid (fun i hi => by omega), by rw [← HW0.out]; exact HB0⟩ rfl
end Go.Proofs.YtmabhbihgenmcaaGreatDoor
namespace Wb
open Go
theorem sizeF_tot (l : List Pr) : sizeF (l.map ofPr) = tot7 l + l.length := by
  induction l with
  | nil => rfl
  | cons x l ih =>
    rw [List.map_cons, sizeF, ih]
    unfold tot7
    rw [List.map_cons, List.sum_cons, List.length_cons]
    show x.1.data.toList.length + x.2.data.toList.length + 1 + _ = _
    rw [← ba_size, ← ba_size]
    omega
theorem printX_ok {l : List Pr} {s : List UInt8} (h : printX l = .ok s) : l.length ≤ 8 ∧ printFs (l.map ofPr) = .ok s := by
  unfold printX at h
  split at h
  · cases h
  · exact ⟨by omega, h⟩
end Wb
namespace Go.Proofs.YtmabhbihgenmcaaGreatDoor
open Go.RowKit Wb
end Go.Proofs.YtmabhbihgenmcaaGreatDoor
