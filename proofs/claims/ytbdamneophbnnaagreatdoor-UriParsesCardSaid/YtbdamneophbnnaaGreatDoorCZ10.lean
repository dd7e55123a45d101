/- PrF SbE SaG SbF SbH BldF SdA. -/
import Derived.Lib.AppendIntMem
import Derived.Test.YtbdamneophbnnaaGreatDoorCZ9
namespace Wb
theorem ba_app (a b : List UInt8) : (ByteArray.mk a.toArray) ++ (ByteArray.mk b.toArray) = ByteArray.mk (a ++ b).toArray := by
  apply ba_data
  rw [ByteArray.data_append]
  simp
end Wb
namespace Go.Proofs.YtbdamneophbnnaaGreatDoor
open Go.RowKit Wb
theorem page_new (most : Nat) (w : World) : PgT w.heap.size w.heap.size [] most (w.alloc (.cells #[.pointer none, .slice none 0 0, .int .i64 most, .bool false] 166)) :=
  .inl ⟨Nat.zero_le _, .inl ⟨Nat.le_refl _, .slice none 0 0, heap_alloc_new w _, World.ownsRow_nil _ _ _ _, by simp [Value.ownBlock]⟩⟩
set_option maxHeartbeats 2000000 in
set_option maxRecDepth 100000 in
theorem Escape_any (s : ByteArray) (attr : Bool) (w : World) (hs : s.size ≤ 1000000000) :
    Calls Tryz.prog 109 #[.string s, .bool attr] w fun e w' => e = .returned (.string ⟨(escL attr s.data.toList).toArray⟩) ∧ Below w.heap.size w w' := by
  have hl := (escL_len attr s.data.toList).2
  rw [← Lib.size_eq] at hl
  have h1 := pescape_any s attr (page_new 9223372036854775807 w) (by omega) hs (.inr (by simp only [List.length_nil]; omega))
  have HB := Lib.hid ((Below.refl w.heap.size w).alloc (Nat.le_refl _) (.cells #[.pointer none, .slice none 0 0, .int .i64 ((9223372036854775807 : Nat) : Int), .bool false] 166))
  have HL := Lib.hid hl
  clear hl
  go_enter Tryz.func109, Tryz.ntmps109
  go_wp2_with fail
  refine h1.mono ?_
  rintro e w1 ⟨rfl, hp1, hk1⟩
  have HB1 := Lib.hid (HB.out.trans (hk1.below (by simp)))
  have hp : PgAt w.heap.size w.heap.size (escL attr s.data.toList) ((9223372036854775807 : Nat) : Int) false w1 := by
    rw [List.nil_append] at hp1
    rcases hp1 with ⟨_, h⟩ | ⟨h, _⟩
    · exact h
    · have := HL.out; omega
  have h2 := page_string hp
  clear h1 hp1 hk1 hp
  go_wp2_with fail
  refine h2.mono ?_
  rintro e w2 ⟨rfl, hb2⟩
  clear h2
  go_wp2
  go_ret
  exact ⟨rfl, HB1.out.trans hb2⟩
theorem small_lo {C : ByteArray} (hC : ∀ n, n < 10 → C.extract n (n + 1) = ⟨(digT n).toArray⟩) (n : Nat) (h : n < 10) : C.extract n (n + 1) = ⟨(digT n).toArray⟩ := hC n h
theorem small_hi {C : ByteArray} (hC : ∀ n, n < 100 → ¬ n < 10 → C.extract (n * 2) (n * 2 + 2) = ⟨(digT n).toArray⟩) (n : Nat) (h : n < 100) (h1 : ¬ n < 10) : C.extract (n * 2) (n * 2 + 2) = ⟨(digT n).toArray⟩ := hC n h h1
set_option maxRecDepth 100000 in
theorem psmall_any (n : Nat) (h : n < 100) (w : World) : Calls Tryz.prog 162 #[.int .i64 n] w fun e w' => e = .returned (.string ⟨(digT n).toArray⟩) ∧ w' = w := by
  by_cases h1 : n < 10
  · go_enter Tryz.func162, Tryz.ntmps162
    go_wp2
    go_ret
    refine ⟨congrArg (fun s => Ending.returned (Value.string s)) ?_, rfl⟩
    refine small_lo ?_ n h1
    decide +kernel
  · go_enter Tryz.func162, Tryz.ntmps162
    go_wp2
    go_ret
    refine ⟨congrArg (fun s => Ending.returned (Value.string s)) ?_, rfl⟩
    refine small_hi ?_ n h h1
    decide +kernel
theorem itoa_small (n : Nat) (h : n < 100) (w : World) : Calls Tryz.prog 107 #[.int .i64 n] w fun e w' => e = .returned (.string ⟨(digT n).toArray⟩) ∧ w' = w := by
  have hs := psmall_any n h w
  generalize (ByteArray.mk (digT n).toArray) = r at *
  have h3 : Calls Tryz.prog 147 #[.int .i64 n, .int .i64 10] w fun e w' => e = .returned (.string r) ∧ w' = w := by
    go_enter Tryz.func147, Tryz.ntmps147
    go_wp2_with fail
    refine hs.mono ?_
    rintro e w' ⟨rfl, rfl⟩
    go_wp2
    go_ret
    exact ⟨rfl, rfl⟩
  have h2 : Calls Tryz.prog 128 #[.int .i64 n] w fun e w' => e = .returned (.string r) ∧ w' = w := by
    go_enter Tryz.func128, Tryz.ntmps128
    go_wp2_with fail
    refine h3.mono ?_
    rintro e w' ⟨rfl, rfl⟩
    go_wp2
    go_ret
    exact ⟨rfl, rfl⟩
  go_enter Tryz.func107, Tryz.ntmps107
  go_wp2_with fail
  refine h2.mono ?_
  rintro e w' ⟨rfl, rfl⟩
  go_wp2
  go_ret
  exact ⟨rfl, rfl⟩
end Go.Proofs.YtbdamneophbnnaaGreatDoor
namespace Wb
theorem nameT_len {n : Pr} {plain : ByteArray} {l l' : List ByteArray} {t : List UInt8} (h : nameT n plain l = .ok (t, l')) (hl : l.length ≤ 16) : t.length ≤ n.2.size + 8 ∧ l'.length ≤ 16 := by
  have hz : n.2.data.toList.length = n.2.size := by simp
  obtain ⟨hn, ⟨_, rfl, rfl⟩ | ⟨_, _, rfl, rfl⟩ | ⟨_, _, _, hm, rfl, rfl | ⟨rfl, h16⟩⟩⟩ := nameT_cases h
  · exact ⟨by omega, hl⟩
  · refine ⟨?_, hl⟩
    rw [List.length_append, hz]
    have : sXmlK.length = 4 := rfl
    omega
  · have hi := idxB_lt hm
    have := num_len ⟨idxB n.1 l', by omega⟩
    simp only at this
    refine ⟨?_, hl⟩
    rw [List.length_append, List.length_cons, hz]
    omega
  · have hi := idxB_lt hm
    rw [List.length_append, List.length_singleton] at hi
    have := num_len ⟨idxB n.1 (l ++ [n.1]), by omega⟩
    simp only at this
    refine ⟨?_, by rw [List.length_append, List.length_singleton]; omega⟩
    rw [List.length_append, List.length_cons, hz]
    omega
end Wb
namespace Go.Proofs.YtbdamneophbnnaaGreatDoor
open Go.RowKit Wb
def cells9 (x : StV) : List Value := [.int .i64 x.kind, .bool x.any, .string x.name.1, .string x.name.2, .int .i64 x.pos, .bool x.by_, .string x.attr.1, .string x.attr.2, .string x.val]
end Go.Proofs.YtbdamneophbnnaaGreatDoor
namespace Wb
def contT (ts : List (List UInt8)) : Except Int (List (List UInt8) × List ByteArray) → Except Int (List (List UInt8) × List ByteArray)
  | .error e => .error e
  | .ok (a, l) => .ok (ts ++ a, l)
theorem contT_nil : ∀ o, contT [] o = o
  | .error _ => rfl
  | .ok (_, _) => rfl
theorem contT_bad {space : ByteArray} {x : StV} {r : List StV} {sp : List ByteArray} {k : Int} (ts : List (List UInt8)) (h : stpT x space sp = .error k) : contT ts (stpsT space (x :: r) sp) = .error k := by
  rw [stpsT, h]
  rfl
theorem contT_good {space : ByteArray} {x : StV} {r : List StV} {sp sp' : List ByteArray} {t : List UInt8} (ts : List (List UInt8)) (h : stpT x space sp = .ok (t, sp')) : contT ts (stpsT space (x :: r) sp) = contT (ts ++ [t]) (stpsT space r sp') := by
  rw [stpsT, h]
  simp only
  cases stpsT space r sp' with
  | error e => rfl
  | ok p =>
    obtain ⟨a, l⟩ := p
    simp [contT]
theorem query_more : ∀ (sp : List ByteArray) (k i : Nat) (s : ByteArray), sp[i]? = some s → queryT k (sp.take (i + 1)) = queryT k (sp.take i) ++ (sBindK ++ (numT (k + i) ++ 61 :: s.data.toList) ++ [41])
  | [], k, i, s, h => by simp at h
  | x :: sp, k, 0, s, h => by
    simp only [List.getElem?_cons_zero, Option.some.injEq] at h
    subst h
    simp [queryT]
  | x :: sp, k, i + 1, s, h => by
    rw [List.take_succ_cons, List.take_succ_cons, queryT, queryT, query_more sp (k + 1) i s (by simpa using h)]
    rw [show k + 1 + i = k + (i + 1) by omega]
    simp
def prV : Except Int (List UInt8 × List UInt8) → Int × List UInt8 × List UInt8
  | .error k => (k, [], [])
  | .ok (s, q) => (0, s, q)
theorem printS_no {space : ByteArray} {l : List StV} (h : shapeS l = false) : printS space l = .error 33 := by unfold printS; rw [if_pos h]
theorem printS_bad {space : ByteArray} {l : List StV} {k : Int} (h : shapeS l = true) (hs : stpsT space l [] = .error k) : printS space l = .error k := by unfold printS; rw [if_neg (by rw [h]; decide), hs]
theorem printS_ok {space : ByteArray} {l : List StV} {ts : List (List UInt8)} {sp : List ByteArray} (h : shapeS l = true) (hs : stpsT space l [] = .ok (ts, sp)) : printS space l = .ok (joinB 47 (ts.map (pctE [])), pctE [] (queryT 0 sp)) := by unfold printS; rw [if_neg (by rw [h]; decide), hs]
theorem shapeS_len {l : List StV} (h : shapeS l = true) : 1 ≤ l.length ∧ l.length ≤ 16 := by
  unfold shapeS at h
  simp only [Bool.and_eq_true, decide_eq_true_eq] at h
  exact h.2
theorem contT_end (ts : List (List UInt8)) (space : ByteArray) (sp : List ByteArray) : contT ts (stpsT space [] sp) = .ok (ts, sp) := by
  rw [stpsT]
  simp [contT]
end Wb
namespace Wb
theorem nameT_nz {n : Pr} {plain : ByteArray} {l : List ByteArray} {k : Int} (h : nameT n plain l = .error k) : k ≠ 0 := by
  unfold nameT at h
  repeat' (split at h)
  all_goals first
    | (injection h with h; subst h; decide)
    | cases h
theorem stp_err {x : StV} {space : ByteArray} {l : List ByteArray} {k : Int} (h : stpT x space l = .error k) : k ≠ 0 := by
  unfold stpT elemT at h
  repeat' (split at h)
  all_goals first
    | cases h; done
    | (rename_i hn; injection h with h; subst h; exact nameT_nz hn)
    | (injection h with h; subst h; decide)
    | (rename_i hn; injection h with h; subst h; split at hn; exact nameT_nz hn)
    | (rename_i hn; injection h with h; subst h; split at hn <;> first | (cases hn; done) | exact nameT_nz hn)
theorem shapeL_pos : ∀ (l : List StV) (f : Bool), shapeL f l = true → ∀ x ∈ l, x.pos ≤ 9999
  | [], _, _ => fun x hx => by simp at hx
  | y :: l, f, h => by
    rw [shapeL, Bool.and_eq_true] at h
    intro x hx
    rcases List.mem_cons.1 hx with rfl | hx
    · have h1 := h.1
      unfold shape1 at h1
      repeat' (split at h1)
      all_goals simp at h1
      · omega
      · omega
      · omega
    · exact shapeL_pos l false h.2 x hx
theorem shapeS_pos {l : List StV} (h : shapeS l = true) : ∀ x ∈ l, x.pos ≤ 9999 := by
  unfold shapeS at h
  rw [Bool.and_eq_true] at h
  exact shapeL_pos l true h.1
end Wb
namespace Wb
open Go Go.RowKit
theorem cells9_len (x : StV) : (Go.Proofs.YtbdamneophbnnaaGreatDoor.cells9 x).length = 9 := rfl
end Wb
namespace Go.Proofs.YtbdamneophbnnaaGreatDoor
open Go.RowKit Wb
theorem emp_or (p : ByteArray) : (p = sE ∧ p.toList = []) ∨ (p ≠ sE ∧ ¬ p.toList = []) := by
  by_cases h : p = sE
  · exact .inl ⟨h, nil_of p ((eqT_iff _ _).2 h)⟩
  · exact .inr ⟨h, ne_nil p (eqT_false.2 h)⟩
theorem nE_iff (a b : ByteArray) : ((a, b) : Pr) = nE ↔ a = sE ∧ b = sE := by unfold nE; rw [Prod.mk.injEq]
def cells9L (l : List StV) : List Value := l.flatMap cells9
theorem cells9L_at : ∀ (l : List StV) (k : Nat) (x : StV) (j : Nat), l[k]? = some x → j < 9 → (cells9L l)[k * 9 + j]? = (cells9 x)[j]?
  | [], k, x, j, h, _ => by simp at h
  | y :: l, 0, x, j, h, hj => by
    simp only [List.getElem?_cons_zero, Option.some.injEq] at h
    subst h
    unfold cells9L
    rw [List.flatMap_cons, List.getElem?_append_left (by rw [cells9_len]; omega), Nat.zero_mul, Nat.zero_add]
  | y :: l, k + 1, x, j, h, hj => by
    unfold cells9L
    rw [List.flatMap_cons, List.getElem?_append_right (by rw [cells9_len]; omega), cells9_len]
    have := cells9L_at l k x j (by simpa using h) hj
    unfold cells9L at this
    rw [← this]
    congr 1
    omega
theorem cells9L_one (l : List StV) : ∀ u ∈ cells9L l, u.oneCell' = true := by
  intro u hu
  obtain ⟨x, _, hx⟩ := List.mem_flatMap.1 hu
  unfold cells9 at hx
  simp only [List.mem_cons, List.not_mem_nil, or_false] at hx
  rcases hx with rfl | rfl | rfl | rfl | rfl | rfl | rfl | rfl | rfl <;> rfl
def Sl9 (w : World) (A : Option Addr) (l : List StV) : Prop := Sl w 9 A l.length (cells9L l)
theorem Sl9.below {w w' : World} {A : Option Addr} {l : List StV} (h : Sl9 w A l) (hb : Below w.heap.size w w') : Sl9 w' A l := Sl.below h hb
theorem Sl9.at_ {w : World} {A : Option Addr} {l : List StV} (h : Sl9 w A l) {k : Nat} {x : StV} (hx : l[k]? = some x) :
    ∃ ad, A = some ad ∧ ad.block < w.heap.size ∧ w.cell? (ad.add (k * 9)) = some (.int .i64 x.kind) ∧ ∀ j v, 0 < j → (cells9 x)[j]? = some v → w.cell? ⟨(ad.add (k * 9)).block, (ad.add (k * 9)).off + j, none⟩ = some v := by
  have hk : k < l.length := (List.getElem?_eq_some_iff.1 hx).1
  obtain ⟨ad, e, hb, hc⟩ := h.2 (by omega)
  refine ⟨ad, e, hb, ?_, fun j v hj hv => ?_⟩
  · have := cells9L_at l k x 0 hx (by omega)
    exact hc _ _ (by rw [Nat.add_zero] at this; rw [this]; rfl)
  · have hj9 : j < 9 := (List.getElem?_eq_some_iff.1 hv).1
    have := cells9L_at l k x j hx hj9
    rw [← add_succ _ _ j hj]
    exact hc _ _ (by rw [this]; exact hv)
end Go.Proofs.YtbdamneophbnnaaGreatDoor
namespace Wb
end Wb
namespace Go.Proofs.YtbdamneophbnnaaGreatDoor
open Go.RowKit Wb
set_option maxRecDepth 100000 in
set_option maxHeartbeats 4000000 in
theorem rssame_eq (A B : Option Addr) (l : List StV) (ca cb : Nat) (w : World) (hA : Sl9 w A l) (hB : Sl9 w B l) (hl : l.length ≤ 1000000) :
    Calls Tryz.prog 15 #[.slice A l.length ca, .slice B l.length cb] w fun e w' => e = .returned (.bool true) ∧ Below w.heap.size w w' := by
  have HA := Lib.hid hA
  have HB := Lib.hid hB
  clear hA hB
  go_enter Tryz.func15, Tryz.ntmps15
  go_wp2
  go_loopw [5] (fun vi wr => ∃ i : Nat, i ≤ l.length ∧ vi = .int .i64 i ∧ Hid (Below w.heap.size w wr)) (fun vi _ => ((l.length : Int) - intOf vi).toNat)
  case atStart => exact ⟨0, by omega, rfl, Lib.hid (Below.refl _ _)⟩
  case round =>
    obtain ⟨i, hi, rfl, HW⟩ := hrel
    by_cases h0 : i < l.length
    · obtain ⟨x, hx⟩ : ∃ x, l[i]? = some x := ⟨l[i], List.getElem?_eq_getElem h0⟩
      obtain ⟨ad, rfl, had, c0, cj⟩ := (HA.out.below HW.out).at_ hx
      obtain ⟨bd, rfl, hbd, e0, ej⟩ := (HB.out.below HW.out).at_ hx
      have c1 := cj 1 _ (by omega) rfl
      have c2 := cj 2 _ (by omega) rfl
      have c3 := cj 3 _ (by omega) rfl
      have c4 := cj 4 _ (by omega) rfl
      have c5 := cj 5 _ (by omega) rfl
      have c6 := cj 6 _ (by omega) rfl
      have c7 := cj 7 _ (by omega) rfl
      have c8 := cj 8 _ (by omega) rfl
      have e1 := ej 1 _ (by omega) rfl
      have e2 := ej 2 _ (by omega) rfl
      have e3 := ej 3 _ (by omega) rfl
      have e4 := ej 4 _ (by omega) rfl
      have e5 := ej 5 _ (by omega) rfl
      have e6 := ej 6 _ (by omega) rfl
      have e7 := ej 7 _ (by omega) rfl
      have e8 := ej 8 _ (by omega) rfl
      have hi0 : (0 : Int) ≤ (i : Int) := by omega
      have hi1 : (i : Int) < (l.length : Int) := by omega
      clear hx had hbd HA HB cj ej
      obtain ⟨kind, any, ⟨n1, n2⟩, pos, by_, ⟨a1, a2⟩, val⟩ := x
      simp only at c0 c1 c2 c3 c4 c5 c6 c7 c8 e0 e1 e2 e3 e4 e5 e6 e7 e8
      go_wp2_with fail
      go_region
      go_wp2
      go_roundw
      case rel => exact ⟨i + 1, by omega, by go_num, Lib.hid HW.out.drew⟩
      case measure => simp [intOf]; omega
    · go_wp2
      go_ret
      exact ⟨rfl, HW.out⟩
end Go.Proofs.YtbdamneophbnnaaGreatDoor
namespace Go.Proofs.YtbdamneophbnnaaGreatDoor
open Go.RowKit Wb
def KeepF (w w' : World) : Prop := ∀ (k : Nat) (cs : Array Value) (t : TypeId) (fr : Nat × Nat), fr ≠ (0, 0) → w.heap[k]? = some (Obj.cells cs t fr) → w'.heap[k]? = w.heap[k]?
theorem KeepF.refl (w : World) : KeepF w w := fun _ _ _ _ _ _ => rfl
theorem KeepF.trans {w w' w2 : World} (h : KeepF w w') (k : KeepF w' w2) : KeepF w w2 := fun i cs t fr h1 h3 => by
  have e := h i cs t fr h1 h3
  exact (k i cs t fr h1 (e.trans h3)).trans e
theorem KeepF.of_below {w w' : World} (h : Below w.heap.size w w') : KeepF w w' := fun _ _ _ _ _ h3 => h.block _ (Array.getElem?_eq_some_iff.1 h3).1
theorem KeepF.set {w : World} {b : Nat} {cs : Array Value} {t : TypeId} (h : w.heap[b]? = some (.cells cs t (0, 0))) (i : Nat) (u : Value) : KeepF w (w.setCell ⟨b, i, none⟩ u) := fun k cs' t fr h2 h3 => by
  refine Below.heap_setCell _ _ _ _ (fun e => ?_)
  subst e
  rw [h] at h3
  injection h3 with h3
  injection h3 with _ _ h4
  exact h2 h4.symm
theorem KeepF.grown {w w2 : World} {base n sz : Nat} {e : TypeId} {v : Value} {xs : List Value} (h : w.ownsRow base e sz v n xs) (hg : w.grownBy w2 v.ownBlock) : KeepF w w2 := fun k cs' t fr h1 h3 => by
  refine hg.block k (Array.getElem?_eq_some_iff.1 h3).1 (fun e => ?_)
  rcases h.2 with ⟨rfl, _⟩ | ⟨g, cap, cur, rfl, _, hb, _⟩
  · simp [Value.ownBlock] at e
  · simp only [Value.ownBlock, Option.some.injEq] at e
    subst e
    rw [hb] at h3
    injection h3 with h3
    injection h3 with _ _ h4
    exact h1 h4.symm
def Marked (w : World) (k : Nat) (s : ByteArray) : Prop := ∃ cs fr, w.heap[k]? = some (Obj.cells cs 5 fr) ∧ fr ≠ (0, 0) ∧ ∀ (i : Nat) (c : UInt8), s.data.toList[i]? = some c → cs[i]? = some (.int .u8 (c.toNat : Int))
theorem Marked.new (w : World) (s : ByteArray) : Marked (Lib.bytesWorld w 5 s) w.heap.size s := by
  refine ⟨_, _, Lib.bytesWorld_at_new w 5 s, by simp, fun i c h => ?_⟩
  have hi := (List.getElem?_eq_some_iff.1 h).1
  have := Lib.bytesWorld_cell w 5 s i (by simpa using hi)
  rw [List.getD, h] at this
  unfold World.cell? at this
  rw [Lib.bytesWorld_at_new w 5 s] at this
  simpa using this
theorem Marked.keep {w w' : World} {k : Nat} {s : ByteArray} (h : Marked w k s) (hk : KeepF w w') : Marked w' k s := by
  obtain ⟨cs, fr, h1, h2, h3⟩ := h
  exact ⟨cs, fr, (hk k cs _ fr h2 h1).trans h1, h2, h3⟩
theorem Marked.cell {w : World} {k : Nat} {s : ByteArray} (h : Marked w k s) {i : Nat} {c : UInt8} (hc : s.data.toList[i]? = some c) : w.cell? ⟨k, i, none⟩ = some (.int .u8 (c.toNat : Int)) := by
  obtain ⟨cs, fr, h1, h2, h3⟩ := h
  rw [cell_of_row w k i cs _ fr h1]
  exact h3 i c hc
set_option maxHeartbeats 1000000 in
set_option maxRecDepth 100000 in
theorem qf_check {B b : Nat} {bs : List Value} {w : World} (h : Lib.IsBuilder 89 5 B b bs w) :
    Calls Tryz.prog 75 #[.pointer (some ⟨b, 0, none⟩)] w fun e w' => e = .returned (.tuple #[]) ∧ Lib.BuilderAt 89 5 B b (.pointer (some ⟨b, 0, none⟩)) bs w' ∧ Below B w w' ∧ KeepF w w' := by
  obtain ⟨j, hj, hjs⟩ := Option.map_eq_some_iff.1 qw_size
  rcases h with ⟨h1, v, h2, h3, h4⟩ | ⟨h1, v, h2, h3, h4⟩
  · have h0 : w.cell? ⟨b, 0, none⟩ = some (.pointer none) := blk_cell h2 0
    have hfz := blk_free h2 0
    have hsh : w.shape? b = some (89, 2) := by simp [World.shape?, h2]
    have e1 : (convert 87 140 (.pointer (some ⟨b, 0, none⟩))).run Tryz.prog w = .ok (.pointer (some ⟨b, 0, none⟩)) w := Lib.run_to_unsafe w ⟨b, 0, none⟩ Tryz.underlying87 Tryz.underlying140 hj (by rw [hjs]; decide) hsh (by show 0 < 2; omega)
    have e2 : (convert 140 87 (.pointer (some ⟨b, 0, none⟩))).run Tryz.prog w = .ok (.pointer (some ⟨b, 0, none⟩)) w := Lib.run_from_unsafe w ⟨b, 0, none⟩ Tryz.underlying140 Tryz.underlying87 hj hsh qw_lies
    have e3 := qw_esc
    have hfin : Lib.BuilderAt 89 5 B b (.pointer (some ⟨b, 0, none⟩)) bs (w.setCell ⟨b, 0, none⟩ (.pointer (some ⟨b, 0, none⟩))) ∧ Below B w (w.setCell ⟨b, 0, none⟩ (.pointer (some ⟨b, 0, none⟩))) ∧ KeepF w (w.setCell ⟨b, 0, none⟩ (.pointer (some ⟨b, 0, none⟩))) := by
      refine ⟨⟨h1, v, by simpa using blk_set h2 0 (.pointer (some ⟨b, 0, none⟩)), own_blk' h3 fun k hv => Below.heap_setCell _ _ _ _ (fun e => h4 (by rw [hv]; simpa using e)), h4⟩, (Below.refl B w).setCell (p := ⟨b, 0, none⟩) h1 _, KeepF.set h2 0 _⟩
    have HF := Lib.hid hfin
    clear hfin h3 h4 hsh hj hjs h2
    go_enter Tryz.func75, Tryz.ntmps75
    go_wp2
    go_end0
    exact ⟨rfl, HF.out⟩
  · have h0 : w.cell? ⟨b, 0, none⟩ = some (.pointer (some ⟨b, 0, none⟩)) := blk_cell h2 0
    have hfin : Lib.BuilderAt 89 5 B b (.pointer (some ⟨b, 0, none⟩)) bs w ∧ Below B w w ∧ KeepF w w := ⟨⟨h1, v, h2, h3, h4⟩, Below.refl _ _, KeepF.refl w⟩
    have HF := Lib.hid hfin
    have hpe := fun (v : World) => Lib.run_neq_ptr_same (P := Tryz.prog) v ⟨b, 0, none⟩ Tryz.underlying87 hj
    clear hfin h3 h4 hj hjs h2
    go_enter Tryz.func75, Tryz.ntmps75
    go_wp2
    go_end0
    exact ⟨rfl, HF.out⟩
set_option maxHeartbeats 2000000 in
set_option maxRecDepth 100000 in
theorem qfbyte_any (B b : Nat) (bs : List Value) (c : Int) (w : World) (h : Lib.IsBuilder 89 5 B b bs w) (hlen : bs.length + 1 ≤ 140737488355328) (_hBw : B ≤ w.heap.size) :
    Calls Tryz.prog 49 #[.pointer (some ⟨b, 0, none⟩), .int .u8 c] w fun e w' => (∃ v, e = .returned v) ∧ Lib.IsBuilder 89 5 B b (bs ++ [.int .u8 c]) w' ∧ Below B w w' ∧ KeepF w w' := by
  obtain ⟨i0, hi, hz0, hz1, hz2⟩ := info_parts qw_byte
  have hc := qf_check h
  clear h
  go_enter Tryz.func49, Tryz.ntmps49
  go_wp2_with fail
  refine hc.mono ?_
  rintro e w1 ⟨rfl, ⟨hB, v, hbk, hown, hne⟩, hb1, ht1⟩
  have c0 : w1.cell? ⟨b, 0, none⟩ = some (.pointer (some ⟨b, 0, none⟩)) := blk_cell hbk 0
  have c1 : w1.cell? ⟨b, 1, none⟩ = some v := blk_cell hbk 1
  have hlt := blk_in' hbk
  have hbw : B ≤ w1.heap.size := by omega
  go_wp2_with (at_builtin; refine wpList_append_own _ rfl _ _ 74 rfl B 5 i0 (.int .u8 0) 1 1 Tryz.underlying74 hi hz0 hz1 hz2 rfl (by decide) _ _ _ rfl (hown.alloc _) ⟨w1.heap.size, 0, none⟩ 1 1 [.int .u8 c] rfl rfl ?c1 ?c2 ?c3 ?c4 ?c5 ?_)
  case c1 =>
    intro j u hj
    match j, hj with
    | 0, hj => simp at hj; subst hj; simp [Addr.add]
  case c2 => intro u hu; simp at hu; subst hu; rfl
  case c3 => unfold maxLen; omega
  case c4 => omega
  case c5 => simp; omega
  intro v' w2 hown' hgrow _
  have hb2 : w2.heap[b]? = some (.cells #[.pointer (some ⟨b, 0, none⟩), v] 89 (0, 0)) := by
    rw [hgrow.block b (by simp; omega) (fun e => hne e.symm), Lib.alloc_old w1 _ b hlt]
    exact hbk
  have d0 : w2.cell? ⟨b, 0, none⟩ = some (.pointer (some ⟨b, 0, none⟩)) := blk_cell hb2 0
  have d1 : w2.cell? ⟨b, 1, none⟩ = some v := blk_cell hb2 1
  have f1 := blk_free hb2 1
  obtain ⟨g, cap, rfl⟩ : ∃ g cap, v' = .slice (some ⟨g, 0, none⟩) (bs.length + 1) cap := by
    rcases hown'.2 with ⟨_, h0⟩ | ⟨g, cap, cur, hv, _⟩
    · omega
    · exact ⟨g, cap, hv⟩
  have hfin : Lib.IsBuilder 89 5 B b (bs ++ [.int .u8 c]) (w2.setCell ⟨b, 1, none⟩ (.slice (some ⟨g, 0, none⟩) (bs.length + 1) cap)) :=
    .inr (Lib.BuilderAt.put (T := 89) (e := 5) hB hb2 (bs' := bs ++ [.int .u8 c]) (by simpa using hown') (by decide))
  have HF := Lib.hid hfin
  have HT := Lib.hid (ht1.trans (((KeepF.of_below ((Below.refl w1.heap.size w1).alloc (Nat.le_refl _) (.cells #[.int .u8 c] 5))).trans (KeepF.grown (hown.alloc _) hgrow)).trans (KeepF.set hb2 1 (.slice (some ⟨g, 0, none⟩) (bs.length + 1) cap))))
  have HK := Lib.hid (((hb1.alloc (by omega) _).grown hgrow (by simp; omega) (fun k hk => (hown.lt k hk).1)).setCell (p := ⟨b, 1, none⟩) hB (.slice (some ⟨g, 0, none⟩) (bs.length + 1) cap))
  clear hfin hown' hgrow hown hc ht1
  go_wp2
  go_ret
  exact ⟨⟨_, rfl⟩, HF.out, HK.out, HT.out⟩
end Go.Proofs.YtbdamneophbnnaaGreatDoor
namespace Wb
open Go
theorem dec_dgN : ∀ n, 1 ≤ n → Lib.decDigits n = dgN n := by
  intro n
  induction n using Nat.strongRecOn with
  | _ n ih =>
    intro h
    by_cases h10 : n < 10
    · rw [Lib.decDigits, dif_pos h10, dgN, dif_neg (show ¬ n = 0 by omega), show n / 10 = 0 from by omega, show n % 10 = n from by omega, show dgN 0 = [] from by rw [dgN, dif_pos rfl]]
      rfl
    · rw [Lib.decDigits, dif_neg h10, ih (n / 10) (by omega) (by omega)]
      conv => rhs; rw [dgN, dif_neg (show ¬ n = 0 by omega)]
theorem itoa_dgN (n : Nat) (h : 1 ≤ n) : Lib.itoa (n : Int) = dgN n := by
  unfold Lib.itoa
  rw [if_neg (by omega)]
  exact dec_dgN n h
theorem idx_bad (s : ByteArray) : ∀ f pos, Lib.idxFuncFrom (fun x => !charB (x : Int)) true s f pos = match badU f (s.data.toList.drop pos) pos with
    | some k => (k : Int)
    | none => -1
  | 0, _ => rfl
  | f + 1, pos => by
    have hsl : s.data.toList.length = s.size := by simp
    rw [Lib.idxFuncFrom, badU]
    by_cases h : pos < s.size
    · have hne : ¬ s.data.toList.drop pos = [] := fun e => by
        have := List.length_drop (l := s.data.toList) (i := pos)
        rw [e, hsl] at this
        simp at this
        omega
      rw [if_pos h, decode_U s pos h, if_neg hne]
      cases hc : charB ((decU (s.data.toList.drop pos)).1 : Int) with
      | false => rw [if_pos (by simp), if_neg (by simp)]
      | true => rw [if_neg (by simp), if_pos rfl, idx_bad s f, List.drop_drop]
    · rw [if_neg h, if_pos (List.drop_eq_nil_iff.2 (by omega))]
theorem sg_iff (s : ByteArray) : sgB s = (decide (chk s.data.toList < 0) && !decide (0 ≤ Lib.idxFunc (fun x => !charB (x : Int)) true s)) := by
  unfold sgB Lib.idxFunc
  rw [idx_bad s s.size 0, List.drop_zero]
  congr 1
  · rcases chk_bd s.data.toList with h | ⟨h1, h2⟩
    · rw [h]; rfl
    · rw [decide_eq_false (by omega)]
      exact beq_eq_false_iff_ne.2 (by omega)
  · cases badU s.size s.data.toList 0 with
    | none => rfl
    | some k => simp
theorem idx_byte1 (c : UInt8) : ∀ l : List UInt8, decide (0 ≤ Lib.indexByte l c) = l.contains c
  | [] => rfl
  | b :: l => by
    have ih := idx_byte1 c l
    have hg := Lib.indexByte_ge l c
    rw [Lib.indexByte, List.contains_cons]
    by_cases h : b = c
    · subst h; simp
    · rw [if_neg (by simpa using h), beq_eq_false_iff_ne.2 (Ne.symm h), Bool.false_or, ← ih]
      by_cases hm : Lib.indexByte l c = -1
      · rw [hm]; rfl
      · rw [if_neg (by simpa using hm)]
        rw [decide_eq_true (by omega), decide_eq_true (by omega)]
def bindable1 (s : ByteArray) : Bool := !decide (s = sE) && (!decide (s = sXMLNS) && (!s.data.toList.contains 41 && sgB s))
theorem bindable_iff (s : ByteArray) : (s = sE ∨ s = sXMLNS ∨ (41 : UInt8) ∈ s.data.toList ∨ sgB s = false) ↔ bindable1 s = false := by
  unfold bindable1
  by_cases h1 : s = sE
  · simp [h1]
  · by_cases h2 : s = sXMLNS
    · simp [h2]
    · by_cases h3 : (41 : UInt8) ∈ s.data.toList
      · have : s.data.toList.contains 41 = true := List.contains_iff_mem.2 h3
        rw [this]
        simp [h3]
      · have : s.data.toList.contains 41 = false := by
          rw [Bool.eq_false_iff]
          exact fun e => h3 (List.contains_iff_mem.1 e)
        rw [this]
        simp only [h1, h2, h3, false_or, decide_false, Bool.not_false, Bool.true_and]
end Wb
namespace Go.Proofs.YtbdamneophbnnaaGreatDoor
open Go.RowKit Wb
set_option maxHeartbeats 1000000 in
theorem notChar_any (r : Int) (w : World) :
    Calls Tryz.prog 130 #[.int .i32 r] w fun e w' => e = .returned (.bool (!charB r)) ∧ Below w.heap.size w w' := by
  go_enter Tryz.func130, Tryz.ntmps130
  go_wp2_with fail
  refine (char_any r _).mono ?_
  rintro e w' ⟨rfl, hb⟩
  go_wp2
  go_ret
  exact ⟨rfl, hb⟩
set_option maxHeartbeats 2000000 in
set_option maxRecDepth 100000 in
theorem ssigns_any (s : ByteArray) (w : World) (hs : s.size ≤ 1000000000) :
    Calls Tryz.prog 108 #[.string s] w fun e w' => e = .returned (.bool (sgB s)) ∧ Below w.heap.size w w' := by
  rw [sg_iff s]
  have hcf := fun v => Tryz.strings_ContainsFunc_grows 130 #[] (enters_of Tryz.func130 (by kernel_rfl) rfl) (fun x => !charB (x : Int)) s v (fun W x _ _ => by
    have := notChar_any (x : Int) W
    exact this)
  have hck := fun v => check_any s v hs
  have hlow : chk s.data.toList = -1 ∨ 0 ≤ chk s.data.toList := by
    rcases chk_bd s.data.toList with h | h
    · exact .inl h
    · exact .inr h.1
  generalize Lib.idxFunc (fun x => !charB (x : Int)) true s = I at *
  generalize chk s.data.toList = C at *
  have hc : (0 ≤ C) ∨ (C = -1 ∧ 0 ≤ I) ∨ (C = -1 ∧ ¬ 0 ≤ I) := by omega
  rcases hc with h | ⟨rfl, h⟩ | ⟨rfl, h⟩
  · have h1 : decide (C < 0) = false := decide_eq_false (by omega)
    rw [h1]
    go_enter Tryz.func108, Tryz.ntmps108
    go_wp2_with fail
    refine (hck _).mono ?_
    rintro e w1 ⟨rfl, hb⟩
    go_wp2
    go_ret
    exact ⟨rfl, hb⟩
  · have h1 : decide (0 ≤ I) = true := decide_eq_true h
    rw [h1] at hcf ⊢
    go_enter Tryz.func108, Tryz.ntmps108
    go_wp2_with fail
    refine (hck _).mono ?_
    rintro e w1 ⟨rfl, hb⟩
    go_wp2_with fail
    refine (hcf _).mono ?_
    rintro e w2 ⟨rfl, hb2⟩
    go_wp2
    go_ret
    exact ⟨rfl, hb.trans (hb2.mono hb.size)⟩
  · have h1 : decide (0 ≤ I) = false := decide_eq_false h
    rw [h1] at hcf ⊢
    go_enter Tryz.func108, Tryz.ntmps108
    go_wp2_with fail
    refine (hck _).mono ?_
    rintro e w1 ⟨rfl, hb⟩
    go_wp2_with fail
    refine (hcf _).mono ?_
    rintro e w2 ⟨rfl, hb2⟩
    go_wp2
    go_ret
    exact ⟨rfl, hb.trans (hb2.mono hb.size)⟩
set_option maxHeartbeats 2000000 in
set_option maxRecDepth 100000 in
theorem bindable_any (s : ByteArray) (w : World) (hs : s.size ≤ 1000000000) :
    Calls Tryz.prog 161 #[.string s] w fun e w' => e = .returned (.bool (bindable1 s)) ∧ Below w.heap.size w w' := by
  have hct := fun v => Tryz.strings_Contains_one s 41 v
  rw [idx_byte1] at hct
  have hsg := fun v => ssigns_any s v hs
  obtain ⟨r, hr⟩ : ∃ r, bindable1 s = r := ⟨_, rfl⟩
  rw [hr]
  unfold bindable1 at hr
  have hxl : sXMLNS.toList = [104, 116, 116, 112, 58, 47, 47, 119, 119, 119, 46, 119, 51, 46, 111, 114, 103, 47, 50, 48, 48, 48, 47, 120, 109, 108, 110, 115, 47] := by rw [ByteArray.toList_eq]; rfl
  by_cases h1 : s = sE
  · have h1b : s.toList.isEmpty = true := by rw [nil_of s ((eqT_iff _ _).2 h1)]; rfl
    rw [decide_eq_true h1] at hr
    simp only [Bool.not_true, Bool.false_and] at hr
    subst hr
    clear h1 hct hsg
    go_enter Tryz.func161, Tryz.ntmps161
    go_wp2
    go_ret
    exact ⟨rfl, Below.refl _ _⟩
  · have h1b : s.toList.isEmpty = false := by simpa using ne_nil s (eqT_false.2 h1)
    rw [decide_eq_false h1] at hr
    by_cases h2 : s = sXMLNS
    · have h2b : (s.toList == [104, 116, 116, 112, 58, 47, 47, 119, 119, 119, 46, 119, 51, 46, 111, 114, 103, 47, 50, 48, 48, 48, 47, 120, 109, 108, 110, 115, 47]) = true := by rw [h2, hxl]; exact beq_self_eq_true _
      rw [decide_eq_true h2] at hr
      simp only [Bool.not_true, Bool.not_false, Bool.false_and, Bool.true_and] at hr
      subst hr
      clear h2 h1 hct hsg hxl
      go_enter Tryz.func161, Tryz.ntmps161
      go_wp2
      go_ret
      exact ⟨rfl, Below.refl _ _⟩
    · have h2b : (s.toList == [104, 116, 116, 112, 58, 47, 47, 119, 119, 119, 46, 119, 51, 46, 111, 114, 103, 47, 50, 48, 48, 48, 47, 120, 109, 108, 110, 115, 47]) = false := by
        have h : eqT s sXMLNS = false := eqT_false.2 h2
        unfold eqT at h
        rw [hxl] at h
        exact h
      rw [decide_eq_false h2] at hr
      clear h2 h1 hxl
      cases h3 : s.data.toList.contains 41 with
      | true =>
        rw [h3] at hr hct
        simp only [Bool.not_true, Bool.not_false, Bool.false_and, Bool.true_and] at hr
        subst hr
        clear h3 hsg
        go_enter Tryz.func161, Tryz.ntmps161
        go_wp2_with fail
        refine (hct _).mono ?_
        rintro e w1 ⟨rfl, rfl⟩
        go_wp2
        go_ret
        exact ⟨rfl, Below.refl _ _⟩
      | false =>
        rw [h3] at hr hct
        simp only [Bool.not_false, Bool.true_and] at hr
        rw [hr] at hsg
        clear h3 hr
        go_enter Tryz.func161, Tryz.ntmps161
        go_wp2_with fail
        refine (hct _).mono ?_
        rintro e w1 ⟨rfl, rfl⟩
        go_wp2_with fail
        refine (hsg _).mono ?_
        rintro e w2 ⟨rfl, hb⟩
        go_wp2
        go_ret
        exact ⟨rfl, hb⟩
set_option maxHeartbeats 2000000 in
theorem snumbered_any (i : Nat) (h : i < 99) (w : World) : Calls Tryz.prog 112 #[.int .i64 i] w fun e w' => e = .returned (.string (mkT (numT i))) ∧ w' = w := by
  have hs := itoa_small (i + 1) (by omega) w
  rw [show (((i + 1 : Nat)) : Int) = (i : Int) + 1 from by omega] at hs
  have hr : (ByteArray.mk #[110]) ++ (ByteArray.mk (digT (i + 1)).toArray) = mkT (numT i) := ba_app [110] (digT (i + 1))
  have hz : (ByteArray.mk (digT (i + 1)).toArray).size ≤ 2 := by
    show (digT (i + 1)).toArray.size ≤ 2
    unfold digT
    split <;> simp
  rw [← hr]
  generalize (ByteArray.mk (digT (i + 1)).toArray) = r at *
  have hz2 : ¬ 9223372036854775807 < 1 + r.size := by omega
  clear hr
  go_enter Tryz.func112, Tryz.ntmps112
  go_wp2_with fail
  refine hs.mono ?_
  rintro e w' ⟨rfl, rfl⟩
  go_wp2
  go_ret
  exact ⟨rfl, rfl⟩
theorem sitoa_any (n : Nat) (h1 : 1 ≤ n) (h2 : n ≤ 9999) (w : World) (hG : GvS w) : Calls Tryz.prog 107 #[.int .i64 n] w fun e w' => e = .returned (.string (mkT (dgN n))) ∧ Below w.heap.size w w' := by
  have := Tryz.strconv_Itoa (n : Int) (by omega) (by omega) w hG.2
  rw [itoa_dgN n h1] at this
  refine this.mono ?_
  rintro e w' ⟨rfl, k, os, rfl⟩
  exact ⟨rfl, Lib.below_grow _ w (Nat.le_refl _) k os⟩
set_option maxHeartbeats 1000000 in
theorem spidx_any (A : Option Addr) (l : List ByteArray) (x : ByteArray) (c : Nat) (w : World) (h : Sl1 w A l) (hl : l.length ≤ 1000000) :
    Calls Tryz.prog 160 #[.slice A l.length c, .string x] w fun e w' => e = .returned (.int .i64 (if hasB l x = true then (idxB x l : Int) else -1)) ∧ w' = w := by
  obtain ⟨r, hr⟩ : ∃ r : Int, (if hasB l x = true then (idxB x l : Int) else -1) = r := ⟨_, rfl⟩
  rw [hr]
  have HR := Lib.hid hr
  have HS := Lib.hid h
  clear hr h
  go_enter Tryz.func160, Tryz.ntmps160
  go_wp2
  go_loop [8] (fun vi => ∃ k : Nat, k ≤ l.length ∧ vi = .int .i64 k ∧ Hid (∀ j (hj : j < l.length), j < k → l[j] ≠ x)) (fun vi => ((l.length : Int) - intOf vi).toNat)
  case atStart => exact ⟨0, by omega, rfl, Lib.hid (fun j _ h => by omega)⟩
  case round =>
    obtain ⟨k, hk, rfl, HN⟩ := hrel
    by_cases h0 : k < l.length
    · obtain ⟨ad, rfl, had, hcell⟩ := HS.out.at_ (List.getElem?_eq_getElem h0)
      by_cases he : l[k] = x
      · have hi := idxB_at h0 he HN.out
        have hrk : r = k := by
          have := HR.out
          rw [if_pos ((hasB_iff _ _).2 (he ▸ List.getElem_mem h0)), hi] at this
          exact this.symm
        subst hrk
        have hb : (x.toList == (l[k]).toList) = true := by rw [he]; exact beq_self_eq_true _
        clear hi HN he
        generalize l[k] = y at *
        go_wp2
        go_ret
        exact ⟨rfl, rfl⟩
      · have hb : (x.toList == (l[k]).toList) = false := by
          have h1 : eqT x l[k] = false := by rw [eqT_dec]; exact decide_eq_false (fun e => he e.symm)
          exact h1
        have HN2 : Hid (∀ j (hj : j < l.length), j < k + 1 → l[j] ≠ x) := Lib.hid (fun j hj hjk => by
          by_cases e : j = k
          · subst e; exact he
          · exact HN.out j hj (by omega))
        clear he HN
        generalize l[k] = y at hcell hb
        go_wp2
        go_round
        case rel => exact ⟨k + 1, by omega, by go_num, HN2⟩
        case measure => simp [intOf]; omega
    · have hrk : r = -1 := by
        have := HR.out
        rw [if_neg] at this
        · exact this.symm
        · intro hh
          obtain ⟨j, hj, e⟩ := List.mem_iff_getElem.1 ((hasB_iff _ _).1 hh)
          exact HN.out j hj (by omega) e
      subst hrk
      go_wp2
      go_ret
      exact ⟨rfl, rfl⟩
end Go.Proofs.YtbdamneophbnnaaGreatDoor
