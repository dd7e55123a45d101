/- SbO Open ScD ScE. -/
import Derived.Deep.SlicePairs
import Derived.Carry
import Derived.Test.YtbeglliabpflpaaGreatDoorCU2
import Derived.Test.YtbeglliabpflpaaGreatDoorCU16
import Derived.Test.YtbeglliabpflpaaGreatDoorCU20
import Derived.Test.YtbeglliabpflpaaGreatDoorCU22
namespace Wb
open Go Go.RowKit Go.Deep Go.ChangeShapes Go.WideShapes
theorem add_add9 (a : Addr) (n k : Nat) : (a.add n).add k = a.add (n + k) := by
  by_cases hk : k = 0
  · subst hk; simp [Addr.add]
  · rw [add_succ a n k (by omega)]
    show (if k = 0 then a.add n else ⟨(a.add n).block, (a.add n).off + k, none⟩) = _
    rw [if_neg hk]
structure StTypes (P : Program) (tE tM tSE tS tI tB : TypeId) : Prop where
  step : ∃ f0 f1 f2 f3 f4 f5 f6 : Field, P.underlying tE = some (.struct #[f0, f1, f2, f3, f4, f5, f6]) ∧ f0.type = tI ∧ f1.type = tB ∧ f2.type = tM ∧ f3.type = tI ∧ f4.type = tB ∧ f5.type = tM ∧ f6.type = tS ∧ f0.offset = 0 ∧ f1.offset = 1 ∧ f2.offset = 2 ∧ f3.offset = 4 ∧ f4.offset = 5 ∧ f5.offset = 6 ∧ f6.offset = 8
  stepC : P.cellsOf tE = 9
  name : ∃ f0 f1 : Field, P.underlying tM = some (.struct #[f0, f1]) ∧ f0.type = tS ∧ f1.type = tS ∧ f0.offset = 0 ∧ f1.offset = 1
  nameC : P.cellsOf tM = 2
  steps : P.underlying tSE = some (.slice tE)
  str : P.underlying tS = some .string
  strC : P.cellsOf tS = 1
  int : P.underlying tI = some (.int .i64)
  intC : P.cellsOf tI = 1
  bool : P.underlying tB = some .bool
  boolC : P.cellsOf tB = 1
end Wb
namespace Go.Proofs.YtbeglliabpflpaaGreatDoor
open Go.RowKit Wb Go.Deep Go.ChangeShapes Go.WideShapes
section
variable {H : Type} {enc : TypeId × Value → H} {P : Program} {w : World} {base : Nat} {spare : Nat → Bool} {held : Bool} {tE tM tSE tS tI tB : TypeId}
theorem open_name9 (T : StTypes P tE tM tSE tS tI tB) {f : Nat} {cs : List Value} {x : DataW H × List MemPlace} (h : DataW.trod enc P w base spare held f tM cs = some x) : ∃ a b : ByteArray, cs = [.string a, .string b] := by
  obtain ⟨f0, f1, u, e0, e1, o0, o1⟩ := T.name
  obtain ⟨xs, n, _, _, hl, hx, hf⟩ := DataW.trod_struct u h
  rw [T.nameC] at hl
  have h0 := hf 0 f0 rfl
  have h1 := hf 1 f1 rfl
  rw [e0, o0, T.strC] at h0
  rw [e1, o1, T.strC] at h1
  match cs, hl, xs, hx with
  | [c0, c1], _, [y0, y1], _ =>
    obtain ⟨a, ha, _⟩ := DataW.trod_string T.str (show DataW.trod enc P w base spare held n tS [c0] = some y0 from h0)
    obtain ⟨b, hb, _⟩ := DataW.trod_string T.str (show DataW.trod enc P w base spare held n tS [c1] = some y1 from h1)
    simp only [List.cons.injEq, and_true] at ha hb
    exact ⟨a, b, by rw [ha, hb]⟩
theorem open_step (T : StTypes P tE tM tSE tS tI tB) {f : Nat} {cs : List Value} {x : DataW H × List MemPlace} (h : DataW.trod enc P w base spare held f tE cs = some x) : ∃ s : StV, cs = cells9 s := by
  obtain ⟨f0, f1, f2, f3, f4, f5, f6, u, e0, e1, e2, e3, e4, e5, e6, o0, o1, o2, o3, o4, o5, o6⟩ := T.step
  obtain ⟨xs, n, _, _, hl, hx, hf⟩ := DataW.trod_struct u h
  rw [T.stepC] at hl
  have h0 := hf 0 f0 rfl
  have h1 := hf 1 f1 rfl
  have h2 := hf 2 f2 rfl
  have h3 := hf 3 f3 rfl
  have h4 := hf 4 f4 rfl
  have h5 := hf 5 f5 rfl
  have h6 := hf 6 f6 rfl
  rw [e0, o0, T.intC] at h0
  rw [e1, o1, T.boolC] at h1
  rw [e2, o2, T.nameC] at h2
  rw [e3, o3, T.intC] at h3
  rw [e4, o4, T.boolC] at h4
  rw [e5, o5, T.nameC] at h5
  rw [e6, o6, T.strC] at h6
  match cs, hl, xs, hx with
  | [c0, c1, c2, c3, c4, c5, c6, c7, c8], _, [y0, y1, y2, y3, y4, y5, y6], _ =>
    obtain ⟨k, hk, _⟩ := DataW.trod_int T.int (show DataW.trod enc P w base spare held n tI [c0] = some y0 from h0)
    obtain ⟨b, hb, _⟩ := DataW.trod_bool T.bool (show DataW.trod enc P w base spare held n tB [c1] = some y1 from h1)
    obtain ⟨n1, n2, hn⟩ := open_name9 T (show DataW.trod enc P w base spare held n tM [c2, c3] = some y2 from h2)
    obtain ⟨p, hp, _⟩ := DataW.trod_int T.int (show DataW.trod enc P w base spare held n tI [c4] = some y3 from h3)
    obtain ⟨b2, hb2, _⟩ := DataW.trod_bool T.bool (show DataW.trod enc P w base spare held n tB [c5] = some y4 from h4)
    obtain ⟨a1, a2, ha⟩ := open_name9 T (show DataW.trod enc P w base spare held n tM [c6, c7] = some y5 from h5)
    obtain ⟨v, hv, _⟩ := DataW.trod_string T.str (show DataW.trod enc P w base spare held n tS [c8] = some y6 from h6)
    simp only [List.cons.injEq, and_true] at hk hb hn hp hb2 ha hv
    exact ⟨⟨k, b, (n1, n2), p, b2, (a1, a2), v⟩, by rw [hk, hb, hn.1, hn.2, hp, hb2, ha.1, ha.2, hv]; rfl⟩
theorem sl9_of_trod (T : StTypes P tE tM tSE tS tI tB) {A : Option Addr} {len cap : Nat} {d : DataW H} {p : List MemPlace} (h : DataW.Trod enc P w base spare held tSE (.slice A len cap) d p) : ∃ l : List StV, len = l.length ∧ Sl9 w A l := by
  obtain ⟨fuel, hf0⟩ := h
  rcases DataW.trod_slice T.steps hf0 with ⟨hcs, _⟩ | ⟨a, ln, cp, elems, rest, n, _, hcs, _, hb, hlc, hcm, he, hi, _⟩
  · simp [Value.cells] at hcs
    obtain ⟨rfl, rfl, rfl⟩ := hcs
    exact ⟨[], rfl, Sl.nil _ 9 _⟩
  · simp [Value.cells] at hcs
    obtain ⟨rfl, rfl, rfl⟩ := hcs
    have each : ∀ i, i < len → ∃ s : StV, ∀ j v, (cells9 s)[j]? = some v → w.cell? (a.add (i * 9 + j)) = some v := by
      intro i hil
      have h1 := hi i hil
      rw [T.stepC, List.getElem?_eq_getElem (by omega)] at h1
      obtain ⟨cs, h2, h3⟩ := Option.bind_eq_some_iff.1 h1
      obtain ⟨s, rfl⟩ := open_step T h3
      obtain ⟨_, _, hcell⟩ := World.cells?_some h2
      refine ⟨s, fun j v hj => ?_⟩
      have hj9 : j < 9 := (List.getElem?_eq_some_iff.1 hj).1
      have := hcell j (by omega)
      rw [add_add9] at this
      rw [this]
      have e := (List.getElem?_eq_some_iff.1 hj).2
      rw [← e]
      simp
    let g : Nat → StV := fun i => if h : i < len then Classical.choose (each i h) else ⟨0, false, nE, 0, false, nE, sE⟩
    have hg : ∀ i, i < len → ∀ j v, (cells9 (g i))[j]? = some v → w.cell? (a.add (i * 9 + j)) = some v := by
      intro i h
      simp only [g, h, dif_pos]
      exact Classical.choose_spec (each i h)
    refine ⟨(List.range len).map g, by simp, ⟨cells9L_len _, fun hn => ?_⟩⟩
    simp only [List.length_map, List.length_range] at hn
    have hblk : a.block < w.heap.size := by
      have := World.block_lt_of_cell? w _ (hg 0 hn 0 _ rfl)
      rwa [add_block] at this
    refine ⟨a, rfl, hblk, fun j u hu => ?_⟩
    have hj : j < len * 9 := by
      have := (List.getElem?_eq_some_iff.1 hu).1
      rw [cells9L_len] at this
      simpa using this
    have hx : ((List.range len).map g)[j / 9]? = some (g (j / 9)) := by
      rw [List.getElem?_map, List.getElem?_range (by omega)]; rfl
    have hc := cells9L_at _ _ _ (j % 9) hx (by omega)
    have ej : j / 9 * 9 + j % 9 = j := by omega
    rw [ej, hu] at hc
    have := hg (j / 9) (by omega) (j % 9) u hc.symm
    rwa [ej] at this
end
theorem st_types : StTypes Tryz.prog 47 45 31 9 3 4 where
  step := ⟨_, _, _, _, _, _, _, Tryz.underlying47, rfl, rfl, rfl, rfl, rfl, rfl, rfl, rfl, rfl, rfl, rfl, rfl, rfl, rfl⟩
  stepC := by kernel_rfl
  name := ⟨_, _, Tryz.underlying45, rfl, rfl, rfl, rfl⟩
  nameC := by kernel_rfl
  steps := Tryz.underlying31
  str := Tryz.underlying9
  strC := by kernel_rfl
  int := Tryz.underlying3
  intC := by kernel_rfl
  bool := Tryz.underlying4
  boolC := by kernel_rfl
end Go.Proofs.YtbeglliabpflpaaGreatDoor
namespace Wb
open Go Go.RowKit Go.Deep Go.ChangeShapes Go.WideShapes
def strOf : Value → ByteArray
  | .string s => s
  | _ => ⟨#[]⟩
section
variable {H : Type} {enc : TypeId × Value → H} {P : Program} {W : World} {base : Nat} {spare : Nat → Bool} {held : Bool}
theorem sl2_of_trod {t e : TypeId} {f0 f1 : Field} {A : Option Addr} {len cap : Nat} {d : DataW H} {p : List MemPlace} (ht : P.underlying t = some (.slice e)) (he : P.underlying e = some (.struct #[f0, f1]))
    (ce : P.cellsOf e = 2) (o0 : f0.offset = 0) (o1 : f1.offset = 1) (c0 : P.cellsOf f0.type = 1) (c1 : P.cellsOf f1.type = 1) (s0 : P.underlying f0.type = some .string) (s1 : P.underlying f1.type = some .string)
    (h : DataW.Trod enc P W base spare held t (.slice A len cap) d p) : ∃ l : List Pr, len = l.length ∧ Sl2 W A l := by
  obtain ⟨fuel, hf⟩ := h
  rcases open_slice_pairs ht he ce o0 o1 c0 c1 hf with ⟨hcs, _⟩ | ⟨a, ln, cp, m, n, V0, V1, D0, D1, P0, P1, hcs, _, hlc, _, hm, _, hi⟩
  · simp [Value.cells] at hcs
    obtain ⟨rfl, rfl, rfl⟩ := hcs
    exact ⟨[], rfl, Sl2.nil _ _⟩
  · simp [Value.cells] at hcs
    obtain ⟨rfl, rfl, rfl⟩ := hcs
    have hlm : len ≤ m := by rw [hm]; split <;> omega
    have hs : ∀ i, i < len → W.cell? (a.add (i * 2)) = some (.string (strOf (V0 i))) ∧ W.cell? (a.add (i * 2 + 1)) = some (.string (strOf (V1 i))) := by
      intro i hil
      obtain ⟨h1, h2, h3, h4⟩ := hi i (by omega)
      obtain ⟨x, hx, _⟩ := DataW.trod_string s0 h3
      obtain ⟨y, hy, _⟩ := DataW.trod_string s1 h4
      simp only [List.cons.injEq, and_true] at hx hy
      rw [h1, h2, hx, hy]
      exact ⟨rfl, rfl⟩
    refine ⟨(List.range len).map fun i => (strOf (V0 i), strOf (V1 i)), by simp, cells2_length _, fun hn => ?_⟩
    simp only [List.length_map, List.length_range] at hn
    have hb : a.block < W.heap.size := by
      have := World.block_lt_of_cell? W _ (hs 0 hn).1
      rw [add_block] at this
      exact this
    refine ⟨a, rfl, hb, fun j u hu => ?_⟩
    have hj : j < len * 2 := by
      have := (List.getElem?_eq_some_iff.1 hu).1
      rw [cells2_length] at this
      simpa using this
    have hx : ((List.range len).map fun i => (strOf (V0 i), strOf (V1 i)))[j / 2]? = some (strOf (V0 (j / 2)), strOf (V1 (j / 2))) := by
      rw [List.getElem?_map, List.getElem?_range (by omega)]; rfl
    obtain ⟨g1, g2⟩ := cells2_at _ _ _ hx
    obtain ⟨h1, h2⟩ := hs (j / 2) (by omega)
    rcases (by omega : j = j / 2 * 2 ∨ j = j / 2 * 2 + 1) with e | e
    · rw [e] at hu ⊢
      rw [g1] at hu
      rw [h1, hu]
    · rw [e] at hu ⊢
      rw [g2] at hu
      rw [h2, hu]
end
end Wb
namespace Wb
open Go
theorem head_cut (s : List UInt8) : (Lib.cut s [91]).1 = (headP s).1 ∧ s.drop (headP s).1.length = (headP s).2 := by
  have hs := List.takeWhile_append_dropWhile (p := fun x : UInt8 => x != 91) (l := s)
  refine ⟨?_, ?_⟩
  · cases h : cutC 91 s with
    | none =>
      rw [cut_none1 h]
      have hf := cutC_free h
      have e := dw_none (p := fun x : UInt8 => x != 91) (l := s) fun x hx => bne_iff_ne.2 (hf x hx)
      rw [e, List.append_nil] at hs
      exact hs.symm
    | some x =>
      obtain ⟨a, b⟩ := x
      rw [cut_some1 h]
      obtain ⟨rfl, hf⟩ := cutC_some h
      exact (tw_free (c := 91) b hf).1.symm
  · unfold headP
    simp only
    conv => lhs; arg 2; rw [← hs]
    rw [List.drop_left]
theorem cpos_let {s P R : List UInt8} {b1 b2 : Bool} {n : Nat} (h1 : Lib.hasPrefix s [91] = b1) (h2 : Lib.cut (Lib.trimPrefix s [91]) [93] = (P, R, b2)) (h3 : posP P = n) :
    cposP s = if (b1 && (b2 && !decide (n = 0))) = true then (n, R) else (0, s) := by
  unfold cposP
  rw [pre_take'] at h1
  by_cases hk : s.take 1 = [91]
  · have e1 : b1 = true := by rw [← h1]; exact decide_eq_true hk
    subst e1
    have et : Lib.trimPrefix s [91] = s.drop 1 := by
      unfold Lib.trimPrefix
      rw [pre_take']
      show (if decide (List.take 1 s = [91]) = true then s.drop 1 else s) = _
      rw [if_pos (decide_eq_true hk)]
    rw [et] at h2
    rw [if_pos hk]
    cases h93 : cutC 93 (s.drop 1) with
    | none =>
      rw [cut_none1 h93] at h2
      injection h2 with h2 h5
      injection h5 with h5 h6
      subst h6
      rfl
    | some x =>
      obtain ⟨t, r⟩ := x
      rw [cut_some1 h93] at h2
      injection h2 with h2 h5
      injection h5 with h5 h6
      subst h2 h5 h6
      simp only [h3, Bool.true_and]
      by_cases h0 : n = 0
      · simp [h0]
      · simp [h0]
  · have e1 : b1 = false := by rw [← h1]; exact decide_eq_false hk
    subst e1
    rw [if_neg hk]
    rfl
def quoV (t : List UInt8) : Option (List UInt8) :=
  match t with
  | [] => none
  | q :: u => if q = 34 ∨ q = 39 then match cutC q u with
      | none => none
      | some (v, e) => if e = [93] then some v else none
    else none
theorem testP_let {s N U : List UInt8} {b1 b2 b3 : Bool} (h1 : Lib.hasPrefix s [91, 64] = b1) (h2 : Lib.cut (Lib.trimPrefix s [91, 64]) [61] = (N, U, b2)) (h3 : (splitB ⟨N.toArray⟩).2.2 = b3) :
    testP s = if (b1 && (b2 && b3)) = true then (quoV U).map fun v => (N, v) else none := by
  unfold testP
  rw [pre_take'] at h1
  by_cases hk : s.take 2 = [91, 64]
  · have e1 : b1 = true := by rw [← h1]; exact decide_eq_true hk
    subst e1
    have et : Lib.trimPrefix s [91, 64] = s.drop 2 := by
      unfold Lib.trimPrefix
      rw [pre_take']
      show (if decide (List.take 2 s = [91, 64]) = true then s.drop 2 else s) = _
      rw [if_pos (decide_eq_true hk)]
    rw [et] at h2
    rw [if_pos hk]
    cases h61 : cutC 61 (s.drop 2) with
    | none =>
      rw [cut_none1 h61] at h2
      injection h2 with h2 h5
      injection h5 with h5 h6
      subst h6
      rfl
    | some x =>
      obtain ⟨n, t⟩ := x
      rw [cut_some1 h61] at h2
      injection h2 with h2 h5
      injection h5 with h5 h6
      subst h2 h5 h6
      simp only [h3, Bool.true_and]
      cases t with
      | nil => simp [quoV]
      | cons q u =>
        unfold quoV
        simp only
        by_cases hq : q = 34 ∨ q = 39
        · rw [if_pos hq, if_pos hq]
          cases cutC q u with
          | none => simp
          | some x =>
            obtain ⟨v, e⟩ := x
            simp only
            cases b3 with
            | false => simp
            | true =>
              by_cases he : e = [93]
              · simp [he]
              · simp [he]
        · rw [if_neg hq, if_neg hq]
          simp
  · have e1 : b1 = false := by rw [← h1]; exact decide_eq_false hk
    subst e1
    rw [if_neg hk]
    rfl
def cutK (d : List UInt8) : Option (List UInt8 × Nat × Option (List UInt8 × List UInt8)) :=
  if (headP d).1 ≠ [42] ∧ (splitB ⟨(headP d).1.toArray⟩).2.2 = false then none
  else if (cposP (headP d).2).2 = [] then some ((headP d).1, (cposP (headP d).2).1, none)
  else match testP (cposP (headP d).2).2 with
    | none => none
    | some av => some ((headP d).1, (cposP (headP d).2).1, some av)
theorem step_none {sc : List Pr} {d : List UInt8} (h : cutK d = none) : stepP sc d = .error 33 := by
  unfold cutK at h
  unfold stepP
  split at h
  · rename_i hc
    rw [if_pos hc]
  · rename_i hc
    rw [if_neg hc]
    cases hp : posnP (headP d).2 with
    | none => rfl
    | some x =>
      obtain ⟨p, r⟩ := x
      have e := cpos_some (head_rest d) hp
      rw [e] at h
      simp only at h ⊢
      split at h
      · cases h
      · rename_i hr
        rw [if_neg hr]
        cases ht : testP r with
        | none => rfl
        | some av =>
          rw [ht] at h
          cases h
theorem step_some {sc : List Pr} {d n : List UInt8} {p : Nat} (h : cutK d = some (n, p, none)) :
    p ≤ 9999 ∧ n.length ≤ d.length ∧ stepP sc d = if n = [42] then .ok ⟨1, true, nE, p, false, nE, sE⟩ else if (resB sc ⟨n.toArray⟩ false).2 = 0 then .ok ⟨1, false, (resB sc ⟨n.toArray⟩ false).1, p, false, nE, sE⟩ else .error (resB sc ⟨n.toArray⟩ false).2 := by
  have hh := (headP_len d).1
  unfold cutK at h
  unfold stepP
  split at h
  · cases h
  · rename_i hc
    rw [if_neg hc]
    cases hp : posnP (headP d).2 with
    | none =>
      have := cpos_none hp
      rw [if_neg this.1, this.2] at h
      cases h
    | some x =>
      obtain ⟨q, r⟩ := x
      have e := cpos_some (head_rest d) hp
      rw [e] at h
      simp only at h ⊢
      split at h
      · rename_i hr
        injection h with h
        injection h with h1 h
        injection h with h2 h
        subst h1 h2
        rw [if_pos hr]
        refine ⟨?_, hh, rfl⟩
        unfold posnP at hp
        split at hp
        · injection hp with hp
          injection hp with hp _
          omega
        · split at hp
          · cases hp
          · split at hp
            · cases hp
            · rename_i t r' _ _
              injection hp with hp
              injection hp with hp _
              have := posP_le t
              omega
      · split at h
        · cases h
        · injection h with h
          injection h with h1 h
          injection h with h2 h
          cases h
theorem step_test {sc : List Pr} {d n a v : List UInt8} {p : Nat} (h : cutK d = some (n, p, some (a, v))) :
    p ≤ 9999 ∧ n.length ≤ d.length ∧ a.length ≤ d.length ∧ v.length ≤ d.length ∧ stepP sc d = if n ≠ [42] ∧ (resB sc ⟨n.toArray⟩ false).2 ≠ 0 then .error (resB sc ⟨n.toArray⟩ false).2
          else if (resB sc ⟨a.toArray⟩ true).2 ≠ 0 then .error (resB sc ⟨a.toArray⟩ true).2
          else if (unV v).2 ≠ 0 then .error (unV v).2
          else .ok ⟨1, decide (n = [42]), if n = [42] then nE else (resB sc ⟨n.toArray⟩ false).1, p, true, (resB sc ⟨a.toArray⟩ true).1, ⟨(unV v).1.toArray⟩⟩ := by
  have hh := headP_len d
  unfold cutK at h
  unfold stepP
  split at h
  · cases h
  · rename_i hc
    rw [if_neg hc]
    cases hp : posnP (headP d).2 with
    | none =>
      have := cpos_none hp
      rw [if_neg this.1, this.2] at h
      cases h
    | some x =>
      obtain ⟨q, r⟩ := x
      have e := cpos_some (head_rest d) hp
      have hrl := posnP_len hp
      rw [e] at h
      simp only at h ⊢
      split at h
      · injection h with h
        injection h with h1 h
        injection h with h2 h
        cases h
      · rename_i hr
        rw [if_neg hr]
        split at h
        · cases h
        · rename_i av ht
          injection h with h
          injection h with h1 h
          injection h with h2 h
          injection h with h
          subst h1 h2 h
          have htl := testP_len ht
          rw [ht]
          refine ⟨?_, hh.1, by omega, by omega, rfl⟩
          unfold posnP at hp
          split at hp
          · injection hp with hp
            injection hp with hp _
            omega
          · split at hp
            · cases hp
            · split at hp
              · cases hp
              · rename_i t r' _ _
                injection hp with hp
                injection hp with hp _
                have := posP_le t
                omega
end Wb
namespace Go.Proofs.YtbeglliabpflpaaGreatDoor
open Go.RowKit Wb
set_option maxHeartbeats 1000000 in
theorem qualified_any (s : ByteArray) (w : World) (hs : s.size ≤ 1000000000) :
    Calls Tryz.prog 120 #[.string s] w fun e w' => e = .returned (.bool (splitB s).2.2) ∧ Below w.heap.size w w' := by
  go_enter Tryz.func120, Tryz.ntmps120
  go_wp2_with fail
  refine (split_any s _ hs).mono ?_
  rintro e w1 ⟨rfl, hb⟩
  go_wp2
  go_ret
  exact ⟨rfl, hb⟩
set_option maxHeartbeats 4000000 in
set_option maxRecDepth 100000 in
theorem position_any (t : ByteArray) (w : World) (hs : t.size ≤ 1000000000) (hG : GvS w) :
    Calls Tryz.prog 137 #[.string t] w fun e w' => e = .returned (.int .i64 (posP t.data.toList : Nat)) ∧ Below w.heap.size w w' := by
  rcases hp : Lib.parseUintB 64 t.data.toList with u | _ | _
  · have hpu := Tryz.strconv_ParseUint_10_at64_ok t (by omega) u hp
    obtain ⟨hne, hpos⟩ := pos_ok hp
    have hu := Lib.parseUintB_le hp
    have h0 : 0 < t.size := by
      cases h : t.data.toList with
      | nil => exact absurd h hne
      | cons c r =>
        have := congrArg List.length h
        simp at this
        omega
    have hd : t.data.toList.head? = some t[0] := by
      rw [List.head?_eq_getElem?, List.getElem?_eq_getElem (by simpa using h0)]
      rfl
    rw [hpos, hd]
    clear hpos hp hne hd
    have hwr : u ≤ 9999 → IntKind.i64.wrap (u : Int) = (u : Int) := fun h => by rw [IntKind.wrap_i64]; omega
    by_cases h9 : 9999 < u
    · have h9i : (9999 : Int) < (u : Int) := by omega
      rw [if_pos (.inl h9)]
      clear h9 hwr
      go_enter Tryz.func137, Tryz.ntmps137
      go_wp2_with fail
      refine (hpu _).mono ?_
      rintro e w1 ⟨rfl, hw⟩
      have hb : Below w.heap.size w w1 := by
        rcases hw with rfl | rfl
        · exact Below.refl _ _
        · exact Lib.bytesWorld_below _ _ _
      clear hw hpu
      go_wp2
      go_ret
      exact ⟨rfl, hb⟩
    · have h9i : ¬ (9999 : Int) < (u : Int) := by omega
      have hwu := hwr (by omega)
      cases h48 : (t[0] == 48) with
      | true =>
        have e48 : t[0] = 48 := by simpa using h48
        rw [if_pos (.inr (by rw [e48]))]
        clear h9 hwr
        go_enter Tryz.func137, Tryz.ntmps137
        go_wp2_with fail
        refine (hpu _).mono ?_
        rintro e w1 ⟨rfl, hw⟩
        have hb : Below w.heap.size w w1 := by
          rcases hw with rfl | rfl
          · exact Below.refl _ _
          · exact Lib.bytesWorld_below _ _ _
        clear hw hpu
        go_wp2
        go_ret
        exact ⟨rfl, hb⟩
      | false =>
        have e48 : t[0] ≠ 48 := by simpa using h48
        have hne : ((t[0].toNat : Int) == 48) = false := by
          rw [beq_eq_false_iff_ne]
          intro h
          exact e48 (UInt8.toNat_inj.1 (by show t[0].toNat = 48; omega))
        have hdec : decide ((9999 : Int) < (u : Int)) = false := decide_eq_false h9i
        rw [if_neg (by simp only [Option.some.injEq, not_or]; exact ⟨h9, e48⟩)]
        clear h9 hwr
        go_enter Tryz.func137, Tryz.ntmps137
        go_wp2_with fail
        refine (hpu _).mono ?_
        rintro e w1 ⟨rfl, hw⟩
        have hb : Below w.heap.size w w1 := by
          rcases hw with rfl | rfl
          · exact Below.refl _ _
          · exact Lib.bytesWorld_below _ _ _
        clear hw hpu
        go_wp2
        go_ret
        exact ⟨by rw [← hwu]; rfl, hb⟩
  · have hz := pos_bad (t := t.data.toList) (by rw [hp]; intro u h; cases h)
    obtain ⟨ev, hv, hev⟩ := hG.1.es
    have hpu : Calls Tryz.prog 149 #[.string t, .int .i64 10, .int .i64 64] w fun e w' => ∃ (N : Nat) (ti : TypeId), e = .returned (.tuple #[.int .u64 0, .iface ti (.pointer (some ⟨N, 0, none⟩))]) ∧ Below w.heap.size w w' :=
      (Any.strconv_ParseUint_10_at64_syntax Tryz.laysPu14 t (by omega) hp ev w hv hev).mono fun e w' ⟨N, h1, _, _, h4⟩ => ⟨N, _, h1, h4⟩
    rw [hz]
    clear hz hp
    go_enter Tryz.func137, Tryz.ntmps137
    go_wp2_with fail
    refine hpu.mono ?_
    rintro e w1 ⟨N, ti, rfl, hb⟩
    go_wp2
    go_ret
    exact ⟨rfl, hb⟩
  · have hz := pos_bad (t := t.data.toList) (by rw [hp]; intro u h; cases h)
    obtain ⟨ev, hv, hev⟩ := hG.1.er
    have hpu := Tryz.strconv_ParseUint_10_at64_range t (by omega) hp ev w hv hev
    rw [hz]
    clear hz hp
    go_enter Tryz.func137, Tryz.ntmps137
    go_wp2_with fail
    refine hpu.mono ?_
    rintro e w1 ⟨N, rfl, -, -, hb⟩
    go_wp2
    go_ret
    exact ⟨rfl, hb⟩
set_option maxHeartbeats 4000000 in
set_option maxRecDepth 100000 in
theorem cutName_any (s : ByteArray) (w : World) (hs : s.size ≤ 1000000000) (hG : GvS w) :
    Calls Tryz.prog 118 #[.string s] w fun e w' => e = .returned (.tuple #[.string (mkT (headP s.data.toList).1), .string (mkT (headP s.data.toList).2)]) ∧ Below w.heap.size w w' := by
  obtain ⟨h1, h2⟩ := head_cut s.data.toList
  have k1 := cut1_any s 91 w hs hG
  rw [h1] at k1
  have hl : (mkT (headP s.data.toList).1).size ≤ s.size := by
    rw [mkT_size]
    have := (headP_len s.data.toList).1
    simpa using this
  have he : s.extract (mkT (headP s.data.toList).1).size s.size = mkT (headP s.data.toList).2 := by
    rw [mkT_size, ← h2, ← ext_drop]
    exact (to_list _).symm
  rw [← he]
  clear h1 h2 he
  generalize (Lib.cut s.data.toList [91]).2.1 = Q at *
  generalize (Lib.cut s.data.toList [91]).2.2 = b at *
  generalize mkT (headP s.data.toList).1 = P at *
  have hl2 : (P.size : Int) ≤ (s.size : Int) := by omega
  go_enter Tryz.func118, Tryz.ntmps118
  go_wp2_with fail
  refine k1.mono ?_
  rintro e w1 ⟨rfl, hb⟩
  clear k1
  go_wp2
  go_region
  go_wp2
  go_ret2
  exact ⟨rfl, hb.drew⟩
set_option maxHeartbeats 4000000 in
set_option maxRecDepth 100000 in
theorem cutPos_any (s : ByteArray) (w : World) (hs : s.size ≤ 1000000) (hG : GvS w) :
    Calls Tryz.prog 119 #[.string s] w fun e w' => e = .returned (.tuple #[.int .i64 ((cposP s.data.toList).1 : Nat), .string (mkT (cposP s.data.toList).2)]) ∧ Below w.heap.size w w' := by
  obtain ⟨b1, h1⟩ : ∃ b, Lib.hasPrefix s.data.toList [91] = b := ⟨_, rfl⟩
  obtain ⟨P, R, b2, h2⟩ : ∃ P R b, Lib.cut (Lib.trimPrefix s.data.toList [91]) [93] = (P, R, b) := ⟨_, _, _, rfl⟩
  obtain ⟨n, h3⟩ : ∃ n, posP P = n := ⟨_, rfl⟩
  have hn9 : n ≤ 9999 := by rw [← h3]; exact posP_le P
  have hL := cpos_let h1 h2 h3
  have ll := trimP_le s.data.toList [91]
  have l1 := cut_le (Lib.trimPrefix s.data.toList [91]) 93
  rw [h2] at l1
  have hsl : s.data.toList.length = s.size := by simp
  have hsm : mkT s.data.toList = s := to_list s
  have k1 := cutP_any s ⟨#[91]⟩
  have ek : (⟨#[91]⟩ : ByteArray).data.toList = [91] := rfl
  rw [ek, h1] at k1
  obtain ⟨T, hT⟩ : ∃ T, Lib.trimPrefix s.data.toList [91] = T := ⟨_, rfl⟩
  rw [hT] at k1 l1 h2 ll
  have k2 := cut1_any (mkT T) 93 w (by rw [mkT_size]; omega) hG
  rw [mkT_list, h2] at k2
  have k3 := fun v hv => position_any (mkT P) v (by rw [mkT_size]; simp only at l1; omega) hv
  rw [mkT_list, h3] at k3
  simp only at k2
  obtain ⟨o, ho⟩ : ∃ o, cposP s.data.toList = o := ⟨_, rfl⟩
  rw [ho]
  rw [ho] at hL
  clear h1 h2 h3 l1 ll hsl hT ek ho
  generalize s.data.toList = sl at *
  have K3 := Lib.hid k3
  have hc : b1 = false ∨ (b1 = true ∧ b2 = false) ∨ (b1 = true ∧ b2 = true ∧ n = 0) ∨ (b1 = true ∧ b2 = true ∧ n ≠ 0) := by
    cases b1 <;> cases b2 <;> simp <;> omega
  rcases hc with rfl | ⟨rfl, rfl⟩ | ⟨rfl, rfl, rfl⟩ | ⟨rfl, rfl, hn⟩
  all_goals
    clear k3
    go_enter Tryz.func119, Tryz.ntmps119
    go_wp2_with fail
    refine (k1 _).mono ?_
    rintro e w1 ⟨rfl, rfl⟩
    go_wp2_with fail
    refine k2.mono ?_
    rintro e w2 ⟨rfl, hb2⟩
    go_wp2_with fail
    refine (K3.out _ (hG.next hb2)).mono ?_
    rintro e w3 ⟨rfl, hb3⟩
    have HB3 := Lib.hid (hb2.trans (hb3.mono hb2.size))
    clear hb2 hb3 k1 k2 K3 hG
  · obtain rfl : o = (0, sl) := by simpa using hL
    go_wp2
    go_ret2
    exact ⟨by rw [← hsm]; rfl, HB3.out⟩
  · obtain rfl : o = (0, sl) := by simpa using hL
    go_wp2
    go_ret2
    exact ⟨by rw [← hsm]; rfl, HB3.out⟩
  · obtain rfl : o = (0, sl) := by simpa using hL
    go_wp2
    go_ret2
    exact ⟨by rw [← hsm]; rfl, HB3.out⟩
  · obtain rfl : o = (n, R) := by simpa [hn] using hL
    have hn0 : ((n : Int) == 0) = false := by rw [beq_eq_false_iff_ne]; omega
    clear hL
    go_wp2
    go_ret2
    exact ⟨rfl, HB3.out⟩
end Go.Proofs.YtbeglliabpflpaaGreatDoor
namespace Go.Proofs.YtbeglliabpflpaaGreatDoor
open Go.RowKit Wb
theorem mkT_emp {l : List UInt8} (h : l = []) : (mkT l).toList.isEmpty = true := by
  subst h
  rw [ByteArray.toList_eq]
  rfl
theorem mkT_nemp {l : List UInt8} (h : l ≠ []) : (mkT l).toList.isEmpty = false := by
  rw [ByteArray.toList_eq]
  show (mkT l).data.toList.isEmpty = false
  rw [mkT_list]
  simpa using h
theorem mkT_eq (l m : List UInt8) : ((mkT l).toList == m) = decide (l = m) := by
  rw [ByteArray.toList_eq]
  show ((mkT l).data.toList == m) = _
  rw [mkT_list, Bool.eq_iff_iff, beq_iff_eq, decide_eq_true_eq]
def TestOut (o : Option (List UInt8 × List UInt8)) (e : Ending) : Prop :=
  (o = none → ∃ a v : ByteArray, e = .returned (.tuple #[.string a, .string v, .bool false])) ∧ ∀ a v, o = some (a, v) → e = .returned (.tuple #[.string (mkT a), .string (mkT v), .bool true])
theorem TestOut.bad {a v : ByteArray} : TestOut none (.returned (.tuple #[.string a, .string v, .bool false])) := ⟨fun _ => ⟨a, v, rfl⟩, fun a v h => by cases h⟩
theorem TestOut.good {a v : List UInt8} : TestOut (some (a, v)) (.returned (.tuple #[.string (mkT a), .string (mkT v), .bool true])) := ⟨fun h => (by cases h), fun a' v' h => by
  injection h with h
  injection h with h1 h2
  rw [h1, h2]⟩
set_option maxHeartbeats 4000000 in
set_option maxRecDepth 100000 in
theorem cutTest_any (s : ByteArray) (w : World) (hs : s.size ≤ 1000000) (hG : GvS w) :
    Calls Tryz.prog 121 #[.string s] w fun e w' => TestOut (testP s.data.toList) e ∧ Below w.heap.size w w' := by
  obtain ⟨b1, h1⟩ : ∃ b, Lib.hasPrefix s.data.toList [91, 64] = b := ⟨_, rfl⟩
  obtain ⟨N, U, b2, h2⟩ : ∃ P R b, Lib.cut (Lib.trimPrefix s.data.toList [91, 64]) [61] = (P, R, b) := ⟨_, _, _, rfl⟩
  obtain ⟨b3, h3⟩ : ∃ n, (splitB (mkT N)).2.2 = n := ⟨_, rfl⟩
  have hL := testP_let h1 h2 h3
  have ll := trimP_le s.data.toList [91, 64]
  have l1 := cut_le (Lib.trimPrefix s.data.toList [91, 64]) 61
  rw [h2] at l1
  have hsl : s.data.toList.length = s.size := by simp
  have k1 := cutP_any s ⟨#[91, 64]⟩
  have ek : (⟨#[91, 64]⟩ : ByteArray).data.toList = [91, 64] := rfl
  rw [ek, h1] at k1
  obtain ⟨T, hT⟩ : ∃ T, Lib.trimPrefix s.data.toList [91, 64] = T := ⟨_, rfl⟩
  rw [hT] at k1 l1 h2 ll
  have k2 := cut1_any (mkT T) 61 w (by rw [mkT_size]; omega) hG
  rw [mkT_list, h2] at k2
  simp only at k2 l1
  have k3 := fun v => qualified_any (mkT N) v (by rw [mkT_size]; omega)
  rw [h3] at k3
  have hU : U.length ≤ 1000000 := by omega
  obtain ⟨o, ho⟩ : ∃ o, testP s.data.toList = o := ⟨_, rfl⟩
  rw [ho]
  rw [ho] at hL
  have K3 := Lib.hid k3
  have HG := Lib.hid (fun v (hb : Below w.heap.size w v) => hG.next hb)
  clear h1 h2 h3 l1 ll hsl hT ek ho k3 hG
  have hc : b1 = false ∨ (b1 = true ∧ b2 = false) ∨ (b1 = true ∧ b2 = true ∧ b3 = false) ∨ (b1 = true ∧ b2 = true ∧ b3 = true) := by
    cases b1 <;> cases b2 <;> cases b3 <;> simp
  rcases hc with rfl | ⟨rfl, rfl⟩ | ⟨rfl, rfl, rfl⟩ | ⟨rfl, rfl, rfl⟩
  all_goals
    go_enter Tryz.func121, Tryz.ntmps121
    go_wp2_with fail
    refine (k1 _).mono ?_
    rintro e w1 ⟨rfl, rfl⟩
    go_wp2_with fail
    refine k2.mono ?_
    rintro e w2 ⟨rfl, hb2⟩
    have HB2 := Lib.hid hb2
    clear hb2 k1 k2
  · obtain rfl : o = none := by simpa using hL
    go_wp2
    go_ret3
    exact ⟨TestOut.bad, HB2.out⟩
  · obtain rfl : o = none := by simpa using hL
    go_wp2
    go_ret3
    exact ⟨TestOut.bad, HB2.out⟩
  · obtain rfl : o = none := by simpa using hL
    go_wp2_with fail
    refine (K3.out _).mono ?_
    rintro e w3 ⟨rfl, hb3⟩
    have HB3 := Lib.hid (HB2.out.trans (hb3.mono HB2.out.size))
    go_wp2
    go_ret3
    exact ⟨TestOut.bad, HB3.out⟩
  · replace hL : o = (quoV U).map fun v => (N, v) := by simpa using hL
    go_wp2_with fail
    refine (K3.out _).mono ?_
    rintro e w3 ⟨rfl, hb3⟩
    have HB3 := Lib.hid (HB2.out.trans (hb3.mono HB2.out.size))
    clear hb3 K3 HB2
    cases U with
    | nil =>
      obtain rfl : o = none := hL
      have he := mkT_emp (l := []) rfl
      go_wp2
      go_ret3
      exact ⟨TestOut.bad, HB3.out⟩
    | cons q u =>
      have he := mkT_nemp (l := q :: u) (by simp)
      obtain ⟨V, hV⟩ : ∃ V, mkT (q :: u) = V := ⟨_, rfl⟩
      have hVl : V.data.toList = q :: u := by rw [← hV, mkT_list]
      have hVs : V.size = u.length + 1 := by rw [← hV, mkT_size]; rfl
      have h0 : 0 < V.size := by omega
      have hx : V[0] = q := by
        have : V.data.toList[0]'(by simpa using h0) = q := by simp [hVl]
        simp only [Array.getElem_toList] at this
        exact this
      rw [hV] at he ⊢
      clear hV
      by_cases hq : q = 34 ∨ q = 39
      · have hk := fun v hv => cut1_any (mkT u) q v (by rw [mkT_size]; simp at hU; omega) hv
        rw [mkT_list] at hk
        have e1 : V.extract 1 V.size = mkT u := by
          have : (V.extract 1 V.size).data.toList = u := by rw [ext_drop, hVl]; rfl
          rw [← this]
          exact (to_list _).symm
        have e2 : V.extract 0 1 = ⟨#[q]⟩ := by
          have : (V.extract 0 1).data.toList = [q] := by rw [ext_sub, hVl]; rfl
          rw [← to_list (V.extract 0 1), this]
        rw [← e1, ← e2] at hk
        obtain ⟨X, Y, b4, hxy⟩ : ∃ X Y b, Lib.cut u [q] = (X, Y, b) := ⟨_, _, _, rfl⟩
        rw [hxy] at hk
        simp only at hk
        have HL : Hid (o = if b4 = true ∧ Y = [93] then some (N, X) else none) := Lib.hid (by
          rw [hL]
          unfold quoV
          simp only
          rw [if_pos hq]
          cases hcq : cutC q u with
          | none =>
            rw [cut_none1 hcq] at hxy
            injection hxy with e3 e4
            injection e4 with e4 e5
            subst e5
            simp
          | some x =>
            obtain ⟨a, b⟩ := x
            rw [cut_some1 hcq] at hxy
            injection hxy with e3 e4
            injection e4 with e4 e5
            subst e3 e4 e5
            simp only
            by_cases h93 : b = [93]
            · simp [h93]
            · simp [h93])
        have HK := Lib.hid hk
        have h11 : (1 : Int) ≤ (V.size : Int) := by omega
        clear hk hxy hL e1 e2 hVl hVs hU
        have hq34 : q = 34 ∨ (((q.toNat : Int) == 34) = false ∧ q = 39) := by
          rcases hq with rfl | rfl
          · exact .inl rfl
          · exact .inr ⟨rfl, rfl⟩
        rcases hq34 with rfl | ⟨hn34, rfl⟩
        · clear hq
          go_wp2
          go_region_with (go_at_call 45; refine (HK.out _ (HG.out _ HB3.out.drew)).mono ?_; rintro e w4 ⟨rfl, hb4⟩)
          all_goals
            have HB4 := Lib.hid (HB3.out.drew.trans (hb4.mono HB3.out.drew.size))
            clear hb4
            by_cases hy : Y = [93]
            · have he93 : ((mkT Y).toList == [93]) = true := by rw [mkT_eq]; exact decide_eq_true hy
              cases b4 with
              | false =>
                obtain rfl : o = none := by simpa using HL.out
                clear HL
                go_wp2
                go_ret3
                exact ⟨TestOut.bad, HB4.out⟩
              | true =>
                obtain rfl : o = some (N, X) := by simpa [hy] using HL.out
                clear HL hy
                go_wp2
                go_ret3
                exact ⟨TestOut.good, HB4.out⟩
            · have he93 : ((mkT Y).toList == [93]) = false := by rw [mkT_eq]; exact decide_eq_false hy
              obtain rfl : o = none := by simpa [hy] using HL.out
              clear HL
              cases b4 with
              | false =>
                go_wp2
                go_ret3
                exact ⟨TestOut.bad, HB4.out⟩
              | true =>
                go_wp2
                go_ret3
                exact ⟨TestOut.bad, HB4.out⟩
        · have hnq := hn34
          clear hq
          go_wp2
          go_region_with (go_at_call 45; refine (HK.out _ (HG.out _ HB3.out.drew)).mono ?_; rintro e w4 ⟨rfl, hb4⟩)
          all_goals
            have HB4 := Lib.hid (HB3.out.drew.trans (hb4.mono HB3.out.drew.size))
            clear hb4
            by_cases hy : Y = [93]
            · have he93 : ((mkT Y).toList == [93]) = true := by rw [mkT_eq]; exact decide_eq_true hy
              cases b4 with
              | false =>
                obtain rfl : o = none := by simpa using HL.out
                clear HL
                go_wp2
                go_ret3
                exact ⟨TestOut.bad, HB4.out⟩
              | true =>
                obtain rfl : o = some (N, X) := by simpa [hy] using HL.out
                clear HL hy
                go_wp2
                go_ret3
                exact ⟨TestOut.good, HB4.out⟩
            · have he93 : ((mkT Y).toList == [93]) = false := by rw [mkT_eq]; exact decide_eq_false hy
              obtain rfl : o = none := by simpa [hy] using HL.out
              clear HL
              cases b4 with
              | false =>
                go_wp2
                go_ret3
                exact ⟨TestOut.bad, HB4.out⟩
              | true =>
                go_wp2
                go_ret3
                exact ⟨TestOut.bad, HB4.out⟩
      · have hLn : o = none := by
          rw [hL]
          unfold quoV
          simp only
          rw [if_neg hq]
          rfl
        simp only [not_or] at hq
        have n34 : ¬ (q.toNat : Int) = 34 := fun h => hq.1 (UInt8.toNat_inj.1 (by show q.toNat = 34; omega))
        have n39 : ¬ (q.toNat : Int) = 39 := fun h => hq.2 (UInt8.toNat_inj.1 (by show q.toNat = 39; omega))
        have m34 : ((q.toNat : Int) != 34) = true := bne_iff_ne.2 n34
        have m39 : ((q.toNat : Int) != 39) = true := bne_iff_ne.2 n39
        subst hLn
        clear hL hq hVl hVs hU
        go_wp2
        go_ret3
        exact ⟨TestOut.bad, HB3.out⟩
end Go.Proofs.YtbeglliabpflpaaGreatDoor
