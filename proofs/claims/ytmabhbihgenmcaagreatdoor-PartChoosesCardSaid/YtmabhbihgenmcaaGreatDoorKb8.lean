/- FeL BldT. -/
import Derived.Test.YtmabhbihgenmcaaGreatDoorKb6
import Derived.Test.YtmabhbihgenmcaaGreatDoorKb7
namespace Wb
open Go
def linesOf (f : List UInt8 × List UInt8) : Except Int (List (List UInt8)) := if namedF f.1 = false then .error 12 else if printableF f.2 = false then .error 4 else if longB (linesF f) = true then .error 3 else .ok (linesF f)
theorem printFs_lines (f : List UInt8 × List UInt8) (l : List (List UInt8 × List UInt8)) : printFs (f :: l) = match linesOf f with
    | .error e => .error e
    | .ok ls => match printFs l with
      | .ok s => .ok (endL ls ++ s)
      | .error e => .error e := by
  unfold linesOf
  rw [printFs]
  by_cases h1 : namedF f.1 = false
  · rw [if_pos h1, if_pos h1]
  · rw [if_neg h1, if_neg h1]
    by_cases h2 : printableF f.2 = false
    · rw [if_pos h2, if_pos h2]
    · rw [if_neg h2, if_neg h2]
      have hn : f.1.length ≤ 64 := (named_facts f.1 (by simpa using h1)).2.1
      rcases linesF_print f hn with ⟨a, b⟩ | ⟨t, a, b, c⟩
      · rw [a, b, if_pos rfl]
      · rw [a, b, if_neg (by simp)]
        simp only
        rw [c]
        cases printFs l <;> rfl
theorem foldG_sizes : ∀ (ws : List (List UInt8)) (line : List UInt8) (first : Bool), (∀ x ∈ foldG line first ws, x.length ≤ line.length + (flatW ws).length) ∧ (foldG line first ws).length ≤ ws.length + 1
  | [], line, first => by simp [foldG, flatW]
  | w :: ws, line, first => by
    rw [foldG_step, flatW, List.length_cons, List.length_append, List.length_cons]
    split
    · obtain ⟨a, b⟩ := foldG_sizes ws (32 :: w) false
      rw [List.length_cons] at a
      refine ⟨fun x hx => ?_, by rw [List.length_cons]; omega⟩
      rcases List.mem_cons.1 hx with rfl | hx
      · omega
      · have := a x hx; omega
    · obtain ⟨a, b⟩ := foldG_sizes ws (line ++ 32 :: w) false
      rw [List.length_append, List.length_cons] at a
      refine ⟨fun x hx => ?_, by omega⟩
      have := a x hx
      omega
theorem words_num (v : List UInt8) : (wordsF v).length ≤ v.length + 1 ∧ (flatW (wordsF v)).length ≤ v.length + 1 := by
  refine ⟨?_, ?_⟩
  · unfold wordsF
    split
    · simp
    · exact split_len v
  · rw [flat_words]
    split <;> simp
def ofPr (x : Pr) : List UInt8 × List UInt8 := (x.1.data.toList, x.2.data.toList)
def printX (l : List Pr) : Except Int (List UInt8) := if 8 < l.length then .error 3 else printFs (l.map ofPr)
def StrOut (o : Except Int (List UInt8)) (e : Ending) : Prop :=
  match o with
  | .ok s => e = .returned (.tuple #[.string ⟨s.toArray⟩, .int .i64 0])
  | .error n => e = .returned (.tuple #[.string ⟨#[]⟩, .int .i64 n])
def preE (a : List UInt8) (o : Except Int (List UInt8)) : Except Int (List UInt8) :=
  match o with
  | .ok s => .ok (a ++ s)
  | .error e => .error e
theorem preE_nil (o : Except Int (List UInt8)) : preE [] o = o := by cases o <;> rfl
theorem preE_app (a b : List UInt8) (o : Except Int (List UInt8)) : preE a (preE b o) = preE (a ++ b) o := by
  cases o with
  | error e => rfl
  | ok s => simp [preE]
theorem linesOf_ok {f : List UInt8 × List UInt8} {ls : List (List UInt8)} (h : linesOf f = .ok ls) : ls = linesF f ∧ namedF f.1 = true ∧ printableF f.2 = true ∧ longB ls = false := by
  unfold linesOf at h
  split at h
  · cases h
  split at h
  · cases h
  split at h
  · cases h
  rename_i h1 h2 h3
  simp only [Except.ok.injEq] at h
  exact ⟨h.symm, by simpa using h1, by simpa using h2, by rw [← h]; simpa using h3⟩
theorem endL_size {f : List UInt8 × List UInt8} {ls : List (List UInt8)} (h : linesOf f = .ok ls) : (endL ls).length ≤ f.1.length + 3 * f.2.length + 6 := by
  obtain ⟨rfl, h1, h2, h3⟩ := linesOf_ok h
  rcases linesF_print f (named_facts f.1 h1).2.1 with ⟨a, b⟩ | ⟨t, a, b, c⟩
  · rw [h3] at b; cases b
  · rw [c]
    exact print_size f.1 f.2 t a h1 h2
theorem lines_num {ls : List (List UInt8)} : ls.length ≤ (endL ls).length := by
  unfold endL
  induction ls with
  | nil => simp
  | cons a l ih => simp only [List.flatMap_cons, List.length_append, List.length_cons]; omega
theorem endL_take {ls : List (List UInt8)} {j : Nat} {x : List UInt8} (h : ls[j]? = some x) : endL (ls.take (j + 1)) = endL (ls.take j) ++ (x ++ [13, 10]) := by
  unfold endL
  rw [List.take_add_one, h]
  simp
theorem endL_le (ls : List (List UInt8)) (j : Nat) : (endL (ls.take j)).length ≤ (endL ls).length := by
  unfold endL
  conv => rhs; rw [← List.take_append_drop j ls, List.flatMap_append, List.length_append]
  omega
theorem printFs_step (l : List Pr) (i : Nat) (x : Pr) (h : l[i]? = some x) : printFs ((l.drop i).map ofPr) = match linesOf (ofPr x) with
    | .error e => .error e
    | .ok ls => preE (endL ls) (printFs ((l.drop (i + 1)).map ofPr)) := by
  obtain ⟨hi, e⟩ := List.getElem?_eq_some_iff.1 h
  rw [List.drop_eq_getElem_cons hi, e, List.map_cons, printFs_lines]
  cases linesOf (ofPr x) with
  | error e => rfl
  | ok ls => cases printFs ((l.drop (i + 1)).map ofPr) <;> rfl
end Wb
namespace Go.Proofs.YtmabhbihgenmcaaGreatDoor
open Go.RowKit Wb
def LinOut (o : Except Int (List (List UInt8))) (e : Ending) (w' : World) : Prop :=
  match o with
  | .ok ls => ∃ g c, e = .returned (.tuple #[.slice (some ⟨g, 0, none⟩) ls.length c, .int .i64 0]) ∧ OwnS w' g c (ls.map mkB)
  | .error n => e = .returned (.tuple #[.slice none 0 0, .int .i64 n])
theorem field_info : (Tryz.prog.info? 61).map (·.size) = some 2 := by kernel_rfl
set_option maxRecDepth 100000 in
set_option maxHeartbeats 2000000 in
theorem printed_any (n v : ByteArray) (w : World) (hn : n.size ≤ 1000000000) (hv : v.size ≤ 900000000) (hG : GvF w) :
    Calls Tryz.prog 45 #[.agg #[.string n, .string v]] w fun e w' => LinOut (linesOf (n.data.toList, v.data.toList)) e w' ∧ Below w.heap.size w w' := by
  have hb0 := (Below.refl w.heap.size w).alloc (Nat.le_refl _) (.cells #[.string n, .string v] 61)
  have hA := heap_alloc_new w (.cells #[.string n, .string v] 61)
  have hG1 := hG.next hb0
  have HA := Lib.hid hA
  have HB0 := Lib.hid hb0
  have h1 := fun v' => isName_any n v' hn
  obtain ⟨o, ho⟩ : ∃ o, linesOf (n.data.toList, v.data.toList) = o := ⟨_, rfl⟩
  rw [ho]
  unfold linesOf at ho
  clear hb0 hA hG
  cases hnm : namedF n.data.toList
  · rw [if_pos hnm] at ho
    rw [hnm] at h1
    have HO := Lib.hid ho
    clear ho hnm hG1
    go_enter Tryz.func45, Tryz.ntmps45
    go_wp2_with fail
    refine (h1 _).mono ?_
    rintro e w1 ⟨rfl, hb⟩
    have HB1 := Lib.hid (HB0.out.trans (hb.mono HB0.out.size))
    clear hb h1
    go_wp2
    go_ret2
    rw [← HO.out]
    exact ⟨rfl, HB1.out⟩
  · rw [if_neg (by rw [hnm]; simp)] at ho
    rw [hnm] at h1
    have hn2 : n.size ≤ 1000 := by have := (named_facts _ hnm).2.1; rw [← ba_size] at this; omega
    have h2 := fun v' (hg : GvF v') => printable_any v v' (by omega) hg
    clear hnm
    cases hpr : printableF v.data.toList
    · rw [if_pos hpr] at ho
      rw [hpr] at h2
      have HO := Lib.hid ho
      clear ho hpr
      have HG1 := Lib.hid hG1
      clear hG1
      go_enter Tryz.func45, Tryz.ntmps45
      go_wp2_with fail
      refine (h1 _).mono ?_
      rintro e w1 ⟨rfl, hb⟩
      have HB1 := Lib.hid (HB0.out.trans (hb.mono HB0.out.size))
      have hx := still_block HA.out hb
      have c0 := blk_cell hx 0
      have c1 := blk_cell hx 1
      simp only [List.getElem?_toArray, List.getElem?_cons_zero, List.getElem?_cons_succ] at c0 c1
      have k2 := h2 w1 (HG1.out.next hb)
      clear hb h1 h2 hx
      go_wp2_with fail
      refine k2.mono ?_
      rintro e w2 ⟨rfl, hb⟩
      have HB2 := Lib.hid (HB1.out.trans (hb.mono HB1.out.size))
      clear hb k2
      go_wp2
      go_ret2
      rw [← HO.out]
      exact ⟨rfl, HB2.out⟩
    · rw [if_neg (by rw [hpr]; simp)] at ho
      rw [hpr] at h2
      have h3 := fun v' (hg : GvF v') => folded_any n v v' hn2 (by omega) hpr hg
      obtain ⟨fs1, fs2⟩ := foldG_sizes (wordsF v.data.toList) (n.data.toList ++ [58]) true
      obtain ⟨wn1, wn2⟩ := words_num v.data.toList
      rw [List.length_append, ← ba_size, List.length_singleton] at fs1
      rw [← ba_size] at wn1 wn2
      have hsz : ∀ x ∈ (linesF (n.data.toList, v.data.toList)).map mkB, x.size ≤ 4000000000 := by
        intro x hx
        obtain ⟨y, hy, rfl⟩ := List.mem_map.1 hx
        rw [mkB_size]
        have := fs1 y hy
        omega
      have hnum : (linesF (n.data.toList, v.data.toList)).length ≤ 1000000001 := by
        unfold linesF
        simp only
        omega
      clear fs1 fs2 wn1 wn2
      generalize linesF (n.data.toList, v.data.toList) = ls at *
      have h4 := fun A c v' (hA : Sl1 v' A (ls.map mkB)) => tooLong_any A (ls.map mkB) c v' hA (by rw [List.length_map]; exact hnum) hsz
      rw [List.length_map, longS_B] at h4
      have HG1 := Lib.hid hG1
      obtain ⟨b, hb⟩ : ∃ b, longB ls = b := ⟨_, rfl⟩
      rw [hb] at h4 ho
      clear hpr hG1 hb hsz
      cases b
      · rw [if_neg (by simp)] at ho
        have HO := Lib.hid ho
        clear ho
        go_enter Tryz.func45, Tryz.ntmps45
        go_wp2_with fail
        refine (h1 _).mono ?_
        rintro e w1 ⟨rfl, hb⟩
        have HB1 := Lib.hid (HB0.out.trans (hb.mono HB0.out.size))
        have HX := Lib.hid (still_block HA.out hb)
        have c0 := blk_cell HX.out 0
        have c1 := blk_cell HX.out 1
        simp only [List.getElem?_toArray, List.getElem?_cons_zero, List.getElem?_cons_succ] at c0 c1
        have HG2 := Lib.hid (HG1.out.next hb)
        have k2 := h2 w1 (HG1.out.next hb)
        clear hb h1 h2
        go_wp2_with fail
        refine k2.mono ?_
        rintro e w2 ⟨rfl, hb⟩
        have HB2 := Lib.hid (HB1.out.trans (hb.mono HB1.out.size))
        have hx := still_block HX.out hb
        have d0 := blk_cell hx 0
        have d1 := blk_cell hx 1
        simp only [List.getElem?_toArray, List.getElem?_cons_zero, List.getElem?_cons_succ] at d0 d1
        have k3 := h3 w2 (HG2.out.next hb)
        clear hb k2 h3 hx c0 c1
        go_wp2_with fail
        refine k3.mono ?_
        rintro e w3 ⟨⟨A, c, rfl, hA⟩, hb⟩
        have HB3 := Lib.hid (HB2.out.trans (hb.mono HB2.out.size))
        have k4 := h4 (some ⟨A, 0, none⟩) c w3 hA.sl
        have HSA := Lib.hid hA
        clear hb k3 hA h4 d0 d1
        go_wp2_with fail
        refine k4.mono ?_
        rintro e w4 ⟨rfl, hb⟩
        have HB4 := Lib.hid (HB3.out.trans (hb.mono HB3.out.size))
        have HSB := Lib.hid (HSA.out.below hb)
        clear hb k4
        go_wp2
        go_ret2
        rw [← HO.out]
        exact ⟨⟨A, c, rfl, HSB.out⟩, HB4.out⟩
      · rw [if_pos rfl] at ho
        have HO := Lib.hid ho
        clear ho
        go_enter Tryz.func45, Tryz.ntmps45
        go_wp2_with fail
        refine (h1 _).mono ?_
        rintro e w1 ⟨rfl, hb⟩
        have HB1 := Lib.hid (HB0.out.trans (hb.mono HB0.out.size))
        have HX := Lib.hid (still_block HA.out hb)
        have c0 := blk_cell HX.out 0
        have c1 := blk_cell HX.out 1
        simp only [List.getElem?_toArray, List.getElem?_cons_zero, List.getElem?_cons_succ] at c0 c1
        have HG2 := Lib.hid (HG1.out.next hb)
        have k2 := h2 w1 (HG1.out.next hb)
        clear hb h1 h2
        go_wp2_with fail
        refine k2.mono ?_
        rintro e w2 ⟨rfl, hb⟩
        have HB2 := Lib.hid (HB1.out.trans (hb.mono HB1.out.size))
        have hx := still_block HX.out hb
        have d0 := blk_cell hx 0
        have d1 := blk_cell hx 1
        simp only [List.getElem?_toArray, List.getElem?_cons_zero, List.getElem?_cons_succ] at d0 d1
        have k3 := h3 w2 (HG2.out.next hb)
        clear hb k2 h3 hx c0 c1
        go_wp2_with fail
        refine k3.mono ?_
        rintro e w3 ⟨⟨A, c, rfl, hA⟩, hb⟩
        have HB3 := Lib.hid (HB2.out.trans (hb.mono HB2.out.size))
        have k4 := h4 (some ⟨A, 0, none⟩) c w3 hA.sl
        clear hb k3 hA h4 d0 d1
        go_wp2_with fail
        refine k4.mono ?_
        rintro e w4 ⟨rfl, hb⟩
        have HB4 := Lib.hid (HB3.out.trans (hb.mono HB3.out.size))
        clear hb k4
        go_wp2
        go_ret2
        rw [← HO.out]
        exact ⟨rfl, HB4.out⟩
end Go.Proofs.YtmabhbihgenmcaaGreatDoor
namespace Go.Proofs.YtmabhbihgenmcaaGreatDoor
open Go.RowKit Wb
def KeepT (w w' : World) : Prop := ∀ (k : Nat) (cs : Array Value) (t : TypeId) (fr : Nat × Nat), t ≠ 5 → t ≠ 51 → w.heap[k]? = some (Obj.cells cs t fr) → w'.heap[k]? = w.heap[k]?
theorem KeepT.refl (w : World) : KeepT w w := fun _ _ _ _ _ _ _ => rfl
theorem KeepT.trans {w w' w2 : World} (h : KeepT w w') (k : KeepT w' w2) : KeepT w w2 := fun i cs t fr h1 h2 h3 => by
  have e := h i cs t fr h1 h2 h3
  exact (k i cs t fr h1 h2 (e.trans h3)).trans e
theorem KeepT.set {w : World} {b : Nat} {cs : Array Value} (h : w.heap[b]? = some (.cells cs 51 (0, 0))) (i : Nat) (u : Value) : KeepT w (w.setCell ⟨b, i, none⟩ u) := fun k cs' t fr _ h2 h3 => by
  refine Below.heap_setCell _ _ _ _ (fun e => ?_)
  subst e
  rw [h] at h3
  injection h3 with h3
  injection h3 with _ h4
  exact h2 h4.symm
theorem KeepT.grown {w w2 : World} {base n : Nat} {v : Value} {xs : List Value} (h : w.ownsRow base 5 1 v n xs) (hg : w.grownBy w2 v.ownBlock) : KeepT w w2 := fun k cs' t fr h1 _ h3 => by
  refine hg.block k (Array.getElem?_eq_some_iff.1 h3).1 (fun e => ?_)
  rcases h.2 with ⟨rfl, _⟩ | ⟨g, cap, cur, rfl, _, hb, _⟩
  · simp [Value.ownBlock] at e
  · simp only [Value.ownBlock, Option.some.injEq] at e
    subst e
    rw [hb] at h3
    injection h3 with h3
    injection h3 with _ h4
    exact h1 h4.symm
set_option maxHeartbeats 1000000 in
set_option maxRecDepth 100000 in
theorem qt_check {B b : Nat} {bs : List Value} {w : World} (h : Lib.IsBuilder 51 5 B b bs w) :
    Calls Tryz.prog 46 #[.pointer (some ⟨b, 0, none⟩)] w fun e w' => e = .returned (.tuple #[]) ∧ Lib.BuilderAt 51 5 B b (.pointer (some ⟨b, 0, none⟩)) bs w' ∧ Below B w w' ∧ KeepT w w' := by
  obtain ⟨j, hj, hjs⟩ := Option.map_eq_some_iff.1 qw_size
  rcases h with ⟨h1, v, h2, h3, h4⟩ | ⟨h1, v, h2, h3, h4⟩
  · have h0 : w.cell? ⟨b, 0, none⟩ = some (.pointer none) := blk_cell h2 0
    have hfz := blk_free h2 0
    have hsh : w.shape? b = some (51, 2) := by simp [World.shape?, h2]
    have e1 : (convert 48 111 (.pointer (some ⟨b, 0, none⟩))).run Tryz.prog w = .ok (.pointer (some ⟨b, 0, none⟩)) w := Lib.run_to_unsafe w ⟨b, 0, none⟩ Tryz.underlying48 Tryz.underlying111 hj (by rw [hjs]; decide) hsh (by show 0 < 2; omega)
    have e2 : (convert 111 48 (.pointer (some ⟨b, 0, none⟩))).run Tryz.prog w = .ok (.pointer (some ⟨b, 0, none⟩)) w := Lib.run_from_unsafe w ⟨b, 0, none⟩ Tryz.underlying111 Tryz.underlying48 hj hsh qw_lies
    have e3 := qw_esc
    have hfin : Lib.BuilderAt 51 5 B b (.pointer (some ⟨b, 0, none⟩)) bs (w.setCell ⟨b, 0, none⟩ (.pointer (some ⟨b, 0, none⟩))) ∧ Below B w (w.setCell ⟨b, 0, none⟩ (.pointer (some ⟨b, 0, none⟩))) ∧ KeepT w (w.setCell ⟨b, 0, none⟩ (.pointer (some ⟨b, 0, none⟩))) := by
      refine ⟨⟨h1, v, by simpa using blk_set h2 0 (.pointer (some ⟨b, 0, none⟩)), own_blk' h3 fun k hv => Below.heap_setCell _ _ _ _ (fun e => h4 (by rw [hv]; simpa using e)), h4⟩, (Below.refl B w).setCell (p := ⟨b, 0, none⟩) h1 _, KeepT.set h2 0 _⟩
    have HF := Lib.hid hfin
    clear hfin h3 h4 hsh hj hjs h2
    go_enter Tryz.func46, Tryz.ntmps46
    go_wp2
    go_end0
    exact ⟨rfl, HF.out⟩
  · have h0 : w.cell? ⟨b, 0, none⟩ = some (.pointer (some ⟨b, 0, none⟩)) := blk_cell h2 0
    have hfin : Lib.BuilderAt 51 5 B b (.pointer (some ⟨b, 0, none⟩)) bs w ∧ Below B w w ∧ KeepT w w := ⟨⟨h1, v, h2, h3, h4⟩, Below.refl _ _, KeepT.refl w⟩
    have HF := Lib.hid hfin
    have hpe := fun (v : World) => Lib.run_neq_ptr_same (P := Tryz.prog) v ⟨b, 0, none⟩ Tryz.underlying48 hj
    clear hfin h3 h4 hj hjs h2
    go_enter Tryz.func46, Tryz.ntmps46
    go_wp2
    go_end0
    exact ⟨rfl, HF.out⟩
set_option maxHeartbeats 2000000 in
set_option maxRecDepth 100000 in
theorem qtwrite_any (B b : Nat) (bs : List Value) (s : ByteArray) (w : World) (h : Lib.IsBuilder 51 5 B b bs w) (hlen : bs.length + s.size ≤ 140737488355328) (_hBw : B ≤ w.heap.size) :
    Calls Tryz.prog 24 #[.pointer (some ⟨b, 0, none⟩), .string s] w fun e w' => (∃ v, e = .returned v) ∧ Lib.IsBuilder 51 5 B b (bs ++ Lib.strCells s) w' ∧ Below B w w' ∧ KeepT w w' := by
  obtain ⟨i0, hi, hz0, hz1, hz2⟩ := info_parts qw_byte
  have hc := qt_check h
  clear h
  go_enter Tryz.func24, Tryz.ntmps24
  go_wp2_with fail
  refine hc.mono ?_
  rintro e w1 ⟨rfl, ⟨a1, v, a2, a3, a4⟩, hk1, ht1⟩
  have c0 : w1.cell? ⟨b, 0, none⟩ = some (.pointer (some ⟨b, 0, none⟩)) := blk_cell a2 0
  have c1 : w1.cell? ⟨b, 1, none⟩ = some v := blk_cell a2 1
  have hb1 := blk_in' a2
  have A2 := Lib.hid a2
  have A4 := Lib.hid a4
  have K1 := Lib.hid hk1
  have T1 := Lib.hid ht1
  have hm : bs.length + s.size ≤ maxLen := by unfold maxLen; omega
  have hbw : B ≤ w1.heap.size := by omega
  clear hc hk1 ht1 a2 a4
  go_wp2_with (at_builtin; refine Lib.wpList_append_own_string _ rfl _ _ 49 9 rfl B 5 i0 Tryz.underlying49 Tryz.underlying9 hi hz0 hz1 hz2 _ _ _ rfl a3 s rfl hm hlen hbw ?_)
  intro v' w2 hown' hgrow _
  obtain ⟨A, c, rfl⟩ := own_shape hown'
  have hne : some b ≠ v.ownBlock := fun e => A4.out e.symm
  have hb2 := grown_block A2.out hgrow hne
  have d0 : w2.cell? ⟨b, 0, none⟩ = some (.pointer (some ⟨b, 0, none⟩)) := blk_cell hb2 0
  have d1 : w2.cell? ⟨b, 1, none⟩ = some v := blk_cell hb2 1
  have f1 := blk_free hb2 1
  have hk2 : Below B w1 (w2.setCell ⟨b, 1, none⟩ (.slice A (bs.length + s.size) c)) :=
    ((Below.refl B w1).grown hgrow hbw (fun k hv => (own_in' a3 hv).1)).setCell (p := ⟨b, 1, none⟩) a1 _
  have hne2 : (Value.slice A (bs.length + s.size) c).ownBlock ≠ some b := by
    intro e
    rcases hown'.2 with ⟨h0, _⟩ | ⟨g, cap, cur, hv, _, hg, _⟩
    · rw [h0] at e; simp [Value.ownBlock] at e
    · rw [hv] at e
      simp only [Value.ownBlock, Option.some.injEq] at e
      subst e
      rw [hb2] at hg
      injection hg with hg
      injection hg with _ hg
      exact absurd hg (by decide)
  have hfin : Lib.IsBuilder 51 5 B b (bs ++ Lib.strCells s) (w2.setCell ⟨b, 1, none⟩ (.slice A (bs.length + s.size) c)) := by
    refine .inr ⟨a1, _, by simpa using blk_set hb2 1 (.slice A (bs.length + s.size) c), ?_, hne2⟩
    have := own_blk' (w' := w2.setCell ⟨b, 1, none⟩ (.slice A (bs.length + s.size) c)) hown' fun k hv => Below.heap_setCell _ _ _ _ (fun e => hne2 (by rw [hv]; simpa using e))
    rw [List.length_append, show (Lib.strCells s).length = s.size from by rw [Lib.strCells_eq, Lib.byteCells_length, ← Lib.size_eq]]
    exact this
  have HF := Lib.hid hfin
  have K2 := Lib.hid (K1.out.trans hk2)
  have T2 := Lib.hid (T1.out.trans ((KeepT.grown a3 hgrow).trans (KeepT.set hb2 1 (.slice A (bs.length + s.size) c))))
  clear hfin hk2 hown' hgrow hb2 hne2 a3 hne
  go_wp2
  go_ret2
  exact ⟨⟨_, rfl⟩, HF.out, K2.out, T2.out⟩
end Go.Proofs.YtmabhbihgenmcaaGreatDoor
