/- FeO FeP FeQ FfA. -/
import Derived.Lib.Join
import Derived.Deep.RegionWith
import Derived.Laws.StructEq
import Derived.Test.YtmabhbihgenmcaaGreatDoorKb1
import Derived.Test.YtmabhbihgenmcaaGreatDoorKb9
namespace Wb
open Go
def ParsedOut (o : Except Int (List UInt8 × List UInt8)) (e : Ending) : Prop :=
  match o with
  | .ok (n, v) => e = .returned (.tuple #[.agg #[.string (mkB n), .string (mkB v)], .int .i64 0])
  | .error k => e = .returned (.tuple #[.agg #[.string ⟨#[]⟩, .string ⟨#[]⟩], .int .i64 k])
end Wb
namespace Go.Proofs.YtmabhbihgenmcaaGreatDoor
open Go.RowKit Wb
theorem trim2_any (s : ByteArray) (w : World) (hs : s.size ≤ 1000000000) :
    Calls Tryz.prog 93 #[.string s, .string ⟨#[32, 9]⟩] w fun e w' => e = .returned (.string (mkB (trimF s.data.toList))) ∧ Below w.heap.size w w' := by
  have h := Any.strings_Trim_laid Tryz.lays160 (by kernel_rfl) s ⟨#[32, 9]⟩ w (by omega) (by decide) (ascii_of_all (by decide))
  have e : (⟨#[32, 9]⟩ : ByteArray).data.toList = [32, 9] := rfl
  rw [e, trimS_trimF] at h
  exact h
theorem cut58_any (s : ByteArray) (w : World) (hs : s.size ≤ 1000000000) (hG : GvF w) :
    Calls Tryz.prog 87 #[.string s, .string ⟨#[58]⟩] w fun e w' => e = .returned (.tuple #[.string (mkB (Lib.cut s.data.toList [58]).1), .string (mkB (Lib.cut s.data.toList [58]).2.1), .bool (Lib.cut s.data.toList [58]).2.2]) ∧ Below w.heap.size w w' := by
  obtain ⟨⟨m, hm⟩, _⟩ := hG
  have h1 := Tryz.strings_Cut s ⟨#[58]⟩ m w (by omega) hm
  have e1 : (⟨#[58]⟩ : ByteArray).data.toList = [58] := rfl
  rw [e1] at h1
  exact h1.mono fun e w' h => ⟨h.1, by obtain ⟨_, n, rfl⟩ := h; exact below_drewN (Below.refl _ _) n⟩
set_option maxRecDepth 100000 in
set_option maxHeartbeats 4000000 in
theorem parsed_any (s : ByteArray) (w : World) (hs : s.size ≤ 1000000000) (hG : GvF w) :
    Calls Tryz.prog 60 #[.string s] w fun e w' => ParsedOut (parsedF s.data.toList) e ∧ Below w.heap.size w w' := by
  have hb0 := (Below.refl w.heap.size w).alloc (Nat.le_refl _) (.cells #[.string ⟨#[]⟩, .string ⟨#[]⟩] 61)
  have hA := heap_alloc_new w (.cells #[.string ⟨#[]⟩, .string ⟨#[]⟩] 61)
  have h1 := cut58_any s (w.alloc (.cells #[.string ⟨#[]⟩, .string ⟨#[]⟩] 61)) hs (hG.next hb0)
  have h2 := fun v => skip_any s v hs
  have hse := skip_eq s
  have HA := Lib.hid hA
  have HB0 := Lib.hid hb0
  clear hA hb0 hG
  obtain ⟨o, ho⟩ : ∃ o, parsedF s.data.toList = o := ⟨_, rfl⟩
  rw [ho]
  unfold parsedF at ho
  have hcc := cut_colon s.data.toList
  by_cases hh : headB s.data.toList = true
  · simp only at ho
    rw [if_pos (.inl hh)] at ho
    rw [hh] at hse
    have HO := Lib.hid ho
    clear ho hh hcc
    generalize mkB (Lib.cut s.data.toList [58]).1 = bx at *
    generalize mkB (Lib.cut s.data.toList [58]).2.1 = by_ at *
    generalize (Lib.cut s.data.toList [58]).2.2 = bz at *
    generalize spanR blankB s = sk at *
    go_enter Tryz.func60, Tryz.ntmps60
    go_wp2_with fail
    refine h1.mono ?_
    rintro e w1 ⟨rfl, hb1⟩
    have HB1 := Lib.hid (HB0.out.trans (hb1.mono HB0.out.size))
    have HA1 := Lib.hid (still_block HA.out hb1)
    have k2 := h2 w1
    clear hb1 h1 h2
    go_wp2_with fail
    refine k2.mono ?_
    rintro e w2 ⟨rfl, hb2⟩
    have HB2 := Lib.hid (HB1.out.trans (hb2.mono HB1.out.size))
    have HA2 := Lib.hid (still_block HA1.out hb2)
    have c0 := blk_cell HA2.out 0
    have c1 := blk_cell HA2.out 1
    have f0 := blk_free HA2.out 0
    have f1 := blk_free HA2.out 1
    simp only [List.getElem?_toArray, List.getElem?_cons_zero, List.getElem?_cons_succ] at c0 c1
    clear hb2 k2
    go_wp2
    refine bodyPost_ret (results_cell2 rfl _ _ w.heap.size _ _ _ rfl (blk_set (blk_set HA2.out 0 _) 1 _) Tryz.underlying61 rfl field_info) rfl ?_
    rw [← HO.out]
    exact ⟨rfl, (HB2.out.setCell (Nat.le_refl _) _).setCell (Nat.le_refl _) _⟩
  · have hh : headB s.data.toList = false := by simpa using hh
    rw [hh] at hse
    have hx : (s.data.toList.takeWhile (fun c => c != 58)).length ≤ s.data.toList.length := takeW_le _ _
    by_cases hl : (s.data.toList.takeWhile (fun c => c != 58)).length = s.data.toList.length
    · simp only at ho
      rw [if_pos (.inr hl)] at ho
      rw [if_pos hl] at hcc
      rw [hcc] at h1
      have HO := Lib.hid ho
      clear ho hh hcc hl hx
      simp only at h1
      generalize mkB s.data.toList = bx at *
      generalize mkB [] = by_ at *
      generalize spanR blankB s = sk at *
      go_enter Tryz.func60, Tryz.ntmps60
      go_wp2_with fail
      refine h1.mono ?_
      rintro e w1 ⟨rfl, hb1⟩
      have HB1 := Lib.hid (HB0.out.trans (hb1.mono HB0.out.size))
      have HA1 := Lib.hid (still_block HA.out hb1)
      have k2 := h2 w1
      clear hb1 h1 h2
      go_wp2_with fail
      refine k2.mono ?_
      rintro e w2 ⟨rfl, hb2⟩
      have HB2 := Lib.hid (HB1.out.trans (hb2.mono HB1.out.size))
      have HA2 := Lib.hid (still_block HA1.out hb2)
      have c0 := blk_cell HA2.out 0
      have c1 := blk_cell HA2.out 1
      have f0 := blk_free HA2.out 0
      have f1 := blk_free HA2.out 1
      simp only [List.getElem?_toArray, List.getElem?_cons_zero, List.getElem?_cons_succ] at c0 c1
      clear hb2 k2
      go_wp2
      refine bodyPost_ret (results_cell2 rfl _ _ w.heap.size _ _ _ rfl (blk_set (blk_set HA2.out 0 _) 1 _) Tryz.underlying61 rfl field_info) rfl ?_
      rw [← HO.out]
      exact ⟨rfl, (HB2.out.setCell (Nat.le_refl _) _).setCell (Nat.le_refl _) _⟩
    · simp only at ho
      rw [if_neg (show ¬ (headB s.data.toList = true ∨ (s.data.toList.takeWhile (fun c => c != 58)).length = s.data.toList.length) from fun h => h.elim (fun h => by rw [hh] at h; cases h) hl)] at ho
      rw [if_neg hl] at hcc
      rw [hcc] at h1
      simp only at h1
      have h3 := fun v => isName_any (mkB (s.data.toList.takeWhile (fun c => c != 58))) v (by rw [mkB_size]; rw [← ba_size] at hx; omega)
      have h4 := fun v => all_any plainC 92 #[] (mkB (s.data.toList.drop ((s.data.toList.takeWhile (fun c => c != 58)).length + 1))) v (by rw [mkB_size, List.length_drop, ← ba_size]; omega) (text_tells v)
      have h5 := fun v => trim2_any (mkB (s.data.toList.drop ((s.data.toList.takeWhile (fun c => c != 58)).length + 1))) v (by rw [mkB_size, List.length_drop, ← ba_size]; omega)
      rw [mkB_list] at h3 h4 h5
      change (if namedF (s.data.toList.takeWhile (fun c => c != 58)) = false then _ else if (s.data.toList.drop ((s.data.toList.takeWhile (fun c => c != 58)).length + 1)).all plainC = false then _ else _) = o at ho
      clear hcc hl hx hh
      generalize s.data.toList.drop ((s.data.toList.takeWhile (fun c => c != 58)).length + 1) = dl at *
      generalize s.data.toList.takeWhile (fun c => c != 58) = nm at *
      generalize hbx : mkB nm = bx at *
      have HBX := Lib.hid hbx
      generalize hbt : mkB (trimF dl) = bt at *
      have HBT := Lib.hid hbt
      generalize hby : mkB dl = by_ at *
      generalize spanR blankB s = sk at *
      clear hbx hby hbt
      cases hnm : namedF nm
      · rw [if_pos hnm] at ho
        rw [hnm] at h3
        have HO := Lib.hid ho
        clear ho hnm h4 h5
        go_enter Tryz.func60, Tryz.ntmps60
        go_wp2_with fail
        refine h1.mono ?_
        rintro e w1 ⟨rfl, hb1⟩
        have HB1 := Lib.hid (HB0.out.trans (hb1.mono HB0.out.size))
        have HA1 := Lib.hid (still_block HA.out hb1)
        have k2 := h2 w1
        clear hb1 h1 h2
        go_wp2_with fail
        refine k2.mono ?_
        rintro e w2 ⟨rfl, hb2⟩
        have HB2 := Lib.hid (HB1.out.trans (hb2.mono HB1.out.size))
        have HA2 := Lib.hid (still_block HA1.out hb2)
        have k3 := h3 w2
        clear hb2 k2 h3
        go_wp2_with fail
        refine k3.mono ?_
        rintro e w3 ⟨rfl, hb3⟩
        have HB3 := Lib.hid (HB2.out.trans (hb3.mono HB2.out.size))
        have HA3 := Lib.hid (still_block HA2.out hb3)
        have c0 := blk_cell HA3.out 0
        have c1 := blk_cell HA3.out 1
        have f0 := blk_free HA3.out 0
        have f1 := blk_free HA3.out 1
        simp only [List.getElem?_toArray, List.getElem?_cons_zero, List.getElem?_cons_succ] at c0 c1
        clear hb3 k3
        go_wp2
        refine bodyPost_ret (results_cell2 rfl _ _ w.heap.size _ _ _ rfl (blk_set (blk_set HA3.out 0 _) 1 _) Tryz.underlying61 rfl field_info) rfl ?_
        rw [← HO.out]
        exact ⟨rfl, (HB3.out.setCell (Nat.le_refl _) _).setCell (Nat.le_refl _) _⟩
      · rw [if_neg (by rw [hnm]; simp)] at ho
        rw [hnm] at h3
        clear hnm
        cases hpl : dl.all plainC
        · rw [if_pos hpl] at ho
          rw [hpl] at h4
          have HO := Lib.hid ho
          clear ho hpl h5
          go_enter Tryz.func60, Tryz.ntmps60
          go_wp2_with fail
          refine h1.mono ?_
          rintro e w1 ⟨rfl, hb1⟩
          have HB1 := Lib.hid (HB0.out.trans (hb1.mono HB0.out.size))
          have HA1 := Lib.hid (still_block HA.out hb1)
          have k2 := h2 w1
          clear hb1 h1 h2
          go_wp2_with fail
          refine k2.mono ?_
          rintro e w2 ⟨rfl, hb2⟩
          have HB2 := Lib.hid (HB1.out.trans (hb2.mono HB1.out.size))
          have HA2 := Lib.hid (still_block HA1.out hb2)
          have k3 := h3 w2
          clear hb2 k2 h3
          go_wp2_with fail
          refine k3.mono ?_
          rintro e w3 ⟨rfl, hb3⟩
          have HB3 := Lib.hid (HB2.out.trans (hb3.mono HB2.out.size))
          have HA3 := Lib.hid (still_block HA2.out hb3)
          have k4 := h4 w3
          clear hb3 k3 h4
          go_wp2_with fail
          refine k4.mono ?_
          rintro e w4 ⟨rfl, hb4⟩
          have HB4 := Lib.hid (HB3.out.trans (hb4.mono HB3.out.size))
          have HA4 := Lib.hid (still_block HA3.out hb4)
          have c0 := blk_cell HA4.out 0
          have c1 := blk_cell HA4.out 1
          have f0 := blk_free HA4.out 0
          have f1 := blk_free HA4.out 1
          simp only [List.getElem?_toArray, List.getElem?_cons_zero, List.getElem?_cons_succ] at c0 c1
          clear hb4 k4
          go_wp2
          refine bodyPost_ret (results_cell2 rfl _ _ w.heap.size _ _ _ rfl (blk_set (blk_set HA4.out 0 _) 1 _) Tryz.underlying61 rfl field_info) rfl ?_
          rw [← HO.out]
          exact ⟨rfl, (HB4.out.setCell (Nat.le_refl _) _).setCell (Nat.le_refl _) _⟩
        · rw [if_neg (by rw [hpl]; simp)] at ho
          rw [hpl] at h4
          have HO := Lib.hid ho
          clear ho hpl
          go_enter Tryz.func60, Tryz.ntmps60
          go_wp2_with fail
          refine h1.mono ?_
          rintro e w1 ⟨rfl, hb1⟩
          have HB1 := Lib.hid (HB0.out.trans (hb1.mono HB0.out.size))
          have HA1 := Lib.hid (still_block HA.out hb1)
          have k2 := h2 w1
          clear hb1 h1 h2
          go_wp2_with fail
          refine k2.mono ?_
          rintro e w2 ⟨rfl, hb2⟩
          have HB2 := Lib.hid (HB1.out.trans (hb2.mono HB1.out.size))
          have HA2 := Lib.hid (still_block HA1.out hb2)
          have k3 := h3 w2
          clear hb2 k2 h3
          go_wp2_with fail
          refine k3.mono ?_
          rintro e w3 ⟨rfl, hb3⟩
          have HB3 := Lib.hid (HB2.out.trans (hb3.mono HB2.out.size))
          have HA3 := Lib.hid (still_block HA2.out hb3)
          have k4 := h4 w3
          clear hb3 k3 h4
          go_wp2_with fail
          refine k4.mono ?_
          rintro e w4 ⟨rfl, hb4⟩
          have HB4 := Lib.hid (HB3.out.trans (hb4.mono HB3.out.size))
          have HA4 := Lib.hid (still_block HA3.out hb4)
          have k5 := h5 w4
          clear hb4 k4 h5
          go_wp2_with fail
          refine k5.mono ?_
          rintro e w5 ⟨rfl, hb5⟩
          have HB5 := Lib.hid (HB4.out.trans (hb5.mono HB4.out.size))
          have HA5 := Lib.hid (still_block HA4.out hb5)
          have c0 := blk_cell HA5.out 0
          have c1 := blk_cell HA5.out 1
          have f0 := blk_free HA5.out 0
          have f1 := blk_free HA5.out 1
          simp only [List.getElem?_toArray, List.getElem?_cons_zero, List.getElem?_cons_succ] at c0 c1
          clear hb5 k5
          go_wp2
          refine bodyPost_ret (results_cell2 rfl _ _ w.heap.size _ _ _ rfl (blk_set (blk_set HA5.out 0 _) 1 _) Tryz.underlying61 rfl field_info) rfl ?_
          rw [← HO.out]
          refine ⟨?_, (HB5.out.setCell (Nat.le_refl _) _).setCell (Nat.le_refl _) _⟩
          unfold ParsedOut
          simp only
          rw [HBX.out, HBT.out]
          rfl
end Go.Proofs.YtmabhbihgenmcaaGreatDoor
namespace Wb
open Go
def prepP (out : List (List UInt8 × List UInt8)) (o : Except Int (List (List UInt8 × List UInt8) × List UInt8)) : Except Int (List (List UInt8 × List UInt8) × List UInt8) :=
  match o with
  | .ok (l, r) => .ok (out ++ l, r)
  | .error e => .error e
theorem prepP_nil (o : Except Int (List (List UInt8 × List UInt8) × List UInt8)) : prepP [] o = o := by
  cases o with
  | error e => rfl
  | ok p => rfl
theorem crlf_pre (u : List UInt8) : Lib.hasPrefix u [13, 10] = decide (u.take 2 = [13, 10]) := by
  unfold Lib.hasPrefix
  match u with
  | [] => rfl
  | [a] => simp [List.isPrefixOf]
  | a :: b :: l =>
    rw [Bool.eq_iff_iff, decide_eq_true_eq]
    simp only [List.isPrefixOf, Bool.and_true, Bool.and_eq_true, beq_iff_eq, List.take_succ_cons, List.take_zero, List.cons.injEq, and_true]
    exact ⟨fun h => ⟨h.1.symm, h.2.symm⟩, fun h => ⟨h.1.symm, h.2.symm⟩⟩
theorem parsedF_err {line : List UInt8} {e : Int} (h : parsedF line = .error e) : e = 4 ∨ e = 12 := by
  unfold parsedF at h
  simp only at h
  split at h
  · injection h with h; exact .inl h.symm
  split at h
  · injection h with h; exact .inr h.symm
  split at h
  · injection h with h; exact .inl h.symm
  · cases h
theorem parsedF_len {line : List UInt8} {x : List UInt8 × List UInt8} (h : parsedF line = .ok x) : x.1.length ≤ line.length ∧ x.2.length ≤ line.length := by
  unfold parsedF at h
  simp only at h
  split at h
  · cases h
  split at h
  · cases h
  split at h
  · cases h
  · injection h with h
    rw [← h]
    refine ⟨takeW_le _ _, ?_⟩
    have := trimF_sub (line.drop ((line.takeWhile (fun c => c != 58)).length + 1))
    rw [List.length_drop] at this
    simp only
    omega
theorem join_flat : ∀ xs : List (List UInt8), Lib.join xs [] = xs.flatten
  | [] => rfl
  | [x] => by simp [Lib.join_one]
  | x :: y :: l => by
    have ih := join_flat (y :: l)
    unfold Lib.join List.intercalate at *
    rw [List.flatten_cons, ← ih]
    rfl
theorem flat_sum (ls : List (List UInt8)) : ls.flatten.length = (ls.map List.length).sum := List.length_flatten
theorem flat_mem_len {ls : List (List UInt8)} {y : List UInt8} (h : y ∈ ls) : y.length ≤ ls.flatten.length := by
  induction ls with
  | nil => cases h
  | cons a l ih =>
    rw [List.flatten_cons, List.length_append]
    rcases List.mem_cons.1 h with rfl | h
    · omega
    · have := ih h; omega
theorem toPrs_snoc (l : List (List UInt8 × List UInt8)) (x : List UInt8 × List UInt8) : toPrs (l ++ [x]) = toPrs l ++ [(mkB x.1, mkB x.2)] := by
  unfold toPrs
  rw [List.map_append]
  rfl
theorem toPrs_len (l : List (List UInt8 × List UInt8)) : (toPrs l).length = l.length := List.length_map ..
end Wb
namespace Go.Proofs.YtmabhbihgenmcaaGreatDoor
open Go.RowKit Wb
theorem field_info2 : (Tryz.prog.info? 61).map (fun i => (i.zero, i.size, i.bytes)) = some (some (.agg #[.string ⟨#[]⟩, .string ⟨#[]⟩]), 2, 32) := by kernel_rfl
theorem joinS_any {w : World} {g c : Nat} (ls : List (List UInt8)) (h : OwnS w g c (ls.map mkB)) (hz : ls.flatten.length ≤ 1000000000) (hn : ls.length ≤ 1000000000) :
    Calls Tryz.prog 61 #[.slice (some ⟨g, 0, none⟩) ls.length c, .string ⟨#[]⟩] w fun e w' => e = .returned (.string (mkB ls.flatten)) ∧ Below w.heap.size w w' := by
  have em : (ls.map mkB).map (·.data.toList) = ls := by
    rw [List.map_map]
    exact List.map_id _
  have e0 : (⟨#[]⟩ : ByteArray).data.toList = [] := rfl
  have hl : (ls.map mkB).length = ls.length := List.length_map ..
  have hj := Tryz.strings_Join g 0 c (ls.map mkB) ⟨#[]⟩ w (fun j x hx => by rw [Nat.zero_add]; exact h.cells hx) (by obtain ⟨cur, h1, _⟩ := h; exact (Array.getElem?_eq_some_iff.1 h1).1) (by rw [hl]; omega) (by obtain ⟨_, _, h2, _⟩ := h; exact h2)
    (by rw [em, e0, join_flat]; omega)
  rw [em, e0, join_flat, hl] at hj
  exact hj
end Go.Proofs.YtmabhbihgenmcaaGreatDoor
namespace Wb
open Go
def tot7 (l : List Pr) : Nat := (l.map fun x => x.1.size + x.2.size).sum
theorem tot7_step {l : List Pr} {k : Nat} {x : Pr} (h : l[k]? = some x) : tot7 (l.take (k + 1)) = tot7 (l.take k) + (x.1.size + x.2.size) := by
  rw [List.take_add_one, h]
  unfold tot7
  rw [List.map_append, List.sum_append]
  simp
theorem tot7_mem {l : List Pr} {x : Pr} (h : x ∈ l) : x.1.size + x.2.size ≤ tot7 l := by
  unfold tot7
  induction l with
  | nil => cases h
  | cons a l ih =>
    rw [List.map_cons, List.sum_cons]
    rcases List.mem_cons.1 h with rfl | h
    · omega
    · have := ih h; omega
def FewPost7 (l : List Pr) (w : World) (e : Ending) (w' : World) : Prop :=
  RowKit.Below w.heap.size w w' ∧ ∃ b, e = .returned (.bool b) ∧ (b = true → l.length + tot7 l < 5000)
theorem mkB_eqs (l m : List UInt8) : ((mkB l).toList == m) = (l == m) := by rw [Lib.toList_data]; rfl
end Wb
namespace Go.Proofs.YtmabhbihgenmcaaGreatDoor
open Go.RowKit Wb
set_option maxHeartbeats 2000000 in
set_option maxRecDepth 100000 in
theorem few7_any (A : Option Addr) (l : List Pr) (c : Nat) (w : World) (hA : Sl2 w A l) :
    Calls Tryz.prog 18 #[.slice A l.length c] w (FewPost7 l w) := by
  by_cases hlen : (l.length : Int) ≤ 5000
  · go_enter Tryz.func18, Tryz.ntmps18
    go_wp2
    go_loopw [3, 4] (fun n i wr => ∃ (k N : Nat), k ≤ l.length ∧ n = .int .i64 N ∧ i = .int .i64 k ∧ N ≤ 15000 ∧ Hid (N < 5000 → l.length + tot7 (l.take k) = N) ∧ Below w.heap.size w wr) (fun _ i _ => ((l.length : Int) - intOf i).toNat)
    case atStart => exact ⟨0, l.length, by omega, by rw [show min (l.length : Int) 5000 = (l.length : Int) from by omega], rfl, by omega, Lib.hid (fun _ => by simp [tot7]), Below.refl _ _⟩
    case round =>
      obtain ⟨k, N, hk, rfl, rfl, hN, HT, hb⟩ := hrel
      by_cases h1 : (N : Int) < 5000
      · by_cases h0 : (k : Int) < l.length
        · obtain ⟨⟨x1, x2⟩, he⟩ : ∃ x, l[k]? = some x := ⟨l[k], List.getElem?_eq_getElem (by omega)⟩
          obtain ⟨ad, rfl, _, c1, c2⟩ := (hA.below hb).at_ he
          have HE := Lib.hid he
          clear he
          by_cases m1 : (x1.size : Int) ≤ 5000
          · by_cases m2 : (x2.size : Int) ≤ 5000
            · go_wp2
              go_region
              go_wp2
              go_roundw
              case rel => exact ⟨k + 1, N + x1.size + x2.size, by omega, by go_num, by go_num, by omega, Lib.hid (fun _ => by rw [tot7_step HE.out, ← HT.out (by omega)]; simp only; omega), hb.drew⟩
              case measure => simp [intOf]; omega
            · go_wp2
              go_region
              go_wp2
              go_roundw
              case rel => exact ⟨k + 1, N + x1.size + 5000, by omega, by go_num, by go_num, by omega, Lib.hid (fun h => absurd h (by omega)), hb.drew⟩
              case measure => simp [intOf]; omega
          · by_cases m2 : (x2.size : Int) ≤ 5000
            · go_wp2
              go_region
              go_wp2
              go_roundw
              case rel => exact ⟨k + 1, N + 5000 + x2.size, by omega, by go_num, by go_num, by omega, Lib.hid (fun h => absurd h (by omega)), hb.drew⟩
              case measure => simp [intOf]; omega
            · go_wp2
              go_region
              go_wp2
              go_roundw
              case rel => exact ⟨k + 1, N + 5000 + 5000, by omega, by go_num, by go_num, by omega, Lib.hid (fun h => absurd h (by omega)), hb.drew⟩
              case measure => simp [intOf]; omega
        · have hd : decide ((N : Int) < 5000) = true := decide_eq_true h1
          go_wp2
          go_ret
          refine ⟨hb, _, rfl, fun _ => ?_⟩
          have := HT.out (by omega)
          rw [List.take_of_length_le (by omega)] at this
          omega
      · go_wp2
        all_goals
          go_ret
          exact ⟨hb, _, rfl, fun h => absurd h (by simp)⟩
  · go_enter Tryz.func18, Tryz.ntmps18
    go_wp2
    go_loopw [3, 4] (fun n i wr => n = .int .i64 5000 ∧ i = .int .i64 0 ∧ wr = w) (fun _ _ _ => 0)
    case atStart => exact ⟨by rw [show min (l.length : Int) 5000 = 5000 from by omega], rfl, rfl⟩
    case round =>
      obtain ⟨rfl, rfl, rfl⟩ := hrel
      go_wp2
      all_goals
        go_ret
        exact ⟨Below.refl _ _, _, rfl, fun h => absurd h (by simp)⟩
end Go.Proofs.YtmabhbihgenmcaaGreatDoor
namespace Wb
open Go
theorem printX_err {l : List Pr} {e : Int} (h : printX l = .error e) : e = 3 ∨ e = 12 ∨ e = 4 := by
  unfold printX at h
  split at h
  · injection h with h; exact .inl h.symm
  · rename_i hle
    clear hle
    induction l with
    | nil => cases h
    | cons x l ih =>
      rw [List.map_cons, printFs_lines] at h
      cases hl : linesOf (ofPr x) with
      | error k =>
        rw [hl] at h
        injection h with h
        subst h
        unfold linesOf at hl
        split at hl
        · injection hl with e; exact .inr (.inl e.symm)
        split at hl
        · injection hl with e; exact .inr (.inr e.symm)
        split at hl
        · injection hl with e; exact .inl e.symm
        · cases hl
      | ok ls =>
        rw [hl] at h
        simp only at h
        cases hp : printFs (l.map ofPr) with
        | error k => rw [hp] at h; injection h with h; subst h; exact ih hp
        | ok s => rw [hp] at h; cases h
end Wb
namespace Go.Proofs.YtmabhbihgenmcaaGreatDoor
open Go.RowKit Wb
end Go.Proofs.YtmabhbihgenmcaaGreatDoor
