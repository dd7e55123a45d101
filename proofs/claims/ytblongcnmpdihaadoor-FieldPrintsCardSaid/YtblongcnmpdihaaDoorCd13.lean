/- FeO. -/
import Derived.Test.YtblongcnmpdihaaDoorCd12
namespace Wb
open Go
def ParsedOut (o : Except Int (List UInt8 × List UInt8)) (e : Ending) : Prop :=
  match o with
  | .ok (n, v) => e = .returned (.tuple #[.agg #[.string (mkB n), .string (mkB v)], .int .i64 0])
  | .error k => e = .returned (.tuple #[.agg #[.string ⟨#[]⟩, .string ⟨#[]⟩], .int .i64 k])
end Wb
namespace Go.Proofs.YtblongcnmpdihaaDoor
open Go.RowKit Wb
theorem trim2_any (s : ByteArray) (w : World) (hs : s.size ≤ 1000000000) :
    Calls Tryd.prog 60 #[.string s, .string ⟨#[32, 9]⟩] w fun e w' => e = .returned (.string (mkB (trimF s.data.toList))) ∧ Below w.heap.size w w' := by
  have h := Any.strings_Trim_laid Tryd.lays160 (by kernel_rfl) s ⟨#[32, 9]⟩ w (by omega) (by decide) (ascii_of_all (by decide))
  have e : (⟨#[32, 9]⟩ : ByteArray).data.toList = [32, 9] := rfl
  rw [e, trimS_trimF] at h
  exact h
theorem cut58_any (s : ByteArray) (w : World) (hs : s.size ≤ 1000000000) (hG : GvF w) :
    Calls Tryd.prog 57 #[.string s, .string ⟨#[58]⟩] w fun e w' => e = .returned (.tuple #[.string (mkB (Lib.cut s.data.toList [58]).1), .string (mkB (Lib.cut s.data.toList [58]).2.1), .bool (Lib.cut s.data.toList [58]).2.2]) ∧ Below w.heap.size w w' := by
  obtain ⟨⟨m, hm⟩, _⟩ := hG
  have h1 := Tryd.strings_Cut s ⟨#[58]⟩ m w (by omega) hm
  have e1 : (⟨#[58]⟩ : ByteArray).data.toList = [58] := rfl
  rw [e1] at h1
  exact h1.mono fun e w' h => ⟨h.1, by obtain ⟨_, n, rfl⟩ := h; exact below_drewN (Below.refl _ _) n⟩
set_option maxRecDepth 100000 in
set_option maxHeartbeats 4000000 in
theorem parsed_any (s : ByteArray) (w : World) (hs : s.size ≤ 1000000000) (hG : GvF w) :
    Calls Tryd.prog 37 #[.string s] w fun e w' => ParsedOut (parsedF s.data.toList) e ∧ Below w.heap.size w w' := by
  have hb0 := (Below.refl w.heap.size w).alloc (Nat.le_refl _) (.cells #[.string ⟨#[]⟩, .string ⟨#[]⟩] 48)
  have hA := heap_alloc_new w (.cells #[.string ⟨#[]⟩, .string ⟨#[]⟩] 48)
  have h1 := cut58_any s (w.alloc (.cells #[.string ⟨#[]⟩, .string ⟨#[]⟩] 48)) hs (hG.next hb0)
  have h2 := fun v => skip_any s v hs
  have hse := skip_eq s
  have HA := Lib.hid hA
  have HB0 := Lib.hid hb0
  clear hA hb0 hG
  obtain ⟨o, ho⟩ : ∃ o, parsedF s.data.toList = o := ⟨_, rfl⟩
  rw [ho]
  unfold parsedF at ho
  have hcc := cut_colon s.data.toList
  by_cases hh : headB s.data.toList = true
  · simp only at ho
    rw [if_pos (.inl hh)] at ho
    rw [hh] at hse
    have HO := Lib.hid ho
    clear ho hh hcc
    generalize mkB (Lib.cut s.data.toList [58]).1 = bx at *
    generalize mkB (Lib.cut s.data.toList [58]).2.1 = by_ at *
    generalize (Lib.cut s.data.toList [58]).2.2 = bz at *
    generalize spanR blankB s = sk at *
    go_enter Tryd.func37, Tryd.ntmps37
    go_wp2_with fail
    refine h1.mono ?_
    rintro e w1 ⟨rfl, hb1⟩
    have HB1 := Lib.hid (HB0.out.trans (hb1.mono HB0.out.size))
    have HA1 := Lib.hid (still_block HA.out hb1)
    have k2 := h2 w1
    clear hb1 h1 h2
    go_wp2_with fail
    refine k2.mono ?_
    rintro e w2 ⟨rfl, hb2⟩
    have HB2 := Lib.hid (HB1.out.trans (hb2.mono HB1.out.size))
    have HA2 := Lib.hid (still_block HA1.out hb2)
    have c0 := blk_cell HA2.out 0
    have c1 := blk_cell HA2.out 1
    have f0 := blk_free HA2.out 0
    have f1 := blk_free HA2.out 1
    simp only [List.getElem?_toArray, List.getElem?_cons_zero, List.getElem?_cons_succ] at c0 c1
    clear hb2 k2
    go_wp2
    refine bodyPost_ret (results_cell2 rfl _ _ w.heap.size _ _ _ rfl (blk_set (blk_set HA2.out 0 _) 1 _) Tryd.underlying48 rfl field_info) rfl ?_
    rw [← HO.out]
    exact ⟨rfl, (HB2.out.setCell (Nat.le_refl _) _).setCell (Nat.le_refl _) _⟩
  · have hh : headB s.data.toList = false := by simpa using hh
    rw [hh] at hse
    have hx : (s.data.toList.takeWhile (fun c => c != 58)).length ≤ s.data.toList.length := takeW_le _ _
    by_cases hl : (s.data.toList.takeWhile (fun c => c != 58)).length = s.data.toList.length
    · simp only at ho
      rw [if_pos (.inr hl)] at ho
      rw [if_pos hl] at hcc
      rw [hcc] at h1
      have HO := Lib.hid ho
      clear ho hh hcc hl hx
      simp only at h1
      generalize mkB s.data.toList = bx at *
      generalize mkB [] = by_ at *
      generalize spanR blankB s = sk at *
      go_enter Tryd.func37, Tryd.ntmps37
      go_wp2_with fail
      refine h1.mono ?_
      rintro e w1 ⟨rfl, hb1⟩
      have HB1 := Lib.hid (HB0.out.trans (hb1.mono HB0.out.size))
      have HA1 := Lib.hid (still_block HA.out hb1)
      have k2 := h2 w1
      clear hb1 h1 h2
      go_wp2_with fail
      refine k2.mono ?_
      rintro e w2 ⟨rfl, hb2⟩
      have HB2 := Lib.hid (HB1.out.trans (hb2.mono HB1.out.size))
      have HA2 := Lib.hid (still_block HA1.out hb2)
      have c0 := blk_cell HA2.out 0
      have c1 := blk_cell HA2.out 1
      have f0 := blk_free HA2.out 0
      have f1 := blk_free HA2.out 1
      simp only [List.getElem?_toArray, List.getElem?_cons_zero, List.getElem?_cons_succ] at c0 c1
      clear hb2 k2
      go_wp2
      refine bodyPost_ret (results_cell2 rfl _ _ w.heap.size _ _ _ rfl (blk_set (blk_set HA2.out 0 _) 1 _) Tryd.underlying48 rfl field_info) rfl ?_
      rw [← HO.out]
      exact ⟨rfl, (HB2.out.setCell (Nat.le_refl _) _).setCell (Nat.le_refl _) _⟩
    · simp only at ho
      rw [if_neg (show ¬ (headB s.data.toList = true ∨ (s.data.toList.takeWhile (fun c => c != 58)).length = s.data.toList.length) from fun h => h.elim (fun h => by rw [hh] at h; cases h) hl)] at ho
      rw [if_neg hl] at hcc
      rw [hcc] at h1
      simp only at h1
      have h3 := fun v => isName_any (mkB (s.data.toList.takeWhile (fun c => c != 58))) v (by rw [mkB_size]; rw [← ba_size] at hx; omega)
      have h4 := fun v => all_any plainC 43 #[] (mkB (s.data.toList.drop ((s.data.toList.takeWhile (fun c => c != 58)).length + 1))) v (by rw [mkB_size, List.length_drop, ← ba_size]; omega) (text_tells v)
      have h5 := fun v => trim2_any (mkB (s.data.toList.drop ((s.data.toList.takeWhile (fun c => c != 58)).length + 1))) v (by rw [mkB_size, List.length_drop, ← ba_size]; omega)
      rw [mkB_list] at h3 h4 h5
      change (if namedF (s.data.toList.takeWhile (fun c => c != 58)) = false then _ else if (s.data.toList.drop ((s.data.toList.takeWhile (fun c => c != 58)).length + 1)).all plainC = false then _ else _) = o at ho
      clear hcc hl hx hh
      generalize s.data.toList.drop ((s.data.toList.takeWhile (fun c => c != 58)).length + 1) = dl at *
      generalize s.data.toList.takeWhile (fun c => c != 58) = nm at *
      generalize hbx : mkB nm = bx at *
      have HBX := Lib.hid hbx
      generalize hbt : mkB (trimF dl) = bt at *
      have HBT := Lib.hid hbt
      generalize hby : mkB dl = by_ at *
      generalize spanR blankB s = sk at *
      clear hbx hby hbt
      cases hnm : namedF nm
      · rw [if_pos hnm] at ho
        rw [hnm] at h3
        have HO := Lib.hid ho
        clear ho hnm h4 h5
        go_enter Tryd.func37, Tryd.ntmps37
        go_wp2_with fail
        refine h1.mono ?_
        rintro e w1 ⟨rfl, hb1⟩
        have HB1 := Lib.hid (HB0.out.trans (hb1.mono HB0.out.size))
        have HA1 := Lib.hid (still_block HA.out hb1)
        have k2 := h2 w1
        clear hb1 h1 h2
        go_wp2_with fail
        refine k2.mono ?_
        rintro e w2 ⟨rfl, hb2⟩
        have HB2 := Lib.hid (HB1.out.trans (hb2.mono HB1.out.size))
        have HA2 := Lib.hid (still_block HA1.out hb2)
        have k3 := h3 w2
        clear hb2 k2 h3
        go_wp2_with fail
        refine k3.mono ?_
        rintro e w3 ⟨rfl, hb3⟩
        have HB3 := Lib.hid (HB2.out.trans (hb3.mono HB2.out.size))
        have HA3 := Lib.hid (still_block HA2.out hb3)
        have c0 := blk_cell HA3.out 0
        have c1 := blk_cell HA3.out 1
        have f0 := blk_free HA3.out 0
        have f1 := blk_free HA3.out 1
        simp only [List.getElem?_toArray, List.getElem?_cons_zero, List.getElem?_cons_succ] at c0 c1
        clear hb3 k3
        go_wp2
        refine bodyPost_ret (results_cell2 rfl _ _ w.heap.size _ _ _ rfl (blk_set (blk_set HA3.out 0 _) 1 _) Tryd.underlying48 rfl field_info) rfl ?_
        rw [← HO.out]
        exact ⟨rfl, (HB3.out.setCell (Nat.le_refl _) _).setCell (Nat.le_refl _) _⟩
      · rw [if_neg (by rw [hnm]; simp)] at ho
        rw [hnm] at h3
        clear hnm
        cases hpl : dl.all plainC
        · rw [if_pos hpl] at ho
          rw [hpl] at h4
          have HO := Lib.hid ho
          clear ho hpl h5
          go_enter Tryd.func37, Tryd.ntmps37
          go_wp2_with fail
          refine h1.mono ?_
          rintro e w1 ⟨rfl, hb1⟩
          have HB1 := Lib.hid (HB0.out.trans (hb1.mono HB0.out.size))
          have HA1 := Lib.hid (still_block HA.out hb1)
          have k2 := h2 w1
          clear hb1 h1 h2
          go_wp2_with fail
          refine k2.mono ?_
          rintro e w2 ⟨rfl, hb2⟩
          have HB2 := Lib.hid (HB1.out.trans (hb2.mono HB1.out.size))
          have HA2 := Lib.hid (still_block HA1.out hb2)
          have k3 := h3 w2
          clear hb2 k2 h3
          go_wp2_with fail
          refine k3.mono ?_
          rintro e w3 ⟨rfl, hb3⟩
          have HB3 := Lib.hid (HB2.out.trans (hb3.mono HB2.out.size))
          have HA3 := Lib.hid (still_block HA2.out hb3)
          have k4 := h4 w3
          clear hb3 k3 h4
          go_wp2_with fail
          refine k4.mono ?_
          rintro e w4 ⟨rfl, hb4⟩
          have HB4 := Lib.hid (HB3.out.trans (hb4.mono HB3.out.size))
          have HA4 := Lib.hid (still_block HA3.out hb4)
          have c0 := blk_cell HA4.out 0
          have c1 := blk_cell HA4.out 1
          have f0 := blk_free HA4.out 0
          have f1 := blk_free HA4.out 1
          simp only [List.getElem?_toArray, List.getElem?_cons_zero, List.getElem?_cons_succ] at c0 c1
          clear hb4 k4
          go_wp2
          refine bodyPost_ret (results_cell2 rfl _ _ w.heap.size _ _ _ rfl (blk_set (blk_set HA4.out 0 _) 1 _) Tryd.underlying48 rfl field_info) rfl ?_
          rw [← HO.out]
          exact ⟨rfl, (HB4.out.setCell (Nat.le_refl _) _).setCell (Nat.le_refl _) _⟩
        · rw [if_neg (by rw [hpl]; simp)] at ho
          rw [hpl] at h4
          have HO := Lib.hid ho
          clear ho hpl
          go_enter Tryd.func37, Tryd.ntmps37
          go_wp2_with fail
          refine h1.mono ?_
          rintro e w1 ⟨rfl, hb1⟩
          have HB1 := Lib.hid (HB0.out.trans (hb1.mono HB0.out.size))
          have HA1 := Lib.hid (still_block HA.out hb1)
          have k2 := h2 w1
          clear hb1 h1 h2
          go_wp2_with fail
          refine k2.mono ?_
          rintro e w2 ⟨rfl, hb2⟩
          have HB2 := Lib.hid (HB1.out.trans (hb2.mono HB1.out.size))
          have HA2 := Lib.hid (still_block HA1.out hb2)
          have k3 := h3 w2
          clear hb2 k2 h3
          go_wp2_with fail
          refine k3.mono ?_
          rintro e w3 ⟨rfl, hb3⟩
          have HB3 := Lib.hid (HB2.out.trans (hb3.mono HB2.out.size))
          have HA3 := Lib.hid (still_block HA2.out hb3)
          have k4 := h4 w3
          clear hb3 k3 h4
          go_wp2_with fail
          refine k4.mono ?_
          rintro e w4 ⟨rfl, hb4⟩
          have HB4 := Lib.hid (HB3.out.trans (hb4.mono HB3.out.size))
          have HA4 := Lib.hid (still_block HA3.out hb4)
          have k5 := h5 w4
          clear hb4 k4 h5
          go_wp2_with fail
          refine k5.mono ?_
          rintro e w5 ⟨rfl, hb5⟩
          have HB5 := Lib.hid (HB4.out.trans (hb5.mono HB4.out.size))
          have HA5 := Lib.hid (still_block HA4.out hb5)
          have c0 := blk_cell HA5.out 0
          have c1 := blk_cell HA5.out 1
          have f0 := blk_free HA5.out 0
          have f1 := blk_free HA5.out 1
          simp only [List.getElem?_toArray, List.getElem?_cons_zero, List.getElem?_cons_succ] at c0 c1
          clear hb5 k5
          go_wp2
          refine bodyPost_ret (results_cell2 rfl _ _ w.heap.size _ _ _ rfl (blk_set (blk_set HA5.out 0 _) 1 _) Tryd.underlying48 rfl field_info) rfl ?_
          rw [← HO.out]
          refine ⟨?_, (HB5.out.setCell (Nat.le_refl _) _).setCell (Nat.le_refl _) _⟩
          unfold ParsedOut
          simp only
          rw [HBX.out, HBT.out]
          rfl
end Go.Proofs.YtblongcnmpdihaaDoor
