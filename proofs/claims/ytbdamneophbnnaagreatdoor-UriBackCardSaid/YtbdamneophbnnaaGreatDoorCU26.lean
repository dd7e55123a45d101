/- ScF. -/
import Derived.Test.YtbdamneophbnnaaGreatDoorCU23
import Derived.Test.YtbdamneophbnnaaGreatDoorCU24
namespace Go.Proofs.YtbdamneophbnnaaGreatDoor
open Go.RowKit Wb
theorem pie_info : (Tryz.prog.info? 154).map (·.size) = some 5 := by kernel_rfl
def pieV (n : List UInt8) (p : Nat) : Option (List UInt8 × List UInt8) → Value
  | none => .agg #[.string (mkT n), .int .i64 p, .bool false, .string ⟨#[]⟩, .string ⟨#[]⟩]
  | some (a, v) => .agg #[.string (mkT n), .int .i64 p, .bool true, .string (mkT a), .string (mkT v)]
def CutOut (o : Option (List UInt8 × Nat × Option (List UInt8 × List UInt8))) (e : Ending) : Prop :=
  (o = none → ∃ (n a v : ByteArray) (p : Int) (b : Bool), e = .returned (.tuple #[.agg #[.string n, .int .i64 p, .bool b, .string a, .string v], .bool false])) ∧
    ∀ n p av, o = some (n, p, av) → e = .returned (.tuple #[pieV n p av, .bool true])
theorem CutOut.bad {n a v : ByteArray} {p : Int} {b : Bool} : CutOut none (.returned (.tuple #[.agg #[.string n, .int .i64 p, .bool b, .string a, .string v], .bool false])) :=
  ⟨fun _ => ⟨n, a, v, p, b, rfl⟩, fun n p av h => by cases h⟩
theorem CutOut.good {n : List UInt8} {p : Nat} {av : Option (List UInt8 × List UInt8)} : CutOut (some (n, p, av)) (.returned (.tuple #[pieV n p av, .bool true])) :=
  ⟨fun h => (by cases h), fun n' p' av' h => by
    injection h with h
    injection h with h1 h
    injection h with h2 h3
    rw [h1, h2, h3]⟩
set_option maxHeartbeats 8000000 in
set_option maxRecDepth 100000 in
theorem scut_any (d : ByteArray) (w : World) (hs : d.size ≤ 1000000) (hG : GvS w) :
    Calls Tryz.prog 123 #[.string d] w fun e w' => CutOut (cutK d.data.toList) e ∧ Below w.heap.size w w' := by
  have hsl : d.data.toList.length = d.size := by simp
  obtain ⟨n, r, hh⟩ : ∃ n r, headP d.data.toList = (n, r) := ⟨_, _, rfl⟩
  have hl := headP_len d.data.toList
  have hd1 := fun v hv => cutName_any d v (by omega) hv
  rw [hh] at hl hd1
  simp only at hl hd1
  obtain ⟨p, t, hp⟩ : ∃ p t, cposP r = (p, t) := ⟨_, _, rfl⟩
  have hd2 := fun v hv => cutPos_any (mkT r) v (by rw [mkT_size]; omega) hv
  have htl : t.length ≤ r.length := by
    have : (cposP r).2.length ≤ r.length := by
      unfold cposP
      split
      · split
        · exact Nat.le_refl _
        · rename_i hq
          split
          · exact Nat.le_refl _
          · obtain ⟨e, _⟩ := cutC_some hq
            have h3 := congrArg List.length e
            simp only [List.length_append, List.length_cons, List.length_drop] at h3
            simp only
            omega
      · exact Nat.le_refl _
    rw [hp] at this
    exact this
  rw [mkT_list, hp] at hd2
  simp only at hd2
  have hd3 := fun v => qualified_any (mkT n) v (by rw [mkT_size]; omega)
  obtain ⟨b3, h3⟩ : ∃ b, (splitB (mkT n)).2.2 = b := ⟨_, rfl⟩
  rw [h3] at hd3
  have hd4 := fun v hv => cutTest_any (mkT t) v (by rw [mkT_size]; omega) hv
  rw [mkT_list] at hd4
  obtain ⟨o, ho⟩ : ∃ o, cutK d.data.toList = o := ⟨_, rfl⟩
  rw [ho]
  unfold cutK at ho
  rw [hh] at ho
  simp only at ho
  rw [hp, show (splitB ⟨n.toArray⟩).2.2 = b3 from h3] at ho
  simp only at ho
  obtain ⟨ot, hot⟩ : ∃ ot, testP t = ot := ⟨_, rfl⟩
  rw [hot] at ho hd4
  have HO := Lib.hid ho
  have HG := Lib.hid (fun v (hb : Below w.heap.size w v) => hG.next hb)
  have H2 := Lib.hid hd2
  have H3 := Lib.hid hd3
  have H4 := Lib.hid hd4
  have hk0 := OwnB.new0 w #[.string ⟨#[]⟩, .int .i64 0, .bool false, .string ⟨#[]⟩, .string ⟨#[]⟩] 154
  have hb0 := (Below.refl w.heap.size w).alloc (Nat.le_refl _) (.cells #[.string ⟨#[]⟩, .int .i64 0, .bool false, .string ⟨#[]⟩, .string ⟨#[]⟩] 154)
  clear hsl hh hl hp h3 hot ho hd2 hd3 hd4 htl hG
  go_enter Tryz.func123, Tryz.ntmps123
  go_upto_region 1 with fail
  generalize w.alloc (.cells #[.string ⟨#[]⟩, .int .i64 0, .bool false, .string ⟨#[]⟩, .string ⟨#[]⟩] 154) = w0 at *
  go_wp2_with fail
  refine (hd1 _ (HG.out _ hb0)).mono ?_
  rintro e w1 ⟨rfl, hb1⟩
  have hk1 := hk0.next hb1
  replace hb1 := hb0.trans (hb1.mono hb0.size)
  have f0 := hk1.free 0
  have c0 : w1.cell? ⟨w.heap.size, 0, none⟩ = some (.string ⟨#[]⟩) := hk1.cell 0
  clear hd1 hk0 hb0
  go_upto_region 2 with fail
  have hk2 := hk1.put5_0 (.string (mkT n))
  have hb2 := hk1.below hb1 0 (.string (mkT n))
  generalize w1.setCell ⟨w.heap.size, 0, none⟩ (.string (mkT n)) = w2 at *
  clear f0 c0 hk1 hb1
  go_wp2_with fail
  refine (H2.out _ (HG.out _ hb2)).mono ?_
  rintro e w3 ⟨rfl, hb3⟩
  have hk3 := hk2.next hb3
  replace hb3 := hb2.trans (hb3.mono hb2.size)
  have f1 := hk3.free 1
  have c1 : w3.cell? ⟨w.heap.size, 1, none⟩ = some (.int .i64 0) := hk3.cell 1
  clear H2 hk2 hb2
  go_upto_region 3 with fail
  have hk4 := hk3.put5_1 (.int .i64 p)
  have hb4 := hk3.below hb3 1 (.int .i64 p)
  generalize w3.setCell ⟨w.heap.size, 1, none⟩ (.int .i64 p) = w4 at *
  clear f1 c1 hk3 hb3
  have c0 : w4.cell? ⟨w.heap.size, 0, none⟩ = some (.string (mkT n)) := hk4.cell 0
  have c1 : w4.cell? ⟨w.heap.size, 1, none⟩ = some (.int .i64 p) := hk4.cell 1
  have c2 : w4.cell? ⟨w.heap.size, 2, none⟩ = some (.bool false) := hk4.cell 2
  have c3 : w4.cell? ⟨w.heap.size, 3, none⟩ = some (.string ⟨#[]⟩) := hk4.cell 3
  have c4 : w4.cell? ⟨w.heap.size, 4, none⟩ = some (.string ⟨#[]⟩) := hk4.cell 4
  have f0 := hk4.free 0
  have f1 := hk4.free 1
  have f2 := hk4.free 2
  have f3 := hk4.free 3
  have f4 := hk4.free 4
  have HS := Lib.hid hk4
  by_cases hbad : n ≠ [42] ∧ b3 = false
  · obtain ⟨hn, rfl⟩ := hbad
    obtain rfl : o = none := by have := HO.out; rw [if_pos ⟨hn, rfl⟩] at this; exact this.symm
    have hnb : ((mkT n).toList == [42]) = false := by rw [mkT_eq]; exact decide_eq_false hn
    clear HO hk4 hn c1 c2 c3 c4 f0 f1 f2 f3 f4
    go_wp2_with fail
    refine (H3.out _).mono ?_
    rintro e w5 ⟨rfl, hb5⟩
    have HS5 := Lib.hid (HS.out.next hb5)
    have HB5 := Lib.hid (hb4.trans (hb5.mono hb4.size))
    clear hb4 hb5 c0 H3 H4 HS
    have c0 : w5.cell? ⟨w.heap.size, 0, none⟩ = some (.string (mkT n)) := HS5.out.cell 0
    have c1 : w5.cell? ⟨w.heap.size, 1, none⟩ = some (.int .i64 p) := HS5.out.cell 1
    have c2 : w5.cell? ⟨w.heap.size, 2, none⟩ = some (.bool false) := HS5.out.cell 2
    have c3 : w5.cell? ⟨w.heap.size, 3, none⟩ = some (.string ⟨#[]⟩) := HS5.out.cell 3
    have c4 : w5.cell? ⟨w.heap.size, 4, none⟩ = some (.string ⟨#[]⟩) := HS5.out.cell 4
    have f0 := HS5.out.free 0
    have f1 := HS5.out.free 1
    have f2 := HS5.out.free 2
    have f3 := HS5.out.free 3
    have f4 := HS5.out.free 4
    go_wp2
    refine bodyPost_ret (results_cell2 rfl _ _ w.heap.size _ _ _ rfl (HS5.out.all5 _ _ _ _ _).blk Tryz.underlying154 rfl pie_info) rfl ?_
    exact ⟨CutOut.bad, (((((HB5.out.setCell (Nat.le_refl _) _).setCell (Nat.le_refl _) _).setCell (Nat.le_refl _) _).setCell (Nat.le_refl _) _).setCell (Nat.le_refl _) _)⟩
  · have HO2 : Hid ((if t = [] then some (n, p, none) else ot.map fun av => (n, p, some av)) = o) := Lib.hid (by
      have := HO.out
      rw [if_neg hbad] at this
      rw [← this]
      split
      · rfl
      · cases ot <;> rfl)
    clear HO c1 c2 c3 c4 f0 f1 f2 f3 f4
    have hsplit : n = [42] ∨ (n ≠ [42] ∧ b3 = true) := by
      by_cases h : n = [42]
      · exact .inl h
      · refine .inr ⟨h, ?_⟩
        cases b3 with
        | true => rfl
        | false => exact absurd ⟨h, rfl⟩ hbad
    rcases hsplit with hn | ⟨hn, rfl⟩
    · have hnb : ((mkT n).toList == [42]) = true := by rw [mkT_eq]; exact decide_eq_true hn
      clear hn hbad H3
      go_upto_region 5 with fail
      obtain ⟨w5, rfl⟩ : ∃ w5, w4 = w5 := ⟨_, rfl⟩
      have HS5 := Lib.hid hk4
      have HB5 := Lib.hid hb4
      clear hk4 hb4 HS c0
      by_cases ht : t = []
      · have hte := mkT_emp ht
        obtain rfl : some (n, p, none) = o := by have := HO2.out; rw [if_pos ht] at this; exact this
        clear HO2 H4 ht
        have c0 : w4.cell? ⟨w.heap.size, 0, none⟩ = some (.string (mkT n)) := HS5.out.cell 0
        have c1 : w4.cell? ⟨w.heap.size, 1, none⟩ = some (.int .i64 p) := HS5.out.cell 1
        have c2 : w4.cell? ⟨w.heap.size, 2, none⟩ = some (.bool false) := HS5.out.cell 2
        have c3 : w4.cell? ⟨w.heap.size, 3, none⟩ = some (.string ⟨#[]⟩) := HS5.out.cell 3
        have c4 : w4.cell? ⟨w.heap.size, 4, none⟩ = some (.string ⟨#[]⟩) := HS5.out.cell 4
        have f0 := HS5.out.free 0
        have f1 := HS5.out.free 1
        have f2 := HS5.out.free 2
        have f3 := HS5.out.free 3
        have f4 := HS5.out.free 4
        go_wp2
        refine bodyPost_ret (results_cell2 rfl _ _ w.heap.size _ _ _ rfl (HS5.out.all5 _ _ _ _ _).blk Tryz.underlying154 rfl pie_info) rfl ?_
        exact ⟨CutOut.good, (((((HB5.out.setCell (Nat.le_refl _) _).setCell (Nat.le_refl _) _).setCell (Nat.le_refl _) _).setCell (Nat.le_refl _) _).setCell (Nat.le_refl _) _)⟩
      · have hte := mkT_nemp ht
        have HO3 : Hid ((ot.map fun av => (n, p, some av)) = o) := Lib.hid (by have := HO2.out; rw [if_neg ht] at this; exact this)
        clear HO2 ht
        have c2 : w4.cell? ⟨w.heap.size, 2, none⟩ = some (.bool false) := HS5.out.cell 2
        have f2 := HS5.out.free 2
        go_upto_region 8 with fail
        have hk6 := HS5.out.put5_2 (.bool true)
        have hb6 := HB5.out.setCell (p := ⟨w.heap.size, 2, none⟩) (Nat.le_refl _) (.bool true)
        generalize w4.setCell ⟨w.heap.size, 2, none⟩ (.bool true) = w6 at *
        clear c2 f2 HS5 HB5
        go_wp2_with fail
        refine (H4.out _ (HG.out _ hb6)).mono ?_
        rintro e w7 ⟨hto, hb7⟩
        have HS7 := Lib.hid (hk6.next hb7)
        have HB7 := Lib.hid (hb6.trans (hb7.mono hb6.size))
        clear hk6 hb6 hb7 H4
        have c0 : w7.cell? ⟨w.heap.size, 0, none⟩ = some (.string (mkT n)) := HS7.out.cell 0
        have c1 : w7.cell? ⟨w.heap.size, 1, none⟩ = some (.int .i64 p) := HS7.out.cell 1
        have c2 : w7.cell? ⟨w.heap.size, 2, none⟩ = some (.bool true) := HS7.out.cell 2
        have c3 : w7.cell? ⟨w.heap.size, 3, none⟩ = some (.string ⟨#[]⟩) := HS7.out.cell 3
        have c4 : w7.cell? ⟨w.heap.size, 4, none⟩ = some (.string ⟨#[]⟩) := HS7.out.cell 4
        have f0 := HS7.out.free 0
        have f1 := HS7.out.free 1
        have f2 := HS7.out.free 2
        have f3 := HS7.out.free 3
        have f4 := HS7.out.free 4
        cases ot with
        | none =>
          obtain rfl : none = o := HO3.out
          obtain ⟨a, v, rfl⟩ := hto.1 rfl
          clear HO3
          go_wp2
          refine bodyPost_ret (results_cell2 rfl _ _ w.heap.size _ _ _ rfl (((HS7.out.put5_3 _).put5_4 _).all5 _ _ _ _ _).blk Tryz.underlying154 rfl pie_info) rfl ?_
          exact ⟨CutOut.bad, (((((((HB7.out.setCell (Nat.le_refl _) _).setCell (Nat.le_refl _) _).setCell (Nat.le_refl _) _).setCell (Nat.le_refl _) _).setCell (Nat.le_refl _) _).setCell (Nat.le_refl _) _).setCell (Nat.le_refl _) _)⟩
        | some av =>
          obtain ⟨a, v⟩ := av
          obtain rfl : some (n, p, some (a, v)) = o := HO3.out
          obtain rfl := hto.2 a v rfl
          clear HO3
          go_wp2
          refine bodyPost_ret (results_cell2 rfl _ _ w.heap.size _ _ _ rfl (((HS7.out.put5_3 _).put5_4 _).all5 _ _ _ _ _).blk Tryz.underlying154 rfl pie_info) rfl ?_
          exact ⟨CutOut.good, (((((((HB7.out.setCell (Nat.le_refl _) _).setCell (Nat.le_refl _) _).setCell (Nat.le_refl _) _).setCell (Nat.le_refl _) _).setCell (Nat.le_refl _) _).setCell (Nat.le_refl _) _).setCell (Nat.le_refl _) _)⟩
    · have hnb : ((mkT n).toList == [42]) = false := by rw [mkT_eq]; exact decide_eq_false hn
      clear hn hbad
      go_wp2_with fail
      refine (H3.out _).mono ?_
      rintro e w5 ⟨rfl, hb5⟩
      have HS5 := Lib.hid (HS.out.next hb5)
      have HB5 := Lib.hid (hb4.trans (hb5.mono hb4.size))
      clear hk4 hb4 hb5 HS c0 H3
      go_upto_region 5 with fail
      by_cases ht : t = []
      · have hte := mkT_emp ht
        obtain rfl : some (n, p, none) = o := by have := HO2.out; rw [if_pos ht] at this; exact this
        clear HO2 H4 ht
        have c0 : w5.cell? ⟨w.heap.size, 0, none⟩ = some (.string (mkT n)) := HS5.out.cell 0
        have c1 : w5.cell? ⟨w.heap.size, 1, none⟩ = some (.int .i64 p) := HS5.out.cell 1
        have c2 : w5.cell? ⟨w.heap.size, 2, none⟩ = some (.bool false) := HS5.out.cell 2
        have c3 : w5.cell? ⟨w.heap.size, 3, none⟩ = some (.string ⟨#[]⟩) := HS5.out.cell 3
        have c4 : w5.cell? ⟨w.heap.size, 4, none⟩ = some (.string ⟨#[]⟩) := HS5.out.cell 4
        have f0 := HS5.out.free 0
        have f1 := HS5.out.free 1
        have f2 := HS5.out.free 2
        have f3 := HS5.out.free 3
        have f4 := HS5.out.free 4
        go_wp2
        refine bodyPost_ret (results_cell2 rfl _ _ w.heap.size _ _ _ rfl (HS5.out.all5 _ _ _ _ _).blk Tryz.underlying154 rfl pie_info) rfl ?_
        exact ⟨CutOut.good, (((((HB5.out.setCell (Nat.le_refl _) _).setCell (Nat.le_refl _) _).setCell (Nat.le_refl _) _).setCell (Nat.le_refl _) _).setCell (Nat.le_refl _) _)⟩
      · have hte := mkT_nemp ht
        have HO3 : Hid ((ot.map fun av => (n, p, some av)) = o) := Lib.hid (by have := HO2.out; rw [if_neg ht] at this; exact this)
        clear HO2 ht
        have c2 : w5.cell? ⟨w.heap.size, 2, none⟩ = some (.bool false) := HS5.out.cell 2
        have f2 := HS5.out.free 2
        go_upto_region 8 with fail
        have hk6 := HS5.out.put5_2 (.bool true)
        have hb6 := HB5.out.setCell (p := ⟨w.heap.size, 2, none⟩) (Nat.le_refl _) (.bool true)
        generalize w5.setCell ⟨w.heap.size, 2, none⟩ (.bool true) = w6 at *
        clear c2 f2 HS5 HB5
        go_wp2_with fail
        refine (H4.out _ (HG.out _ hb6)).mono ?_
        rintro e w7 ⟨hto, hb7⟩
        have HS7 := Lib.hid (hk6.next hb7)
        have HB7 := Lib.hid (hb6.trans (hb7.mono hb6.size))
        clear hk6 hb6 hb7 H4
        have c0 : w7.cell? ⟨w.heap.size, 0, none⟩ = some (.string (mkT n)) := HS7.out.cell 0
        have c1 : w7.cell? ⟨w.heap.size, 1, none⟩ = some (.int .i64 p) := HS7.out.cell 1
        have c2 : w7.cell? ⟨w.heap.size, 2, none⟩ = some (.bool true) := HS7.out.cell 2
        have c3 : w7.cell? ⟨w.heap.size, 3, none⟩ = some (.string ⟨#[]⟩) := HS7.out.cell 3
        have c4 : w7.cell? ⟨w.heap.size, 4, none⟩ = some (.string ⟨#[]⟩) := HS7.out.cell 4
        have f0 := HS7.out.free 0
        have f1 := HS7.out.free 1
        have f2 := HS7.out.free 2
        have f3 := HS7.out.free 3
        have f4 := HS7.out.free 4
        cases ot with
        | none =>
          obtain rfl : none = o := HO3.out
          obtain ⟨a, v, rfl⟩ := hto.1 rfl
          clear HO3
          go_wp2
          refine bodyPost_ret (results_cell2 rfl _ _ w.heap.size _ _ _ rfl (((HS7.out.put5_3 _).put5_4 _).all5 _ _ _ _ _).blk Tryz.underlying154 rfl pie_info) rfl ?_
          exact ⟨CutOut.bad, (((((((HB7.out.setCell (Nat.le_refl _) _).setCell (Nat.le_refl _) _).setCell (Nat.le_refl _) _).setCell (Nat.le_refl _) _).setCell (Nat.le_refl _) _).setCell (Nat.le_refl _) _).setCell (Nat.le_refl _) _)⟩
        | some av =>
          obtain ⟨a, v⟩ := av
          obtain rfl : some (n, p, some (a, v)) = o := HO3.out
          obtain rfl := hto.2 a v rfl
          clear HO3
          go_wp2
          refine bodyPost_ret (results_cell2 rfl _ _ w.heap.size _ _ _ rfl (((HS7.out.put5_3 _).put5_4 _).all5 _ _ _ _ _).blk Tryz.underlying154 rfl pie_info) rfl ?_
          exact ⟨CutOut.good, (((((((HB7.out.setCell (Nat.le_refl _) _).setCell (Nat.le_refl _) _).setCell (Nat.le_refl _) _).setCell (Nat.le_refl _) _).setCell (Nat.le_refl _) _).setCell (Nat.le_refl _) _).setCell (Nat.le_refl _) _)⟩
end Go.Proofs.YtbdamneophbnnaaGreatDoor
