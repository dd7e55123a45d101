
/- Contracts: comment, section, text. -/
import Derived.Test.YtflfnnkdkfcpkaaGreatDoorLeR
namespace Go.Proofs.YtflfnnkdkfcpkaaGreatDoor
open Go.RowKit Wb

theorem hasp_any (s p : ByteArray) (l : List UInt8) (n : Nat) (hp : p.data.toList = l) (hn : l.length = n) (w : World) :
    Calls Tryz.prog 70 #[.string s, .string p] w fun e w' => e = .returned (.bool (decide (s.data.toList.take n = l))) ∧ w = w' := by
  subst hp hn
  refine (Tryz.strings_HasPrefix s p w).mono ?_
  rintro e w' ⟨rfl, rfl⟩
  exact ⟨by rw [show Lib.hasPrefix s.data.toList p.data.toList = p.data.toList.isPrefixOf s.data.toList from rfl, pre_take], rfl⟩

/-- upTo, both ways. -/
theorem upTo_two (D : Nat) (s p : ByteArray) (fr at_ : Nat) (w : World) (h : DocW w D s fr at_) (hG : Gv w) (hat : at_ ≤ s.size) (hs : s.size ≤ 1000000) (hp : p.data.toList ≠ []) (hps : p.size ≤ 1000) :
    Calls Tryz.prog 108 #[.pointer (some ⟨D, 0, none⟩), .string p] w fun e w' =>
      (upToX s.data.toList fr at_ p.data.toList = .error (fr, 2) ∧ e = .panicked [flt fr 2] ∧ Keeps D w w') ∨
      (∃ v a, upToX s.data.toList fr at_ p.data.toList = .ok (v, a) ∧ e = .returned (.string ⟨v.toArray⟩) ∧ DocW w' D s fr a ∧ Keeps D w w' ∧ a ≤ s.size ∧ v.length ≤ s.size) := by
  have hl : (s.data.toList.drop at_).length = s.size - at_ := by rw [List.length_drop, lenL]
  refine (upTo_any D s p fr at_ w h hG hat hs hp hps).mono ?_
  rintro e w' ⟨hk, he⟩
  rcases cut_until p.data.toList hp (s.data.toList.drop at_) with ⟨h1, _⟩ | ⟨n, v, h1, _, h3, h4⟩
  · have e1 : upToX s.data.toList fr at_ p.data.toList = .error (fr, 2) := by unfold upToX; rw [h1]
    rw [e1] at he
    exact .inl ⟨e1, he, hk⟩
  · have e1 : upToX s.data.toList fr at_ p.data.toList = .ok (v, at_ + n) := by unfold upToX; rw [h1]
    rw [e1] at he
    exact .inr ⟨v, at_ + n, e1, he.1, he.2, hk, by omega, by omega⟩

theorem comment_any (D : Nat) (s : ByteArray) (fr : Nat) (w : World) (h : DocW w D s fr fr) (hG : Gv w) (hD : 11 ≤ D) (hat : fr + 4 ≤ s.size) (hs : s.size ≤ 1000000) :
    Calls Tryz.prog 72 #[.pointer (some ⟨D, 0, none⟩)] w fun e w' => UnitOut D s fr (commentX s.data.toList fr) w e w' := by
  have HUP := Lib.hid fun w2 (hw : DocW w2 D s fr (fr + 4)) (hg : Gv w2) => upTo_two D s ⟨#[45, 45]⟩ fr (fr + 4) w2 hw hg hat hs (by simp) (by decide)
  have HK := Lib.hid ((Keeps.refl D w).setCell 2 (.int .i64 ((fr : Int) + 4)))
  have HD := Lib.hid (h.set2' (v := (fr : Int) + 4) (a := fr + 4) (by omega))
  have HG := Lib.hid (hG.setCell (a := ⟨D, 2, none⟩) hD (.int .i64 ((fr : Int) + 4)))
  have c2 := h.c2
  have f2 := h.f 2
  obtain ⟨r, hr⟩ : ∃ r, commentX s.data.toList fr = r := ⟨_, rfl⟩
  rw [hr]
  unfold commentX at hr
  have HR := Lib.hid hr
  clear h hr hG
  go_enter Tryz.func72, Tryz.ntmps72
  go_wp2_with fail
  refine (HUP.out _ HD.out HG.out).mono ?_
  rintro e w1 (⟨h1, rfl, hk1⟩ | ⟨v, a, h1, rfl, hd1, hk1, ha, hv⟩)
  · have hr := HR.out
    rw [h1] at hr
    exact ⟨rfl, HK.out.trans hk1, by rw [← hr]; exact rfl⟩
  · have hr := HR.out
    rw [h1] at hr
    simp only at hr
    have HR2 := Lib.hid hr
    replace HK := Lib.hid (HK.out.trans hk1)
    have hrs := rest_k D s fr a w1 hd1 ha
    have hex : (s.extract a s.size).data.toList = s.data.toList.drop a := by rw [extract_L, List.take_of_length_le (by simp)]
    generalize s.extract a s.size = z at hrs hex
    have HZ := Lib.hid hex
    clear hr h1 HR hk1 hd1 c2 f2 HD HG HUP hex
    go_wp2_with fail
    refine hrs.mono ?_
    rintro e w2 ⟨rfl, hd2, hk2⟩
    replace HK := Lib.hid (HK.out.trans hk2)
    have hph := hasp_any z ⟨#[62]⟩ [62] 1 rfl rfl w2
    rw [HZ.out] at hph
    have c1 := hd2.c1
    have c2 := hd2.c2
    have f2 := hd2.f 2
    have HD := Lib.hid hd2
    clear hk2 hd2 hrs
    by_cases h62 : (s.data.toList.drop a).take 1 = [62]
    · have hr := HR2.out
      rw [if_pos h62] at hr
      subst hr
      have hdl : a + 1 ≤ s.size := by
        have := congrArg List.length h62
        rw [List.length_take, List.length_drop, lenL] at this
        simp at this
        omega
      rw [decide_eq_true h62] at hph
      clear h62 HR2
      go_wp2_with fail
      refine hph.mono ?_
      rintro e w3 ⟨rfl, rfl⟩
      go_wp2
      go_end0
      exact ⟨HK.out.setCell 2 _, rfl, HD.out.set2' (by omega)⟩
    · have hr := HR2.out
      rw [if_neg h62] at hr
      subst hr
      rw [decide_eq_false h62] at hph
      clear h62 HR2
      go_wp2_with fail
      refine hph.mono ?_
      rintro e w3 ⟨rfl, rfl⟩
      go_wp2_with fail
      refine (fail_any fr 4 _).mono ?_
      rintro e w4 ⟨rfl, rfl⟩
      exact ⟨rfl, HK.out, rfl⟩

def SecPost (D : Nat) (s : ByteArray) (fr : Nat) (r : Er (Tk × Nat)) (w : World) (e : Ending) (w' : World) : Prop := Keeps D w w' ∧ match r with
      | .ok ((_, _, _, x), a) => e = .returned (.agg (tokZ 4 fr ⟨#[]⟩ ⟨x.toArray⟩)) ∧ DocW w' D s fr a
      | .error (p, c) => e = .panicked [flt p c]
set_option maxHeartbeats 1000000 in
theorem section_any (D : Nat) (s : ByteArray) (fr : Nat) (w : World) (h : DocW w D s fr fr) (hG : Gv w) (hD : 11 ≤ D) (hat : fr + 9 ≤ s.size) (hs : s.size ≤ 1000000) :
    Calls Tryz.prog 73 #[.pointer (some ⟨D, 0, none⟩)] w fun e w' => SecPost D s fr (sectionX s.data.toList fr) w e w' := by
  have HUP := Lib.hid fun w2 (hw : DocW w2 D s fr (fr + 9)) (hg : Gv w2) => upTo_two D s ⟨#[93, 93, 62]⟩ fr (fr + 9) w2 hw hg hat hs (by simp) (by decide)
  have HLN := Lib.hid fun (v : List UInt8) w2 (hg : Gv w2) (hv : v.length ≤ s.size) => lines_any ⟨v.toArray⟩ false w2 hg (by rw [Lib.size_eq]; show v.length ≤ _; omega)
  have HD := Lib.hid h
  have HG := Lib.hid hG
  have c2 : (w.alloc (.cells #[.int .i64 0, .int .i64 0, .string ⟨#[]⟩, .slice none 0 0, .string ⟨#[]⟩] 38)).cell? ⟨D, 2, none⟩ = some (.int .i64 fr) := (h.alloc _).c2
  have f2 : (w.alloc (.cells #[.int .i64 0, .int .i64 0, .string ⟨#[]⟩, .slice none 0 0, .string ⟨#[]⟩] 38)).frozen? ⟨D, 2, none⟩ = false := (h.alloc _).f 2
  have hDl := Lib.hid h.lt
  obtain ⟨r, hr⟩ : ∃ r, sectionX s.data.toList fr = r := ⟨_, rfl⟩
  rw [hr]
  unfold sectionX at hr
  have HR := Lib.hid hr
  have HZ := Lib.hid (show ((w.alloc (.cells #[.int .i64 0, .int .i64 0, .string ⟨#[]⟩, .slice none 0 0, .string ⟨#[]⟩] 38)).setCell ⟨D, 2, none⟩ (.int .i64 ((fr : Int) + 9))).heap[w.heap.size]? = some (.cells (tokZ 0 0 ⟨#[]⟩ ⟨#[]⟩) 38 (0, 0)) from (Below.heap_setCell _ _ _ _ (by have := h.lt; simp; omega)).trans (first_block w _))
  have HD2 := Lib.hid ((h.alloc (.cells #[.int .i64 0, .int .i64 0, .string ⟨#[]⟩, .slice none 0 0, .string ⟨#[]⟩] 38)).set2' (v := (fr : Int) + 9) (a := fr + 9) (by omega))
  have HK := Lib.hid (((Keeps.refl D w).alloc (.cells #[.int .i64 0, .int .i64 0, .string ⟨#[]⟩, .slice none 0 0, .string ⟨#[]⟩] 38)).setCell 2 (.int .i64 ((fr : Int) + 9)))
  have HZl : w.heap.size < ((w.alloc (.cells #[.int .i64 0, .int .i64 0, .string ⟨#[]⟩, .slice none 0 0, .string ⟨#[]⟩] 38)).setCell ⟨D, 2, none⟩ (.int .i64 ((fr : Int) + 9))).heap.size := blk_lt HZ.out
  clear h hr HD
  go_enter Tryz.func73, Tryz.ntmps73
  go_upto_region 2 with fail
  generalize World.setCell _ _ _ = wx at *
  have HG2 := Lib.hid (HK.out.gv hG hD)
  have HRD : w.heap.size ≠ D := by have := hDl.out; omega
  have HRD' := Lib.hid HRD
  have hDR : D ≠ w.heap.size := fun e => HRD e.symm
  have HZl' := Lib.hid HZl
  clear c2 f2 HG HRD HZl
  go_region_held2 (fun w' => w'.cell? ⟨D, 1, none⟩ = some (.int .i64 fr)) (with_reducible (first | exact HD2.out.c1 | exact HD2.out.drew.c1 | exact hd.c1 | exact hdl.c1 | exact (hdl.five hDR _ _ _ _ _).c1))
    (first
      | (go_at_call 108; refine (HUP.out _ HD2.out.drew HG2.out.drew).mono ?_; rintro e w' (⟨h1, rfl, hk⟩ | ⟨v, a, h1, rfl, hd, hk, ha, hv⟩); (exact ⟨rfl, HK.out.drew.trans hk, by have hr := HR.out; rw [h1] at hr; rw [← hr]; exact rfl⟩))
      | (go_at_call 58; refine (HLN.out v _ ((HK.out.drew.trans hk).gv hG hD) hv).mono ?_; rintro e wl ⟨rfl, hbl⟩; have hdl := hd.below hbl; have HZ3 := ((Keeps.of_below (D := D) hbl).block _ (Nat.lt_of_lt_of_le HZl'.out hk.size) HRD'.out).trans ((hk.block _ HZl'.out HRD'.out).trans HZ.out); obtain ⟨q0, q1, q2, q3, q4, f0, f1, f2, f3, f4⟩ := five_cells HZ3; have HZ4 := Lib.hid HZ3; clear HZ3))
  all_goals (
    go_wp2
    refine bodyPost_ret (results_cell_row Tryz.results73 _ _ w.heap.size 38 _ (0, 0) _ rfl (five_set HZ4.out _ _ _ _ _) Tryz.underlying38 rfl (by kernel_rfl)) rfl ?_
    refine ⟨(((((((HK.out.drew.trans hk).next hbl).other (Nat.le_refl _) _ _).other (Nat.le_refl _) _ _).other (Nat.le_refl _) _ _).other (Nat.le_refl _) _ _).other (Nat.le_refl _) _ _), ?_⟩
    have hr := HR.out
    rw [h1] at hr
    simp only at hr
    rw [← hr]
    exact ⟨rfl, hdl.five hDR _ _ _ _ _⟩)
end Go.Proofs.YtflfnnkdkfcpkaaGreatDoor
