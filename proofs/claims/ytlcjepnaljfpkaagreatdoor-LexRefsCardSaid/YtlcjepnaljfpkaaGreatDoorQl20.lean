/- LeS LeT. -/
import Derived.Test.YtlcjepnaljfpkaaGreatDoorQl19
namespace Go.Proofs.YtlcjepnaljfpkaaGreatDoor
open Go.RowKit Wb
theorem hasp_any (s p : ByteArray) (l : List UInt8) (n : Nat) (hp : p.data.toList = l) (hn : l.length = n) (w : World) :
    Calls Tryz.prog 69 #[.string s, .string p] w fun e w' => e = .returned (.bool (decide (s.data.toList.take n = l))) ∧ w = w' := by
  subst hp hn
  refine (Tryz.strings_HasPrefix s p w).mono ?_
  rintro e w' ⟨rfl, rfl⟩
  exact ⟨by rw [show Lib.hasPrefix s.data.toList p.data.toList = p.data.toList.isPrefixOf s.data.toList from rfl, pre_take], rfl⟩
theorem upTo_two (D : Nat) (s p : ByteArray) (fr at_ : Nat) (w : World) (h : DocW w D s fr at_) (hG : Gv w) (hat : at_ ≤ s.size) (hs : s.size ≤ 1000000) (hp : p.data.toList ≠ []) (hps : p.size ≤ 1000) :
    Calls Tryz.prog 108 #[.pointer (some ⟨D, 0, none⟩), .string p] w fun e w' =>
      (upToX s.data.toList fr at_ p.data.toList = .error (fr, 2) ∧ e = .panicked [flt fr 2] ∧ Keeps D w w') ∨
      (∃ v a, upToX s.data.toList fr at_ p.data.toList = .ok (v, a) ∧ e = .returned (.string ⟨v.toArray⟩) ∧ DocW w' D s fr a ∧ Keeps D w w' ∧ a ≤ s.size ∧ v.length ≤ s.size) := by
  have hl : (s.data.toList.drop at_).length = s.size - at_ := by rw [List.length_drop, lenL]
  refine (upTo_any D s p fr at_ w h hG hat hs hp hps).mono ?_
  rintro e w' ⟨hk, he⟩
  rcases cut_until p.data.toList hp (s.data.toList.drop at_) with ⟨h1, _⟩ | ⟨n, v, h1, _, h3, h4⟩
  · have e1 : upToX s.data.toList fr at_ p.data.toList = .error (fr, 2) := by unfold upToX; rw [h1]
    rw [e1] at he
    exact .inl ⟨e1, he, hk⟩
  · have e1 : upToX s.data.toList fr at_ p.data.toList = .ok (v, at_ + n) := by unfold upToX; rw [h1]
    rw [e1] at he
    exact .inr ⟨v, at_ + n, e1, he.1, he.2, hk, by omega, by omega⟩
theorem comment_any (D : Nat) (s : ByteArray) (fr : Nat) (w : World) (h : DocW w D s fr fr) (hG : Gv w) (hD : 11 ≤ D) (hat : fr + 4 ≤ s.size) (hs : s.size ≤ 1000000) :
    Calls Tryz.prog 71 #[.pointer (some ⟨D, 0, none⟩)] w fun e w' => UnitOut D s fr (commentX s.data.toList fr) w e w' := by
  have HUP := Lib.hid fun w2 (hw : DocW w2 D s fr (fr + 4)) (hg : Gv w2) => upTo_two D s ⟨#[45, 45]⟩ fr (fr + 4) w2 hw hg hat hs (by simp) (by decide)
  have HK := Lib.hid ((Keeps.refl D w).setCell 2 (.int .i64 ((fr : Int) + 4)))
  have HD := Lib.hid (h.set2' (v := (fr : Int) + 4) (a := fr + 4) (by omega))
  have HG := Lib.hid (hG.setCell (a := ⟨D, 2, none⟩) hD (.int .i64 ((fr : Int) + 4)))
  have c2 := h.c2
  have f2 := h.f 2
  obtain ⟨r, hr⟩ : ∃ r, commentX s.data.toList fr = r := ⟨_, rfl⟩
  rw [hr]
  unfold commentX at hr
  have HR := Lib.hid hr
  clear h hr hG
  go_enter Tryz.func71, Tryz.ntmps71
  go_wp2_with fail
  refine (HUP.out _ HD.out HG.out).mono ?_
  rintro e w1 (⟨h1, rfl, hk1⟩ | ⟨v, a, h1, rfl, hd1, hk1, ha, hv⟩)
  · have hr := HR.out
    rw [h1] at hr
    exact ⟨rfl, HK.out.trans hk1, by rw [← hr]; exact rfl⟩
  · have hr := HR.out
    rw [h1] at hr
    simp only at hr
    have HR2 := Lib.hid hr
    replace HK := Lib.hid (HK.out.trans hk1)
    have hrs := rest_k D s fr a w1 hd1 ha
    have hex : (s.extract a s.size).data.toList = s.data.toList.drop a := by rw [extract_L, List.take_of_length_le (by simp)]
    generalize s.extract a s.size = z at hrs hex
    have HZ := Lib.hid hex
    clear hr h1 HR hk1 hd1 c2 f2 HD HG HUP hex
    go_wp2_with fail
    refine hrs.mono ?_
    rintro e w2 ⟨rfl, hd2, hk2⟩
    replace HK := Lib.hid (HK.out.trans hk2)
    have hph := hasp_any z ⟨#[62]⟩ [62] 1 rfl rfl w2
    rw [HZ.out] at hph
    have c1 := hd2.c1
    have c2 := hd2.c2
    have f2 := hd2.f 2
    have HD := Lib.hid hd2
    clear hk2 hd2 hrs
    by_cases h62 : (s.data.toList.drop a).take 1 = [62]
    · have hr := HR2.out
      rw [if_pos h62] at hr
      subst hr
      have hdl : a + 1 ≤ s.size := by
        have := congrArg List.length h62
        rw [List.length_take, List.length_drop, lenL] at this
        simp at this
        omega
      rw [decide_eq_true h62] at hph
      clear h62 HR2
      go_wp2_with fail
      refine hph.mono ?_
      rintro e w3 ⟨rfl, rfl⟩
      go_wp2
      go_end0
      exact ⟨HK.out.setCell 2 _, rfl, HD.out.set2' (by omega)⟩
    · have hr := HR2.out
      rw [if_neg h62] at hr
      subst hr
      rw [decide_eq_false h62] at hph
      clear h62 HR2
      go_wp2_with fail
      refine hph.mono ?_
      rintro e w3 ⟨rfl, rfl⟩
      go_wp2_with fail
      refine (fail_any fr 4 _).mono ?_
      rintro e w4 ⟨rfl, rfl⟩
      exact ⟨rfl, HK.out, rfl⟩
def SecPost (D : Nat) (s : ByteArray) (fr : Nat) (r : Er (Tk × Nat)) (w : World) (e : Ending) (w' : World) : Prop := Keeps D w w' ∧ match r with
      | .ok ((_, _, _, x), a) => e = .returned (.agg (tokZ 4 fr ⟨#[]⟩ ⟨x.toArray⟩)) ∧ DocW w' D s fr a
      | .error (p, c) => e = .panicked [flt p c]
set_option maxHeartbeats 1000000 in
theorem section_any (D : Nat) (s : ByteArray) (fr : Nat) (w : World) (h : DocW w D s fr fr) (hG : Gv w) (hD : 11 ≤ D) (hat : fr + 9 ≤ s.size) (hs : s.size ≤ 1000000) :
    Calls Tryz.prog 72 #[.pointer (some ⟨D, 0, none⟩)] w fun e w' => SecPost D s fr (sectionX s.data.toList fr) w e w' := by
  have HUP := Lib.hid fun w2 (hw : DocW w2 D s fr (fr + 9)) (hg : Gv w2) => upTo_two D s ⟨#[93, 93, 62]⟩ fr (fr + 9) w2 hw hg hat hs (by simp) (by decide)
  have HLN := Lib.hid fun (v : List UInt8) w2 (hg : Gv w2) (hv : v.length ≤ s.size) => lines_any ⟨v.toArray⟩ false w2 hg (by rw [Lib.size_eq]; show v.length ≤ _; omega)
  have HD := Lib.hid h
  have HG := Lib.hid hG
  have c2 : (w.alloc (.cells #[.int .i64 0, .int .i64 0, .string ⟨#[]⟩, .slice none 0 0, .string ⟨#[]⟩] 52)).cell? ⟨D, 2, none⟩ = some (.int .i64 fr) := (h.alloc _).c2
  have f2 : (w.alloc (.cells #[.int .i64 0, .int .i64 0, .string ⟨#[]⟩, .slice none 0 0, .string ⟨#[]⟩] 52)).frozen? ⟨D, 2, none⟩ = false := (h.alloc _).f 2
  have hDl := Lib.hid h.lt
  obtain ⟨r, hr⟩ : ∃ r, sectionX s.data.toList fr = r := ⟨_, rfl⟩
  rw [hr]
  unfold sectionX at hr
  have HR := Lib.hid hr
  have HZ := Lib.hid (show ((w.alloc (.cells #[.int .i64 0, .int .i64 0, .string ⟨#[]⟩, .slice none 0 0, .string ⟨#[]⟩] 52)).setCell ⟨D, 2, none⟩ (.int .i64 ((fr : Int) + 9))).heap[w.heap.size]? = some (.cells (tokZ 0 0 ⟨#[]⟩ ⟨#[]⟩) 52 (0, 0)) from (Below.heap_setCell _ _ _ _ (by have := h.lt; simp; omega)).trans (first_block w _))
  have HD2 := Lib.hid ((h.alloc (.cells #[.int .i64 0, .int .i64 0, .string ⟨#[]⟩, .slice none 0 0, .string ⟨#[]⟩] 52)).set2' (v := (fr : Int) + 9) (a := fr + 9) (by omega))
  have HK := Lib.hid (((Keeps.refl D w).alloc (.cells #[.int .i64 0, .int .i64 0, .string ⟨#[]⟩, .slice none 0 0, .string ⟨#[]⟩] 52)).setCell 2 (.int .i64 ((fr : Int) + 9)))
  have HZl : w.heap.size < ((w.alloc (.cells #[.int .i64 0, .int .i64 0, .string ⟨#[]⟩, .slice none 0 0, .string ⟨#[]⟩] 52)).setCell ⟨D, 2, none⟩ (.int .i64 ((fr : Int) + 9))).heap.size := blk_lt HZ.out
  clear h hr HD
  go_enter Tryz.func72, Tryz.ntmps72
  go_upto_region 2 with fail
  generalize World.setCell _ _ _ = wx at *
  have HG2 := Lib.hid (HK.out.gv hG hD)
  have HRD : w.heap.size ≠ D := by have := hDl.out; omega
  have HRD' := Lib.hid HRD
  have hDR : D ≠ w.heap.size := fun e => HRD e.symm
  have HZl' := Lib.hid HZl
  clear c2 f2 HG HRD HZl
  go_region_held2 (fun w' => w'.cell? ⟨D, 1, none⟩ = some (.int .i64 fr)) (with_reducible (first | exact HD2.out.c1 | exact HD2.out.drew.c1 | exact hd.c1 | exact hdl.c1 | exact (hdl.five hDR _ _ _ _ _).c1))
    (first
      | (go_at_call 108; refine (HUP.out _ HD2.out.drew HG2.out.drew).mono ?_; rintro e w' (⟨h1, rfl, hk⟩ | ⟨v, a, h1, rfl, hd, hk, ha, hv⟩); (exact ⟨rfl, HK.out.drew.trans hk, by have hr := HR.out; rw [h1] at hr; rw [← hr]; exact rfl⟩))
      | (go_at_call 47; refine (HLN.out v _ ((HK.out.drew.trans hk).gv hG hD) hv).mono ?_; rintro e wl ⟨rfl, hbl⟩; have hdl := hd.below hbl; have HZ3 := ((Keeps.of_below (D := D) hbl).block _ (Nat.lt_of_lt_of_le HZl'.out hk.size) HRD'.out).trans ((hk.block _ HZl'.out HRD'.out).trans HZ.out); obtain ⟨q0, q1, q2, q3, q4, f0, f1, f2, f3, f4⟩ := five_cells HZ3; have HZ4 := Lib.hid HZ3; clear HZ3))
  all_goals (
    go_wp2
    refine bodyPost_ret (results_cell_row Tryz.results72 _ _ w.heap.size 52 _ (0, 0) _ rfl (five_set HZ4.out _ _ _ _ _) Tryz.underlying52 rfl (by kernel_rfl)) rfl ?_
    refine ⟨(((((((HK.out.drew.trans hk).next hbl).other (Nat.le_refl _) _ _).other (Nat.le_refl _) _ _).other (Nat.le_refl _) _ _).other (Nat.le_refl _) _ _).other (Nat.le_refl _) _ _), ?_⟩
    have hr := HR.out
    rw [h1] at hr
    simp only at hr
    rw [← hr]
    exact ⟨rfl, hdl.five hDR _ _ _ _ _⟩)
end Go.Proofs.YtlcjepnaljfpkaaGreatDoor
namespace Go.Proofs.YtlcjepnaljfpkaaGreatDoor
open Go.RowKit Wb
theorem unescape_two (s : ByteArray) (attr : Bool) (at_ : Nat) (w : World) (hG : Gv w) (hs : s.size ≤ 100000000) (hat : at_ ≤ 100000000) :
    Calls Tryz.prog 23 #[.string s, .bool attr, .int .i64 at_] w fun e w' =>
      (∃ p, unL attr (s.size + 1) s.data.toList at_ = .error p ∧ e = .panicked [flt p 16] ∧ Below w.heap.size w w') ∨ (∃ x, unL attr (s.size + 1) s.data.toList at_ = .ok x ∧ e = .returned (.string ⟨x.toArray⟩) ∧ Below w.heap.size w w') := by
  refine (unescape_any s attr at_ w hG hs hat).mono ?_
  rintro e w' ⟨he, hb⟩
  cases hu : unL attr (s.size + 1) s.data.toList at_ with
  | error p => rw [hu] at he; exact .inl ⟨p, rfl, he, hb⟩
  | ok x => rw [hu] at he; exact .inr ⟨x, rfl, he, hb⟩
theorem until60 : ∀ l : List UInt8, (untilR [60] l = none → l.takeWhile (· != 60) = l) ∧ (∀ n v, untilR [60] l = some (n, v) → l.takeWhile (· != 60) = v)
  | [] => by
    constructor
    · intro _; rfl
    · intro n v h
      unfold untilR at h
      rw [if_neg (by simp)] at h
      cases h
  | c :: l => by
    obtain ⟨h1, h2⟩ := until60 l
    by_cases hc : c = 60
    · subst hc
      have e : untilR [60] (60 :: l) = some (1, []) := by unfold untilR; rw [if_pos (by rfl)]; rfl
      rw [e]
      refine ⟨fun h => (by cases h), fun n v h => ?_⟩
      simp only [Option.some.injEq, Prod.mk.injEq] at h
      rw [← h.2]
      simp
    · have e : untilR [60] (c :: l) = match untilR [60] l with | none => none | some (n, v) => some (n + 1, c :: v) := by
        conv => lhs; unfold untilR
        rw [if_neg (by simpa using hc)]
        cases untilR [60] l <;> rfl
      rw [e, List.takeWhile_cons_of_pos (by simpa using hc)]
      cases hu : untilR [60] l with
      | none => exact ⟨fun _ => by rw [h1 hu], fun n v h => by cases h⟩
      | some nv =>
        obtain ⟨n, v⟩ := nv
        refine ⟨fun h => (by cases h), fun n' v' h => ?_⟩
        simp only [Option.some.injEq, Prod.mk.injEq] at h
        rw [h2 n v hu, ← h.2]
theorem cut60 (l : List UInt8) : (Lib.cut l [60]).1 = l.takeWhile (· != 60) := by
  rcases cut_until [60] (by simp) l with ⟨h1, h2⟩ | ⟨n, v, h1, h2, _⟩
  · rw [h2, (until60 l).1 h1]
  · rw [h2, (until60 l).2 n v h1]
theorem index_cd : ∀ l : List UInt8, (Lib.index l [93, 93, 62] = -1 ∧ cdAt l = none) ∨ ∃ k : Nat, Lib.index l [93, 93, 62] = k ∧ cdAt l = some k ∧ k ≤ l.length
  | [] => .inl ⟨rfl, rfl⟩
  | c :: l => by
    by_cases h : (c :: l).take 3 = [93, 93, 62]
    · right
      refine ⟨0, ?_, ?_, by omega⟩
      · unfold Lib.index
        rw [if_pos (by rw [pre_take]; exact decide_eq_true h)]
        rfl
      · unfold cdAt
        rw [if_pos h]
    · have e : Lib.index (c :: l) [93, 93, 62] = if Lib.index l [93, 93, 62] == -1 then -1 else Lib.index l [93, 93, 62] + 1 := by
        conv => lhs; unfold Lib.index
        rw [if_neg (by rw [pre_take]; simpa using h)]
      rcases index_cd l with ⟨h1, h2⟩ | ⟨k, h1, h2, h3⟩
      · left
        refine ⟨by rw [e, h1]; rfl, ?_⟩
        unfold cdAt
        rw [if_neg h, h2]
        rfl
      · right
        refine ⟨k + 1, ?_, ?_, by simp; omega⟩
        · rw [e, h1, if_neg (by simp)]
          rfl
        · unfold cdAt
          rw [if_neg h, h2]
          rfl
set_option maxHeartbeats 1000000 in
theorem dtext_any (D : Nat) (s : ByteArray) (fr : Nat) (w : World) (h : DocW w D s fr fr) (hG : Gv w) (hD : 11 ≤ D) (hat : fr ≤ s.size) (hs : s.size ≤ 1000000) :
    Calls Tryz.prog 68 #[.pointer (some ⟨D, 0, none⟩)] w fun e w' => SecPost D s fr (textX s.data.toList fr) w e w' := by
  have hZ0 := first_block w (.cells (tokZ 0 0 ⟨#[]⟩ ⟨#[]⟩) 52)
  have HK := Lib.hid ((Keeps.refl D w).alloc (.cells (tokZ 0 0 ⟨#[]⟩ ⟨#[]⟩) 52))
  have HD := Lib.hid (h.alloc (.cells (tokZ 0 0 ⟨#[]⟩ ⟨#[]⟩) 52))
  have HG := Lib.hid (hG.alloc (.cells (tokZ 0 0 ⟨#[]⟩ ⟨#[]⟩) 52))
  have hrs := rest_k D s fr fr _ HD.out hat
  have hDl := Lib.hid h.lt
  have hex : (s.extract fr s.size).data.toList = s.data.toList.drop fr := by rw [extract_L, List.take_of_length_le (by simp)]
  have hzs : (s.extract fr s.size).size ≤ 1000000 := by simp; omega
  obtain ⟨z, hz⟩ : ∃ z, s.extract fr s.size = z := ⟨_, rfl⟩
  rw [hz] at hrs hex hzs
  obtain ⟨r, hr⟩ : ∃ r, textX s.data.toList fr = r := ⟨_, rfl⟩
  rw [hr]
  unfold textX at hr
  rw [← hex] at hr
  have HR := Lib.hid hr
  have HZ := Lib.hid hZ0
  clear h hr hz hex hZ0
  unfold tokZ at HK HD HG HZ hrs
  go_enter Tryz.func68, Tryz.ntmps68
  go_wp2_with fail
  refine hrs.mono ?_
  rintro e w1 ⟨rfl, hd1, hk1⟩
  have hG1 := hk1.gv HG.out hD
  have hct := scut_any z ⟨#[60]⟩ w1 hG1 (by omega)
  replace HK := Lib.hid (HK.out.trans hk1)
  have HZ1 := Lib.hid ((hk1.block _ (blk_lt HZ.out) (by have := hDl.out; omega)).trans HZ.out)
  have HG1 := Lib.hid hG1
  have HD1 := Lib.hid hd1
  obtain ⟨n, hn⟩ : ∃ n : ByteArray, (⟨(Lib.cut z.data.toList [60]).1.toArray⟩ : ByteArray) = n := ⟨_, rfl⟩
  obtain ⟨y, hy⟩ : ∃ y : ByteArray, (⟨(Lib.cut z.data.toList [60]).2.1.toArray⟩ : ByteArray) = y := ⟨_, rfl⟩
  obtain ⟨b, hb⟩ : ∃ b, (Lib.cut z.data.toList [60]).2.2 = b := ⟨_, rfl⟩
  have hnl : n.data.toList = z.data.toList.takeWhile (· != 60) := by rw [← hn, ← cut60]
  have hns : n.size ≤ z.size := by
    rw [Lib.size_eq n, Lib.size_eq z, hnl]
    exact tw_le _ _
  change Calls _ _ _ _ (fun e w' => e = .returned (.tuple #[.string ⟨(Lib.cut z.data.toList [60]).1.toArray⟩, .string ⟨(Lib.cut z.data.toList [60]).2.1.toArray⟩, .bool (Lib.cut z.data.toList [60]).2.2]) ∧ ∃ n, w' = w1.drewN n) at hct
  rw [hn, hy, hb] at hct
  have hr := HR.out
  rw [← hnl] at hr
  have HR2 := Lib.hid hr
  have HNL := Lib.hid hnl
  clear HD HZ hrs hk1 hG1 hd1 hn hy hb hnl hr HR HG
  go_wp2_with fail
  refine hct.mono ?_
  rintro e w2 ⟨rfl, m, rfl⟩
  have hix : Calls Tryz.prog 102 #[.string n, .string ⟨#[93, 93, 62]⟩] (w1.drewN m) fun e w' => e = .returned (.int .i64 (Lib.index n.data.toList [93, 93, 62])) ∧ w' = w1.drewN m := by
    obtain ⟨mm, hm⟩ := (HG1.out.drewN m).ml
    exact Tryz.strings_Index n ⟨#[93, 93, 62]⟩ mm (w1.drewN m) (by omega) hm
  replace HK := Lib.hid (HK.out.trans (Keeps.drewN D w1 m))
  replace HG1 := Lib.hid (HG1.out.drewN m)
  replace HD1 := Lib.hid (HD1.out.drewN m)
  replace HZ1 := Lib.hid (show (w1.drewN m).heap[w.heap.size]? = _ from HZ1.out)
  generalize w1.drewN m = w2 at *
  clear hct
  rcases index_cd n.data.toList with ⟨h1, h2⟩ | ⟨k, h1, h2, h3⟩
  · rw [h1] at hix
    have hr := HR2.out
    rw [h2] at hr
    simp only at hr
    have HR := Lib.hid hr
    clear h1 h2 hr HR2
    go_wp2_with fail
    refine hix.mono ?_
    rintro e w3 ⟨rfl, rfl⟩
    have c2 := HD1.out.c2
    have f2 := HD1.out.f 2
    have HD2 := Lib.hid (HD1.out.set2' (v := (fr : Int) + (n.size : Int)) (a := fr + n.size) (by omega))
    have HK2 := Lib.hid (HK.out.setCell 2 (.int .i64 ((fr : Int) + (n.size : Int))))
    have hDR : D ≠ w.heap.size := by have := hDl.out; omega
    have HZ2 := Lib.hid (show (w3.setCell ⟨D, 2, none⟩ (.int .i64 ((fr : Int) + (n.size : Int)))).heap[w.heap.size]? = _ from (Below.heap_setCell _ _ _ _ (by simp; omega)).trans HZ1.out)
    have b1 : (n.size : Int) ≤ 1000000 := by omega
    have b2 : (fr : Int) ≤ 1000000 := by omega
    clear HD1 HK HZ1 HG1
    go_upto_region 7 with fail
    generalize World.setCell _ _ _ = wx at *
    have HG2 := Lib.hid (HK2.out.gv hG hD)
    have HU := Lib.hid fun wu (hg : Gv wu) => unescape_two n false fr wu hg (by omega) (by omega)
    have HZl := Lib.hid (blk_lt HZ2.out)
    have HRD := Lib.hid (fun e => hDR e.symm : w.heap.size ≠ D)
    clear c2 f2
    go_region_held2 (fun w' => w'.cell? ⟨D, 1, none⟩ = some (.int .i64 fr)) (with_reducible (first | exact HD2.out.c1 | exact HD2.out.drew.c1 | exact hdl.c1 | exact (hdl.five hDR _ _ _ _ _).c1))
      (first | (go_at_call 23; refine (HU.out _ HG2.out.drew).mono ?_; rintro e wl (⟨q, hu, rfl, hbl⟩ | ⟨x, hu, rfl, hbl⟩); (exact ⟨rfl, HK2.out.drew.next hbl, by have hr := HR.out; rw [← Lib.size_eq, hu] at hr; rw [← hr]; exact rfl⟩); have hdl := HD2.out.drew.below hbl; have HZ3 := (hbl.block _ HZl.out).trans HZ2.out; obtain ⟨q0, q1, q2, q3, q4, f0, f1, f2, f3, f4⟩ := five_cells HZ3; have HZ4 := Lib.hid HZ3; clear HZ3))
    all_goals (
      go_wp2
      refine bodyPost_ret (results_cell_row Tryz.results68 _ _ w.heap.size 52 _ (0, 0) _ rfl (five_set HZ4.out _ _ _ _ _) Tryz.underlying52 rfl (by kernel_rfl)) rfl ?_
      refine ⟨(((((HK2.out.drew.next hbl).other (Nat.le_refl _) _ _).other (Nat.le_refl _) _ _).other (Nat.le_refl _) _ _).other (Nat.le_refl _) _ _).other (Nat.le_refl _) _ _, ?_⟩
      have hr := HR.out
      rw [← Lib.size_eq, hu] at hr
      simp only at hr
      rw [← hr]
      exact ⟨rfl, hdl.five hDR _ _ _ _ _⟩)
  · rw [h1] at hix
    have hr := HR2.out
    rw [h2] at hr
    simp only at hr
    have HR := Lib.hid hr
    clear h1 h2 hr HR2
    have c2 := HD1.out.c2
    rw [← Lib.size_eq] at h3
    have g0 : (0 : Int) ≤ (k : Int) := by omega
    have g1 : (k : Int) ≤ (n.size : Int) := by omega
    go_wp2_with fail
    refine hix.mono ?_
    rintro e w3 ⟨rfl, rfl⟩
    go_upto_region 4 with fail
    have hxs : (n.extract 0 k).size = k := by simp; omega
    have hxl : (n.extract 0 k).data.toList = n.data.toList.take k := by rw [extract_L]; rfl
    have HU := Lib.hid fun wu (hg : Gv wu) => unescape_two (n.extract 0 k) false fr wu hg (by omega) (by omega)
    rw [hxs, hxl] at HU
    have HKK := Lib.hid HK.out
    go_region_law (first
      | (go_simp; go_at_call 23; refine (HU.out _ HG1.out.drew).mono ?_; rintro e wl (⟨q, hu, rfl, hbl⟩ | ⟨x, hu, rfl, hbl⟩); (exact ⟨rfl, HK.out.drew.next hbl, by have hr := HR.out; rw [hu] at hr; rw [← hr]; exact rfl⟩); have c2l := (HD1.out.drew.below hbl).c2))
    all_goals (
      go_wp2_with fail
      refine (fail_any ((fr : Int) + (k : Int)) 11 _).mono ?_
      rintro e w4 ⟨rfl, rfl⟩
      refine ⟨rfl, HK.out.drew.next hbl, ?_⟩
      have hr := HR.out
      rw [hu] at hr
      simp only at hr
      rw [← hr]
      exact rfl)
end Go.Proofs.YtlcjepnaljfpkaaGreatDoor
