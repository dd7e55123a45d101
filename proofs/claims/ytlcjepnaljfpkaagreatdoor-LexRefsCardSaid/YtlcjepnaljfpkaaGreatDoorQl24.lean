/- LeY. -/
import Derived.Test.YtlcjepnaljfpkaaGreatDoorQl23
namespace Go.Proofs.YtlcjepnaljfpkaaGreatDoor
open Go.RowKit Wb
def TokTwo (D : Nat) (s : ByteArray) (fr : Nat) (m : Er (Tk × Nat)) (w : World) (e : Ending) (w' : World) : Prop :=
  (∃ q c, m = .error (q, c) ∧ e = .panicked [flt q c] ∧ Keeps D w w') ∨
  (∃ k n l x a A cp, m = .ok ((k, n, l, x), a) ∧ e = .returned (.agg #[.int .i64 k, .int .i64 fr, .string ⟨n.toArray⟩, .slice A l.length cp, .string ⟨x.toArray⟩]) ∧ DocW w' D s fr a ∧ Keeps D w w' ∧
    Sl2 w' A (prs l) ∧ (∀ ad, A = some ad → w.heap.size ≤ ad.block) ∧ l.length ≤ 65)
theorem sec_two {D : Nat} {s : ByteArray} {fr : Nat} {m : Er (Tk × Nat)} {w : World} {e : Ending} {w' : World} (hm : ∀ k n l x a, m = .ok ((k, n, l, x), a) → k = 4 ∧ n = [] ∧ l = []) (h : SecPost D s fr m w e w') : TokTwo D s fr m w e w' := by
  obtain ⟨hk, he⟩ := h
  cases m with
  | error pe => obtain ⟨p, c⟩ := pe; exact .inl ⟨p, c, rfl, he, hk⟩
  | ok ta =>
    obtain ⟨⟨k, n, l, x⟩, a⟩ := ta
    obtain ⟨rfl, rfl, rfl⟩ := hm k n l x a rfl
    exact .inr ⟨4, [], [], x, a, none, 0, rfl, he.1, he.2, hk, Sl2.nil _ _, fun ad ha => (by cases ha), by simp⟩
theorem text_form {L : List UInt8} {fr : Nat} {k : Int} {n : List UInt8} {l : AL} {x : List UInt8} {a : Nat} (h : textX L fr = .ok ((k, n, l, x), a)) : k = 4 ∧ n = [] ∧ l = [] := by
  unfold textX at h
  simp only at h
  split at h
  · split at h <;> cases h
  · split at h
    · cases h
    · simp only [Except.ok.injEq, Prod.mk.injEq] at h
      exact ⟨h.1.1.symm, h.1.2.1.symm, h.1.2.2.1.symm⟩
theorem section_form {L : List UInt8} {fr : Nat} {k : Int} {n : List UInt8} {l : AL} {x : List UInt8} {a : Nat} (h : sectionX L fr = .ok ((k, n, l, x), a)) : k = 4 ∧ n = [] ∧ l = [] := by
  unfold sectionX at h
  split at h
  · cases h
  · simp only [Except.ok.injEq, Prod.mk.injEq] at h
    exact ⟨h.1.1.symm, h.1.2.1.symm, h.1.2.2.1.symm⟩
theorem end_two {D : Nat} {s : ByteArray} {fr : Nat} {w : World} {e : Ending} {w' : World} (h : EndPost D s fr w e w') : TokTwo D s fr (endTagX s.data.toList fr) w e w' := by
  obtain ⟨hk, he⟩ := h
  cases hm : endTagX s.data.toList fr with
  | error pe => obtain ⟨p, c⟩ := pe; rw [hm] at he; exact .inl ⟨p, c, rfl, he, hk⟩
  | ok ta =>
    obtain ⟨⟨k, n, l, x⟩, a⟩ := ta
    rw [hm] at he
    have hf : k = 2 ∧ l = [] ∧ x = [] := by
      unfold endTagX at hm
      split at hm
      · cases hm
      · split at hm
        · cases hm
        · simp only [Except.ok.injEq, Prod.mk.injEq] at hm
          exact ⟨hm.1.1.symm, hm.1.2.2.1.symm, hm.1.2.2.2.symm⟩
    obtain ⟨rfl, rfl, rfl⟩ := hf
    exact .inr ⟨2, n, [], [], a, none, 0, rfl, he.1, he.2, hk, Sl2.nil _ _, fun ad ha => (by cases ha), by simp⟩
theorem start_two {D : Nat} {s : ByteArray} {fr : Nat} {w : World} {e : Ending} {w' : World} (h : StartPost D s fr w e w') : TokTwo D s fr (startTagX s.data.toList fr) w e w' := by
  obtain ⟨hk, he⟩ := h
  cases hm : startTagX s.data.toList fr with
  | error pe => obtain ⟨p, c⟩ := pe; rw [hm] at he; exact .inl ⟨p, c, rfl, he, hk⟩
  | ok ta =>
    obtain ⟨⟨k, n, l, x⟩, a⟩ := ta
    rw [hm] at he
    have hf : x = [] := by
      unfold startTagX at hm
      split at hm
      · cases hm
      · split at hm
        · cases hm
        · simp only [Except.ok.injEq, Prod.mk.injEq] at hm
          exact hm.1.2.2.2.symm
    subst hf
    obtain ⟨⟨A, c, h1, h2, h3, h4⟩, h5⟩ := he
    exact .inr ⟨k, n, l, [], a, A, c, rfl, h1, h5, hk, h2, h3, h4⟩
theorem unit_two {D : Nat} {s : ByteArray} {fr : Nat} {m : Er Nat} {w : World} {e : Ending} {w' : World} (h : UnitOut D s fr m w e w') :
    (∃ q c, m = .error (q, c) ∧ e = .panicked [flt q c] ∧ Keeps D w w') ∨ (∃ a, m = .ok a ∧ e = .returned (.tuple #[]) ∧ DocW w' D s fr a ∧ Keeps D w w') := by
  obtain ⟨hk, he⟩ := h
  cases m with
  | error pe => obtain ⟨p, c⟩ := pe; exact .inl ⟨p, c, rfl, he, hk⟩
  | ok a => exact .inr ⟨a, rfl, he.1, he.2, hk⟩
def TknOut (D : Nat) (s : ByteArray) (fr : Nat) (m : Er (Option Tk × Nat)) (w : World) (e : Ending) (w' : World) : Prop :=
  Keeps D w w' ∧ match m with
  | .error (q, c) => e = .panicked [flt q c]
  | .ok (none, a) => e = .returned (.tuple #[.agg (tokZ 0 0 ⟨#[]⟩ ⟨#[]⟩), .bool false]) ∧ DocW w' D s fr a
  | .ok (some (k, n, l, x), a) => (∃ A cp, e = .returned (.tuple #[.agg #[.int .i64 k, .int .i64 fr, .string ⟨n.toArray⟩, .slice A l.length cp, .string ⟨x.toArray⟩], .bool true]) ∧ Sl2 w' A (prs l) ∧ (∀ ad, A = some ad → w.heap.size ≤ ad.block) ∧ l.length ≤ 65) ∧ DocW w' D s fr a
theorem TknOut.err {D : Nat} {s : ByteArray} {fr : Nat} {r : Er (Option Tk × Nat)} {w w' : World} {q c : Nat} (hr : r = .error (q, c)) (hk : Keeps D w w') : TknOut D s fr r w (.panicked [flt q c]) w' := by
  rw [hr]; exact ⟨hk, rfl⟩
theorem results_row_tmp {P : Program} {fn : Func} {p u : Tmp} {ty : TypeId} (h : fn.results = #[.cell p ty, .tmp u]) (tmps : Array Value) (w : World) (g : Nat) (t : TypeId) (cs : Array Value) (fr : Nat × Nat) (d : TypeDesc)
    (hp : tmps.getD p undef = .pointer (some ⟨g, 0, none⟩)) (hg : w.heap[g]? = some (.cells cs t fr))
    (hu : P.underlying ty = some d) (hd : (match d with | .struct _ | .array _ _ => true | _ => false) = true) (hi : (P.info? ty).map (·.size) = some cs.size) :
    (results fn tmps).run P w = .ok (.tuple #[.agg cs, tmps.getD u undef]) w := by
  rw [results_cell_tmp h, hp]
  show ((loadVar ty ⟨g, 0, none⟩).run P w).andThen _ = _
  rw [run_loadVar_row w g t ty cs fr d hg hu hd hi]
  rfl
theorem Sl2.other {w : World} {A : Option Addr} {l : List Pr} (h : Sl2 w A l) {g : Nat} (hA : ∀ ad, A = some ad → ad.block ≠ g) (o : Nat) (v : Value) : Sl2 (w.setCell ⟨g, o, none⟩ v) A l := by
  refine ⟨h.1, fun h0 => ?_⟩
  obtain ⟨ad, e, hb, hc⟩ := h.2 h0
  refine ⟨ad, e, by simpa [World.setCell] using hb, fun i v' hv => ?_⟩
  rw [← hc i v' hv]
  have hb2 : (ad.add i).block = ad.block := by unfold Addr.add; split <;> rfl
  exact World.cell?_of_block (w := w) (Below.heap_setCell _ _ _ _ (by rw [hb2]; exact hA ad e))
theorem Sl2.five {w : World} {A : Option Addr} {l : List Pr} (h : Sl2 w A l) {g : Nat} (hA : ∀ ad, A = some ad → ad.block ≠ g) (v0 v1 v2 v3 v4 : Value) :
    Sl2 (((((w.setCell ⟨g, 0, none⟩ v0).setCell ⟨g, 1, none⟩ v1).setCell ⟨g, 2, none⟩ v2).setCell ⟨g, 3, none⟩ v3).setCell ⟨g, 4, none⟩ v4) A l :=
  Sl2.other (Sl2.other (Sl2.other (Sl2.other (Sl2.other h hA _ _) hA _ _) hA _ _) hA _ _) hA _ _
set_option maxHeartbeats 4000000 in
set_option maxRecDepth 100000 in
theorem token_any (D : Nat) (s : ByteArray) (fr : Nat) (w : World) (h : DocW w D s fr fr) (hG : Gv w) (hD : 11 ≤ D) (hlt : fr + 1 ≤ s.size) (hs : s.size ≤ 1000000) :
    Calls Tryz.prog 40 #[.pointer (some ⟨D, 0, none⟩)] w fun e w' => TknOut D s fr (tokenU s.data.toList fr) w e w' := by
  have hZ0 := first_block w (.cells (tokZ 0 0 ⟨#[]⟩ ⟨#[]⟩) 52)
  have hK0 := (Keeps.refl D w).alloc (.cells (tokZ 0 0 ⟨#[]⟩ ⟨#[]⟩) 52)
  have hD0 := h.alloc (.cells (tokZ 0 0 ⟨#[]⟩ ⟨#[]⟩) 52)
  have hG0 := hG.alloc (.cells (tokZ 0 0 ⟨#[]⟩ ⟨#[]⟩) 52)
  have HTD : Hid (w.heap.size ≠ D) := by have := h.lt; exact Lib.hid (by omega)
  have hrs := rest_k D s fr fr _ hD0 (by omega)
  have hex : (s.extract fr s.size).data.toList = s.data.toList.drop fr := by rw [extract_L, List.take_of_length_le (by simp)]
  have hzs : (s.extract fr s.size).size = s.size - fr := by simp
  obtain ⟨z, hz⟩ : ∃ z, s.extract fr s.size = z := ⟨_, rfl⟩
  rw [hz] at hex hzs hrs
  obtain ⟨r, hr⟩ : ∃ r, tokenU s.data.toList fr = r := ⟨_, rfl⟩
  rw [hr]
  unfold tokenU at hr
  rw [← hex] at hr
  simp only at hr
  have HR := Lib.hid hr
  have HZS := Lib.hid hzs
  have hz1 : 0 < z.size := by omega
  obtain ⟨c, q, hzl⟩ : ∃ c q, z.data.toList = c :: q := by
    cases hq : z.data.toList with
    | nil => rw [Lib.size_eq, hq] at hz1; simp at hz1
    | cons c q => exact ⟨c, q, rfl⟩
  have z0 : z[0] = c := by
    have h := Lib.data_getElem? z 0 hz1
    rw [hzl] at h
    exact (Option.some.inj h).symm
  have HZL := Lib.hid hzl
  unfold tokZ at hZ0 hK0 hD0 hG0 hrs
  clear h hr hz hex hzs hzl
  go_enter Tryz.func40, Tryz.ntmps40
  go_wp2_with fail
  refine hrs.mono ?_
  rintro e wc ⟨rfl, hd1, hk1⟩
  have HG := Lib.hid (hk1.gv hG0 hD)
  have HZ := Lib.hid ((hk1.block _ (blk_lt hZ0) HTD.out).trans hZ0)
  have HZl := Lib.hid (blk_lt HZ.out)
  have HTw : Hid (w.heap.size < wc.heap.size) := HZl
  have HK := Lib.hid (hK0.trans hk1)
  have HD := Lib.hid hd1
  have c1 := hd1.c1
  clear hZ0 hK0 hD0 hG0 hrs hk1 hd1
  by_cases hc : c = 60
  · have n60 : ((c.toNat : Int) != 60) = false := by rw [hc]; rfl
    have hr := HR.out
    rw [if_neg (by rw [HZL.out, hc]; simp)] at hr
    have HR := Lib.hid hr
    clear hr hc
    have hph := hasp_any z ⟨#[60, 63]⟩ [60, 63] 2 rfl rfl wc
    by_cases hp : z.data.toList.take 2 = [60, 63]
    · have hr := HR.out
      rw [if_pos hp] at hr
      rw [decide_eq_true hp] at hph
      have hpl : fr + 2 ≤ s.size := by
        have h := congrArg List.length hp
        rw [List.length_take, ← Lib.size_eq] at h
        simp at h
        have := HZS.out
        omega
      have HR := Lib.hid hr
      clear hr hp
      go_wp2_with fail
      refine hph.mono ?_
      rintro e wx ⟨rfl, rfl⟩
      go_wp2_with fail
      refine (instruction_any D s fr _ HD.out HG.out hD hpl hs).mono ?_
      rintro e wl hh
      rcases unit_two hh with ⟨q', c', hm, rfl, hk⟩ | ⟨a, hm, rfl, hd, hk⟩
      · exact ⟨rfl, TknOut.err (by rw [← HR.out, hm]; rfl) (HK.out.trans hk)⟩
      · have HR2 := Lib.hid (show r = .ok (none, a) by rw [← HR.out, hm]; rfl)
        have HDl := Lib.hid hd
        have HK2 := Lib.hid (HK.out.trans hk)
        have HZ2 := Lib.hid ((hk.block w.heap.size HZl.out HTD.out).trans HZ.out)
        obtain ⟨q0, q1, q2, q3, q4, f0, f1, f2, f3, f4⟩ := five_cells HZ2.out
        clear hm hk hd
        go_wp2
        refine bodyPost_ret (results_row_tmp Tryz.results40 _ _ w.heap.size 52 _ (0, 0) _ rfl (five_set HZ2.out _ _ _ _ _) Tryz.underlying52 rfl (by kernel_rfl)) rfl ?_
        have hDT : D ≠ w.heap.size := fun e => HTD.out e.symm
        rw [HR2.out]
        exact ⟨((((HK2.out.other (Nat.le_refl _) _ _).other (Nat.le_refl _) _ _).other (Nat.le_refl _) _ _).other (Nat.le_refl _) _ _).other (Nat.le_refl _) _ _, rfl, HDl.out.five hDT _ _ _ _ _⟩
    · have hr := HR.out
      rw [if_neg hp] at hr
      rw [decide_eq_false hp] at hph
      have HR := Lib.hid hr
      clear hr hp
      go_wp2_with fail
      refine hph.mono ?_
      rintro e wx ⟨rfl, rfl⟩
      clear hph
      have hph := hasp_any z ⟨#[60, 33, 45, 45]⟩ [60, 33, 45, 45] 4 rfl rfl wc
      by_cases hp : z.data.toList.take 4 = [60, 33, 45, 45]
      · have hr := HR.out
        rw [if_pos hp] at hr
        rw [decide_eq_true hp] at hph
        have hpl : fr + 4 ≤ s.size := by
          have h := congrArg List.length hp
          rw [List.length_take, ← Lib.size_eq] at h
          simp at h
          have := HZS.out
          omega
        have HR := Lib.hid hr
        clear hr hp
        go_wp2_with fail
        refine hph.mono ?_
        rintro e wx ⟨rfl, rfl⟩
        go_wp2_with fail
        refine (comment_any D s fr _ HD.out HG.out hD hpl hs).mono ?_
        rintro e wl hh
        rcases unit_two hh with ⟨q', c', hm, rfl, hk⟩ | ⟨a, hm, rfl, hd, hk⟩
        · exact ⟨rfl, TknOut.err (by rw [← HR.out, hm]; rfl) (HK.out.trans hk)⟩
        · have HR2 := Lib.hid (show r = .ok (none, a) by rw [← HR.out, hm]; rfl)
          have HDl := Lib.hid hd
          have HK2 := Lib.hid (HK.out.trans hk)
          have HZ2 := Lib.hid ((hk.block w.heap.size HZl.out HTD.out).trans HZ.out)
          obtain ⟨q0, q1, q2, q3, q4, f0, f1, f2, f3, f4⟩ := five_cells HZ2.out
          clear hm hk hd
          go_wp2
          refine bodyPost_ret (results_row_tmp Tryz.results40 _ _ w.heap.size 52 _ (0, 0) _ rfl (five_set HZ2.out _ _ _ _ _) Tryz.underlying52 rfl (by kernel_rfl)) rfl ?_
          have hDT : D ≠ w.heap.size := fun e => HTD.out e.symm
          rw [HR2.out]
          exact ⟨((((HK2.out.other (Nat.le_refl _) _ _).other (Nat.le_refl _) _ _).other (Nat.le_refl _) _ _).other (Nat.le_refl _) _ _).other (Nat.le_refl _) _ _, rfl, HDl.out.five hDT _ _ _ _ _⟩
      · have hr := HR.out
        rw [if_neg hp] at hr
        rw [decide_eq_false hp] at hph
        have HR := Lib.hid hr
        clear hr hp
        go_wp2_with fail
        refine hph.mono ?_
        rintro e wx ⟨rfl, rfl⟩
        clear hph
        have hph := hasp_any z ⟨#[60, 33, 91, 67, 68, 65, 84, 65, 91]⟩ [60, 33, 91, 67, 68, 65, 84, 65, 91] 9 rfl rfl wc
        by_cases hp : z.data.toList.take 9 = [60, 33, 91, 67, 68, 65, 84, 65, 91]
        · have hr := HR.out
          rw [if_pos hp] at hr
          rw [decide_eq_true hp] at hph
          have hpl : fr + 9 ≤ s.size := by
            have h := congrArg List.length hp
            rw [List.length_take, ← Lib.size_eq] at h
            simp at h
            have := HZS.out
            omega
          have HR := Lib.hid hr
          clear hr hp
          go_wp2_with fail
          refine hph.mono ?_
          rintro e wx ⟨rfl, rfl⟩
          go_wp2_with fail
          refine ((section_any D s fr _ HD.out HG.out hD hpl hs).mono (fun e w' hh => sec_two (fun _ _ _ _ _ hm => section_form hm) hh)).mono ?_
          rintro e wl hh
          rcases hh with ⟨q', c', hm, rfl, hk⟩ | ⟨k, n, l, x, a, A, cp, hm, rfl, hd, hk, hS, hF, hl⟩
          · exact ⟨rfl, TknOut.err (by rw [← HR.out, hm]; rfl) (HK.out.trans hk)⟩
          · have HR2 := Lib.hid (show r = .ok (some (k, n, l, x), a) by rw [← HR.out, hm]; rfl)
            have HM := Lib.hid (And.intro hS (And.intro hF hl))
            have HDl := Lib.hid hd
            have HK2 := Lib.hid (HK.out.trans hk)
            have HZ2 := Lib.hid ((hk.block w.heap.size HZl.out HTD.out).trans HZ.out)
            obtain ⟨q0, q1, q2, q3, q4, f0, f1, f2, f3, f4⟩ := five_cells HZ2.out
            obtain ⟨n', hn'⟩ : ∃ b : ByteArray, (⟨n.toArray⟩ : ByteArray) = b := ⟨_, rfl⟩
            obtain ⟨x', hx'⟩ : ∃ b : ByteArray, (⟨x.toArray⟩ : ByteArray) = b := ⟨_, rfl⟩
            rw [hn', hx']
            have HN := Lib.hid hn'
            have HX := Lib.hid hx'
            have hTle := HTw.out
            clear hm hk hd hS hF hl hn' hx'
            go_wp2
            refine bodyPost_ret (results_row_tmp Tryz.results40 _ _ w.heap.size 52 _ (0, 0) _ rfl (five_set HZ2.out _ _ _ _ _) Tryz.underlying52 rfl (by kernel_rfl)) rfl ?_
            have hDT : D ≠ w.heap.size := fun e => HTD.out e.symm
            rw [HR2.out]
            refine ⟨((((HK2.out.other (Nat.le_refl _) _ _).other (Nat.le_refl _) _ _).other (Nat.le_refl _) _ _).other (Nat.le_refl _) _ _).other (Nat.le_refl _) _ _, ⟨A, cp, ?_, Sl2.five HM.out.1 (fun ad ha => ?_) _ _ _ _ _, fun ad ha => ?_, HM.out.2.2⟩, HDl.out.five hDT _ _ _ _ _⟩
            · rw [HN.out, HX.out]; rfl
            · have := HM.out.2.1 ad ha; omega
            · have := HM.out.2.1 ad ha; omega
        · have hr := HR.out
          rw [if_neg hp] at hr
          rw [decide_eq_false hp] at hph
          have HR := Lib.hid hr
          clear hr hp
          go_wp2_with fail
          refine hph.mono ?_
          rintro e wx ⟨rfl, rfl⟩
          clear hph
          have hph := hasp_any z ⟨#[60, 33, 68]⟩ [60, 33, 68] 3 rfl rfl wc
          by_cases hp : z.data.toList.take 3 = [60, 33, 68]
          · have hr := HR.out
            rw [if_pos hp] at hr
            rw [decide_eq_true hp] at hph
            have hpl : fr + 3 ≤ s.size := by
              have h := congrArg List.length hp
              rw [List.length_take, ← Lib.size_eq] at h
              simp at h
              have := HZS.out
              omega
            have HR := Lib.hid hr
            clear hr hp
            go_wp2_with fail
            refine hph.mono ?_
            rintro e wx ⟨rfl, rfl⟩
            go_wp2_with fail
            refine (fail_any fr 17 _).mono ?_
            rintro e wl ⟨rfl, rfl⟩
            exact ⟨rfl, TknOut.err HR.out.symm HK.out⟩
          · have hr := HR.out
            rw [if_neg hp] at hr
            rw [decide_eq_false hp] at hph
            have HR := Lib.hid hr
            clear hr hp
            go_wp2_with fail
            refine hph.mono ?_
            rintro e wx ⟨rfl, rfl⟩
            clear hph
            have hph := hasp_any z ⟨#[60, 33]⟩ [60, 33] 2 rfl rfl wc
            by_cases hp : z.data.toList.take 2 = [60, 33]
            · have hr := HR.out
              rw [if_pos hp] at hr
              rw [decide_eq_true hp] at hph
              have hpl : fr + 2 ≤ s.size := by
                have h := congrArg List.length hp
                rw [List.length_take, ← Lib.size_eq] at h
                simp at h
                have := HZS.out
                omega
              have HR := Lib.hid hr
              clear hr hp
              go_wp2_with fail
              refine hph.mono ?_
              rintro e wx ⟨rfl, rfl⟩
              go_wp2_with fail
              refine (fail_any fr 4 _).mono ?_
              rintro e wl ⟨rfl, rfl⟩
              exact ⟨rfl, TknOut.err HR.out.symm HK.out⟩
            · have hr := HR.out
              rw [if_neg hp] at hr
              rw [decide_eq_false hp] at hph
              have HR := Lib.hid hr
              clear hr hp
              go_wp2_with fail
              refine hph.mono ?_
              rintro e wx ⟨rfl, rfl⟩
              clear hph
              have hph := hasp_any z ⟨#[60, 47]⟩ [60, 47] 2 rfl rfl wc
              by_cases hp : z.data.toList.take 2 = [60, 47]
              · have hr := HR.out
                rw [if_pos hp] at hr
                rw [decide_eq_true hp] at hph
                have hpl : fr + 2 ≤ s.size := by
                  have h := congrArg List.length hp
                  rw [List.length_take, ← Lib.size_eq] at h
                  simp at h
                  have := HZS.out
                  omega
                have HR := Lib.hid hr
                clear hr hp
                go_wp2_with fail
                refine hph.mono ?_
                rintro e wx ⟨rfl, rfl⟩
                go_wp2_with fail
                refine ((endTag_any D s fr _ HD.out hpl hs).mono (fun e w' hh => end_two hh)).mono ?_
                rintro e wl hh
                rcases hh with ⟨q', c', hm, rfl, hk⟩ | ⟨k, n, l, x, a, A, cp, hm, rfl, hd, hk, hS, hF, hl⟩
                · exact ⟨rfl, TknOut.err (by rw [← HR.out, hm]; rfl) (HK.out.trans hk)⟩
                · have HR2 := Lib.hid (show r = .ok (some (k, n, l, x), a) by rw [← HR.out, hm]; rfl)
                  have HM := Lib.hid (And.intro hS (And.intro hF hl))
                  have HDl := Lib.hid hd
                  have HK2 := Lib.hid (HK.out.trans hk)
                  have HZ2 := Lib.hid ((hk.block w.heap.size HZl.out HTD.out).trans HZ.out)
                  obtain ⟨q0, q1, q2, q3, q4, f0, f1, f2, f3, f4⟩ := five_cells HZ2.out
                  obtain ⟨n', hn'⟩ : ∃ b : ByteArray, (⟨n.toArray⟩ : ByteArray) = b := ⟨_, rfl⟩
                  obtain ⟨x', hx'⟩ : ∃ b : ByteArray, (⟨x.toArray⟩ : ByteArray) = b := ⟨_, rfl⟩
                  rw [hn', hx']
                  have HN := Lib.hid hn'
                  have HX := Lib.hid hx'
                  have hTle := HTw.out
                  clear hm hk hd hS hF hl hn' hx'
                  go_wp2
                  refine bodyPost_ret (results_row_tmp Tryz.results40 _ _ w.heap.size 52 _ (0, 0) _ rfl (five_set HZ2.out _ _ _ _ _) Tryz.underlying52 rfl (by kernel_rfl)) rfl ?_
                  have hDT : D ≠ w.heap.size := fun e => HTD.out e.symm
                  rw [HR2.out]
                  refine ⟨((((HK2.out.other (Nat.le_refl _) _ _).other (Nat.le_refl _) _ _).other (Nat.le_refl _) _ _).other (Nat.le_refl _) _ _).other (Nat.le_refl _) _ _, ⟨A, cp, ?_, Sl2.five HM.out.1 (fun ad ha => ?_) _ _ _ _ _, fun ad ha => ?_, HM.out.2.2⟩, HDl.out.five hDT _ _ _ _ _⟩
                  · rw [HN.out, HX.out]; rfl
                  · have := HM.out.2.1 ad ha; omega
                  · have := HM.out.2.1 ad ha; omega
              · have hr := HR.out
                rw [if_neg hp] at hr
                rw [decide_eq_false hp] at hph
                have HR := Lib.hid hr
                clear hr hp
                go_wp2_with fail
                refine hph.mono ?_
                rintro e wx ⟨rfl, rfl⟩
                clear hph
                go_wp2_with fail
                refine ((startTag_any D s fr _ HD.out HG.out hD hlt hs).mono (fun e w' hh => start_two hh)).mono ?_
                rintro e wl hh
                rcases hh with ⟨q', c', hm, rfl, hk⟩ | ⟨k, n, l, x, a, A, cp, hm, rfl, hd, hk, hS, hF, hl⟩
                · exact ⟨rfl, TknOut.err (by rw [← HR.out, hm]; rfl) (HK.out.trans hk)⟩
                · have HR2 := Lib.hid (show r = .ok (some (k, n, l, x), a) by rw [← HR.out, hm]; rfl)
                  have HM := Lib.hid (And.intro hS (And.intro hF hl))
                  have HDl := Lib.hid hd
                  have HK2 := Lib.hid (HK.out.trans hk)
                  have HZ2 := Lib.hid ((hk.block w.heap.size HZl.out HTD.out).trans HZ.out)
                  obtain ⟨q0, q1, q2, q3, q4, f0, f1, f2, f3, f4⟩ := five_cells HZ2.out
                  obtain ⟨n', hn'⟩ : ∃ b : ByteArray, (⟨n.toArray⟩ : ByteArray) = b := ⟨_, rfl⟩
                  obtain ⟨x', hx'⟩ : ∃ b : ByteArray, (⟨x.toArray⟩ : ByteArray) = b := ⟨_, rfl⟩
                  rw [hn', hx']
                  have HN := Lib.hid hn'
                  have HX := Lib.hid hx'
                  have hTle := HTw.out
                  clear hm hk hd hS hF hl hn' hx'
                  go_wp2
                  refine bodyPost_ret (results_row_tmp Tryz.results40 _ _ w.heap.size 52 _ (0, 0) _ rfl (five_set HZ2.out _ _ _ _ _) Tryz.underlying52 rfl (by kernel_rfl)) rfl ?_
                  have hDT : D ≠ w.heap.size := fun e => HTD.out e.symm
                  rw [HR2.out]
                  refine ⟨((((HK2.out.other (Nat.le_refl _) _ _).other (Nat.le_refl _) _ _).other (Nat.le_refl _) _ _).other (Nat.le_refl _) _ _).other (Nat.le_refl _) _ _, ⟨A, cp, ?_, Sl2.five HM.out.1 (fun ad ha => ?_) _ _ _ _ _, fun ad ha => ?_, HM.out.2.2⟩, HDl.out.five hDT _ _ _ _ _⟩
                  · rw [HN.out, HX.out]; rfl
                  · have := HM.out.2.1 ad ha; omega
                  · have := HM.out.2.1 ad ha; omega
  · have n60 : ((c.toNat : Int) != 60) = true := by
      simp only [bne_iff_ne, ne_eq]
      intro e
      exact hc (UInt8.toNat_inj.1 (by simpa using (by omega : c.toNat = 60)))
    have hr := HR.out
    rw [if_pos (by rw [HZL.out]; simpa using hc)] at hr
    have HR := Lib.hid hr
    clear hr hc
    go_wp2_with fail
    refine ((dtext_any D s fr _ HD.out HG.out hD (by omega) hs).mono (fun e w' hh => sec_two (fun _ _ _ _ _ hm => text_form hm) hh)).mono ?_
    rintro e wl hh
    rcases hh with ⟨q', c', hm, rfl, hk⟩ | ⟨k, n, l, x, a, A, cp, hm, rfl, hd, hk, hS, hF, hl⟩
    · exact ⟨rfl, TknOut.err (by rw [← HR.out, hm]; rfl) (HK.out.trans hk)⟩
    · have HR2 := Lib.hid (show r = .ok (some (k, n, l, x), a) by rw [← HR.out, hm]; rfl)
      have HM := Lib.hid (And.intro hS (And.intro hF hl))
      have HDl := Lib.hid hd
      have HK2 := Lib.hid (HK.out.trans hk)
      have HZ2 := Lib.hid ((hk.block w.heap.size HZl.out HTD.out).trans HZ.out)
      obtain ⟨q0, q1, q2, q3, q4, f0, f1, f2, f3, f4⟩ := five_cells HZ2.out
      obtain ⟨n', hn'⟩ : ∃ b : ByteArray, (⟨n.toArray⟩ : ByteArray) = b := ⟨_, rfl⟩
      obtain ⟨x', hx'⟩ : ∃ b : ByteArray, (⟨x.toArray⟩ : ByteArray) = b := ⟨_, rfl⟩
      rw [hn', hx']
      have HN := Lib.hid hn'
      have HX := Lib.hid hx'
      have hTle := HTw.out
      clear hm hk hd hS hF hl hn' hx'
      go_wp2
      refine bodyPost_ret (results_row_tmp Tryz.results40 _ _ w.heap.size 52 _ (0, 0) _ rfl (five_set HZ2.out _ _ _ _ _) Tryz.underlying52 rfl (by kernel_rfl)) rfl ?_
      have hDT : D ≠ w.heap.size := fun e => HTD.out e.symm
      rw [HR2.out]
      refine ⟨((((HK2.out.other (Nat.le_refl _) _ _).other (Nat.le_refl _) _ _).other (Nat.le_refl _) _ _).other (Nat.le_refl _) _ _).other (Nat.le_refl _) _ _, ⟨A, cp, ?_, Sl2.five HM.out.1 (fun ad ha => ?_) _ _ _ _ _, fun ad ha => ?_, HM.out.2.2⟩, HDl.out.five hDT _ _ _ _ _⟩
      · rw [HN.out, HX.out]; rfl
      · have := HM.out.2.1 ad ha; omega
      · have := HM.out.2.1 ad ha; omega
end Go.Proofs.YtlcjepnaljfpkaaGreatDoor
