import Derived.Test.YtjohfljkhlkjoaaGreatDoorMgB
import Derived.Lib.OthersKept
namespace Go.Proofs.YtjohfljkhlkjoaaGreatDoor
open Go.RowKit Wb
def TokTwo (D : Nat) (s : ByteArray) (fr : Nat) (m : Er (Tk × Nat)) (w : World) (e : Ending) (w' : World) : Prop :=
  (∃ q c, m = .error (q, c) ∧ e = .panicked [flt q c] ∧ Keeps D w w') ∨
  (∃ k n l x a A cp, m = .ok ((k, n, l, x), a) ∧ e = .returned (.agg #[.int .i64 k, .int .i64 fr, .string ⟨n.toArray⟩, .slice A l.length cp, .string ⟨x.toArray⟩]) ∧ DocW w' D s fr a ∧ Keeps D w w' ∧
    Sl2 w' A (prs l) ∧ (∀ ad, A = some ad → w.heap.size ≤ ad.block) ∧ l.length ≤ 65)
theorem sec_two {D : Nat} {s : ByteArray} {fr : Nat} {m : Er (Tk × Nat)} {w : World} {e : Ending} {w' : World} (hm : ∀ k n l x a, m = .ok ((k, n, l, x), a) → k = 4 ∧ n = [] ∧ l = []) (h : SecPost D s fr m w e w') : TokTwo D s fr m w e w' := by
  obtain ⟨hk, he⟩ := h
  cases m with
  | error pe => obtain ⟨p, c⟩ := pe; exact .inl ⟨p, c, rfl, he, hk⟩
  | ok ta =>
    obtain ⟨⟨k, n, l, x⟩, a⟩ := ta
    obtain ⟨rfl, rfl, rfl⟩ := hm k n l x a rfl
    exact .inr ⟨4, [], [], x, a, none, 0, rfl, he.1, he.2, hk, Sl2.nil _ _, fun ad ha => (by cases ha), by simp⟩
theorem text_form {L : List UInt8} {fr : Nat} {k : Int} {n : List UInt8} {l : AL} {x : List UInt8} {a : Nat} (h : textX L fr = .ok ((k, n, l, x), a)) : k = 4 ∧ n = [] ∧ l = [] := by
  unfold textX at h
  simp only at h
  split at h
  · split at h <;> cases h
  · split at h
    · cases h
    · simp only [Except.ok.injEq, Prod.mk.injEq] at h
      exact ⟨h.1.1.symm, h.1.2.1.symm, h.1.2.2.1.symm⟩
theorem section_form {L : List UInt8} {fr : Nat} {k : Int} {n : List UInt8} {l : AL} {x : List UInt8} {a : Nat} (h : sectionX L fr = .ok ((k, n, l, x), a)) : k = 4 ∧ n = [] ∧ l = [] := by
  unfold sectionX at h
  split at h
  · cases h
  · simp only [Except.ok.injEq, Prod.mk.injEq] at h
    exact ⟨h.1.1.symm, h.1.2.1.symm, h.1.2.2.1.symm⟩
theorem end_two {D : Nat} {s : ByteArray} {fr : Nat} {w : World} {e : Ending} {w' : World} (h : EndPost D s fr w e w') : TokTwo D s fr (endTagX s.data.toList fr) w e w' := by
  obtain ⟨hk, he⟩ := h
  cases hm : endTagX s.data.toList fr with
  | error pe => obtain ⟨p, c⟩ := pe; rw [hm] at he; exact .inl ⟨p, c, rfl, he, hk⟩
  | ok ta =>
    obtain ⟨⟨k, n, l, x⟩, a⟩ := ta
    rw [hm] at he
    have hf : k = 2 ∧ l = [] ∧ x = [] := by
      unfold endTagX at hm
      split at hm
      · cases hm
      · split at hm
        · cases hm
        · simp only [Except.ok.injEq, Prod.mk.injEq] at hm
          exact ⟨hm.1.1.symm, hm.1.2.2.1.symm, hm.1.2.2.2.symm⟩
    obtain ⟨rfl, rfl, rfl⟩ := hf
    exact .inr ⟨2, n, [], [], a, none, 0, rfl, he.1, he.2, hk, Sl2.nil _ _, fun ad ha => (by cases ha), by simp⟩
theorem start_two {D : Nat} {s : ByteArray} {fr : Nat} {w : World} {e : Ending} {w' : World} (h : StartPost D s fr w e w') : TokTwo D s fr (startTagX s.data.toList fr) w e w' := by
  obtain ⟨hk, he⟩ := h
  cases hm : startTagX s.data.toList fr with
  | error pe => obtain ⟨p, c⟩ := pe; rw [hm] at he; exact .inl ⟨p, c, rfl, he, hk⟩
  | ok ta =>
    obtain ⟨⟨k, n, l, x⟩, a⟩ := ta
    rw [hm] at he
    have hf : x = [] := by
      unfold startTagX at hm
      split at hm
      · cases hm
      · split at hm
        · cases hm
        · simp only [Except.ok.injEq, Prod.mk.injEq] at hm
          exact hm.1.2.2.2.symm
    subst hf
    obtain ⟨⟨A, c, h1, h2, h3, h4⟩, h5⟩ := he
    exact .inr ⟨k, n, l, [], a, A, c, rfl, h1, h5, hk, h2, h3, h4⟩
theorem unit_two {D : Nat} {s : ByteArray} {fr : Nat} {m : Er Nat} {w : World} {e : Ending} {w' : World} (h : UnitOut D s fr m w e w') :
    (∃ q c, m = .error (q, c) ∧ e = .panicked [flt q c] ∧ Keeps D w w') ∨ (∃ a, m = .ok a ∧ e = .returned (.tuple #[]) ∧ DocW w' D s fr a ∧ Keeps D w w') := by
  obtain ⟨hk, he⟩ := h
  cases m with
  | error pe => obtain ⟨p, c⟩ := pe; exact .inl ⟨p, c, rfl, he, hk⟩
  | ok a => exact .inr ⟨a, rfl, he.1, he.2, hk⟩
def TknOut (D : Nat) (s : ByteArray) (fr : Nat) (m : Er (Option Tk × Nat)) (w : World) (e : Ending) (w' : World) : Prop :=
  Keeps D w w' ∧ match m with
  | .error (q, c) => e = .panicked [flt q c]
  | .ok (none, a) => e = .returned (.tuple #[.agg (tokZ 0 0 ⟨#[]⟩ ⟨#[]⟩), .bool false]) ∧ DocW w' D s fr a
  | .ok (some (k, n, l, x), a) => (∃ A cp, e = .returned (.tuple #[.agg #[.int .i64 k, .int .i64 fr, .string ⟨n.toArray⟩, .slice A l.length cp, .string ⟨x.toArray⟩], .bool true]) ∧ Sl2 w' A (prs l) ∧ (∀ ad, A = some ad → w.heap.size ≤ ad.block) ∧ l.length ≤ 65) ∧ DocW w' D s fr a
theorem TknOut.err {D : Nat} {s : ByteArray} {fr : Nat} {r : Er (Option Tk × Nat)} {w w' : World} {q c : Nat} (hr : r = .error (q, c)) (hk : Keeps D w w') : TknOut D s fr r w (.panicked [flt q c]) w' := by
  rw [hr]; exact ⟨hk, rfl⟩
theorem results_row_tmp {P : Program} {fn : Func} {p u : Tmp} {ty : TypeId} (h : fn.results = #[.cell p ty, .tmp u]) (tmps : Array Value) (w : World) (g : Nat) (t : TypeId) (cs : Array Value) (fr : Nat × Nat) (d : TypeDesc)
    (hp : tmps.getD p undef = .pointer (some ⟨g, 0, none⟩)) (hg : w.heap[g]? = some (.cells cs t fr))
    (hu : P.underlying ty = some d) (hd : (match d with | .struct _ | .array _ _ => true | _ => false) = true) (hi : (P.info? ty).map (·.size) = some cs.size) :
    (results fn tmps).run P w = .ok (.tuple #[.agg cs, tmps.getD u undef]) w := by
  rw [results_cell_tmp h, hp]
  show ((loadVar ty ⟨g, 0, none⟩).run P w).andThen _ = _
  rw [run_loadVar_row w g t ty cs fr d hg hu hd hi]
  rfl
theorem Sl2.other {w : World} {A : Option Addr} {l : List Pr} (h : Sl2 w A l) {g : Nat} (hA : ∀ ad, A = some ad → ad.block ≠ g) (o : Nat) (v : Value) : Sl2 (w.setCell ⟨g, o, none⟩ v) A l := by
  refine ⟨h.1, fun h0 => ?_⟩
  obtain ⟨ad, e, hb, hc⟩ := h.2 h0
  refine ⟨ad, e, by simpa [World.setCell] using hb, fun i v' hv => ?_⟩
  rw [← hc i v' hv]
  have hb2 : (ad.add i).block = ad.block := by unfold Addr.add; split <;> rfl
  exact World.cell?_of_block (w := w) (Below.heap_setCell _ _ _ _ (by rw [hb2]; exact hA ad e))
theorem Sl2.five {w : World} {A : Option Addr} {l : List Pr} (h : Sl2 w A l) {g : Nat} (hA : ∀ ad, A = some ad → ad.block ≠ g) (v0 v1 v2 v3 v4 : Value) :
    Sl2 (((((w.setCell ⟨g, 0, none⟩ v0).setCell ⟨g, 1, none⟩ v1).setCell ⟨g, 2, none⟩ v2).setCell ⟨g, 3, none⟩ v3).setCell ⟨g, 4, none⟩ v4) A l :=
  Sl2.other (Sl2.other (Sl2.other (Sl2.other (Sl2.other h hA _ _) hA _ _) hA _ _) hA _ _) hA _ _
set_option maxHeartbeats 4000000 in
set_option maxRecDepth 100000 in
theorem token_any (D : Nat) (s : ByteArray) (fr : Nat) (w : World) (h : DocW w D s fr fr) (hG : Gv w) (hD : 11 ≤ D) (hlt : fr + 1 ≤ s.size) (hs : s.size ≤ 1000000) :
    Calls Tryz.prog 56 #[.pointer (some ⟨D, 0, none⟩)] w fun e w' => TknOut D s fr (tokenU s.data.toList fr) w e w' := by
  have hZ0 := first_block w (.cells (tokZ 0 0 ⟨#[]⟩ ⟨#[]⟩) 57)
  have hK0 := (Keeps.refl D w).alloc (.cells (tokZ 0 0 ⟨#[]⟩ ⟨#[]⟩) 57)
  have hD0 := h.alloc (.cells (tokZ 0 0 ⟨#[]⟩ ⟨#[]⟩) 57)
  have hG0 := hG.alloc (.cells (tokZ 0 0 ⟨#[]⟩ ⟨#[]⟩) 57)
  have HTD : Hid (w.heap.size ≠ D) := by have := h.lt; exact Lib.hid (by omega)
  have hrs := rest_k D s fr fr _ hD0 (by omega)
  have hex : (s.extract fr s.size).data.toList = s.data.toList.drop fr := by rw [extract_L, List.take_of_length_le (by simp)]
  have hzs : (s.extract fr s.size).size = s.size - fr := by simp
  obtain ⟨z, hz⟩ : ∃ z, s.extract fr s.size = z := ⟨_, rfl⟩
  rw [hz] at hex hzs hrs
  obtain ⟨r, hr⟩ : ∃ r, tokenU s.data.toList fr = r := ⟨_, rfl⟩
  rw [hr]
  unfold tokenU at hr
  rw [← hex] at hr
  simp only at hr
  have HR := Lib.hid hr
  have HZS := Lib.hid hzs
  have hz1 : 0 < z.size := by omega
  obtain ⟨c, q, hzl⟩ : ∃ c q, z.data.toList = c :: q := by
    cases hq : z.data.toList with
    | nil => rw [Lib.size_eq, hq] at hz1; simp at hz1
    | cons c q => exact ⟨c, q, rfl⟩
  have z0 : z[0] = c := by
    have h := Lib.data_getElem? z 0 hz1
    rw [hzl] at h
    exact (Option.some.inj h).symm
  have HZL := Lib.hid hzl
  unfold tokZ at hZ0 hK0 hD0 hG0 hrs
  clear h hr hz hex hzs hzl
  go_enter Tryz.func56, Tryz.ntmps56
  go_wp2_with fail
  refine hrs.mono ?_
  rintro e wc ⟨rfl, hd1, hk1⟩
  have HG := Lib.hid (hk1.gv hG0 hD)
  have HZ := Lib.hid ((hk1.block _ (blk_lt hZ0) HTD.out).trans hZ0)
  have HZl := Lib.hid (blk_lt HZ.out)
  have HTw : Hid (w.heap.size < wc.heap.size) := HZl
  have HK := Lib.hid (hK0.trans hk1)
  have HD := Lib.hid hd1
  have c1 := hd1.c1
  clear hZ0 hK0 hD0 hG0 hrs hk1 hd1
  by_cases hc : c = 60
  · have n60 : ((c.toNat : Int) != 60) = false := by rw [hc]; rfl
    have hr := HR.out
    rw [if_neg (by rw [HZL.out, hc]; simp)] at hr
    have HR := Lib.hid hr
    clear hr hc
    have hph := hasp_any z ⟨#[60, 63]⟩ [60, 63] 2 rfl rfl wc
    by_cases hp : z.data.toList.take 2 = [60, 63]
    · have hr := HR.out
      rw [if_pos hp] at hr
      rw [decide_eq_true hp] at hph
      have hpl : fr + 2 ≤ s.size := by
        have h := congrArg List.length hp
        rw [List.length_take, ← Lib.size_eq] at h
        simp at h
        have := HZS.out
        omega
      have HR := Lib.hid hr
      clear hr hp
      go_wp2_with fail
      refine hph.mono ?_
      rintro e wx ⟨rfl, rfl⟩
      go_wp2_with fail
      refine (instruction_any D s fr _ HD.out HG.out hD hpl hs).mono ?_
      rintro e wl hh
      rcases unit_two hh with ⟨q', c', hm, rfl, hk⟩ | ⟨a, hm, rfl, hd, hk⟩
      · exact ⟨rfl, TknOut.err (by rw [← HR.out, hm]; rfl) (HK.out.trans hk)⟩
      · have HR2 := Lib.hid (show r = .ok (none, a) by rw [← HR.out, hm]; rfl)
        have HDl := Lib.hid hd
        have HK2 := Lib.hid (HK.out.trans hk)
        have HZ2 := Lib.hid ((hk.block w.heap.size HZl.out HTD.out).trans HZ.out)
        obtain ⟨q0, q1, q2, q3, q4, f0, f1, f2, f3, f4⟩ := five_cells HZ2.out
        clear hm hk hd
        go_wp2
        refine bodyPost_ret (results_row_tmp Tryz.results56 _ _ w.heap.size 57 _ (0, 0) _ rfl (five_set HZ2.out _ _ _ _ _) Tryz.underlying57 rfl (by kernel_rfl)) rfl ?_
        have hDT : D ≠ w.heap.size := fun e => HTD.out e.symm
        rw [HR2.out]
        exact ⟨((((HK2.out.other (Nat.le_refl _) _ _).other (Nat.le_refl _) _ _).other (Nat.le_refl _) _ _).other (Nat.le_refl _) _ _).other (Nat.le_refl _) _ _, rfl, HDl.out.five hDT _ _ _ _ _⟩
    · have hr := HR.out
      rw [if_neg hp] at hr
      rw [decide_eq_false hp] at hph
      have HR := Lib.hid hr
      clear hr hp
      go_wp2_with fail
      refine hph.mono ?_
      rintro e wx ⟨rfl, rfl⟩
      clear hph
      have hph := hasp_any z ⟨#[60, 33, 45, 45]⟩ [60, 33, 45, 45] 4 rfl rfl wc
      by_cases hp : z.data.toList.take 4 = [60, 33, 45, 45]
      · have hr := HR.out
        rw [if_pos hp] at hr
        rw [decide_eq_true hp] at hph
        have hpl : fr + 4 ≤ s.size := by
          have h := congrArg List.length hp
          rw [List.length_take, ← Lib.size_eq] at h
          simp at h
          have := HZS.out
          omega
        have HR := Lib.hid hr
        clear hr hp
        go_wp2_with fail
        refine hph.mono ?_
        rintro e wx ⟨rfl, rfl⟩
        go_wp2_with fail
        refine (comment_any D s fr _ HD.out HG.out hD hpl hs).mono ?_
        rintro e wl hh
        rcases unit_two hh with ⟨q', c', hm, rfl, hk⟩ | ⟨a, hm, rfl, hd, hk⟩
        · exact ⟨rfl, TknOut.err (by rw [← HR.out, hm]; rfl) (HK.out.trans hk)⟩
        · have HR2 := Lib.hid (show r = .ok (none, a) by rw [← HR.out, hm]; rfl)
          have HDl := Lib.hid hd
          have HK2 := Lib.hid (HK.out.trans hk)
          have HZ2 := Lib.hid ((hk.block w.heap.size HZl.out HTD.out).trans HZ.out)
          obtain ⟨q0, q1, q2, q3, q4, f0, f1, f2, f3, f4⟩ := five_cells HZ2.out
          clear hm hk hd
          go_wp2
          refine bodyPost_ret (results_row_tmp Tryz.results56 _ _ w.heap.size 57 _ (0, 0) _ rfl (five_set HZ2.out _ _ _ _ _) Tryz.underlying57 rfl (by kernel_rfl)) rfl ?_
          have hDT : D ≠ w.heap.size := fun e => HTD.out e.symm
          rw [HR2.out]
          exact ⟨((((HK2.out.other (Nat.le_refl _) _ _).other (Nat.le_refl _) _ _).other (Nat.le_refl _) _ _).other (Nat.le_refl _) _ _).other (Nat.le_refl _) _ _, rfl, HDl.out.five hDT _ _ _ _ _⟩
      · have hr := HR.out
        rw [if_neg hp] at hr
        rw [decide_eq_false hp] at hph
        have HR := Lib.hid hr
        clear hr hp
        go_wp2_with fail
        refine hph.mono ?_
        rintro e wx ⟨rfl, rfl⟩
        clear hph
        have hph := hasp_any z ⟨#[60, 33, 91, 67, 68, 65, 84, 65, 91]⟩ [60, 33, 91, 67, 68, 65, 84, 65, 91] 9 rfl rfl wc
        by_cases hp : z.data.toList.take 9 = [60, 33, 91, 67, 68, 65, 84, 65, 91]
        · have hr := HR.out
          rw [if_pos hp] at hr
          rw [decide_eq_true hp] at hph
          have hpl : fr + 9 ≤ s.size := by
            have h := congrArg List.length hp
            rw [List.length_take, ← Lib.size_eq] at h
            simp at h
            have := HZS.out
            omega
          have HR := Lib.hid hr
          clear hr hp
          go_wp2_with fail
          refine hph.mono ?_
          rintro e wx ⟨rfl, rfl⟩
          go_wp2_with fail
          refine ((section_any D s fr _ HD.out HG.out hD hpl hs).mono (fun e w' hh => sec_two (fun _ _ _ _ _ hm => section_form hm) hh)).mono ?_
          rintro e wl hh
          rcases hh with ⟨q', c', hm, rfl, hk⟩ | ⟨k, n, l, x, a, A, cp, hm, rfl, hd, hk, hS, hF, hl⟩
          · exact ⟨rfl, TknOut.err (by rw [← HR.out, hm]; rfl) (HK.out.trans hk)⟩
          · have HR2 := Lib.hid (show r = .ok (some (k, n, l, x), a) by rw [← HR.out, hm]; rfl)
            have HM := Lib.hid (And.intro hS (And.intro hF hl))
            have HDl := Lib.hid hd
            have HK2 := Lib.hid (HK.out.trans hk)
            have HZ2 := Lib.hid ((hk.block w.heap.size HZl.out HTD.out).trans HZ.out)
            obtain ⟨q0, q1, q2, q3, q4, f0, f1, f2, f3, f4⟩ := five_cells HZ2.out
            obtain ⟨n', hn'⟩ : ∃ b : ByteArray, (⟨n.toArray⟩ : ByteArray) = b := ⟨_, rfl⟩
            obtain ⟨x', hx'⟩ : ∃ b : ByteArray, (⟨x.toArray⟩ : ByteArray) = b := ⟨_, rfl⟩
            rw [hn', hx']
            have HN := Lib.hid hn'
            have HX := Lib.hid hx'
            have hTle := HTw.out
            clear hm hk hd hS hF hl hn' hx'
            go_wp2
            refine bodyPost_ret (results_row_tmp Tryz.results56 _ _ w.heap.size 57 _ (0, 0) _ rfl (five_set HZ2.out _ _ _ _ _) Tryz.underlying57 rfl (by kernel_rfl)) rfl ?_
            have hDT : D ≠ w.heap.size := fun e => HTD.out e.symm
            rw [HR2.out]
            refine ⟨((((HK2.out.other (Nat.le_refl _) _ _).other (Nat.le_refl _) _ _).other (Nat.le_refl _) _ _).other (Nat.le_refl _) _ _).other (Nat.le_refl _) _ _, ⟨A, cp, ?_, Sl2.five HM.out.1 (fun ad ha => ?_) _ _ _ _ _, fun ad ha => ?_, HM.out.2.2⟩, HDl.out.five hDT _ _ _ _ _⟩
            · rw [HN.out, HX.out]; rfl
            · have := HM.out.2.1 ad ha; omega
            · have := HM.out.2.1 ad ha; omega
        · have hr := HR.out
          rw [if_neg hp] at hr
          rw [decide_eq_false hp] at hph
          have HR := Lib.hid hr
          clear hr hp
          go_wp2_with fail
          refine hph.mono ?_
          rintro e wx ⟨rfl, rfl⟩
          clear hph
          have hph := hasp_any z ⟨#[60, 33, 68]⟩ [60, 33, 68] 3 rfl rfl wc
          by_cases hp : z.data.toList.take 3 = [60, 33, 68]
          · have hr := HR.out
            rw [if_pos hp] at hr
            rw [decide_eq_true hp] at hph
            have hpl : fr + 3 ≤ s.size := by
              have h := congrArg List.length hp
              rw [List.length_take, ← Lib.size_eq] at h
              simp at h
              have := HZS.out
              omega
            have HR := Lib.hid hr
            clear hr hp
            go_wp2_with fail
            refine hph.mono ?_
            rintro e wx ⟨rfl, rfl⟩
            go_wp2_with fail
            refine (fail_any fr 17 _).mono ?_
            rintro e wl ⟨rfl, rfl⟩
            exact ⟨rfl, TknOut.err HR.out.symm HK.out⟩
          · have hr := HR.out
            rw [if_neg hp] at hr
            rw [decide_eq_false hp] at hph
            have HR := Lib.hid hr
            clear hr hp
            go_wp2_with fail
            refine hph.mono ?_
            rintro e wx ⟨rfl, rfl⟩
            clear hph
            have hph := hasp_any z ⟨#[60, 33]⟩ [60, 33] 2 rfl rfl wc
            by_cases hp : z.data.toList.take 2 = [60, 33]
            · have hr := HR.out
              rw [if_pos hp] at hr
              rw [decide_eq_true hp] at hph
              have hpl : fr + 2 ≤ s.size := by
                have h := congrArg List.length hp
                rw [List.length_take, ← Lib.size_eq] at h
                simp at h
                have := HZS.out
                omega
              have HR := Lib.hid hr
              clear hr hp
              go_wp2_with fail
              refine hph.mono ?_
              rintro e wx ⟨rfl, rfl⟩
              go_wp2_with fail
              refine (fail_any fr 4 _).mono ?_
              rintro e wl ⟨rfl, rfl⟩
              exact ⟨rfl, TknOut.err HR.out.symm HK.out⟩
            · have hr := HR.out
              rw [if_neg hp] at hr
              rw [decide_eq_false hp] at hph
              have HR := Lib.hid hr
              clear hr hp
              go_wp2_with fail
              refine hph.mono ?_
              rintro e wx ⟨rfl, rfl⟩
              clear hph
              have hph := hasp_any z ⟨#[60, 47]⟩ [60, 47] 2 rfl rfl wc
              by_cases hp : z.data.toList.take 2 = [60, 47]
              · have hr := HR.out
                rw [if_pos hp] at hr
                rw [decide_eq_true hp] at hph
                have hpl : fr + 2 ≤ s.size := by
                  have h := congrArg List.length hp
                  rw [List.length_take, ← Lib.size_eq] at h
                  simp at h
                  have := HZS.out
                  omega
                have HR := Lib.hid hr
                clear hr hp
                go_wp2_with fail
                refine hph.mono ?_
                rintro e wx ⟨rfl, rfl⟩
                go_wp2_with fail
                refine ((endTag_any D s fr _ HD.out hpl hs).mono (fun e w' hh => end_two hh)).mono ?_
                rintro e wl hh
                rcases hh with ⟨q', c', hm, rfl, hk⟩ | ⟨k, n, l, x, a, A, cp, hm, rfl, hd, hk, hS, hF, hl⟩
                · exact ⟨rfl, TknOut.err (by rw [← HR.out, hm]; rfl) (HK.out.trans hk)⟩
                · have HR2 := Lib.hid (show r = .ok (some (k, n, l, x), a) by rw [← HR.out, hm]; rfl)
                  have HM := Lib.hid (And.intro hS (And.intro hF hl))
                  have HDl := Lib.hid hd
                  have HK2 := Lib.hid (HK.out.trans hk)
                  have HZ2 := Lib.hid ((hk.block w.heap.size HZl.out HTD.out).trans HZ.out)
                  obtain ⟨q0, q1, q2, q3, q4, f0, f1, f2, f3, f4⟩ := five_cells HZ2.out
                  obtain ⟨n', hn'⟩ : ∃ b : ByteArray, (⟨n.toArray⟩ : ByteArray) = b := ⟨_, rfl⟩
                  obtain ⟨x', hx'⟩ : ∃ b : ByteArray, (⟨x.toArray⟩ : ByteArray) = b := ⟨_, rfl⟩
                  rw [hn', hx']
                  have HN := Lib.hid hn'
                  have HX := Lib.hid hx'
                  have hTle := HTw.out
                  clear hm hk hd hS hF hl hn' hx'
                  go_wp2
                  refine bodyPost_ret (results_row_tmp Tryz.results56 _ _ w.heap.size 57 _ (0, 0) _ rfl (five_set HZ2.out _ _ _ _ _) Tryz.underlying57 rfl (by kernel_rfl)) rfl ?_
                  have hDT : D ≠ w.heap.size := fun e => HTD.out e.symm
                  rw [HR2.out]
                  refine ⟨((((HK2.out.other (Nat.le_refl _) _ _).other (Nat.le_refl _) _ _).other (Nat.le_refl _) _ _).other (Nat.le_refl _) _ _).other (Nat.le_refl _) _ _, ⟨A, cp, ?_, Sl2.five HM.out.1 (fun ad ha => ?_) _ _ _ _ _, fun ad ha => ?_, HM.out.2.2⟩, HDl.out.five hDT _ _ _ _ _⟩
                  · rw [HN.out, HX.out]; rfl
                  · have := HM.out.2.1 ad ha; omega
                  · have := HM.out.2.1 ad ha; omega
              · have hr := HR.out
                rw [if_neg hp] at hr
                rw [decide_eq_false hp] at hph
                have HR := Lib.hid hr
                clear hr hp
                go_wp2_with fail
                refine hph.mono ?_
                rintro e wx ⟨rfl, rfl⟩
                clear hph
                go_wp2_with fail
                refine ((startTag_any D s fr _ HD.out HG.out hD hlt hs).mono (fun e w' hh => start_two hh)).mono ?_
                rintro e wl hh
                rcases hh with ⟨q', c', hm, rfl, hk⟩ | ⟨k, n, l, x, a, A, cp, hm, rfl, hd, hk, hS, hF, hl⟩
                · exact ⟨rfl, TknOut.err (by rw [← HR.out, hm]; rfl) (HK.out.trans hk)⟩
                · have HR2 := Lib.hid (show r = .ok (some (k, n, l, x), a) by rw [← HR.out, hm]; rfl)
                  have HM := Lib.hid (And.intro hS (And.intro hF hl))
                  have HDl := Lib.hid hd
                  have HK2 := Lib.hid (HK.out.trans hk)
                  have HZ2 := Lib.hid ((hk.block w.heap.size HZl.out HTD.out).trans HZ.out)
                  obtain ⟨q0, q1, q2, q3, q4, f0, f1, f2, f3, f4⟩ := five_cells HZ2.out
                  obtain ⟨n', hn'⟩ : ∃ b : ByteArray, (⟨n.toArray⟩ : ByteArray) = b := ⟨_, rfl⟩
                  obtain ⟨x', hx'⟩ : ∃ b : ByteArray, (⟨x.toArray⟩ : ByteArray) = b := ⟨_, rfl⟩
                  rw [hn', hx']
                  have HN := Lib.hid hn'
                  have HX := Lib.hid hx'
                  have hTle := HTw.out
                  clear hm hk hd hS hF hl hn' hx'
                  go_wp2
                  refine bodyPost_ret (results_row_tmp Tryz.results56 _ _ w.heap.size 57 _ (0, 0) _ rfl (five_set HZ2.out _ _ _ _ _) Tryz.underlying57 rfl (by kernel_rfl)) rfl ?_
                  have hDT : D ≠ w.heap.size := fun e => HTD.out e.symm
                  rw [HR2.out]
                  refine ⟨((((HK2.out.other (Nat.le_refl _) _ _).other (Nat.le_refl _) _ _).other (Nat.le_refl _) _ _).other (Nat.le_refl _) _ _).other (Nat.le_refl _) _ _, ⟨A, cp, ?_, Sl2.five HM.out.1 (fun ad ha => ?_) _ _ _ _ _, fun ad ha => ?_, HM.out.2.2⟩, HDl.out.five hDT _ _ _ _ _⟩
                  · rw [HN.out, HX.out]; rfl
                  · have := HM.out.2.1 ad ha; omega
                  · have := HM.out.2.1 ad ha; omega
  · have n60 : ((c.toNat : Int) != 60) = true := by
      simp only [bne_iff_ne, ne_eq]
      intro e
      exact hc (UInt8.toNat_inj.1 (by simpa using (by omega : c.toNat = 60)))
    have hr := HR.out
    rw [if_pos (by rw [HZL.out]; simpa using hc)] at hr
    have HR := Lib.hid hr
    clear hr hc
    go_wp2_with fail
    refine ((dtext_any D s fr _ HD.out HG.out hD (by omega) hs).mono (fun e w' hh => sec_two (fun _ _ _ _ _ hm => text_form hm) hh)).mono ?_
    rintro e wl hh
    rcases hh with ⟨q', c', hm, rfl, hk⟩ | ⟨k, n, l, x, a, A, cp, hm, rfl, hd, hk, hS, hF, hl⟩
    · exact ⟨rfl, TknOut.err (by rw [← HR.out, hm]; rfl) (HK.out.trans hk)⟩
    · have HR2 := Lib.hid (show r = .ok (some (k, n, l, x), a) by rw [← HR.out, hm]; rfl)
      have HM := Lib.hid (And.intro hS (And.intro hF hl))
      have HDl := Lib.hid hd
      have HK2 := Lib.hid (HK.out.trans hk)
      have HZ2 := Lib.hid ((hk.block w.heap.size HZl.out HTD.out).trans HZ.out)
      obtain ⟨q0, q1, q2, q3, q4, f0, f1, f2, f3, f4⟩ := five_cells HZ2.out
      obtain ⟨n', hn'⟩ : ∃ b : ByteArray, (⟨n.toArray⟩ : ByteArray) = b := ⟨_, rfl⟩
      obtain ⟨x', hx'⟩ : ∃ b : ByteArray, (⟨x.toArray⟩ : ByteArray) = b := ⟨_, rfl⟩
      rw [hn', hx']
      have HN := Lib.hid hn'
      have HX := Lib.hid hx'
      have hTle := HTw.out
      clear hm hk hd hS hF hl hn' hx'
      go_wp2
      refine bodyPost_ret (results_row_tmp Tryz.results56 _ _ w.heap.size 57 _ (0, 0) _ rfl (five_set HZ2.out _ _ _ _ _) Tryz.underlying57 rfl (by kernel_rfl)) rfl ?_
      have hDT : D ≠ w.heap.size := fun e => HTD.out e.symm
      rw [HR2.out]
      refine ⟨((((HK2.out.other (Nat.le_refl _) _ _).other (Nat.le_refl _) _ _).other (Nat.le_refl _) _ _).other (Nat.le_refl _) _ _).other (Nat.le_refl _) _ _, ⟨A, cp, ?_, Sl2.five HM.out.1 (fun ad ha => ?_) _ _ _ _ _, fun ad ha => ?_, HM.out.2.2⟩, HDl.out.five hDT _ _ _ _ _⟩
      · rw [HN.out, HX.out]; rfl
      · have := HM.out.2.1 ad ha; omega
      · have := HM.out.2.1 ad ha; omega
end Go.Proofs.YtjohfljkhlkjoaaGreatDoor

namespace Go.Proofs.YtjohfljkhlkjoaaGreatDoor
open Go.RowKit Wb Go.Lib
def ChkOut (m : Er Unit) (e : Ending) : Prop :=
  match m with
  | .ok _ => e = .returned (.tuple #[])
  | .error (p, c) => e = .panicked [flt p c]
set_option maxRecDepth 100000 in
set_option maxHeartbeats 1000000 in
theorem dcheck_any (s : ByteArray) (w : World) (hs : s.size ≤ 1000000000) :
    Calls Tryz.prog 54 #[.string s] w fun e w' => ChkOut (checkU s.data.toList) e ∧ Below w.heap.size w w' := by
  obtain ⟨r, hr⟩ : ∃ r, checkU s.data.toList = r := ⟨_, rfl⟩
  rw [hr]
  unfold checkU at hr
  rw [← Lib.size_eq] at hr
  by_cases h1 : 32768 < s.size
  · rw [if_pos h1] at hr
    have g1 : (32768 : Int) < (s.size : Int) := by omega
    have HR := Lib.hid hr
    clear hr h1
    go_enter Tryz.func54, Tryz.ntmps54
    go_wp2_with fail
    refine (fail_any 0 3 _).mono ?_
    rintro e w1 ⟨rfl, rfl⟩
    exact ⟨rfl, by rw [← HR.out]; rfl, Below.refl _ _⟩
  · rw [if_neg h1] at hr
    have g1 : ¬ ((32768 : Int) < (s.size : Int)) := by omega
    have hck := check_any s w hs
    obtain ⟨ck, hc⟩ : ∃ ck, chk s.data.toList = ck := ⟨_, rfl⟩
    rw [hc] at hr hck
    by_cases h2 : 0 ≤ ck
    · rw [if_pos h2] at hr
      have HR := Lib.hid hr
      clear hr h1 hc
      go_enter Tryz.func54, Tryz.ntmps54
      go_wp2_with fail
      refine hck.mono ?_
      rintro e w1 ⟨rfl, hb⟩
      go_wp2_with fail
      refine (fail_any ck 10 _).mono ?_
      rintro e w2 ⟨rfl, rfl⟩
      refine ⟨rfl, ?_, hb⟩
      rw [← HR.out]
      show _ = Ending.panicked [flt ((ck.toNat : Nat) : Int) _]
      rw [Int.toNat_of_nonneg h2]
      rfl
    · rw [if_neg h2] at hr
      have HR := Lib.hid hr
      clear hr h1 hc
      go_enter Tryz.func54, Tryz.ntmps54
      go_wp2_with fail
      refine hck.mono ?_
      rintro e w1 ⟨rfl, hb⟩
      have hit : (w1.iter s 0).heap[w1.heap.size]? = some (.stringIter s 0) := World.iter_heap w1 s 0
      have hb1 : Below w.heap.size w (w1.iter s 0) := hb.alloc hb.size _
      have hkb : w.heap.size ≤ w1.heap.size := hb.size
      have HIT := Lib.hid hit
      have HB1 := Lib.hid hb1
      clear hck hit hb1 hb
      go_wp2
      go_loopg [] s.size (fun g wx => ∃ pos : Nat, s.size ≤ pos + g ∧ wx.heap[w1.heap.size]? = some (.stringIter s pos) ∧ Below w.heap.size w wx ∧ Hid (badU s.size s.data.toList 0 = badU g (s.data.toList.drop pos) pos))
      case atStart => exact ⟨0, by omega, HIT.out, HB1.out, Lib.hid rfl⟩
      case round =>
        obtain ⟨pos, hpg, hk, hbw, HI⟩ := hrel
        have HBW := Lib.hid hbw
        have HKK := Lib.hid hk
        by_cases hp : pos < s.size
        · obtain ⟨g, rfl⟩ : ∃ g, gk = g + 1 := ⟨gk - 1, by omega⟩
          have hne : s.data.toList.drop pos ≠ [] := by
            intro e
            have := congrArg List.length e
            rw [List.length_drop, ← Lib.size_eq] at this
            simp at this
            omega
          have hnx := fun (ty : TypeId) => run_next_any_at (P := Tryz.prog) wr w1.heap.size s pos ty hk hp
          rw [decode_U s pos hp] at hnx
          have hi := HI.out
          rw [show badU (g + 1) (s.data.toList.drop pos) pos = if s.data.toList.drop pos = [] then none else if charB (decU (s.data.toList.drop pos)).1 = true then badU g ((s.data.toList.drop pos).drop (decU (s.data.toList.drop pos)).2) (pos + (decU (s.data.toList.drop pos)).2) else some pos from rfl, if_neg hne, List.drop_drop] at hi
          have hdp := decU_pos (s.data.toList.drop pos)
          generalize hR : (decU (s.data.toList.drop pos)).1 = R at *
          generalize hW : (decU (s.data.toList.drop pos)).2 = W at *
          have HI2 := Lib.hid hi
          have HI3 := Lib.hid (iterAt_heap wr w1.heap.size s pos (pos + W) hk)
          have HB3 := Lib.hid (below_iterAt HBW.out hkb s (pos + W))
          have HP := Lib.hid hp
          clear hi hk hbw hR hW hne HI hp
          cases hcb : charB (R : Int) with
          | true =>
            go_wp2_with fail
            refine (char_any (R : Int) _).mono ?_
            rintro e w3 ⟨rfl, hb3⟩
            rw [hcb]
            have HB4 := Lib.hid (HB3.out.trans (hb3.mono HB3.out.size))
            have HI4 := Lib.hid ((hb3.block _ (Array.getElem?_eq_some_iff.1 HI3.out).1).trans HI3.out)
            clear hnx hb3
            go_wp2
            go_roundg g
            case measure => omega
            case rel =>
              refine ⟨pos + W, by omega, HI4.out, HB4.out, ?_⟩
              have h := HI2.out
              rw [if_pos hcb] at h
              exact Lib.hid h
          | false =>
            go_wp2_with fail
            refine (char_any (R : Int) _).mono ?_
            rintro e w3 ⟨rfl, hb3⟩
            rw [hcb]
            have HB4 := Lib.hid (HB3.out.trans (hb3.mono HB3.out.size))
            clear hnx hb3
            go_wp2_with fail
            refine (fail_any (pos : Int) 11 _).mono ?_
            rintro e w4 ⟨rfl, rfl⟩
            refine ⟨rfl, ?_, HB4.out⟩
            have h := HI2.out
            rw [if_neg (by rw [hcb]; decide)] at h
            rw [← HR.out, h]
            rfl
        · have hnx := fun (ty : TypeId) => run_next_end_at (P := Tryz.prog) wr w1.heap.size s pos ty hk hp
          have hd : s.data.toList.drop pos = [] := List.drop_eq_nil_of_le (by rw [← Lib.size_eq]; omega)
          have hn : badU s.size s.data.toList 0 = none := by
            rw [HI.out, hd]
            cases gk <;> rfl
          have HN := Lib.hid hn
          clear hk hbw hd hn
          go_wp2
          go_end0
          exact ⟨by rw [← HR.out, HN.out]; rfl, HBW.out⟩
end Go.Proofs.YtjohfljkhlkjoaaGreatDoor

namespace Go.Proofs.YtjohfljkhlkjoaaGreatDoor
open Go.RowKit Wb
theorem ba_eq (s : ByteArray) : (⟨s.data.toList.toArray⟩ : ByteArray) = s := by cases s; simp
theorem ba_len (l : List UInt8) : (⟨l.toArray⟩ : ByteArray).size = l.length := by rw [Lib.size_eq]
theorem pre_dec (p : List UInt8) (l : List UInt8) (n : Nat) (hn : p.length = n) : Lib.hasPrefix l p = decide (l.take n = p) := by
  subst hn
  rw [show Lib.hasPrefix l p = p.isPrefixOf l from rfl, pre_take]
theorem head_ba {c : UInt8} {q : List UInt8} {z : ByteArray} (hz : z.data.toList = c :: q) : ∃ h : 0 < z.size, z[0] = c := by
  have h0 : 0 < z.size := by rw [Lib.size_eq, hz]; simp
  refine ⟨h0, ?_⟩
  have h := Lib.data_getElem? z 0 h0
  rw [hz] at h
  exact (Option.some.inj h).symm
def ToldOut (r : List UInt8 × List UInt8) (w : World) (e : Ending) (w' : World) : Prop := e = .returned (.tuple #[.string ⟨r.1.toArray⟩, .string ⟨r.2.toArray⟩]) ∧ Below w.heap.size w w'
set_option maxRecDepth 100000 in
set_option maxHeartbeats 2000000 in
theorem told_any (s name other : ByteArray) (w : World) (hG : Gv w) (hs : s.size ≤ 1000000) :
    Calls Tryz.prog 88 #[.string s, .string name, .string other] w fun e w' => ToldOut (toldX s.data.toList name.data.toList other.data.toList) w e w' := by
  obtain ⟨r, hr⟩ : ∃ r, toldX s.data.toList name.data.toList other.data.toList = r := ⟨_, rfl⟩
  rw [hr]
  unfold toldX at hr
  simp only at hr
  have back : r = (other.data.toList, s.data.toList) → ToldOut r w (.returned (.tuple #[.string other, .string s])) w := by
    intro e
    subst e
    exact ⟨by rw [ba_eq, ba_eq], Below.refl _ _⟩
  have hsk := skip_any s w (by omega)
  obtain ⟨z1, hz1⟩ : ∃ z : ByteArray, (⟨(s.data.toList.dropWhile blkB).toArray⟩ : ByteArray) = z := ⟨_, rfl⟩
  have hl1 : z1.data.toList = s.data.toList.dropWhile blkB := by rw [← hz1]
  rw [hz1] at hsk
  rw [← hl1] at hr
  have hz1s : z1.size ≤ s.size := by
    rw [Lib.size_eq, Lib.size_eq, hl1]
    exact (List.dropWhile_sublist _).length_le
  clear hl1 hz1
  by_cases e1 : z1.data.toList.length = s.data.toList.length
  · rw [if_pos e1] at hr
    have g1 : ((z1.size : Int) == (s.size : Int)) = true := beq_iff_eq.2 (by rw [Lib.size_eq, Lib.size_eq]; omega)
    have HB := Lib.hid (back hr.symm)
    clear back hr e1
    go_enter Tryz.func88, Tryz.ntmps88
    go_wp2_with fail
    refine hsk.mono ?_
    rintro e w1 ⟨rfl, rfl⟩
    go_wp2
    go_ret2
    exact HB.out
  · rw [if_neg e1] at hr
    have g1 : ((z1.size : Int) == (s.size : Int)) = false := beq_eq_false_iff_ne.2 (by rw [Lib.size_eq, Lib.size_eq]; omega)
    clear e1
    by_cases e2 : z1.data.toList.take name.data.toList.length = name.data.toList
    · rw [if_neg (fun h => h e2)] at hr
      have hcp := cutpre_any z1 name w true (by rw [pre_dec _ _ _ rfl, decide_eq_true e2])
      rw [if_pos rfl, Lib.size_eq name] at hcp
      obtain ⟨z2, hz2⟩ : ∃ z : ByteArray, (⟨(z1.data.toList.drop name.data.toList.length).toArray⟩ : ByteArray) = z := ⟨_, rfl⟩
      have hl2 : z2.data.toList = z1.data.toList.drop name.data.toList.length := by rw [← hz2]
      rw [hz2] at hcp
      rw [← hl2] at hr
      have hz2s : z2.size ≤ z1.size := by rw [Lib.size_eq, Lib.size_eq, hl2, List.length_drop]; omega
      clear hz2 hl2 e2
      have hsk2 := skip_any z2 w (by omega)
      obtain ⟨z3, hz3⟩ : ∃ z : ByteArray, (⟨(z2.data.toList.dropWhile blkB).toArray⟩ : ByteArray) = z := ⟨_, rfl⟩
      have hl3 : z3.data.toList = z2.data.toList.dropWhile blkB := by rw [← hz3]
      rw [hz3] at hsk2
      rw [← hl3] at hr
      have hz3s : z3.size ≤ z2.size := by
        rw [Lib.size_eq, Lib.size_eq, hl3]
        exact (List.dropWhile_sublist _).length_le
      clear hz3 hl3
      by_cases e3 : z3.data.toList.take 1 = [61]
      · rw [if_neg (fun h => h e3)] at hr
        have hcp3 := cutpre_any z3 ⟨#[61]⟩ w true (by rw [pre_dec _ _ 1 rfl, decide_eq_true e3])
        rw [if_pos rfl] at hcp3
        obtain ⟨z4, hz4⟩ : ∃ z : ByteArray, (⟨(z3.data.toList.drop 1).toArray⟩ : ByteArray) = z := ⟨_, rfl⟩
        have hl4 : z4.data.toList = z3.data.toList.drop 1 := by rw [← hz4]
        rw [show (⟨#[61]⟩ : ByteArray).size = 1 from rfl, hz4] at hcp3
        rw [← hl4] at hr
        have hz4s : z4.size ≤ z3.size := by rw [Lib.size_eq, Lib.size_eq, hl4, List.length_drop]; omega
        clear hz4 hl4 e3
        have hsk4 := skip_any z4 w (by omega)
        obtain ⟨z5, hz5⟩ : ∃ z : ByteArray, (⟨(z4.data.toList.dropWhile blkB).toArray⟩ : ByteArray) = z := ⟨_, rfl⟩
        have hl5 : z5.data.toList = z4.data.toList.dropWhile blkB := by rw [← hz5]
        rw [hz5] at hsk4
        rw [← hl5] at hr
        have hz5s : z5.size ≤ z4.size := by
          rw [Lib.size_eq, Lib.size_eq, hl5]
          exact (List.dropWhile_sublist _).length_le
        clear hz5 hl5
        have HS := Lib.hid (And.intro hsk (And.intro hcp (And.intro hsk2 (And.intro hcp3 hsk4))))
        clear hsk hcp hsk2 hcp3 hsk4
        cases h5 : z5.data.toList with
        | nil =>
          rw [h5] at hr
          have z50 : z5.toList = [] := by rw [ByteArray.toList_eq]; exact h5
          have z51 : z5.toList.isEmpty = true := by rw [ByteArray.toList_eq, h5]; rfl
          have HB := Lib.hid (back hr.symm)
          clear back hr h5
          go_enter Tryz.func88, Tryz.ntmps88
          go_wp2_with fail
          refine HS.out.1.mono ?_
          rintro e w1 ⟨rfl, rfl⟩
          go_wp2_with fail
          refine HS.out.2.1.mono ?_
          rintro e w2 ⟨rfl, rfl⟩
          go_wp2_with fail
          refine HS.out.2.2.1.mono ?_
          rintro e w3 ⟨rfl, rfl⟩
          go_wp2_with fail
          refine HS.out.2.2.2.1.mono ?_
          rintro e w4 ⟨rfl, rfl⟩
          go_wp2_with fail
          refine HS.out.2.2.2.2.mono ?_
          rintro e w5 ⟨rfl, rfl⟩
          go_wp2
          go_ret2
          exact HB.out
        | cons q r3 =>
          rw [h5] at hr
          simp only at hr
          obtain ⟨h50, q0⟩ := head_ba h5
          have z50 : ¬ z5.toList = [] := by rw [ByteArray.toList_eq, h5]; simp
          have z51 : z5.toList.isEmpty = false := by rw [ByteArray.toList_eq, h5]; rfl
          by_cases hq : q = 34 ∨ q = 39
          · rw [if_pos hq] at hr
            rcases hq with rfl | rfl
            · have n34 : (((34 : UInt8).toNat : Int) != 34) = false := by decide
              have hq := True.intro
              have hyl : (z5.extract 1 z5.size).data.toList = r3 := by
                rw [extract_L, h5, List.take_of_length_le (by rw [Lib.size_eq, h5]; simp)]
                rfl
              have hpl : (z5.extract 0 1).data.toList = [34] := by rw [extract_L, h5]; rfl
              have hct := scut_any (z5.extract 1 z5.size) (z5.extract 0 1) w.drew hG.drew (by simp; omega)
              rw [hyl, hpl] at hct
              have y1 : (1 : Int) ≤ (z5.size : Int) := by omega
              rcases cut_until [34] (by simp) r3 with ⟨h1, h2⟩ | ⟨n, v, h1, h2, hnn, hnl⟩
              · rw [h1] at hr
                rw [h2] at hct
                have HB := Lib.hid (back hr.symm)
                clear back hr h5 h1 h2 hyl hpl hq
                go_enter Tryz.func88, Tryz.ntmps88
                go_wp2_with fail
                refine HS.out.1.mono ?_
                rintro e w1 ⟨rfl, rfl⟩
                go_wp2_with fail
                refine HS.out.2.1.mono ?_
                rintro e w2 ⟨rfl, rfl⟩
                go_wp2_with fail
                refine HS.out.2.2.1.mono ?_
                rintro e w3 ⟨rfl, rfl⟩
                go_wp2_with fail
                refine HS.out.2.2.2.1.mono ?_
                rintro e w4 ⟨rfl, rfl⟩
                go_wp2_with fail
                refine HS.out.2.2.2.2.mono ?_
                rintro e w5 ⟨rfl, rfl⟩
                go_wp2_with fail
                go_region_law (first
                  | (go_simp; go_at_call 125; refine hct.mono ?_; rintro e w6 ⟨rfl, m, rfl⟩))
                go_wp2
                go_ret2
                exact ⟨HB.out.1, ⟨rfl, rfl, rfl, Nat.le_refl _, fun _ _ => rfl⟩⟩
              · rw [h1] at hr
                simp only at hr
                rw [h2] at hct
                clear back h5 h1 h2 hyl hpl hq hnn hnl
                have HR := Lib.hid hr
                clear hr
                go_enter Tryz.func88, Tryz.ntmps88
                go_wp2_with fail
                refine HS.out.1.mono ?_
                rintro e w1 ⟨rfl, rfl⟩
                go_wp2_with fail
                refine HS.out.2.1.mono ?_
                rintro e w2 ⟨rfl, rfl⟩
                go_wp2_with fail
                refine HS.out.2.2.1.mono ?_
                rintro e w3 ⟨rfl, rfl⟩
                go_wp2_with fail
                refine HS.out.2.2.2.1.mono ?_
                rintro e w4 ⟨rfl, rfl⟩
                go_wp2_with fail
                refine HS.out.2.2.2.2.mono ?_
                rintro e w5 ⟨rfl, rfl⟩
                go_wp2_with fail
                go_region_law (first
                  | (go_simp; go_at_call 125; refine hct.mono ?_; rintro e w6 ⟨rfl, m, rfl⟩))
                go_wp2
                go_ret2
                refine ⟨?_, ⟨rfl, rfl, rfl, Nat.le_refl _, fun _ _ => rfl⟩⟩
                rw [← HR.out]
                rfl
            · have n34 : (((39 : UInt8).toNat : Int) != 34) = true := by decide
              have n39 : (((39 : UInt8).toNat : Int) != 39) = false := by decide
              have hq := True.intro
              have hyl : (z5.extract 1 z5.size).data.toList = r3 := by
                rw [extract_L, h5, List.take_of_length_le (by rw [Lib.size_eq, h5]; simp)]
                rfl
              have hpl : (z5.extract 0 1).data.toList = [39] := by rw [extract_L, h5]; rfl
              have hct := scut_any (z5.extract 1 z5.size) (z5.extract 0 1) w.drew hG.drew (by simp; omega)
              rw [hyl, hpl] at hct
              have y1 : (1 : Int) ≤ (z5.size : Int) := by omega
              rcases cut_until [39] (by simp) r3 with ⟨h1, h2⟩ | ⟨n, v, h1, h2, hnn, hnl⟩
              · rw [h1] at hr
                rw [h2] at hct
                have HB := Lib.hid (back hr.symm)
                clear back hr h5 h1 h2 hyl hpl hq
                go_enter Tryz.func88, Tryz.ntmps88
                go_wp2_with fail
                refine HS.out.1.mono ?_
                rintro e w1 ⟨rfl, rfl⟩
                go_wp2_with fail
                refine HS.out.2.1.mono ?_
                rintro e w2 ⟨rfl, rfl⟩
                go_wp2_with fail
                refine HS.out.2.2.1.mono ?_
                rintro e w3 ⟨rfl, rfl⟩
                go_wp2_with fail
                refine HS.out.2.2.2.1.mono ?_
                rintro e w4 ⟨rfl, rfl⟩
                go_wp2_with fail
                refine HS.out.2.2.2.2.mono ?_
                rintro e w5 ⟨rfl, rfl⟩
                go_wp2_with fail
                go_region_law (first
                  | (go_simp; go_at_call 125; refine hct.mono ?_; rintro e w6 ⟨rfl, m, rfl⟩))
                go_wp2
                go_ret2
                exact ⟨HB.out.1, ⟨rfl, rfl, rfl, Nat.le_refl _, fun _ _ => rfl⟩⟩
              · rw [h1] at hr
                simp only at hr
                rw [h2] at hct
                clear back h5 h1 h2 hyl hpl hq hnn hnl
                have HR := Lib.hid hr
                clear hr
                go_enter Tryz.func88, Tryz.ntmps88
                go_wp2_with fail
                refine HS.out.1.mono ?_
                rintro e w1 ⟨rfl, rfl⟩
                go_wp2_with fail
                refine HS.out.2.1.mono ?_
                rintro e w2 ⟨rfl, rfl⟩
                go_wp2_with fail
                refine HS.out.2.2.1.mono ?_
                rintro e w3 ⟨rfl, rfl⟩
                go_wp2_with fail
                refine HS.out.2.2.2.1.mono ?_
                rintro e w4 ⟨rfl, rfl⟩
                go_wp2_with fail
                refine HS.out.2.2.2.2.mono ?_
                rintro e w5 ⟨rfl, rfl⟩
                go_wp2_with fail
                go_region_law (first
                  | (go_simp; go_at_call 125; refine hct.mono ?_; rintro e w6 ⟨rfl, m, rfl⟩))
                go_wp2
                go_ret2
                refine ⟨?_, ⟨rfl, rfl, rfl, Nat.le_refl _, fun _ _ => rfl⟩⟩
                rw [← HR.out]
                rfl
          · rw [if_neg hq] at hr
            have n34 : ((q.toNat : Int) != 34) = true := by
              simp only [bne_iff_ne, ne_eq]
              intro e
              exact hq (.inl (UInt8.toNat_inj.1 (by simpa using (by omega : q.toNat = 34))))
            have n39 : ((q.toNat : Int) != 39) = true := by
              simp only [bne_iff_ne, ne_eq]
              intro e
              exact hq (.inr (UInt8.toNat_inj.1 (by simpa using (by omega : q.toNat = 39))))
            have HB := Lib.hid (back hr.symm)
            clear back hr h5 hq
            go_enter Tryz.func88, Tryz.ntmps88
            go_wp2_with fail
            refine HS.out.1.mono ?_
            rintro e w1 ⟨rfl, rfl⟩
            go_wp2_with fail
            refine HS.out.2.1.mono ?_
            rintro e w2 ⟨rfl, rfl⟩
            go_wp2_with fail
            refine HS.out.2.2.1.mono ?_
            rintro e w3 ⟨rfl, rfl⟩
            go_wp2_with fail
            refine HS.out.2.2.2.1.mono ?_
            rintro e w4 ⟨rfl, rfl⟩
            go_wp2_with fail
            refine HS.out.2.2.2.2.mono ?_
            rintro e w5 ⟨rfl, rfl⟩
            go_wp2
            go_ret2
            exact HB.out
      · rw [if_pos e3] at hr
        have hcp3 := cutpre_any z3 ⟨#[61]⟩ w false (by rw [pre_dec _ _ 1 rfl, decide_eq_false e3])
        rw [if_neg (by decide), ba_eq] at hcp3
        have hsk4 := skip_any z3 w (by omega)
        obtain ⟨z5, hz5⟩ : ∃ z : ByteArray, (⟨(z3.data.toList.dropWhile blkB).toArray⟩ : ByteArray) = z := ⟨_, rfl⟩
        rw [hz5] at hsk4
        have HS := Lib.hid (And.intro hsk (And.intro hcp (And.intro hsk2 (And.intro hcp3 hsk4))))
        have HB := Lib.hid (back hr.symm)
        clear hsk hcp hsk2 hcp3 hsk4 back hr e3 hz5
        go_enter Tryz.func88, Tryz.ntmps88
        go_wp2_with fail
        refine HS.out.1.mono ?_
        rintro e w1 ⟨rfl, rfl⟩
        go_wp2_with fail
        refine HS.out.2.1.mono ?_
        rintro e w2 ⟨rfl, rfl⟩
        go_wp2_with fail
        refine HS.out.2.2.1.mono ?_
        rintro e w3 ⟨rfl, rfl⟩
        go_wp2_with fail
        refine HS.out.2.2.2.1.mono ?_
        rintro e w4 ⟨rfl, rfl⟩
        go_wp2_with fail
        refine HS.out.2.2.2.2.mono ?_
        rintro e w5 ⟨rfl, rfl⟩
        go_wp2
        go_ret2
        exact HB.out
    · rw [if_pos e2] at hr
      have hcp := cutpre_any z1 name w false (by rw [pre_dec _ _ _ rfl, decide_eq_false e2])
      rw [if_neg (by decide), ba_eq] at hcp
      have HB := Lib.hid (back hr.symm)
      clear back hr e2
      go_enter Tryz.func88, Tryz.ntmps88
      go_wp2_with fail
      refine hsk.mono ?_
      rintro e w1 ⟨rfl, rfl⟩
      go_wp2_with fail
      refine hcp.mono ?_
      rintro e w2 ⟨rfl, rfl⟩
      go_wp2
      go_ret2
      exact HB.out
end Go.Proofs.YtjohfljkhlkjoaaGreatDoor

namespace Go.Proofs.YtjohfljkhlkjoaaGreatDoor
open Go.RowKit Wb
theorem toldX_len (s name other : List UInt8) (ho : other.length ≤ 10) : (toldX s name other).1.length ≤ s.length + 10 ∧ (toldX s name other).2.length ≤ s.length := by
  have hd : ∀ l : List UInt8, (l.dropWhile blkB).length ≤ l.length := fun l => (List.dropWhile_sublist _).length_le
  have h0 := hd s
  have h1 := hd ((s.dropWhile blkB).drop name.length)
  have h2 := hd ((((s.dropWhile blkB).drop name.length).dropWhile blkB).drop 1)
  unfold toldX
  simp only
  repeat' split
  all_goals try (constructor <;> (simp only [List.length_drop] at *; omega))
  rename_i q r3 hq _ _ n v hu
  have hu' := untilR_le hu
  rw [hq] at h2
  simp only [List.length_cons, List.length_drop] at *
  constructor
  · omega
  · omega
theorem told_b (s name other : ByteArray) (w : World) (hG : Gv w) (hs : s.size ≤ 1000000) :
    ∃ (v y : ByteArray), toldX s.data.toList name.data.toList other.data.toList = (v.data.toList, y.data.toList) ∧ Calls Tryz.prog 88 #[.string s, .string name, .string other] w fun e w' => e = .returned (.tuple #[.string v, .string y]) ∧ Below w.heap.size w w' :=
  ⟨⟨(toldX s.data.toList name.data.toList other.data.toList).1.toArray⟩, ⟨(toldX s.data.toList name.data.toList other.data.toList).2.toArray⟩, rfl, told_any s name other w hG hs⟩
set_option maxRecDepth 100000 in
set_option maxHeartbeats 2000000 in
theorem declaration_any (D : Nat) (s : ByteArray) (w : World) (h : DocW w D s 0 0) (hG : Gv w) (hs : s.size ≤ 900000) :
    Calls Tryz.prog 55 #[.pointer (some ⟨D, 0, none⟩)] w fun e w' => UnitOut D s 0 (declX s.data.toList) w e w' := by
  obtain ⟨r, hr⟩ : ∃ r, declX s.data.toList = r := ⟨_, rfl⟩
  rw [hr]
  unfold declX at hr
  simp only at hr
  have c0 := h.c0
  have back : r = .ok 0 → UnitOut D s 0 r w (.returned (.tuple #[])) w := fun e => by subst e; exact ⟨Keeps.refl D w, rfl, h⟩
  have HD := Lib.hid h
  clear h
  by_cases e1 : s.data.toList.take 5 = [60, 63, 120, 109, 108]
  · have hcp := cutpre_any s ⟨#[60, 63, 120, 109, 108]⟩ w true (by rw [pre_dec _ _ 5 rfl, decide_eq_true e1])
    rw [if_pos rfl] at hcp
    obtain ⟨y, hy⟩ : ∃ z : ByteArray, (⟨(s.data.toList.drop 5).toArray⟩ : ByteArray) = z := ⟨_, rfl⟩
    have hyl : y.data.toList = s.data.toList.drop 5 := by rw [← hy]
    rw [show (⟨#[60, 63, 120, 109, 108]⟩ : ByteArray).size = 5 from rfl, hy] at hcp
    rw [← hyl] at hr
    have hys : y.size ≤ 900000 := by
      rw [Lib.size_eq, hyl, List.length_drop, ← Lib.size_eq]; omega
    have hysz : y.size ≤ s.size := by
      rw [Lib.size_eq, Lib.size_eq, hyl, List.length_drop]; omega
    clear hy hyl
    cases hyd : y.data.toList with
    | nil =>
      rw [hyd, if_neg (by simp)] at hr
      have z0 : y.toList = [] := by rw [ByteArray.toList_eq]; exact hyd
      have z1 : y.toList.isEmpty = true := by rw [ByteArray.toList_eq, hyd]; rfl
      have HB := Lib.hid (back hr.symm)
      clear back hr e1 hyd
      go_enter Tryz.func55, Tryz.ntmps55
      go_wp2_with fail
      refine hcp.mono ?_
      rintro e w1 ⟨rfl, rfl⟩
      go_wp2
      go_end0
      exact HB.out
    | cons c q =>
      obtain ⟨h00, y0⟩ := head_ba hyd
      have z0 : ¬ y.toList = [] := by rw [ByteArray.toList_eq, hyd]; simp
      have z1 : y.toList.isEmpty = false := by rw [ByteArray.toList_eq, hyd]; rfl
      have hbl := blankC c w
      cases hbc : blkB c with
      | false =>
        rw [hyd, if_neg (by simp [hbc])] at hr
        have HB := Lib.hid (back hr.symm)
        rw [hbc] at hbl
        clear back hr e1 hyd hbc
        go_enter Tryz.func55, Tryz.ntmps55
        go_wp2_with fail
        refine hcp.mono ?_
        rintro e w1 ⟨rfl, rfl⟩
        go_wp2_with fail
        refine hbl.mono ?_
        rintro e w1 ⟨rfl, rfl⟩
        go_wp2
        go_end0
        exact HB.out
      | true =>
        rw [if_pos ⟨e1, by rw [hyd]; simp [hbc]⟩] at hr
        rw [hbc] at hbl
        obtain ⟨v1, y1, ht1, hc1⟩ := told_b y ⟨#[118, 101, 114, 115, 105, 111, 110]⟩ ⟨#[]⟩ w hG (by omega)
        change toldX y.data.toList sVersion [] = _ at ht1
        have l1 := toldX_len y.data.toList sVersion [] (by simp)
        rw [ht1] at hr l1
        simp only at hr l1
        rw [← Lib.size_eq, ← Lib.size_eq, ← Lib.size_eq] at l1
        have HT2 := Lib.hid fun w2 (hg : Gv w2) => told_b y1 ⟨#[101, 110, 99, 111, 100, 105, 110, 103]⟩ ⟨#[117, 116, 102, 45, 56]⟩ w2 hg (by omega)
        have HR := Lib.hid hr
        clear back hr e1 hyd hbc ht1
        go_enter Tryz.func55, Tryz.ntmps55
        go_wp2_with fail
        refine hcp.mono ?_
        rintro e w1 ⟨rfl, rfl⟩
        go_wp2_with fail
        refine hbl.mono ?_
        rintro e w1 ⟨rfl, rfl⟩
        go_wp2_with fail
        refine hc1.mono ?_
        rintro e w2 ⟨rfl, hb2⟩
        have HK := Lib.hid hb2
        have hG2 := hG.next hb2
        obtain ⟨v2, y2, ht2, hc2⟩ := HT2.out w2 hG2
        change toldX y1.data.toList sEncoding sUtf8 = _ at ht2
        have l2 := toldX_len y1.data.toList sEncoding sUtf8 (by decide)
        have hr := HR.out
        rw [ht2] at hr l2
        simp only at hr l2
        rw [← Lib.size_eq, ← Lib.size_eq, ← Lib.size_eq] at l2
        have HR := Lib.hid hr
        clear hr ht2 HT2 hc1 hbl hcp hb2
        go_wp2_with fail
        refine hc2.mono ?_
        rintro e w3 ⟨rfl, hb3⟩
        have HK := Lib.hid (HK.out.trans (hb3.mono HK.out.size))
        have hG3 := hG2.next hb3
        obtain ⟨v3, y3, ht3, hc3⟩ := told_b y2 ⟨#[115, 116, 97, 110, 100, 97, 108, 111, 110, 101]⟩ ⟨#[110, 111]⟩ w3 hG3 (by omega)
        change toldX y2.data.toList sStandalone sNo = _ at ht3
        have l3 := toldX_len y2.data.toList sStandalone sNo (by decide)
        have hr := HR.out
        rw [ht3] at hr l3
        simp only at hr l3
        rw [← Lib.size_eq, ← Lib.size_eq, ← Lib.size_eq] at l3
        have HR := Lib.hid hr
        clear hr ht3 hc2 hb3
        go_wp2_with fail
        refine hc3.mono ?_
        rintro e w4 ⟨rfl, hb4⟩
        have HK := Lib.hid (HK.out.trans (hb4.mono HK.out.size))
        have hG4 := hG3.next hb4
        have hd4 := HD.out.below HK.out
        have hsk := skip_any y3 w4 (by omega)
        obtain ⟨z, hz⟩ : ∃ z : ByteArray, (⟨(y3.data.toList.dropWhile blkB).toArray⟩ : ByteArray) = z := ⟨_, rfl⟩
        have hzl : z.data.toList = y3.data.toList.dropWhile blkB := by rw [← hz]
        have hr := HR.out
        rw [hz] at hsk
        rw [← hzl] at hr
        have hzs : z.size ≤ y3.size := by
          rw [Lib.size_eq, Lib.size_eq, hzl]
          exact (List.dropWhile_sublist _).length_le
        have bad : r = .error (0, 4) → ∀ w', Keeps D w w' → UnitOut D s 0 r w (.panicked [flt 0 4]) w' := fun e w' hk => by rw [e]; exact ⟨hk, rfl⟩
        have HC := Lib.hid hd4
        have c04 := hd4.c0
        have c24 := hd4.c2
        have f24 := hd4.f 2
        clear hd4 hz hzl HR hc3 hb4 c0
        obtain ⟨bc, hbc⟩ : ∃ b, decide (z.data.toList.take 2 = [63, 62]) = b := ⟨_, rfl⟩
        have hcz := cutpre_any z ⟨#[63, 62]⟩ w4 bc (by rw [pre_dec _ _ 2 rfl, hbc])
        obtain ⟨zz, hzz⟩ : ∃ zz : ByteArray, (⟨(if bc = true then z.data.toList.drop (⟨#[63, 62]⟩ : ByteArray).size else z.data.toList).toArray⟩ : ByteArray) = zz := ⟨_, rfl⟩
        rw [hzz] at hcz
        have HZZ := Lib.hid hzz
        have HBC := Lib.hid hbc
        have HR := Lib.hid hr
        clear hzz hbc hr
        go_wp2_with fail
        refine hsk.mono ?_
        rintro e w5 ⟨rfl, rfl⟩
        go_wp2_with fail
        refine hcz.mono ?_
        rintro e w6 ⟨rfl, rfl⟩
        clear hsk hcz
        by_cases hv : v1.data.toList = sOne
        · have g1 : v1.toList = [49, 46, 48] := by rw [ByteArray.toList_eq]; exact hv
          have hef := eqf_any v2 ⟨#[117, 116, 102, 45, 56]⟩ w4 hG4 (by omega) (by decide) (by decide)
          change Calls _ _ _ _ (fun e w' => e = .returned (.bool (decide (lowL v2.data.toList = sUtf8))) ∧ Below w4.heap.size w4 w') at hef
          by_cases he : lowL v2.data.toList = sUtf8
          · rw [decide_eq_true he] at hef
            go_wp2_with fail
            refine hef.mono ?_
            rintro e w7 ⟨rfl, hb7⟩
            replace HK := Lib.hid (HK.out.trans (hb7.mono HK.out.size))
            replace HC := Lib.hid (HC.out.below hb7)
            clear hb7 hef c04 c24 f24
            have hD7 := HC.out
            have c07 := hD7.c0
            have c27 := hD7.c2
            have f27 := hD7.f 2
            by_cases ha : v3.data.toList = sYes
            · have g2 : v3.toList = [121, 101, 115] := by rw [ByteArray.toList_eq]; exact ha
              cases bc with
              | true =>
                have hr := HR.out
                have h4 := of_decide_eq_true HBC.out
                rw [if_pos ⟨hv, he, .inl ha, h4⟩] at hr
                have hzz := HZZ.out
                rw [if_pos rfl] at hzz
                have hzs2 : zz.size = z.data.toList.length - 2 := by rw [← hzz, ba_len, List.length_drop]; rfl
                have hzl : z.data.toList.length = z.size := (Lib.size_eq z).symm
                have g7 : (zz.size : Int) ≤ 900000 := by omega
                have g8 : (s.size : Int) ≤ 900000 := by omega
                have HW := Lib.hid (show (s.size : Int) - (zz.size : Int) = ((s.data.toList.length - (z.data.toList.length - 2) : Nat) : Int) by rw [← Lib.size_eq s]; omega)
                have HR3 := Lib.hid hr
                clear hr hzz h4 hzs2 hzl bad
                go_wp2
                go_end0
                rw [← HR3.out]
                exact ⟨(Keeps.of_below HK.out).setCell 2 _, rfl, HC.out.set2' HW.out⟩
              | false =>
                have hr := HR.out
                have h4 := of_decide_eq_false HBC.out
                rw [if_neg (fun h => h4 h.2.2.2)] at hr
                clear h4
                have HB := Lib.hid (bad hr.symm)
                clear bad hr
                go_wp2_with fail
                refine (fail_any 0 4 _).mono ?_
                rintro e w8 ⟨rfl, rfl⟩
                exact ⟨rfl, HB.out _ (Keeps.of_below HK.out)⟩
            · have g2 : ¬ v3.toList = [121, 101, 115] := by rw [ByteArray.toList_eq]; exact ha
              by_cases hn : v3.data.toList = sNo
              · have g3 : v3.toList = [110, 111] := by rw [ByteArray.toList_eq]; exact hn
                cases bc with
                | true =>
                  have hr := HR.out
                  have h4 := of_decide_eq_true HBC.out
                  rw [if_pos ⟨hv, he, .inr hn, h4⟩] at hr
                  have hzz := HZZ.out
                  rw [if_pos rfl] at hzz
                  have hzs2 : zz.size = z.data.toList.length - 2 := by rw [← hzz, ba_len, List.length_drop]; rfl
                  have hzl : z.data.toList.length = z.size := (Lib.size_eq z).symm
                  have g7 : (zz.size : Int) ≤ 900000 := by omega
                  have g8 : (s.size : Int) ≤ 900000 := by omega
                  have HW := Lib.hid (show (s.size : Int) - (zz.size : Int) = ((s.data.toList.length - (z.data.toList.length - 2) : Nat) : Int) by rw [← Lib.size_eq s]; omega)
                  have HR3 := Lib.hid hr
                  clear hr hzz h4 hzs2 hzl bad
                  go_wp2
                  go_end0
                  rw [← HR3.out]
                  exact ⟨(Keeps.of_below HK.out).setCell 2 _, rfl, HC.out.set2' HW.out⟩
                | false =>
                  have hr := HR.out
                  have h4 := of_decide_eq_false HBC.out
                  rw [if_neg (fun h => h4 h.2.2.2)] at hr
                  clear h4
                  have HB := Lib.hid (bad hr.symm)
                  clear bad hr
                  go_wp2_with fail
                  refine (fail_any 0 4 _).mono ?_
                  rintro e w8 ⟨rfl, rfl⟩
                  exact ⟨rfl, HB.out _ (Keeps.of_below HK.out)⟩
              · have g3 : ¬ v3.toList = [110, 111] := by rw [ByteArray.toList_eq]; exact hn
                have hr := HR.out
                rw [if_neg (fun h => h.2.2.1.elim ha hn)] at hr
                have HB := Lib.hid (bad hr.symm)
                clear bad hr
                go_wp2_with fail
                refine (fail_any 0 4 _).mono ?_
                rintro e w8 ⟨rfl, rfl⟩
                exact ⟨rfl, HB.out _ (Keeps.of_below HK.out)⟩
          · rw [decide_eq_false he] at hef
            have hr := HR.out
            rw [if_neg (fun h => he h.2.1)] at hr
            have HB := Lib.hid (bad hr.symm)
            clear bad hr he
            go_wp2_with fail
            refine hef.mono ?_
            rintro e w7 ⟨rfl, hb7⟩
            replace HK := Lib.hid (HK.out.trans (hb7.mono HK.out.size))
            clear hb7 hef c04 c24 f24
            go_wp2_with fail
            refine (fail_any 0 4 _).mono ?_
            rintro e w8 ⟨rfl, rfl⟩
            exact ⟨rfl, HB.out _ (Keeps.of_below HK.out)⟩
        · have g1 : ¬ v1.toList = [49, 46, 48] := by rw [ByteArray.toList_eq]; exact hv
          have hr := HR.out
          rw [if_neg (fun h => hv h.1)] at hr
          have HB := Lib.hid (bad hr.symm)
          clear bad hr hv
          go_wp2_with fail
          refine (fail_any 0 4 _).mono ?_
          rintro e w8 ⟨rfl, rfl⟩
          exact ⟨rfl, HB.out _ (Keeps.of_below HK.out)⟩
  · have hcp := cutpre_any s ⟨#[60, 63, 120, 109, 108]⟩ w false (by rw [pre_dec _ _ 5 rfl, decide_eq_false e1])
    rw [if_neg (by decide), ba_eq] at hcp
    rw [if_neg (fun h => e1 h.1)] at hr
    have HB := Lib.hid (back hr.symm)
    clear back hr e1
    go_enter Tryz.func55, Tryz.ntmps55
    go_wp2_with fail
    refine hcp.mono ?_
    rintro e w1 ⟨rfl, rfl⟩
    go_wp2
    go_end0
    exact HB.out
end Go.Proofs.YtjohfljkhlkjoaaGreatDoor

namespace Go.Proofs.YtjohfljkhlkjoaaGreatDoor
open Go.RowKit Wb
theorem upToX_ge {L : List UInt8} {fr at_ : Nat} {p v : List UInt8} {a : Nat} (hp : p ≠ []) (h : upToX L fr at_ p = .ok (v, a)) : at_ < a ∧ a ≤ L.length := by
  unfold upToX at h
  rcases cut_until p hp (L.drop at_) with ⟨h1, _⟩ | ⟨n, v', h1, _, h3, h4⟩
  · rw [h1] at h; cases h
  · rw [h1] at h
    simp only [Except.ok.injEq, Prod.mk.injEq] at h
    have := List.length_pos_iff.2 hp
    rw [List.length_drop] at h4
    omega
theorem takeX_ge {L : List UInt8} {fr at_ : Nat} {c : UInt8} {a : Nat} (h : takeX L fr at_ c = .ok a) : at_ < a ∧ a ≤ L.length := by
  unfold takeX at h
  split at h
  · cases h
  · rename_i hl
    have := drop_cons_len hl
    split at h
    · simp only [Except.ok.injEq] at h; omega
    · cases h
theorem valueX_ge {L : List UInt8} {fr at_ : Nat} {v : List UInt8} {a : Nat} (h : valueX L fr at_ = .ok (v, a)) : at_ < a := by
  unfold valueX at h
  repeat' split at h
  all_goals first | (cases h; done) | (simp only [Except.ok.injEq, Prod.mk.injEq] at h; omega)
theorem attributeX_ge {L : List UInt8} {fr at_ o : Nat} {ap : Bool} {nv : List UInt8 × List UInt8} {a : Nat} (h : attributeX L fr at_ o ap = .ok (nv, a)) : at_ < a := by
  unfold attributeX at h
  split at h
  · cases h
  · split at h
    · cases h
    · split at h
      · cases h
      · split at h
        · cases h
        · rename_i ht
          split at h
          · cases h
          · rename_i hv
            simp only [Except.ok.injEq, Prod.mk.injEq] at h
            have := valueX_ge hv
            have := (takeX_ge ht).1
            omega
theorem namedX_ge {L : List UInt8} {fr at_ : Nat} {x : List UInt8} {a : Nat} (h : namedX L fr at_ = .ok (x, a)) : at_ ≤ a := by
  unfold namedX at h
  split at h
  · cases h
  · split at h
    · cases h
    · simp only [Except.ok.injEq, Prod.mk.injEq] at h; omega
theorem attrsX_ge {L : List UInt8} {fr : Nat} : ∀ (f at_ : Nat) (acc : AL) (kl : Int × AL) (b : Nat), attrsX L fr f at_ acc = .ok (kl, b) → at_ < b ∧ b ≤ L.length
  | 0, at_, acc, kl, b, h => by cases h
  | f + 1, at_, acc, kl, b, h => by
    rw [attrsX_step] at h
    split at h
    · cases h
    · rename_i hl
      have hlen := drop_cons_len hl
      split at h
      · split at h
        · cases h
        · rename_i ht
          have := takeX_ge ht
          simp only [Except.ok.injEq, Prod.mk.injEq] at h
          omega
      · split at h
        · simp only [Except.ok.injEq, Prod.mk.injEq] at h
          omega
        · split at h
          · cases h
          · rename_i ha
            have := attributeX_ge ha
            have := attrsX_ge f _ _ _ _ h
            omega
theorem tokenU_ge {L : List UInt8} {fr : Nat} (hf : fr < L.length) {t : Option Tk} {a : Nat} (h : tokenU L fr = .ok (t, a)) : fr < a ∧ a ≤ L.length := by
  unfold tokenU at h
  simp only at h
  split at h
  · rename_i h60
    unfold someX at h
    split at h
    · cases h
    · rename_i t' a' ht
      simp only [Except.ok.injEq, Prod.mk.injEq] at h
      unfold textX at ht
      simp only at ht
      have hlen : 0 < ((L.drop fr).takeWhile (· != 60)).length := by
        cases hd : L.drop fr with
        | nil =>
          have := congrArg List.length hd
          rw [List.length_drop] at this
          simp at this
          omega
        | cons c q =>
          rw [hd] at h60
          rw [List.takeWhile_cons_of_pos (by simpa using h60)]
          simp
      have hle := tw_le (· != 60) (L.drop fr)
      rw [List.length_drop] at hle
      split at ht
      · split at ht <;> cases ht
      · split at ht
        · cases ht
        · simp only [Except.ok.injEq, Prod.mk.injEq] at ht
          omega
  · split at h
    · unfold noneX at h
      split at h
      · cases h
      · rename_i a' ht
        simp only [Except.ok.injEq, Prod.mk.injEq] at h
        unfold instructionU at ht
        simp only at ht
        split at ht
        · cases ht
        · split at ht
          · cases ht
          · split at ht
            · cases ht
            · rename_i hu
              have := upToX_ge (by simp) hu
              simp only [Except.ok.injEq] at ht
              omega
    · split at h
      · unfold noneX at h
        split at h
        · cases h
        · rename_i a' ht
          simp only [Except.ok.injEq, Prod.mk.injEq] at h
          unfold commentX at ht
          split at ht
          · cases ht
          · rename_i hu
            have := upToX_ge (by simp) hu
            split at ht
            · rename_i h62
              have h63 := congrArg List.length h62
              rw [List.length_take, List.length_drop] at h63
              simp only [List.length_cons, List.length_nil] at h63
              simp only [Except.ok.injEq] at ht
              omega
            · cases ht
      · split at h
        · unfold someX at h
          split at h
          · cases h
          · rename_i t' a' ht
            simp only [Except.ok.injEq, Prod.mk.injEq] at h
            unfold sectionX at ht
            split at ht
            · cases ht
            · rename_i hu
              have := upToX_ge (by simp) hu
              simp only [Except.ok.injEq, Prod.mk.injEq] at ht
              omega
        · split at h
          · cases h
          · split at h
            · cases h
            · split at h
              · unfold someX at h
                split at h
                · cases h
                · rename_i t' a' ht
                  simp only [Except.ok.injEq, Prod.mk.injEq] at h
                  unfold endTagX at ht
                  split at ht
                  · cases ht
                  · rename_i hn
                    have := namedX_ge hn
                    split at ht
                    · cases ht
                    · rename_i hk
                      have := takeX_ge hk
                      simp only [Except.ok.injEq, Prod.mk.injEq] at ht
                      omega
              · unfold someX at h
                split at h
                · cases h
                · rename_i t' a' ht
                  simp only [Except.ok.injEq, Prod.mk.injEq] at h
                  unfold startTagX at ht
                  split at ht
                  · cases ht
                  · rename_i hn
                    have := namedX_ge hn
                    split at ht
                    · cases ht
                    · rename_i hk
                      have := attrsX_ge _ _ _ _ _ hk
                      simp only [Except.ok.injEq, Prod.mk.injEq] at ht
                      omega
end Go.Proofs.YtjohfljkhlkjoaaGreatDoor

