
/- Contract: token. -/
import Derived.Test.YtflfnnkdkfcpkaaGreatDoorLeX
import Derived.Lib.OthersKept
namespace Go.Proofs.YtflfnnkdkfcpkaaGreatDoor
open Go.RowKit Wb

/-- What a method that makes a token answers, both ways. -/
def TokTwo (D : Nat) (s : ByteArray) (fr : Nat) (m : Er (Tk × Nat)) (w : World) (e : Ending) (w' : World) : Prop :=
  (∃ q c, m = .error (q, c) ∧ e = .panicked [flt q c] ∧ Keeps D w w') ∨
  (∃ k n l x a A cp, m = .ok ((k, n, l, x), a) ∧ e = .returned (.agg #[.int .i64 k, .int .i64 fr, .string ⟨n.toArray⟩, .slice A l.length cp, .string ⟨x.toArray⟩]) ∧ DocW w' D s fr a ∧ Keeps D w w' ∧
    Sl2 w' A (prs l) ∧ (∀ ad, A = some ad → w.heap.size ≤ ad.block) ∧ l.length ≤ 65)

theorem sec_two {D : Nat} {s : ByteArray} {fr : Nat} {m : Er (Tk × Nat)} {w : World} {e : Ending} {w' : World} (hm : ∀ k n l x a, m = .ok ((k, n, l, x), a) → k = 4 ∧ n = [] ∧ l = []) (h : SecPost D s fr m w e w') : TokTwo D s fr m w e w' := by
  obtain ⟨hk, he⟩ := h
  cases m with
  | error pe => obtain ⟨p, c⟩ := pe; exact .inl ⟨p, c, rfl, he, hk⟩
  | ok ta =>
    obtain ⟨⟨k, n, l, x⟩, a⟩ := ta
    obtain ⟨rfl, rfl, rfl⟩ := hm k n l x a rfl
    exact .inr ⟨4, [], [], x, a, none, 0, rfl, he.1, he.2, hk, Sl2.nil _ _, fun ad ha => (by cases ha), by simp⟩

theorem text_form {L : List UInt8} {fr : Nat} {k : Int} {n : List UInt8} {l : AL} {x : List UInt8} {a : Nat} (h : textX L fr = .ok ((k, n, l, x), a)) : k = 4 ∧ n = [] ∧ l = [] := by
  unfold textX at h
  simp only at h
  split at h
  · split at h <;> cases h
  · split at h
    · cases h
    · simp only [Except.ok.injEq, Prod.mk.injEq] at h
      exact ⟨h.1.1.symm, h.1.2.1.symm, h.1.2.2.1.symm⟩
theorem section_form {L : List UInt8} {fr : Nat} {k : Int} {n : List UInt8} {l : AL} {x : List UInt8} {a : Nat} (h : sectionX L fr = .ok ((k, n, l, x), a)) : k = 4 ∧ n = [] ∧ l = [] := by
  unfold sectionX at h
  split at h
  · cases h
  · simp only [Except.ok.injEq, Prod.mk.injEq] at h
    exact ⟨h.1.1.symm, h.1.2.1.symm, h.1.2.2.1.symm⟩
theorem end_two {D : Nat} {s : ByteArray} {fr : Nat} {w : World} {e : Ending} {w' : World} (h : EndPost D s fr w e w') : TokTwo D s fr (endTagX s.data.toList fr) w e w' := by
  obtain ⟨hk, he⟩ := h
  cases hm : endTagX s.data.toList fr with
  | error pe => obtain ⟨p, c⟩ := pe; rw [hm] at he; exact .inl ⟨p, c, rfl, he, hk⟩
  | ok ta =>
    obtain ⟨⟨k, n, l, x⟩, a⟩ := ta
    rw [hm] at he
    have hf : k = 2 ∧ l = [] ∧ x = [] := by
      unfold endTagX at hm
      split at hm
      · cases hm
      · split at hm
        · cases hm
        · simp only [Except.ok.injEq, Prod.mk.injEq] at hm
          exact ⟨hm.1.1.symm, hm.1.2.2.1.symm, hm.1.2.2.2.symm⟩
    obtain ⟨rfl, rfl, rfl⟩ := hf
    exact .inr ⟨2, n, [], [], a, none, 0, rfl, he.1, he.2, hk, Sl2.nil _ _, fun ad ha => (by cases ha), by simp⟩
theorem start_two {D : Nat} {s : ByteArray} {fr : Nat} {w : World} {e : Ending} {w' : World} (h : StartPost D s fr w e w') : TokTwo D s fr (startTagX s.data.toList fr) w e w' := by
  obtain ⟨hk, he⟩ := h
  cases hm : startTagX s.data.toList fr with
  | error pe => obtain ⟨p, c⟩ := pe; rw [hm] at he; exact .inl ⟨p, c, rfl, he, hk⟩
  | ok ta =>
    obtain ⟨⟨k, n, l, x⟩, a⟩ := ta
    rw [hm] at he
    have hf : x = [] := by
      unfold startTagX at hm
      split at hm
      · cases hm
      · split at hm
        · cases hm
        · simp only [Except.ok.injEq, Prod.mk.injEq] at hm
          exact hm.1.2.2.2.symm
    subst hf
    obtain ⟨⟨A, c, h1, h2, h3, h4⟩, h5⟩ := he
    exact .inr ⟨k, n, l, [], a, A, c, rfl, h1, h5, hk, h2, h3, h4⟩
theorem unit_two {D : Nat} {s : ByteArray} {fr : Nat} {m : Er Nat} {w : World} {e : Ending} {w' : World} (h : UnitOut D s fr m w e w') :
    (∃ q c, m = .error (q, c) ∧ e = .panicked [flt q c] ∧ Keeps D w w') ∨ (∃ a, m = .ok a ∧ e = .returned (.tuple #[]) ∧ DocW w' D s fr a ∧ Keeps D w w') := by
  obtain ⟨hk, he⟩ := h
  cases m with
  | error pe => obtain ⟨p, c⟩ := pe; exact .inl ⟨p, c, rfl, he, hk⟩
  | ok a => exact .inr ⟨a, rfl, he.1, he.2, hk⟩

/-- What token answers. -/
def TknOut (D : Nat) (s : ByteArray) (fr : Nat) (m : Er (Option Tk × Nat)) (w : World) (e : Ending) (w' : World) : Prop :=
  Keeps D w w' ∧ match m with
  | .error (q, c) => e = .panicked [flt q c]
  | .ok (none, a) => e = .returned (.tuple #[.agg (tokZ 0 0 ⟨#[]⟩ ⟨#[]⟩), .bool false]) ∧ DocW w' D s fr a
  | .ok (some (k, n, l, x), a) => (∃ A cp, e = .returned (.tuple #[.agg #[.int .i64 k, .int .i64 fr, .string ⟨n.toArray⟩, .slice A l.length cp, .string ⟨x.toArray⟩], .bool true]) ∧ Sl2 w' A (prs l) ∧ (∀ ad, A = some ad → w.heap.size ≤ ad.block) ∧ l.length ≤ 65) ∧ DocW w' D s fr a

theorem TknOut.err {D : Nat} {s : ByteArray} {fr : Nat} {r : Er (Option Tk × Nat)} {w w' : World} {q c : Nat} (hr : r = .error (q, c)) (hk : Keeps D w w') : TknOut D s fr r w (.panicked [flt q c]) w' := by
  rw [hr]; exact ⟨hk, rfl⟩

theorem results_row_tmp {P : Program} {fn : Func} {p u : Tmp} {ty : TypeId} (h : fn.results = #[.cell p ty, .tmp u]) (tmps : Array Value) (w : World) (g : Nat) (t : TypeId) (cs : Array Value) (fr : Nat × Nat) (d : TypeDesc)
    (hp : tmps.getD p undef = .pointer (some ⟨g, 0, none⟩)) (hg : w.heap[g]? = some (.cells cs t fr))
    (hu : P.underlying ty = some d) (hd : (match d with | .struct _ | .array _ _ => true | _ => false) = true) (hi : (P.info? ty).map (·.size) = some cs.size) :
    (results fn tmps).run P w = .ok (.tuple #[.agg cs, tmps.getD u undef]) w := by
  rw [results_cell_tmp h, hp]
  show ((loadVar ty ⟨g, 0, none⟩).run P w).andThen _ = _
  rw [run_loadVar_row w g t ty cs fr d hg hu hd hi]
  rfl

theorem Sl2.other {w : World} {A : Option Addr} {l : List Pr} (h : Sl2 w A l) {g : Nat} (hA : ∀ ad, A = some ad → ad.block ≠ g) (o : Nat) (v : Value) : Sl2 (w.setCell ⟨g, o, none⟩ v) A l := by
  refine ⟨h.1, fun h0 => ?_⟩
  obtain ⟨ad, e, hb, hc⟩ := h.2 h0
  refine ⟨ad, e, by simpa [World.setCell] using hb, fun i v' hv => ?_⟩
  rw [← hc i v' hv]
  have hb2 : (ad.add i).block = ad.block := by unfold Addr.add; split <;> rfl
  exact World.cell?_of_block (w := w) (Below.heap_setCell _ _ _ _ (by rw [hb2]; exact hA ad e))
theorem Sl2.five {w : World} {A : Option Addr} {l : List Pr} (h : Sl2 w A l) {g : Nat} (hA : ∀ ad, A = some ad → ad.block ≠ g) (v0 v1 v2 v3 v4 : Value) :
    Sl2 (((((w.setCell ⟨g, 0, none⟩ v0).setCell ⟨g, 1, none⟩ v1).setCell ⟨g, 2, none⟩ v2).setCell ⟨g, 3, none⟩ v3).setCell ⟨g, 4, none⟩ v4) A l :=
  Sl2.other (Sl2.other (Sl2.other (Sl2.other (Sl2.other h hA _ _) hA _ _) hA _ _) hA _ _) hA _ _

/-! token -/

set_option maxHeartbeats 4000000 in
set_option maxRecDepth 100000 in
theorem token_any (D : Nat) (s : ByteArray) (fr : Nat) (w : World) (h : DocW w D s fr fr) (hG : Gv w) (hD : 11 ≤ D) (hlt : fr + 1 ≤ s.size) (hs : s.size ≤ 1000000) :
    Calls Tryz.prog 39 #[.pointer (some ⟨D, 0, none⟩)] w fun e w' => TknOut D s fr (tokenU s.data.toList fr) w e w' := by
  have hZ0 := first_block w (.cells (tokZ 0 0 ⟨#[]⟩ ⟨#[]⟩) 38)
  have hK0 := (Keeps.refl D w).alloc (.cells (tokZ 0 0 ⟨#[]⟩ ⟨#[]⟩) 38)
  have hD0 := h.alloc (.cells (tokZ 0 0 ⟨#[]⟩ ⟨#[]⟩) 38)
  have hG0 := hG.alloc (.cells (tokZ 0 0 ⟨#[]⟩ ⟨#[]⟩) 38)
  have HTD : Hid (w.heap.size ≠ D) := by have := h.lt; exact Lib.hid (by omega)
  have hrs := rest_k D s fr fr _ hD0 (by omega)
  have hex : (s.extract fr s.size).data.toList = s.data.toList.drop fr := by rw [extract_L, List.take_of_length_le (by simp)]
  have hzs : (s.extract fr s.size).size = s.size - fr := by simp
  obtain ⟨z, hz⟩ : ∃ z, s.extract fr s.size = z := ⟨_, rfl⟩
  rw [hz] at hex hzs hrs
  obtain ⟨r, hr⟩ : ∃ r, tokenU s.data.toList fr = r := ⟨_, rfl⟩
  rw [hr]
  unfold tokenU at hr
  rw [← hex] at hr
  simp only at hr
  have HR := Lib.hid hr
  have HZS := Lib.hid hzs
  have hz1 : 0 < z.size := by omega
  obtain ⟨c, q, hzl⟩ : ∃ c q, z.data.toList = c :: q := by
    cases hq : z.data.toList with
    | nil => rw [Lib.size_eq, hq] at hz1; simp at hz1
    | cons c q => exact ⟨c, q, rfl⟩
  have z0 : z[0] = c := by
    have h := Lib.data_getElem? z 0 hz1
    rw [hzl] at h
    exact (Option.some.inj h).symm
  have HZL := Lib.hid hzl
  unfold tokZ at hZ0 hK0 hD0 hG0 hrs
  clear h hr hz hex hzs hzl
  go_enter Tryz.func39, Tryz.ntmps39
  go_wp2_with fail
  refine hrs.mono ?_
  rintro e wc ⟨rfl, hd1, hk1⟩
  have HG := Lib.hid (hk1.gv hG0 hD)
  have HZ := Lib.hid ((hk1.block _ (blk_lt hZ0) HTD.out).trans hZ0)
  have HZl := Lib.hid (blk_lt HZ.out)
  have HTw : Hid (w.heap.size < wc.heap.size) := HZl
  have HK := Lib.hid (hK0.trans hk1)
  have HD := Lib.hid hd1
  have c1 := hd1.c1
  clear hZ0 hK0 hD0 hG0 hrs hk1 hd1
  by_cases hc : c = 60
  · have n60 : ((c.toNat : Int) != 60) = false := by rw [hc]; rfl
    have hr := HR.out
    rw [if_neg (by rw [HZL.out, hc]; simp)] at hr
    have HR := Lib.hid hr
    clear hr hc
    have hph := hasp_any z ⟨#[60, 63]⟩ [60, 63] 2 rfl rfl wc
    by_cases hp : z.data.toList.take 2 = [60, 63]
    · have hr := HR.out
      rw [if_pos hp] at hr
      rw [decide_eq_true hp] at hph
      have hpl : fr + 2 ≤ s.size := by
        have h := congrArg List.length hp
        rw [List.length_take, ← Lib.size_eq] at h
        simp at h
        have := HZS.out
        omega
      have HR := Lib.hid hr
      clear hr hp
      go_wp2_with fail
      refine hph.mono ?_
      rintro e wx ⟨rfl, rfl⟩
      go_wp2_with fail
      refine (instruction_any D s fr _ HD.out HG.out hD hpl hs).mono ?_
      rintro e wl hh
      rcases unit_two hh with ⟨q', c', hm, rfl, hk⟩ | ⟨a, hm, rfl, hd, hk⟩
      · exact ⟨rfl, TknOut.err (by rw [← HR.out, hm]; rfl) (HK.out.trans hk)⟩
      · have HR2 := Lib.hid (show r = .ok (none, a) by rw [← HR.out, hm]; rfl)
        have HDl := Lib.hid hd
        have HK2 := Lib.hid (HK.out.trans hk)
        have HZ2 := Lib.hid ((hk.block w.heap.size HZl.out HTD.out).trans HZ.out)
        obtain ⟨q0, q1, q2, q3, q4, f0, f1, f2, f3, f4⟩ := five_cells HZ2.out
        clear hm hk hd
        go_wp2
        refine bodyPost_ret (results_row_tmp Tryz.results39 _ _ w.heap.size 38 _ (0, 0) _ rfl (five_set HZ2.out _ _ _ _ _) Tryz.underlying38 rfl (by kernel_rfl)) rfl ?_
        have hDT : D ≠ w.heap.size := fun e => HTD.out e.symm
        rw [HR2.out]
        exact ⟨((((HK2.out.other (Nat.le_refl _) _ _).other (Nat.le_refl _) _ _).other (Nat.le_refl _) _ _).other (Nat.le_refl _) _ _).other (Nat.le_refl _) _ _, rfl, HDl.out.five hDT _ _ _ _ _⟩
    · have hr := HR.out
      rw [if_neg hp] at hr
      rw [decide_eq_false hp] at hph
      have HR := Lib.hid hr
      clear hr hp
      go_wp2_with fail
      refine hph.mono ?_
      rintro e wx ⟨rfl, rfl⟩
      clear hph
      have hph := hasp_any z ⟨#[60, 33, 45, 45]⟩ [60, 33, 45, 45] 4 rfl rfl wc
      by_cases hp : z.data.toList.take 4 = [60, 33, 45, 45]
      · have hr := HR.out
        rw [if_pos hp] at hr
        rw [decide_eq_true hp] at hph
        have hpl : fr + 4 ≤ s.size := by
          have h := congrArg List.length hp
          rw [List.length_take, ← Lib.size_eq] at h
          simp at h
          have := HZS.out
          omega
        have HR := Lib.hid hr
        clear hr hp
        go_wp2_with fail
        refine hph.mono ?_
        rintro e wx ⟨rfl, rfl⟩
        go_wp2_with fail
        refine (comment_any D s fr _ HD.out HG.out hD hpl hs).mono ?_
        rintro e wl hh
        rcases unit_two hh with ⟨q', c', hm, rfl, hk⟩ | ⟨a, hm, rfl, hd, hk⟩
        · exact ⟨rfl, TknOut.err (by rw [← HR.out, hm]; rfl) (HK.out.trans hk)⟩
        · have HR2 := Lib.hid (show r = .ok (none, a) by rw [← HR.out, hm]; rfl)
          have HDl := Lib.hid hd
          have HK2 := Lib.hid (HK.out.trans hk)
          have HZ2 := Lib.hid ((hk.block w.heap.size HZl.out HTD.out).trans HZ.out)
          obtain ⟨q0, q1, q2, q3, q4, f0, f1, f2, f3, f4⟩ := five_cells HZ2.out
          clear hm hk hd
          go_wp2
          refine bodyPost_ret (results_row_tmp Tryz.results39 _ _ w.heap.size 38 _ (0, 0) _ rfl (five_set HZ2.out _ _ _ _ _) Tryz.underlying38 rfl (by kernel_rfl)) rfl ?_
          have hDT : D ≠ w.heap.size := fun e => HTD.out e.symm
          rw [HR2.out]
          exact ⟨((((HK2.out.other (Nat.le_refl _) _ _).other (Nat.le_refl _) _ _).other (Nat.le_refl _) _ _).other (Nat.le_refl _) _ _).other (Nat.le_refl _) _ _, rfl, HDl.out.five hDT _ _ _ _ _⟩
      · have hr := HR.out
        rw [if_neg hp] at hr
        rw [decide_eq_false hp] at hph
        have HR := Lib.hid hr
        clear hr hp
        go_wp2_with fail
        refine hph.mono ?_
        rintro e wx ⟨rfl, rfl⟩
        clear hph
        have hph := hasp_any z ⟨#[60, 33, 91, 67, 68, 65, 84, 65, 91]⟩ [60, 33, 91, 67, 68, 65, 84, 65, 91] 9 rfl rfl wc
        by_cases hp : z.data.toList.take 9 = [60, 33, 91, 67, 68, 65, 84, 65, 91]
        · have hr := HR.out
          rw [if_pos hp] at hr
          rw [decide_eq_true hp] at hph
          have hpl : fr + 9 ≤ s.size := by
            have h := congrArg List.length hp
            rw [List.length_take, ← Lib.size_eq] at h
            simp at h
            have := HZS.out
            omega
          have HR := Lib.hid hr
          clear hr hp
          go_wp2_with fail
          refine hph.mono ?_
          rintro e wx ⟨rfl, rfl⟩
          go_wp2_with fail
          refine ((section_any D s fr _ HD.out HG.out hD hpl hs).mono (fun e w' hh => sec_two (fun _ _ _ _ _ hm => section_form hm) hh)).mono ?_
          rintro e wl hh
          rcases hh with ⟨q', c', hm, rfl, hk⟩ | ⟨k, n, l, x, a, A, cp, hm, rfl, hd, hk, hS, hF, hl⟩
          · exact ⟨rfl, TknOut.err (by rw [← HR.out, hm]; rfl) (HK.out.trans hk)⟩
          · have HR2 := Lib.hid (show r = .ok (some (k, n, l, x), a) by rw [← HR.out, hm]; rfl)
            have HM := Lib.hid (And.intro hS (And.intro hF hl))
            have HDl := Lib.hid hd
            have HK2 := Lib.hid (HK.out.trans hk)
            have HZ2 := Lib.hid ((hk.block w.heap.size HZl.out HTD.out).trans HZ.out)
            obtain ⟨q0, q1, q2, q3, q4, f0, f1, f2, f3, f4⟩ := five_cells HZ2.out
            obtain ⟨n', hn'⟩ : ∃ b : ByteArray, (⟨n.toArray⟩ : ByteArray) = b := ⟨_, rfl⟩
            obtain ⟨x', hx'⟩ : ∃ b : ByteArray, (⟨x.toArray⟩ : ByteArray) = b := ⟨_, rfl⟩
            rw [hn', hx']
            have HN := Lib.hid hn'
            have HX := Lib.hid hx'
            have hTle := HTw.out
            clear hm hk hd hS hF hl hn' hx'
            go_wp2
            refine bodyPost_ret (results_row_tmp Tryz.results39 _ _ w.heap.size 38 _ (0, 0) _ rfl (five_set HZ2.out _ _ _ _ _) Tryz.underlying38 rfl (by kernel_rfl)) rfl ?_
            have hDT : D ≠ w.heap.size := fun e => HTD.out e.symm
            rw [HR2.out]
            refine ⟨((((HK2.out.other (Nat.le_refl _) _ _).other (Nat.le_refl _) _ _).other (Nat.le_refl _) _ _).other (Nat.le_refl _) _ _).other (Nat.le_refl _) _ _, ⟨A, cp, ?_, Sl2.five HM.out.1 (fun ad ha => ?_) _ _ _ _ _, fun ad ha => ?_, HM.out.2.2⟩, HDl.out.five hDT _ _ _ _ _⟩
            · rw [HN.out, HX.out]; rfl
            · have := HM.out.2.1 ad ha; omega
            · have := HM.out.2.1 ad ha; omega
        · have hr := HR.out
          rw [if_neg hp] at hr
          rw [decide_eq_false hp] at hph
          have HR := Lib.hid hr
          clear hr hp
          go_wp2_with fail
          refine hph.mono ?_
          rintro e wx ⟨rfl, rfl⟩
          clear hph
          have hph := hasp_any z ⟨#[60, 33, 68]⟩ [60, 33, 68] 3 rfl rfl wc
          by_cases hp : z.data.toList.take 3 = [60, 33, 68]
          · have hr := HR.out
            rw [if_pos hp] at hr
            rw [decide_eq_true hp] at hph
            have hpl : fr + 3 ≤ s.size := by
              have h := congrArg List.length hp
              rw [List.length_take, ← Lib.size_eq] at h
              simp at h
              have := HZS.out
              omega
            have HR := Lib.hid hr
            clear hr hp
            go_wp2_with fail
            refine hph.mono ?_
            rintro e wx ⟨rfl, rfl⟩
            go_wp2_with fail
            refine (fail_any fr 17 _).mono ?_
            rintro e wl ⟨rfl, rfl⟩
            exact ⟨rfl, TknOut.err HR.out.symm HK.out⟩
          · have hr := HR.out
            rw [if_neg hp] at hr
            rw [decide_eq_false hp] at hph
            have HR := Lib.hid hr
            clear hr hp
            go_wp2_with fail
            refine hph.mono ?_
            rintro e wx ⟨rfl, rfl⟩
            clear hph
            have hph := hasp_any z ⟨#[60, 33]⟩ [60, 33] 2 rfl rfl wc
            by_cases hp : z.data.toList.take 2 = [60, 33]
            · have hr := HR.out
              rw [if_pos hp] at hr
              rw [decide_eq_true hp] at hph
              have hpl : fr + 2 ≤ s.size := by
                have h := congrArg List.length hp
                rw [List.length_take, ← Lib.size_eq] at h
                simp at h
                have := HZS.out
                omega
              have HR := Lib.hid hr
              clear hr hp
              go_wp2_with fail
              refine hph.mono ?_
              rintro e wx ⟨rfl, rfl⟩
              go_wp2_with fail
              refine (fail_any fr 4 _).mono ?_
              rintro e wl ⟨rfl, rfl⟩
              exact ⟨rfl, TknOut.err HR.out.symm HK.out⟩
            · have hr := HR.out
              rw [if_neg hp] at hr
              rw [decide_eq_false hp] at hph
              have HR := Lib.hid hr
              clear hr hp
              go_wp2_with fail
              refine hph.mono ?_
              rintro e wx ⟨rfl, rfl⟩
              clear hph
              have hph := hasp_any z ⟨#[60, 47]⟩ [60, 47] 2 rfl rfl wc
              by_cases hp : z.data.toList.take 2 = [60, 47]
              · have hr := HR.out
                rw [if_pos hp] at hr
                rw [decide_eq_true hp] at hph
                have hpl : fr + 2 ≤ s.size := by
                  have h := congrArg List.length hp
                  rw [List.length_take, ← Lib.size_eq] at h
                  simp at h
                  have := HZS.out
                  omega
                have HR := Lib.hid hr
                clear hr hp
                go_wp2_with fail
                refine hph.mono ?_
                rintro e wx ⟨rfl, rfl⟩
                go_wp2_with fail
                refine ((endTag_any D s fr _ HD.out hpl hs).mono (fun e w' hh => end_two hh)).mono ?_
                rintro e wl hh
                rcases hh with ⟨q', c', hm, rfl, hk⟩ | ⟨k, n, l, x, a, A, cp, hm, rfl, hd, hk, hS, hF, hl⟩
                · exact ⟨rfl, TknOut.err (by rw [← HR.out, hm]; rfl) (HK.out.trans hk)⟩
                · have HR2 := Lib.hid (show r = .ok (some (k, n, l, x), a) by rw [← HR.out, hm]; rfl)
                  have HM := Lib.hid (And.intro hS (And.intro hF hl))
                  have HDl := Lib.hid hd
                  have HK2 := Lib.hid (HK.out.trans hk)
                  have HZ2 := Lib.hid ((hk.block w.heap.size HZl.out HTD.out).trans HZ.out)
                  obtain ⟨q0, q1, q2, q3, q4, f0, f1, f2, f3, f4⟩ := five_cells HZ2.out
                  obtain ⟨n', hn'⟩ : ∃ b : ByteArray, (⟨n.toArray⟩ : ByteArray) = b := ⟨_, rfl⟩
                  obtain ⟨x', hx'⟩ : ∃ b : ByteArray, (⟨x.toArray⟩ : ByteArray) = b := ⟨_, rfl⟩
                  rw [hn', hx']
                  have HN := Lib.hid hn'
                  have HX := Lib.hid hx'
                  have hTle := HTw.out
                  clear hm hk hd hS hF hl hn' hx'
                  go_wp2
                  refine bodyPost_ret (results_row_tmp Tryz.results39 _ _ w.heap.size 38 _ (0, 0) _ rfl (five_set HZ2.out _ _ _ _ _) Tryz.underlying38 rfl (by kernel_rfl)) rfl ?_
                  have hDT : D ≠ w.heap.size := fun e => HTD.out e.symm
                  rw [HR2.out]
                  refine ⟨((((HK2.out.other (Nat.le_refl _) _ _).other (Nat.le_refl _) _ _).other (Nat.le_refl _) _ _).other (Nat.le_refl _) _ _).other (Nat.le_refl _) _ _, ⟨A, cp, ?_, Sl2.five HM.out.1 (fun ad ha => ?_) _ _ _ _ _, fun ad ha => ?_, HM.out.2.2⟩, HDl.out.five hDT _ _ _ _ _⟩
                  · rw [HN.out, HX.out]; rfl
                  · have := HM.out.2.1 ad ha; omega
                  · have := HM.out.2.1 ad ha; omega
              · have hr := HR.out
                rw [if_neg hp] at hr
                rw [decide_eq_false hp] at hph
                have HR := Lib.hid hr
                clear hr hp
                go_wp2_with fail
                refine hph.mono ?_
                rintro e wx ⟨rfl, rfl⟩
                clear hph
                go_wp2_with fail
                refine ((startTag_any D s fr _ HD.out HG.out hD hlt hs).mono (fun e w' hh => start_two hh)).mono ?_
                rintro e wl hh
                rcases hh with ⟨q', c', hm, rfl, hk⟩ | ⟨k, n, l, x, a, A, cp, hm, rfl, hd, hk, hS, hF, hl⟩
                · exact ⟨rfl, TknOut.err (by rw [← HR.out, hm]; rfl) (HK.out.trans hk)⟩
                · have HR2 := Lib.hid (show r = .ok (some (k, n, l, x), a) by rw [← HR.out, hm]; rfl)
                  have HM := Lib.hid (And.intro hS (And.intro hF hl))
                  have HDl := Lib.hid hd
                  have HK2 := Lib.hid (HK.out.trans hk)
                  have HZ2 := Lib.hid ((hk.block w.heap.size HZl.out HTD.out).trans HZ.out)
                  obtain ⟨q0, q1, q2, q3, q4, f0, f1, f2, f3, f4⟩ := five_cells HZ2.out
                  obtain ⟨n', hn'⟩ : ∃ b : ByteArray, (⟨n.toArray⟩ : ByteArray) = b := ⟨_, rfl⟩
                  obtain ⟨x', hx'⟩ : ∃ b : ByteArray, (⟨x.toArray⟩ : ByteArray) = b := ⟨_, rfl⟩
                  rw [hn', hx']
                  have HN := Lib.hid hn'
                  have HX := Lib.hid hx'
                  have hTle := HTw.out
                  clear hm hk hd hS hF hl hn' hx'
                  go_wp2
                  refine bodyPost_ret (results_row_tmp Tryz.results39 _ _ w.heap.size 38 _ (0, 0) _ rfl (five_set HZ2.out _ _ _ _ _) Tryz.underlying38 rfl (by kernel_rfl)) rfl ?_
                  have hDT : D ≠ w.heap.size := fun e => HTD.out e.symm
                  rw [HR2.out]
                  refine ⟨((((HK2.out.other (Nat.le_refl _) _ _).other (Nat.le_refl _) _ _).other (Nat.le_refl _) _ _).other (Nat.le_refl _) _ _).other (Nat.le_refl _) _ _, ⟨A, cp, ?_, Sl2.five HM.out.1 (fun ad ha => ?_) _ _ _ _ _, fun ad ha => ?_, HM.out.2.2⟩, HDl.out.five hDT _ _ _ _ _⟩
                  · rw [HN.out, HX.out]; rfl
                  · have := HM.out.2.1 ad ha; omega
                  · have := HM.out.2.1 ad ha; omega
  · have n60 : ((c.toNat : Int) != 60) = true := by
      simp only [bne_iff_ne, ne_eq]
      intro e
      exact hc (UInt8.toNat_inj.1 (by simpa using (by omega : c.toNat = 60)))
    have hr := HR.out
    rw [if_pos (by rw [HZL.out]; simpa using hc)] at hr
    have HR := Lib.hid hr
    clear hr hc
    go_wp2_with fail
    refine ((dtext_any D s fr _ HD.out HG.out hD (by omega) hs).mono (fun e w' hh => sec_two (fun _ _ _ _ _ hm => text_form hm) hh)).mono ?_
    rintro e wl hh
    rcases hh with ⟨q', c', hm, rfl, hk⟩ | ⟨k, n, l, x, a, A, cp, hm, rfl, hd, hk, hS, hF, hl⟩
    · exact ⟨rfl, TknOut.err (by rw [← HR.out, hm]; rfl) (HK.out.trans hk)⟩
    · have HR2 := Lib.hid (show r = .ok (some (k, n, l, x), a) by rw [← HR.out, hm]; rfl)
      have HM := Lib.hid (And.intro hS (And.intro hF hl))
      have HDl := Lib.hid hd
      have HK2 := Lib.hid (HK.out.trans hk)
      have HZ2 := Lib.hid ((hk.block w.heap.size HZl.out HTD.out).trans HZ.out)
      obtain ⟨q0, q1, q2, q3, q4, f0, f1, f2, f3, f4⟩ := five_cells HZ2.out
      obtain ⟨n', hn'⟩ : ∃ b : ByteArray, (⟨n.toArray⟩ : ByteArray) = b := ⟨_, rfl⟩
      obtain ⟨x', hx'⟩ : ∃ b : ByteArray, (⟨x.toArray⟩ : ByteArray) = b := ⟨_, rfl⟩
      rw [hn', hx']
      have HN := Lib.hid hn'
      have HX := Lib.hid hx'
      have hTle := HTw.out
      clear hm hk hd hS hF hl hn' hx'
      go_wp2
      refine bodyPost_ret (results_row_tmp Tryz.results39 _ _ w.heap.size 38 _ (0, 0) _ rfl (five_set HZ2.out _ _ _ _ _) Tryz.underlying38 rfl (by kernel_rfl)) rfl ?_
      have hDT : D ≠ w.heap.size := fun e => HTD.out e.symm
      rw [HR2.out]
      refine ⟨((((HK2.out.other (Nat.le_refl _) _ _).other (Nat.le_refl _) _ _).other (Nat.le_refl _) _ _).other (Nat.le_refl _) _ _).other (Nat.le_refl _) _ _, ⟨A, cp, ?_, Sl2.five HM.out.1 (fun ad ha => ?_) _ _ _ _ _, fun ad ha => ?_, HM.out.2.2⟩, HDl.out.five hDT _ _ _ _ _⟩
      · rw [HN.out, HX.out]; rfl
      · have := HM.out.2.1 ad ha; omega
      · have := HM.out.2.1 ad ha; omega
end Go.Proofs.YtflfnnkdkfcpkaaGreatDoor

namespace Go.Proofs.YtflfnnkdkfcpkaaGreatDoor
open Go.RowKit Wb Go.Lib

/-- What check answers. -/
def ChkOut (m : Er Unit) (e : Ending) : Prop :=
  match m with
  | .ok _ => e = .returned (.tuple #[])
  | .error (p, c) => e = .panicked [flt p c]

set_option maxRecDepth 100000 in
set_option maxHeartbeats 1000000 in
theorem dcheck_any (s : ByteArray) (w : World) (hs : s.size ≤ 1000000000) :
    Calls Tryz.prog 37 #[.string s] w fun e w' => ChkOut (checkU s.data.toList) e ∧ Below w.heap.size w w' := by
  obtain ⟨r, hr⟩ : ∃ r, checkU s.data.toList = r := ⟨_, rfl⟩
  rw [hr]
  unfold checkU at hr
  rw [← Lib.size_eq] at hr
  by_cases h1 : 32768 < s.size
  · rw [if_pos h1] at hr
    have g1 : (32768 : Int) < (s.size : Int) := by omega
    have HR := Lib.hid hr
    clear hr h1
    go_enter Tryz.func37, Tryz.ntmps37
    go_wp2_with fail
    refine (fail_any 0 3 _).mono ?_
    rintro e w1 ⟨rfl, rfl⟩
    exact ⟨rfl, by rw [← HR.out]; rfl, Below.refl _ _⟩
  · rw [if_neg h1] at hr
    have g1 : ¬ ((32768 : Int) < (s.size : Int)) := by omega
    have hck := check_any s w hs
    obtain ⟨ck, hc⟩ : ∃ ck, chk s.data.toList = ck := ⟨_, rfl⟩
    rw [hc] at hr hck
    by_cases h2 : 0 ≤ ck
    · rw [if_pos h2] at hr
      have HR := Lib.hid hr
      clear hr h1 hc
      go_enter Tryz.func37, Tryz.ntmps37
      go_wp2_with fail
      refine hck.mono ?_
      rintro e w1 ⟨rfl, hb⟩
      go_wp2_with fail
      refine (fail_any ck 10 _).mono ?_
      rintro e w2 ⟨rfl, rfl⟩
      refine ⟨rfl, ?_, hb⟩
      rw [← HR.out]
      show _ = Ending.panicked [flt ((ck.toNat : Nat) : Int) _]
      rw [Int.toNat_of_nonneg h2]
      rfl
    · rw [if_neg h2] at hr
      have HR := Lib.hid hr
      clear hr h1 hc
      go_enter Tryz.func37, Tryz.ntmps37
      go_wp2_with fail
      refine hck.mono ?_
      rintro e w1 ⟨rfl, hb⟩
      have hit : (w1.iter s 0).heap[w1.heap.size]? = some (.stringIter s 0) := World.iter_heap w1 s 0
      have hb1 : Below w.heap.size w (w1.iter s 0) := hb.alloc hb.size _
      have hkb : w.heap.size ≤ w1.heap.size := hb.size
      have HIT := Lib.hid hit
      have HB1 := Lib.hid hb1
      clear hck hit hb1 hb
      go_wp2
      go_loopg [] s.size (fun g wx => ∃ pos : Nat, s.size ≤ pos + g ∧ wx.heap[w1.heap.size]? = some (.stringIter s pos) ∧ Below w.heap.size w wx ∧ Hid (badU s.size s.data.toList 0 = badU g (s.data.toList.drop pos) pos))
      case atStart => exact ⟨0, by omega, HIT.out, HB1.out, Lib.hid rfl⟩
      case round =>
        obtain ⟨pos, hpg, hk, hbw, HI⟩ := hrel
        have HBW := Lib.hid hbw
        have HKK := Lib.hid hk
        by_cases hp : pos < s.size
        · obtain ⟨g, rfl⟩ : ∃ g, gk = g + 1 := ⟨gk - 1, by omega⟩
          have hne : s.data.toList.drop pos ≠ [] := by
            intro e
            have := congrArg List.length e
            rw [List.length_drop, ← Lib.size_eq] at this
            simp at this
            omega
          have hnx := fun (ty : TypeId) => run_next_any_at (P := Tryz.prog) wr w1.heap.size s pos ty hk hp
          rw [decode_U s pos hp] at hnx
          have hi := HI.out
          rw [show badU (g + 1) (s.data.toList.drop pos) pos = if s.data.toList.drop pos = [] then none else if charB (decU (s.data.toList.drop pos)).1 = true then badU g ((s.data.toList.drop pos).drop (decU (s.data.toList.drop pos)).2) (pos + (decU (s.data.toList.drop pos)).2) else some pos from rfl, if_neg hne, List.drop_drop] at hi
          have hdp := decU_pos (s.data.toList.drop pos)
          generalize hR : (decU (s.data.toList.drop pos)).1 = R at *
          generalize hW : (decU (s.data.toList.drop pos)).2 = W at *
          have HI2 := Lib.hid hi
          have HI3 := Lib.hid (iterAt_heap wr w1.heap.size s pos (pos + W) hk)
          have HB3 := Lib.hid (below_iterAt HBW.out hkb s (pos + W))
          have HP := Lib.hid hp
          clear hi hk hbw hR hW hne HI hp
          cases hcb : charB (R : Int) with
          | true =>
            go_wp2_with fail
            refine (char_any (R : Int) _).mono ?_
            rintro e w3 ⟨rfl, hb3⟩
            rw [hcb]
            have HB4 := Lib.hid (HB3.out.trans (hb3.mono HB3.out.size))
            have HI4 := Lib.hid ((hb3.block _ (Array.getElem?_eq_some_iff.1 HI3.out).1).trans HI3.out)
            clear hnx hb3
            go_wp2
            go_roundg g
            case measure => omega
            case rel =>
              refine ⟨pos + W, by omega, HI4.out, HB4.out, ?_⟩
              have h := HI2.out
              rw [if_pos hcb] at h
              exact Lib.hid h
          | false =>
            go_wp2_with fail
            refine (char_any (R : Int) _).mono ?_
            rintro e w3 ⟨rfl, hb3⟩
            rw [hcb]
            have HB4 := Lib.hid (HB3.out.trans (hb3.mono HB3.out.size))
            clear hnx hb3
            go_wp2_with fail
            refine (fail_any (pos : Int) 11 _).mono ?_
            rintro e w4 ⟨rfl, rfl⟩
            refine ⟨rfl, ?_, HB4.out⟩
            have h := HI2.out
            rw [if_neg (by rw [hcb]; decide)] at h
            rw [← HR.out, h]
            rfl
        · have hnx := fun (ty : TypeId) => run_next_end_at (P := Tryz.prog) wr w1.heap.size s pos ty hk hp
          have hd : s.data.toList.drop pos = [] := List.drop_eq_nil_of_le (by rw [← Lib.size_eq]; omega)
          have hn : badU s.size s.data.toList 0 = none := by
            rw [HI.out, hd]
            cases gk <;> rfl
          have HN := Lib.hid hn
          clear hk hbw hd hn
          go_wp2
          go_end0
          exact ⟨by rw [← HR.out, HN.out]; rfl, HBW.out⟩
end Go.Proofs.YtflfnnkdkfcpkaaGreatDoor

namespace Go.Proofs.YtflfnnkdkfcpkaaGreatDoor
open Go.RowKit Wb

theorem ba_eq (s : ByteArray) : (⟨s.data.toList.toArray⟩ : ByteArray) = s := by cases s; simp
theorem ba_len (l : List UInt8) : (⟨l.toArray⟩ : ByteArray).size = l.length := by rw [Lib.size_eq]
theorem pre_dec (p : List UInt8) (l : List UInt8) (n : Nat) (hn : p.length = n) : Lib.hasPrefix l p = decide (l.take n = p) := by
  subst hn
  rw [show Lib.hasPrefix l p = p.isPrefixOf l from rfl, pre_take]
theorem head_ba {c : UInt8} {q : List UInt8} {z : ByteArray} (hz : z.data.toList = c :: q) : ∃ h : 0 < z.size, z[0] = c := by
  have h0 : 0 < z.size := by rw [Lib.size_eq, hz]; simp
  refine ⟨h0, ?_⟩
  have h := Lib.data_getElem? z 0 h0
  rw [hz] at h
  exact (Option.some.inj h).symm

def ToldOut (r : List UInt8 × List UInt8) (w : World) (e : Ending) (w' : World) : Prop := e = .returned (.tuple #[.string ⟨r.1.toArray⟩, .string ⟨r.2.toArray⟩]) ∧ Below w.heap.size w w'

set_option maxRecDepth 100000 in
set_option maxHeartbeats 2000000 in
theorem told_any (s name other : ByteArray) (w : World) (hG : Gv w) (hs : s.size ≤ 1000000) :
    Calls Tryz.prog 65 #[.string s, .string name, .string other] w fun e w' => ToldOut (toldX s.data.toList name.data.toList other.data.toList) w e w' := by
  obtain ⟨r, hr⟩ : ∃ r, toldX s.data.toList name.data.toList other.data.toList = r := ⟨_, rfl⟩
  rw [hr]
  unfold toldX at hr
  simp only at hr
  have back : r = (other.data.toList, s.data.toList) → ToldOut r w (.returned (.tuple #[.string other, .string s])) w := by
    intro e
    subst e
    exact ⟨by rw [ba_eq, ba_eq], Below.refl _ _⟩
  have hsk := skip_any s w (by omega)
  obtain ⟨z1, hz1⟩ : ∃ z : ByteArray, (⟨(s.data.toList.dropWhile blkB).toArray⟩ : ByteArray) = z := ⟨_, rfl⟩
  have hl1 : z1.data.toList = s.data.toList.dropWhile blkB := by rw [← hz1]
  rw [hz1] at hsk
  rw [← hl1] at hr
  have hz1s : z1.size ≤ s.size := by
    rw [Lib.size_eq, Lib.size_eq, hl1]
    exact (List.dropWhile_sublist _).length_le
  clear hl1 hz1
  by_cases e1 : z1.data.toList.length = s.data.toList.length
  · rw [if_pos e1] at hr
    have g1 : ((z1.size : Int) == (s.size : Int)) = true := beq_iff_eq.2 (by rw [Lib.size_eq, Lib.size_eq]; omega)
    have HB := Lib.hid (back hr.symm)
    clear back hr e1
    go_enter Tryz.func65, Tryz.ntmps65
    go_wp2_with fail
    refine hsk.mono ?_
    rintro e w1 ⟨rfl, rfl⟩
    go_wp2
    go_ret2
    exact HB.out
  · rw [if_neg e1] at hr
    have g1 : ((z1.size : Int) == (s.size : Int)) = false := beq_eq_false_iff_ne.2 (by rw [Lib.size_eq, Lib.size_eq]; omega)
    clear e1
    by_cases e2 : z1.data.toList.take name.data.toList.length = name.data.toList
    · rw [if_neg (fun h => h e2)] at hr
      have hcp := cutpre_any z1 name w true (by rw [pre_dec _ _ _ rfl, decide_eq_true e2])
      rw [if_pos rfl, Lib.size_eq name] at hcp
      obtain ⟨z2, hz2⟩ : ∃ z : ByteArray, (⟨(z1.data.toList.drop name.data.toList.length).toArray⟩ : ByteArray) = z := ⟨_, rfl⟩
      have hl2 : z2.data.toList = z1.data.toList.drop name.data.toList.length := by rw [← hz2]
      rw [hz2] at hcp
      rw [← hl2] at hr
      have hz2s : z2.size ≤ z1.size := by rw [Lib.size_eq, Lib.size_eq, hl2, List.length_drop]; omega
      clear hz2 hl2 e2
      have hsk2 := skip_any z2 w (by omega)
      obtain ⟨z3, hz3⟩ : ∃ z : ByteArray, (⟨(z2.data.toList.dropWhile blkB).toArray⟩ : ByteArray) = z := ⟨_, rfl⟩
      have hl3 : z3.data.toList = z2.data.toList.dropWhile blkB := by rw [← hz3]
      rw [hz3] at hsk2
      rw [← hl3] at hr
      have hz3s : z3.size ≤ z2.size := by
        rw [Lib.size_eq, Lib.size_eq, hl3]
        exact (List.dropWhile_sublist _).length_le
      clear hz3 hl3
      by_cases e3 : z3.data.toList.take 1 = [61]
      · rw [if_neg (fun h => h e3)] at hr
        have hcp3 := cutpre_any z3 ⟨#[61]⟩ w true (by rw [pre_dec _ _ 1 rfl, decide_eq_true e3])
        rw [if_pos rfl] at hcp3
        obtain ⟨z4, hz4⟩ : ∃ z : ByteArray, (⟨(z3.data.toList.drop 1).toArray⟩ : ByteArray) = z := ⟨_, rfl⟩
        have hl4 : z4.data.toList = z3.data.toList.drop 1 := by rw [← hz4]
        rw [show (⟨#[61]⟩ : ByteArray).size = 1 from rfl, hz4] at hcp3
        rw [← hl4] at hr
        have hz4s : z4.size ≤ z3.size := by rw [Lib.size_eq, Lib.size_eq, hl4, List.length_drop]; omega
        clear hz4 hl4 e3
        have hsk4 := skip_any z4 w (by omega)
        obtain ⟨z5, hz5⟩ : ∃ z : ByteArray, (⟨(z4.data.toList.dropWhile blkB).toArray⟩ : ByteArray) = z := ⟨_, rfl⟩
        have hl5 : z5.data.toList = z4.data.toList.dropWhile blkB := by rw [← hz5]
        rw [hz5] at hsk4
        rw [← hl5] at hr
        have hz5s : z5.size ≤ z4.size := by
          rw [Lib.size_eq, Lib.size_eq, hl5]
          exact (List.dropWhile_sublist _).length_le
        clear hz5 hl5
        have HS := Lib.hid (And.intro hsk (And.intro hcp (And.intro hsk2 (And.intro hcp3 hsk4))))
        clear hsk hcp hsk2 hcp3 hsk4
        cases h5 : z5.data.toList with
        | nil =>
          rw [h5] at hr
          have z50 : z5.toList = [] := by rw [ByteArray.toList_eq]; exact h5
          have z51 : z5.toList.isEmpty = true := by rw [ByteArray.toList_eq, h5]; rfl
          have HB := Lib.hid (back hr.symm)
          clear back hr h5
          go_enter Tryz.func65, Tryz.ntmps65
          go_wp2_with fail
          refine HS.out.1.mono ?_
          rintro e w1 ⟨rfl, rfl⟩
          go_wp2_with fail
          refine HS.out.2.1.mono ?_
          rintro e w2 ⟨rfl, rfl⟩
          go_wp2_with fail
          refine HS.out.2.2.1.mono ?_
          rintro e w3 ⟨rfl, rfl⟩
          go_wp2_with fail
          refine HS.out.2.2.2.1.mono ?_
          rintro e w4 ⟨rfl, rfl⟩
          go_wp2_with fail
          refine HS.out.2.2.2.2.mono ?_
          rintro e w5 ⟨rfl, rfl⟩
          go_wp2
          go_ret2
          exact HB.out
        | cons q r3 =>
          rw [h5] at hr
          simp only at hr
          obtain ⟨h50, q0⟩ := head_ba h5
          have z50 : ¬ z5.toList = [] := by rw [ByteArray.toList_eq, h5]; simp
          have z51 : z5.toList.isEmpty = false := by rw [ByteArray.toList_eq, h5]; rfl
          by_cases hq : q = 34 ∨ q = 39
          · rw [if_pos hq] at hr
            rcases hq with rfl | rfl
            · have n34 : (((34 : UInt8).toNat : Int) != 34) = false := by decide
              have hq := True.intro
              have hyl : (z5.extract 1 z5.size).data.toList = r3 := by
                rw [extract_L, h5, List.take_of_length_le (by rw [Lib.size_eq, h5]; simp)]
                rfl
              have hpl : (z5.extract 0 1).data.toList = [34] := by rw [extract_L, h5]; rfl
              have hct := scut_any (z5.extract 1 z5.size) (z5.extract 0 1) w.drew hG.drew (by simp; omega)
              rw [hyl, hpl] at hct
              have y1 : (1 : Int) ≤ (z5.size : Int) := by omega
              rcases cut_until [34] (by simp) r3 with ⟨h1, h2⟩ | ⟨n, v, h1, h2, hnn, hnl⟩
              · rw [h1] at hr
                rw [h2] at hct
                have HB := Lib.hid (back hr.symm)
                clear back hr h5 h1 h2 hyl hpl hq
                go_enter Tryz.func65, Tryz.ntmps65
                go_wp2_with fail
                refine HS.out.1.mono ?_
                rintro e w1 ⟨rfl, rfl⟩
                go_wp2_with fail
                refine HS.out.2.1.mono ?_
                rintro e w2 ⟨rfl, rfl⟩
                go_wp2_with fail
                refine HS.out.2.2.1.mono ?_
                rintro e w3 ⟨rfl, rfl⟩
                go_wp2_with fail
                refine HS.out.2.2.2.1.mono ?_
                rintro e w4 ⟨rfl, rfl⟩
                go_wp2_with fail
                refine HS.out.2.2.2.2.mono ?_
                rintro e w5 ⟨rfl, rfl⟩
                go_wp2_with fail
                go_region_law (first
                  | (go_simp; go_at_call 99; refine hct.mono ?_; rintro e w6 ⟨rfl, m, rfl⟩))
                go_wp2
                go_ret2
                exact ⟨HB.out.1, ⟨rfl, rfl, rfl, Nat.le_refl _, fun _ _ => rfl⟩⟩
              · rw [h1] at hr
                simp only at hr
                rw [h2] at hct
                clear back h5 h1 h2 hyl hpl hq hnn hnl
                have HR := Lib.hid hr
                clear hr
                go_enter Tryz.func65, Tryz.ntmps65
                go_wp2_with fail
                refine HS.out.1.mono ?_
                rintro e w1 ⟨rfl, rfl⟩
                go_wp2_with fail
                refine HS.out.2.1.mono ?_
                rintro e w2 ⟨rfl, rfl⟩
                go_wp2_with fail
                refine HS.out.2.2.1.mono ?_
                rintro e w3 ⟨rfl, rfl⟩
                go_wp2_with fail
                refine HS.out.2.2.2.1.mono ?_
                rintro e w4 ⟨rfl, rfl⟩
                go_wp2_with fail
                refine HS.out.2.2.2.2.mono ?_
                rintro e w5 ⟨rfl, rfl⟩
                go_wp2_with fail
                go_region_law (first
                  | (go_simp; go_at_call 99; refine hct.mono ?_; rintro e w6 ⟨rfl, m, rfl⟩))
                go_wp2
                go_ret2
                refine ⟨?_, ⟨rfl, rfl, rfl, Nat.le_refl _, fun _ _ => rfl⟩⟩
                rw [← HR.out]
                rfl
            · have n34 : (((39 : UInt8).toNat : Int) != 34) = true := by decide
              have n39 : (((39 : UInt8).toNat : Int) != 39) = false := by decide
              have hq := True.intro
              have hyl : (z5.extract 1 z5.size).data.toList = r3 := by
                rw [extract_L, h5, List.take_of_length_le (by rw [Lib.size_eq, h5]; simp)]
                rfl
              have hpl : (z5.extract 0 1).data.toList = [39] := by rw [extract_L, h5]; rfl
              have hct := scut_any (z5.extract 1 z5.size) (z5.extract 0 1) w.drew hG.drew (by simp; omega)
              rw [hyl, hpl] at hct
              have y1 : (1 : Int) ≤ (z5.size : Int) := by omega
              rcases cut_until [39] (by simp) r3 with ⟨h1, h2⟩ | ⟨n, v, h1, h2, hnn, hnl⟩
              · rw [h1] at hr
                rw [h2] at hct
                have HB := Lib.hid (back hr.symm)
                clear back hr h5 h1 h2 hyl hpl hq
                go_enter Tryz.func65, Tryz.ntmps65
                go_wp2_with fail
                refine HS.out.1.mono ?_
                rintro e w1 ⟨rfl, rfl⟩
                go_wp2_with fail
                refine HS.out.2.1.mono ?_
                rintro e w2 ⟨rfl, rfl⟩
                go_wp2_with fail
                refine HS.out.2.2.1.mono ?_
                rintro e w3 ⟨rfl, rfl⟩
                go_wp2_with fail
                refine HS.out.2.2.2.1.mono ?_
                rintro e w4 ⟨rfl, rfl⟩
                go_wp2_with fail
                refine HS.out.2.2.2.2.mono ?_
                rintro e w5 ⟨rfl, rfl⟩
                go_wp2_with fail
                go_region_law (first
                  | (go_simp; go_at_call 99; refine hct.mono ?_; rintro e w6 ⟨rfl, m, rfl⟩))
                go_wp2
                go_ret2
                exact ⟨HB.out.1, ⟨rfl, rfl, rfl, Nat.le_refl _, fun _ _ => rfl⟩⟩
              · rw [h1] at hr
                simp only at hr
                rw [h2] at hct
                clear back h5 h1 h2 hyl hpl hq hnn hnl
                have HR := Lib.hid hr
                clear hr
                go_enter Tryz.func65, Tryz.ntmps65
                go_wp2_with fail
                refine HS.out.1.mono ?_
                rintro e w1 ⟨rfl, rfl⟩
                go_wp2_with fail
                refine HS.out.2.1.mono ?_
                rintro e w2 ⟨rfl, rfl⟩
                go_wp2_with fail
                refine HS.out.2.2.1.mono ?_
                rintro e w3 ⟨rfl, rfl⟩
                go_wp2_with fail
                refine HS.out.2.2.2.1.mono ?_
                rintro e w4 ⟨rfl, rfl⟩
                go_wp2_with fail
                refine HS.out.2.2.2.2.mono ?_
                rintro e w5 ⟨rfl, rfl⟩
                go_wp2_with fail
                go_region_law (first
                  | (go_simp; go_at_call 99; refine hct.mono ?_; rintro e w6 ⟨rfl, m, rfl⟩))
                go_wp2
                go_ret2
                refine ⟨?_, ⟨rfl, rfl, rfl, Nat.le_refl _, fun _ _ => rfl⟩⟩
                rw [← HR.out]
                rfl
          · rw [if_neg hq] at hr
            have n34 : ((q.toNat : Int) != 34) = true := by
              simp only [bne_iff_ne, ne_eq]
              intro e
              exact hq (.inl (UInt8.toNat_inj.1 (by simpa using (by omega : q.toNat = 34))))
            have n39 : ((q.toNat : Int) != 39) = true := by
              simp only [bne_iff_ne, ne_eq]
              intro e
              exact hq (.inr (UInt8.toNat_inj.1 (by simpa using (by omega : q.toNat = 39))))
            have HB := Lib.hid (back hr.symm)
            clear back hr h5 hq
            go_enter Tryz.func65, Tryz.ntmps65
            go_wp2_with fail
            refine HS.out.1.mono ?_
            rintro e w1 ⟨rfl, rfl⟩
            go_wp2_with fail
            refine HS.out.2.1.mono ?_
            rintro e w2 ⟨rfl, rfl⟩
            go_wp2_with fail
            refine HS.out.2.2.1.mono ?_
            rintro e w3 ⟨rfl, rfl⟩
            go_wp2_with fail
            refine HS.out.2.2.2.1.mono ?_
            rintro e w4 ⟨rfl, rfl⟩
            go_wp2_with fail
            refine HS.out.2.2.2.2.mono ?_
            rintro e w5 ⟨rfl, rfl⟩
            go_wp2
            go_ret2
            exact HB.out
      · rw [if_pos e3] at hr
        have hcp3 := cutpre_any z3 ⟨#[61]⟩ w false (by rw [pre_dec _ _ 1 rfl, decide_eq_false e3])
        rw [if_neg (by decide), ba_eq] at hcp3
        have hsk4 := skip_any z3 w (by omega)
        obtain ⟨z5, hz5⟩ : ∃ z : ByteArray, (⟨(z3.data.toList.dropWhile blkB).toArray⟩ : ByteArray) = z := ⟨_, rfl⟩
        rw [hz5] at hsk4
        have HS := Lib.hid (And.intro hsk (And.intro hcp (And.intro hsk2 (And.intro hcp3 hsk4))))
        have HB := Lib.hid (back hr.symm)
        clear hsk hcp hsk2 hcp3 hsk4 back hr e3 hz5
        go_enter Tryz.func65, Tryz.ntmps65
        go_wp2_with fail
        refine HS.out.1.mono ?_
        rintro e w1 ⟨rfl, rfl⟩
        go_wp2_with fail
        refine HS.out.2.1.mono ?_
        rintro e w2 ⟨rfl, rfl⟩
        go_wp2_with fail
        refine HS.out.2.2.1.mono ?_
        rintro e w3 ⟨rfl, rfl⟩
        go_wp2_with fail
        refine HS.out.2.2.2.1.mono ?_
        rintro e w4 ⟨rfl, rfl⟩
        go_wp2_with fail
        refine HS.out.2.2.2.2.mono ?_
        rintro e w5 ⟨rfl, rfl⟩
        go_wp2
        go_ret2
        exact HB.out
    · rw [if_pos e2] at hr
      have hcp := cutpre_any z1 name w false (by rw [pre_dec _ _ _ rfl, decide_eq_false e2])
      rw [if_neg (by decide), ba_eq] at hcp
      have HB := Lib.hid (back hr.symm)
      clear back hr e2
      go_enter Tryz.func65, Tryz.ntmps65
      go_wp2_with fail
      refine hsk.mono ?_
      rintro e w1 ⟨rfl, rfl⟩
      go_wp2_with fail
      refine hcp.mono ?_
      rintro e w2 ⟨rfl, rfl⟩
      go_wp2
      go_ret2
      exact HB.out
end Go.Proofs.YtflfnnkdkfcpkaaGreatDoor

