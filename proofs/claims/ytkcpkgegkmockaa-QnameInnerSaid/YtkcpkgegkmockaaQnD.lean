
/- Contracts: Resolve on both sides. -/
import Derived.Test.YtkcpkgegkmockaaQnC
namespace Go.Proofs.Ytkcpkgegkmockaa
open Go.RowKit Wb

theorem name_info : (Try.prog.info? 40).map (·.size) = some 2 := by kernel_rfl

set_option maxHeartbeats 1000000 in
theorem resolve_any (A : Option Addr) (l : List Pr) (c : Nat) (q : ByteArray) (attr : Bool) (w : World) (hl : l.length ≤ 1000000000) (hq : q.size ≤ 1000000000) (hA : Sl2 w A l) :
    Calls Try.prog 18 #[.slice A l.length c, .string q, .bool attr] w fun e w' =>
      e = .returned (.tuple #[.agg #[.string (resB l q attr).1.1, .string (resB l q attr).1.2], .int .i64 (resB l q attr).2]) ∧ Below w.heap.size w w' := by
  obtain ⟨n1, n2, er, hr⟩ : ∃ n1 n2 er, resB l q attr = ((n1, n2), er) := ⟨_, _, _, rfl⟩
  have HR := Lib.hid hr
  rw [hr]
  clear hr
  obtain ⟨p, lo, ok, hsp⟩ : ∃ p lo ok, splitB q = (p, lo, ok) := ⟨_, _, _, rfl⟩
  have HS := Lib.hid hsp
  clear hsp
  have t1 : (p.toList == [120, 109, 108, 110, 115]) = eqT p sXmlns := lit_of p sXmlns _ rfl
  obtain ⟨b1, k1⟩ : ∃ b, eqT p sXmlns = b := ⟨_, rfl⟩
  obtain ⟨e1, h1⟩ : ∃ b, eqT p sE = b := ⟨_, rfl⟩
  obtain ⟨s, fo, hf⟩ : ∃ s fo, findB l p = (s, fo) := ⟨_, _, rfl⟩
  have HF := Lib.hid hf
  have HK := Lib.hid k1
  have H1 := Lib.hid h1
  rw [k1] at t1
  clear k1 hf h1
  go_enter Try.func18, Try.ntmps18
  go_wp2_with fail
  refine (split_any q _ hq).mono ?_
  rw [HS.out]
  rintro e w2 ⟨rfl, hb⟩
  have HB := Lib.hid (kept_block hb)
  have hA2 := hA.below (of_alloc hb)
  replace hb := of_alloc hb
  have c0 := blk_cell HB.out 0
  have c1 := blk_cell HB.out 1
  have f0 := blk_free HB.out 0
  have f1 := blk_free HB.out 1
  simp only [List.getElem?_toArray, List.getElem?_cons_zero, List.getElem?_cons_succ] at c0 c1
  cases ok
  · obtain ⟨r1, r2, r3⟩ := res_end HR.out (resB_bad attr HS.out)
    clear HR HS HF HK H1 t1
    subst r1 r2 r3
    go_wp2
    refine bodyPost_ret (results_cell2 rfl _ _ w.heap.size _ _ _ rfl (blk_set (blk_set HB.out 0 _) 1 _) Try.underlying40 rfl name_info) rfl ?_
    exact ⟨rfl, (hb.setCell (Nat.le_refl _) _).setCell (Nat.le_refl _) _⟩
  · by_cases ha : (attr && e1) = true
    · obtain ⟨rfl, rfl⟩ : attr = true ∧ e1 = true := by simpa using ha
      obtain ⟨r1, r2, r3⟩ := res_end HR.out (resB_bare HS.out H1.out)
      have hp0 := nil_of p H1.out
      clear HR HS HF HK H1 t1 ha
      subst r1 r2 r3
      go_wp2
      refine bodyPost_ret (results_cell2 rfl _ _ w.heap.size _ _ _ rfl (blk_set (blk_set HB.out 0 _) 1 _) Try.underlying40 rfl name_info) rfl ?_
      exact ⟨rfl, (hb.setCell (Nat.le_refl _) _).setCell (Nat.le_refl _) _⟩
    · have ha' : (attr && eqT p sE) = false := by rw [H1.out]; simpa using ha
      have HX := Lib.hid (HR.out.symm.trans (resB_full HS.out ha' HF.out HK.out))
      clear HR HS HK ha'
      have hor : attr = false ∨ (attr = true ∧ e1 = false) := by cases attr <;> cases e1 <;> simp_all
      clear ha
      rcases hor with rfl | ⟨rfl, rfl⟩
      all_goals
        try have hp0 := ne_nil p H1.out
        try have hp1 := ne_empty p H1.out
        go_wp2_with fail
        refine (find_any A l c p _ hl hA2).mono ?_
        rw [HF.out]
        rintro e w3 ⟨rfl, rfl⟩
        cases fo
        · obtain ⟨r1, r2, r3⟩ := res_end rfl HX.out
          clear HX HF H1
          subst r1 r2 r3
          go_wp2
          refine bodyPost_ret (results_cell2 rfl _ _ w.heap.size _ _ _ rfl (blk_set (blk_set HB.out 0 _) 1 _) Try.underlying40 rfl name_info) rfl ?_
          exact ⟨rfl, (hb.setCell (Nat.le_refl _) _).setCell (Nat.le_refl _) _⟩
        · cases b1
          all_goals
            obtain ⟨r1, r2, r3⟩ := res_end rfl HX.out
            clear HX HF H1
            subst r1 r2 r3
            go_wp2
            refine bodyPost_ret (results_cell2 rfl _ _ w.heap.size _ _ _ rfl (blk_set (blk_set HB.out 0 _) 1 _) Try.underlying40 rfl name_info) rfl ?_
            exact ⟨rfl, (hb.setCell (Nat.le_refl _) _).setCell (Nat.le_refl _) _⟩

set_option maxHeartbeats 1000000 in
theorem rresolve_any (A : Option Addr) (l : List Pr) (c : Nat) (q : ByteArray) (attr : Bool) (w : World) (hl : l.length ≤ 1000000000) (hq : q.size ≤ 1000000000) (hA : Sl2 w A l) :
    Calls Try.prog 19 #[.slice A l.length c, .string q, .bool attr] w fun e w' =>
      e = .returned (.tuple #[.agg #[.string (resB l q attr).1.1, .string (resB l q attr).1.2], .int .i64 (resB l q attr).2]) ∧ Below w.heap.size w w' := by
  obtain ⟨n1, n2, er, hr⟩ : ∃ n1 n2 er, resB l q attr = ((n1, n2), er) := ⟨_, _, _, rfl⟩
  have HR := Lib.hid hr
  rw [hr]
  clear hr
  obtain ⟨p, lo, ok, hsp⟩ : ∃ p lo ok, splitB q = (p, lo, ok) := ⟨_, _, _, rfl⟩
  have HS := Lib.hid hsp
  clear hsp
  have t1 : (p.toList == [120, 109, 108, 110, 115]) = eqT p sXmlns := lit_of p sXmlns _ rfl
  obtain ⟨b1, k1⟩ : ∃ b, eqT p sXmlns = b := ⟨_, rfl⟩
  obtain ⟨e1, h1⟩ : ∃ b, eqT p sE = b := ⟨_, rfl⟩
  obtain ⟨s, fo, hf⟩ : ∃ s fo, findB l p = (s, fo) := ⟨_, _, rfl⟩
  have HF := Lib.hid hf
  have HK := Lib.hid k1
  have H1 := Lib.hid h1
  rw [k1] at t1
  clear k1 hf h1
  go_enter Try.func19, Try.ntmps19
  go_wp2_with fail
  refine (rsplit_any q _ hq).mono ?_
  rw [HS.out]
  rintro e w2 ⟨rfl, hb⟩
  have HB := Lib.hid (kept_block hb)
  have hA2 := hA.below (of_alloc hb)
  replace hb := of_alloc hb
  have c0 := blk_cell HB.out 0
  have c1 := blk_cell HB.out 1
  have f0 := blk_free HB.out 0
  have f1 := blk_free HB.out 1
  simp only [List.getElem?_toArray, List.getElem?_cons_zero, List.getElem?_cons_succ] at c0 c1
  cases ok
  · obtain ⟨r1, r2, r3⟩ := res_end HR.out (resB_bad attr HS.out)
    clear HR HS HF HK H1 t1
    subst r1 r2 r3
    go_wp2
    refine bodyPost_ret (results_cell2 rfl _ _ w.heap.size _ _ _ rfl (blk_set (blk_set HB.out 0 _) 1 _) Try.underlying40 rfl name_info) rfl ?_
    exact ⟨rfl, (hb.setCell (Nat.le_refl _) _).setCell (Nat.le_refl _) _⟩
  · by_cases ha : (attr && e1) = true
    · obtain ⟨rfl, rfl⟩ : attr = true ∧ e1 = true := by simpa using ha
      obtain ⟨r1, r2, r3⟩ := res_end HR.out (resB_bare HS.out H1.out)
      have hp0 := nil_of p H1.out
      clear HR HS HF HK H1 t1 ha
      subst r1 r2 r3
      go_wp2
      refine bodyPost_ret (results_cell2 rfl _ _ w.heap.size _ _ _ rfl (blk_set (blk_set HB.out 0 _) 1 _) Try.underlying40 rfl name_info) rfl ?_
      exact ⟨rfl, (hb.setCell (Nat.le_refl _) _).setCell (Nat.le_refl _) _⟩
    · have ha' : (attr && eqT p sE) = false := by rw [H1.out]; simpa using ha
      have HX := Lib.hid (HR.out.symm.trans (resB_full HS.out ha' HF.out HK.out))
      have hor : (attr = false ∧ e1 = true ∧ b1 = false) ∨ (attr = false ∧ e1 = false) ∨ (attr = true ∧ e1 = false) := by
        cases e1
        · cases attr <;> simp
        · left
          have hz := eqT_nil p H1.out
          refine ⟨by simpa using ha, rfl, ?_⟩
          rw [← HK.out, hz]
          exact eqT_false.2 (by decide)
      clear HR HS HK ha' ha
      rcases hor with ⟨rfl, rfl, rfl⟩ | ⟨rfl, rfl⟩ | ⟨rfl, rfl⟩
      · have hp0 := nil_of p H1.out
        clear t1
        go_wp2_with fail
        refine (rfind_any A l c p _ hl hA2).mono ?_
        rw [HF.out]
        rintro e w3 ⟨rfl, rfl⟩
        cases fo
        all_goals
          obtain ⟨r1, r2, r3⟩ := res_end rfl HX.out
          clear HX HF H1
          subst r1 r2 r3
          go_wp2
          refine bodyPost_ret (results_cell2 rfl _ _ w.heap.size _ _ _ rfl (blk_set (blk_set HB.out 0 _) 1 _) Try.underlying40 rfl name_info) rfl ?_
          exact ⟨rfl, (hb.setCell (Nat.le_refl _) _).setCell (Nat.le_refl _) _⟩
      all_goals
        have hp0 := ne_nil p H1.out
        have hp1 := ne_empty p H1.out
        go_wp2_with fail
        refine (rfind_any A l c p _ hl hA2).mono ?_
        rw [HF.out]
        rintro e w3 ⟨rfl, rfl⟩
        cases fo
        · obtain ⟨r1, r2, r3⟩ := res_end rfl HX.out
          clear HX HF H1
          subst r1 r2 r3
          go_wp2
          refine bodyPost_ret (results_cell2 rfl _ _ w.heap.size _ _ _ rfl (blk_set (blk_set HB.out 0 _) 1 _) Try.underlying40 rfl name_info) rfl ?_
          exact ⟨rfl, (hb.setCell (Nat.le_refl _) _).setCell (Nat.le_refl _) _⟩
        · cases b1
          all_goals
            obtain ⟨r1, r2, r3⟩ := res_end rfl HX.out
            clear HX HF H1
            subst r1 r2 r3
            go_wp2
            refine bodyPost_ret (results_cell2 rfl _ _ w.heap.size _ _ _ rfl (blk_set (blk_set HB.out 0 _) 1 _) Try.underlying40 rfl name_info) rfl ?_
            exact ⟨rfl, (hb.setCell (Nat.le_refl _) _).setCell (Nat.le_refl _) _⟩

end Go.Proofs.Ytkcpkgegkmockaa
