import Derived.Test.YtjohfljkhlkjoaaGreatDoorMgI
import Derived.Test.YtjohfljkhlkjoaaGreatDoorMgR
import Derived.Test.YtjohfljkhlkjoaaGreatDoorMgQ
namespace Go.Proofs.YtjohfljkhlkjoaaGreatDoor
open Go.RowKit Wb
theorem elem_info : (Tryz.prog.info? 162).map (·.size) = some 8 := by kernel_rfl
def tkVal (t : TkV) (tA : Option Addr) (tc : Nat) : Value := .agg #[.int .i64 t.kind, .int .i64 t.place, .string t.name, .slice tA t.attrs.length tc, .string t.text]
def BegunOut (sc : List Pr) (t : TkV) (w : World) (e : Ending) (w' : World) : Prop :=
  Below w.heap.size w w' ∧ match begunX sc t with
  | .error c => c ≠ 0 ∧ e = .returned (.tuple #[.agg #[.string sE, .slice none 0 0, .int .i64 0, .string sE, .string sE, .slice none 0 0, .slice none 0 0, .string sE], .int .i64 c])
  | .ok x => ∃ sA k aA m, e = .returned (.tuple #[.agg (ElX.cells ⟨x, sA, k, aA, m, .slice none 0 0⟩).toArray, .int .i64 0]) ∧ Sl2 w' sA x.scope ∧ Sl3 w' aA x.attrs ∧ Fresh w.heap.size sA ∧ Fresh w.heap.size aA
theorem eight_blk {w : World} {g : Nat} {t : TypeId} {z0 z1 z2 z3 z4 z5 z6 z7 : Value} (h : w.heap[g]? = some (.cells #[z0, z1, z2, z3, z4, z5, z6, z7] t (0, 0))) (c0 c1 c2 c3 c4 c5 c6 c7 : Value) :
    ((((((((w.setCell ⟨g, 0, none⟩ c0).setCell ⟨g, 1, none⟩ c1).setCell ⟨g, 2, none⟩ c2).setCell ⟨g, 3, none⟩ c3).setCell ⟨g, 4, none⟩ c4).setCell ⟨g, 5, none⟩ c5).setCell ⟨g, 6, none⟩ c6).setCell ⟨g, 7, none⟩ c7).heap[g]? = some (.cells #[c0, c1, c2, c3, c4, c5, c6, c7] t (0, 0)) := by
  have := blk_set (blk_set (blk_set (blk_set (blk_set (blk_set (blk_set (blk_set h 0 c0) 1 c1) 2 c2) 3 c3) 4 c4) 5 c5) 6 c6) 7 c7
  simpa using this
theorem eight_below {B : Nat} {a w : World} {g : Nat} (h : Below B a w) (hg : B ≤ g) (c0 c1 c2 c3 c4 c5 c6 c7 : Value) :
    Below B a ((((((((w.setCell ⟨g, 0, none⟩ c0).setCell ⟨g, 1, none⟩ c1).setCell ⟨g, 2, none⟩ c2).setCell ⟨g, 3, none⟩ c3).setCell ⟨g, 4, none⟩ c4).setCell ⟨g, 5, none⟩ c5).setCell ⟨g, 6, none⟩ c6).setCell ⟨g, 7, none⟩ c7) := by
  have st : ∀ (v : World) (i : Nat) (c : Value), Below B a v → Below B a (v.setCell ⟨g, i, none⟩ c) := fun v i c hv => hv.setCell (p := ⟨g, i, none⟩) hg c
  exact st _ _ _ (st _ _ _ (st _ _ _ (st _ _ _ (st _ _ _ (st _ _ _ (st _ _ _ (st _ _ _ h)))))))
theorem eight_keep (w : World) (g : Nat) (c0 c1 c2 c3 c4 c5 c6 c7 : Value) :
    Keep (fun k => k = g) w ((((((((w.setCell ⟨g, 0, none⟩ c0).setCell ⟨g, 1, none⟩ c1).setCell ⟨g, 2, none⟩ c2).setCell ⟨g, 3, none⟩ c3).setCell ⟨g, 4, none⟩ c4).setCell ⟨g, 5, none⟩ c5).setCell ⟨g, 6, none⟩ c6).setCell ⟨g, 7, none⟩ c7) := by
  have st : ∀ (v : World) (i : Nat) (c : Value), Keep (fun k => k = g) w v → Keep (fun k => k = g) w (v.setCell ⟨g, i, none⟩ c) := fun v i c hv => hv.setCell (p := ⟨g, i, none⟩) rfl c
  exact st _ _ _ (st _ _ _ (st _ _ _ (st _ _ _ (st _ _ _ (st _ _ _ (st _ _ _ (st _ _ _ (Keep.refl _ w))))))))
theorem begunOut_bad {sc : List Pr} {t : TkV} {w w' : World} {c : Int} (hr : begunX sc t = .error c) (hc : c ≠ 0) (hb : Below w.heap.size w w') :
    BegunOut sc t w (.returned (.tuple #[.agg #[.string sE, .slice none 0 0, .int .i64 0, .string sE, .string sE, .slice none 0 0, .slice none 0 0, .string sE], .int .i64 c])) w' := by
  refine ⟨hb, ?_⟩
  rw [hr]
  exact ⟨hc, rfl⟩
theorem begunOut_good {sc : List Pr} {t : TkV} {w w' : World} {x : El} {sA aA : Option Addr} {k m : Nat} (hr : begunX sc t = .ok x) (hb : Below w.heap.size w w') (h1 : Sl2 w' sA x.scope) (h2 : Sl3 w' aA x.attrs) (h3 : Fresh w.heap.size sA) (h4 : Fresh w.heap.size aA) :
    BegunOut sc t w (.returned (.tuple #[.agg (ElX.cells ⟨x, sA, k, aA, m, .slice none 0 0⟩).toArray, .int .i64 0])) w' := by
  refine ⟨hb, ?_⟩
  rw [hr]
  exact ⟨sA, k, aA, m, rfl, h1, h2, h3, h4⟩
set_option maxRecDepth 100000 in
set_option maxHeartbeats 4000000 in
theorem begun_any (A tA : Option Addr) (sc : List Pr) (c tc : Nat) (t : TkV) (w : World) (hsc : ScSz 2000 sc) (ht : TkOk t) (hA : Sl2 w A sc) (hB : Sl2 w tA t.attrs) :
    Calls Tryz.prog 122 #[.slice A sc.length c, tkVal t tA tc] w (BegunOut sc t w) := by
  obtain ⟨kd, pl, nm, al, tx⟩ := t
  have hfew := ht.few
  have heach := ht.each
  have hname := ht.name
  simp only at hfew heach hname hB
  unfold tkVal
  simp only
  have HX : Hid (begunX sc ⟨kd, pl, nm, al, tx⟩ = _) := Lib.hid rfl
  obtain ⟨hsl, hsv⟩ := hsc
  have hA2 := (hA.alloc (.cells #[.int .i64 kd, .int .i64 pl, .string nm, .slice tA al.length tc, .string tx] 57)).alloc (.cells #[.string sE, .slice none 0 0, .int .i64 0, .string sE, .string sE, .slice none 0 0, .slice none 0 0, .string sE] 162)
  have hB2 := (hB.alloc (.cells #[.int .i64 kd, .int .i64 pl, .string nm, .slice tA al.length tc, .string tx] 57)).alloc (.cells #[.string sE, .slice none 0 0, .int .i64 0, .string sE, .string sE, .slice none 0 0, .slice none 0 0, .string sE] 162)
  have hdecl := declareF_any A tA sc al c tc _ (by omega) (by omega) (fun x hx => by have := (heach x hx).1; omega) hA2 hB2
  go_enter Tryz.func122, Tryz.ntmps122
  go_wp2_with fail
  refine hdecl.mono ?_
  rintro e w1 ⟨hb1, hp⟩
  have HB1 := Lib.hid hb1
  have hG0 : w1.heap[w.heap.size]? = some (.cells #[.int .i64 kd, .int .i64 pl, .string nm, .slice tA al.length tc, .string tx] 57 (0, 0)) := by
    rw [hb1.block _ (by simp; omega), Below.heap_alloc _ _ _ (by simp)]
    exact heap_alloc_new w _
  have hG1 : w1.heap[w.heap.size + 1]? = some (.cells #[.string sE, .slice none 0 0, .int .i64 0, .string sE, .string sE, .slice none 0 0, .slice none 0 0, .string sE] 162 (0, 0)) := by
    rw [hb1.block _ (by simp)]
    have := heap_alloc_new (w.alloc (.cells #[.int .i64 kd, .int .i64 pl, .string nm, .slice tA al.length tc, .string tx] 57)) (.cells #[.string sE, .slice none 0 0, .int .i64 0, .string sE, .string sE, .slice none 0 0, .slice none 0 0, .string sE] 162)
    simpa using this
  have hbw : Below w.heap.size w w1 := (((Below.refl _ w).alloc (Nat.le_refl _) _).alloc (by simp) _).trans (hb1.mono (by simp; omega))
  have HG0 := Lib.hid hG0
  have HG1 := Lib.hid hG1
  have HBW := Lib.hid hbw
  have hp := fun r hr => hp r hr
  cases hd : declL al [] [] [] with
  | error er =>
    obtain ⟨h0, rfl⟩ := hp _ hd.symm
    have hx : begunX sc ⟨kd, pl, nm, al, tx⟩ = .error er := by unfold begunX; simp only [hd]
    have HXE := Lib.hid hx
    have h0' : (er != 0) = true := by simpa using h0
    have z0 := blk_cell hG1 0
    have z1 := blk_cell hG1 1
    have z2 := blk_cell hG1 2
    have z3 := blk_cell hG1 3
    have z4 := blk_cell hG1 4
    have z5 := blk_cell hG1 5
    have z6 := blk_cell hG1 6
    have z7 := blk_cell hG1 7
    simp only [List.getElem?_toArray, List.getElem?_cons_zero, List.getElem?_cons_succ] at z0 z1 z2 z3 z4 z5 z6 z7
    have y0 := blk_free hG1 0
    have y1 := blk_free hG1 1
    have y2 := blk_free hG1 2
    have y3 := blk_free hG1 3
    have y4 := blk_free hG1 4
    have y5 := blk_free hG1 5
    have y6 := blk_free hG1 6
    have y7 := blk_free hG1 7
    clear hx hd hp hG0 hG1 hbw hb1 hdecl hA2 hB2 hA hB HX
    go_wp2
    refine bodyPost_ret (results_cell2 rfl _ _ (w.heap.size + 1) _ _ _ rfl (eight_blk HG1.out _ _ _ _ _ _ _ _) Tryz.underlying162 rfl elem_info) rfl ?_
    exact begunOut_bad HXE.out h0 (eight_below HBW.out (by omega) _ _ _ _ _ _ _ _)
  | ok br =>
    obtain ⟨binds, rest⟩ := br
    obtain ⟨C, ck, D, dm, rfl, hC, hD, hFC⟩ := hp _ hd.symm
    obtain ⟨S, hS⟩ : ∃ S, sc ++ binds = S := ⟨_, rfl⟩
    rw [hS] at hC ⊢
    have hl0 := declL_len _ _ _ _ _ _ 1000000 hd (fun x hx => (heach x hx).2) (by simp)
    have hbl : binds.length ≤ 67 := by have := hl0.1; simp at this; omega
    have hrl : rest.length ≤ 67 := by have := hl0.2.1; simp at this; omega
    have hscl : S.length ≤ 1000000 := by rw [← hS]; simp; omega
    have hscv : ∀ x ∈ S, x.2.size ≤ 1000000000 := fun x hx => by
      rw [← hS] at hx
      rcases List.mem_append.1 hx with hx | hx
      · have := hsv x hx; omega
      · have := hl0.2.2.1 x hx; omega
    have hrv : ∀ x ∈ rest, x.1.size ≤ 1000000000 := fun x hx => by
      rcases hl0.2.2.2 x hx with hx | hx
      · cases hx
      · have := (heach x hx).1; omega
    have HS := Lib.hid hS
    clear hl0 heach hsv hsl hp hS
    by_cases h32 : 32 < rest.length
    · have hx : begunX sc ⟨kd, pl, nm, al, tx⟩ = .error 3 := by unfold begunX; simp only [hd]; rw [if_pos h32]
      have HXE := Lib.hid hx
      have h32' : (32 : Int) < (rest.length : Int) := by omega
      have z0 := blk_cell hG1 0
      have z1 := blk_cell hG1 1
      have z2 := blk_cell hG1 2
      have z3 := blk_cell hG1 3
      have z4 := blk_cell hG1 4
      have z5 := blk_cell hG1 5
      have z6 := blk_cell hG1 6
      have z7 := blk_cell hG1 7
      simp only [List.getElem?_toArray, List.getElem?_cons_zero, List.getElem?_cons_succ] at z0 z1 z2 z3 z4 z5 z6 z7
      have y0 := blk_free hG1 0
      have y1 := blk_free hG1 1
      have y2 := blk_free hG1 2
      have y3 := blk_free hG1 3
      have y4 := blk_free hG1 4
      have y5 := blk_free hG1 5
      have y6 := blk_free hG1 6
      have y7 := blk_free hG1 7
      clear hx hd hG0 hG1 hbw hb1 hdecl hA2 hB2 hA hB HX
      go_wp2
      refine bodyPost_ret (results_cell2 rfl _ _ (w.heap.size + 1) _ _ _ rfl (eight_blk HG1.out _ _ _ _ _ _ _ _) Tryz.underlying162 rfl elem_info) rfl ?_
      exact begunOut_bad HXE.out (by decide) (eight_below HBW.out (by omega) _ _ _ _ _ _ _ _)
    · have h32' : ¬ (32 : Int) < (rest.length : Int) := by omega
      have hres := resolve_any C S ck nm false w1 (by omega) (by omega) hC
      obtain ⟨n1, n2, er, hr⟩ : ∃ n1 n2 er, resB S nm false = ((n1, n2), er) := ⟨_, _, _, rfl⟩
      rw [hr] at hres
      have t2 := blk_cell hG0 2
      simp only [List.getElem?_toArray, List.getElem?_cons_zero, List.getElem?_cons_succ] at t2
      have HD0 := Lib.hid hd
      have HR0 := Lib.hid hr
      have HCC := Lib.hid hC
      have HDD := Lib.hid hD
      clear hd hr hG0 hG1 hbw hb1 hdecl hA2 hB2 hA hB HX hC hD
      go_wp2_with fail
      refine hres.mono ?_
      rintro e w2 ⟨rfl, hb2⟩
      have hG02 := still_block HG0.out hb2
      have hG12 := still_block HG1.out hb2
      have hbw2 := HBW.out.trans (hb2.mono HBW.out.size)
      have hN := heap_alloc_new w2 (.cells #[.string n1, .string n2] 33)
      have hl1 : w.heap.size + 1 < w2.heap.size := blk_in hG12
      have hG03 : (w2.alloc (.cells #[.string n1, .string n2] 33)).heap[w.heap.size]? = _ := (Below.heap_alloc w2 _ _ (by omega)).trans hG02
      have hG13 : (w2.alloc (.cells #[.string n1, .string n2] 33)).heap[w.heap.size + 1]? = _ := (Below.heap_alloc w2 _ _ (by omega)).trans hG12
      have HG03 := Lib.hid hG03
      have HG13 := Lib.hid hG13
      have HN := Lib.hid hN
      have HBW3 := Lib.hid (hbw2.alloc hbw2.size (.cells #[.string n1, .string n2] 33))
      by_cases her : er = 0
      · subst her
        have hC3 := (HCC.out.below hb2).alloc (.cells #[.string n1, .string n2] 33)
        have hD3 := (HDD.out.below hb2).alloc (.cells #[.string n1, .string n2] 33)
        have hat := attrsF_any C D S rest ck dm _ hscl (by omega) hscv hrv hC3 hD3
        have HC3 := Lib.hid hC3
        clear hG02 hG12 hbw2 hN hG03 hG13 hres hb2 t2 hC3 hD3
        go_wp2_with fail
        refine hat.mono ?_
        rintro e w4 ⟨hb4, hp4⟩
        have hG04 := still_block HG03.out hb4
        have hG14 := still_block HG13.out hb4
        have hN4 := still_block HN.out hb4
        have hbw4 := HBW3.out.trans (hb4.mono HBW3.out.size)
        have HG14 := Lib.hid hG14
        have HBW4 := Lib.hid hbw4
        cases ha : attrL S rest [] with
        | error er =>
          obtain ⟨h0, rfl⟩ := hp4 _ ha.symm
          have hx : begunX sc ⟨kd, pl, nm, al, tx⟩ = .error er := by
            unfold begunX; simp only [HD0.out]; rw [HS.out, if_neg h32, HR0.out]; simp only [ha]; simp
          have HXE := Lib.hid hx
          have h0' : (er != 0) = true := by simpa using h0
          have z0 := blk_cell hG14 0
          have z1 := blk_cell hG14 1
          have z2 := blk_cell hG14 2
          have z3 := blk_cell hG14 3
          have z4 := blk_cell hG14 4
          have z5 := blk_cell hG14 5
          have z6 := blk_cell hG14 6
          have z7 := blk_cell hG14 7
          simp only [List.getElem?_toArray, List.getElem?_cons_zero, List.getElem?_cons_succ] at z0 z1 z2 z3 z4 z5 z6 z7
          have y0 := blk_free hG14 0
          have y1 := blk_free hG14 1
          have y2 := blk_free hG14 2
          have y3 := blk_free hG14 3
          have y4 := blk_free hG14 4
          have y5 := blk_free hG14 5
          have y6 := blk_free hG14 6
          have y7 := blk_free hG14 7
          clear hx ha hp4 hG04 hG14 hN4 hbw4 hb4 hat
          go_wp2
          refine bodyPost_ret (results_cell2 rfl _ _ (w.heap.size + 1) _ _ _ rfl (eight_blk HG14.out _ _ _ _ _ _ _ _) Tryz.underlying162 rfl elem_info) rfl ?_
          exact begunOut_bad HXE.out h0 (eight_below HBW4.out (by omega) _ _ _ _ _ _ _ _)
        | ok out =>
          obtain ⟨E, m, rfl, hE, hFE⟩ := hp4 _ ha.symm
          have hx : begunX sc ⟨kd, pl, nm, al, tx⟩ = .ok ⟨nm, S, (n1, n2), out, []⟩ := by
            unfold begunX; simp only [HD0.out]; rw [HS.out, if_neg h32, HR0.out]; simp only [ha]; simp
          have HXE := Lib.hid hx
          have t2 := blk_cell hG04 2
          have n0' := blk_cell hN4 0
          have n1' := blk_cell hN4 1
          simp only [List.getElem?_toArray, List.getElem?_cons_zero, List.getElem?_cons_succ] at t2 n0' n1'
          have HC4 := Lib.hid (HC3.out.below hb4)
          have HE4 := Lib.hid hE
          have z0 := blk_cell hG14 0
          have z1 := blk_cell hG14 1
          have z2 := blk_cell hG14 2
          have z3 := blk_cell hG14 3
          have z4 := blk_cell hG14 4
          have z5 := blk_cell hG14 5
          have z6 := blk_cell hG14 6
          have z7 := blk_cell hG14 7
          simp only [List.getElem?_toArray, List.getElem?_cons_zero, List.getElem?_cons_succ] at z0 z1 z2 z3 z4 z5 z6 z7
          have y0 := blk_free hG14 0
          have y1 := blk_free hG14 1
          have y2 := blk_free hG14 2
          have y3 := blk_free hG14 3
          have y4 := blk_free hG14 4
          have y5 := blk_free hG14 5
          have y6 := blk_free hG14 6
          have y7 := blk_free hG14 7
          clear hx ha hp4 hG04 hG14 hN4 hbw4 hb4 hat hE
          go_wp2
          refine bodyPost_ret (results_cell2 rfl _ _ (w.heap.size + 1) _ _ _ rfl (eight_blk HG14.out _ _ _ _ _ _ _ _) Tryz.underlying162 rfl elem_info) rfl ?_
          have hfc : ∀ ad, C = some ad → w.heap.size + 2 ≤ ad.block := fun ad e => by have := hFC ad e; simp at this; omega
          have hfe : ∀ ad, E = some ad → w.heap.size + 2 ≤ ad.block := fun ad e => by have := hFE ad e; simp at this; omega
          refine begunOut_good (x := ⟨nm, S, (n1, n2), out, []⟩) HXE.out (eight_below HBW4.out (by omega) _ _ _ _ _ _ _ _) ?_ ?_ ?_ ?_
          · exact (Sl.safe (S := fun k => k = w.heap.size + 1) HC4.out (fun _ ad e h => by have := hfc ad e; omega)) _ (eight_keep _ _ _ _ _ _ _ _ _ _)
          · exact (Sl.safe (S := fun k => k = w.heap.size + 1) HE4.out (fun _ ad e h => by have := hfe ad e; omega)) _ (eight_keep _ _ _ _ _ _ _ _ _ _)
          · exact fun ad e => by have := hfc ad e; omega
          · exact fun ad e => by have := hfe ad e; omega
      · have hx : begunX sc ⟨kd, pl, nm, al, tx⟩ = .error er := by
          unfold begunX; simp only [HD0.out]; rw [HS.out, if_neg h32, HR0.out]; simp only [ne_eq, her, not_false_eq_true, if_true]
        have HXE := Lib.hid hx
        have h0' : (er != 0) = true := by simpa using her
        clear hx hG02 hG12 hbw2 hN hG03 hG13 hres hb2 t2 HN
        go_upto_region 7 with fail
        revert HG03 HG13 HBW3
        generalize (w2.alloc (.cells #[.string n1, .string n2] 33)) = w3
        intro HG03 HG13 HBW3
        have z0 := blk_cell HG13.out 0
        have z1 := blk_cell HG13.out 1
        have z2 := blk_cell HG13.out 2
        have z3 := blk_cell HG13.out 3
        have z4 := blk_cell HG13.out 4
        have z5 := blk_cell HG13.out 5
        have z6 := blk_cell HG13.out 6
        have z7 := blk_cell HG13.out 7
        simp only [List.getElem?_toArray, List.getElem?_cons_zero, List.getElem?_cons_succ] at z0 z1 z2 z3 z4 z5 z6 z7
        have y0 := blk_free HG13.out 0
        have y1 := blk_free HG13.out 1
        have y2 := blk_free HG13.out 2
        have y3 := blk_free HG13.out 3
        have y4 := blk_free HG13.out 4
        have y5 := blk_free HG13.out 5
        have y6 := blk_free HG13.out 6
        have y7 := blk_free HG13.out 7
        go_wp2
        refine bodyPost_ret (results_cell2 rfl _ _ (w.heap.size + 1) _ _ _ rfl (eight_blk HG13.out _ _ _ _ _ _ _ _) Tryz.underlying162 rfl elem_info) rfl ?_
        exact begunOut_bad HXE.out her (eight_below HBW3.out (by omega) _ _ _ _ _ _ _ _)
end Go.Proofs.YtjohfljkhlkjoaaGreatDoor

namespace Go.Proofs.YtjohfljkhlkjoaaGreatDoor
open Go.RowKit Wb
theorem elem_info3 : (Tryz.prog.info? 162).map (fun i => (i.zero, i.size, i.bytes)) = some (some (.agg #[.string ⟨#[]⟩, .slice none 0 0, .int .i64 0, .string ⟨#[]⟩, .string ⟨#[]⟩, .slice none 0 0, .slice none 0 0, .string ⟨#[]⟩]), 8, 144) := by kernel_rfl
section
variable {base B : Nat} {b : Bd} {ov : Value} {xs l : List ElX} {x : ElX} {rc : List Value} {w : World}
theorem start_put {wa w2 w4 : World} {y : El} {sA aA : Option Addr} {k m : Nat} {v4 : Value} (h : BW base B b ov xs rc wa) (hkids : y.kids = []) (hb2 : Below wa.heap.size wa w2) (h1 : Sl2 w2 sA y.scope) (h2 : Sl3 w2 aA y.attrs) (h3 : Fresh wa.heap.size sA) (h4 : Fresh wa.heap.size aA) (o1 o2 : Obj)
    (hown : w4.ownsRow base 162 8 v4 (xs.length + 1) (elsC xs ++ ElX.cells ⟨y, sA, k, aA, m, .slice none 0 0⟩)) (hg : ((((w2.alloc o1).setCell ⟨B, 7, none⟩ (.int .i64 ((b.nodes + 1 : Nat) : Int))).alloc o2).drew).grownBy w4 ov.ownBlock)
    (hat : v4.ownBlock = ov.ownBlock ∨ v4.ownBlock = some ((((w2.alloc o1).setCell ⟨B, 7, none⟩ (.int .i64 ((b.nodes + 1 : Nat) : Int))).alloc o2).drew).heap.size) :
    Below base wa (w4.setCell ⟨B, 0, none⟩ v4) ∧ (∃ ov' xs' rc', BW base B { b with opened := b.opened ++ [y], nodes := b.nodes + 1 } ov' xs' rc' (w4.setCell ⟨B, 0, none⟩ v4)) ∧ Keep (BdS B ov xs) wa (w4.setCell ⟨B, 0, none⟩ v4) := by
  have hbb : base ≤ wa.heap.size := Nat.le_of_lt (Nat.lt_of_le_of_lt h.hB h.ltB)
  have hA := h.other hb2
  have hB1 : Below w2.heap.size w2 (w2.alloc o1) := (Below.refl _ _).alloc (Nat.le_refl _) _
  have hA1 := hA.other hB1
  have hA2 := hA1.count (b.nodes + 1)
  have hB3 : Below ((w2.alloc o1).setCell ⟨B, 7, none⟩ (.int .i64 ((b.nodes + 1 : Nat) : Int))).heap.size ((w2.alloc o1).setCell ⟨B, 7, none⟩ (.int .i64 ((b.nodes + 1 : Nat) : Int))) ((((w2.alloc o1).setCell ⟨B, 7, none⟩ (.int .i64 ((b.nodes + 1 : Nat) : Int))).alloc o2).drew) := ((Below.refl _ _).alloc (Nat.le_refl _) _).drew
  have hA3 := hA2.other hB3
  have hkc : Keep (BdS B ov xs) (w2.alloc o1) ((w2.alloc o1).setCell ⟨B, 7, none⟩ (.int .i64 ((b.nodes + 1 : Nat) : Int))) := (Keep.refl _ _).setCell (.inl rfl) _
  have hkall : Keep (BdS B ov xs) w2 ((((w2.alloc o1).setCell ⟨B, 7, none⟩ (.int .i64 ((b.nodes + 1 : Nat) : Int))).alloc o2).drew) := ((Keep.of_below _ hB1).trans hkc).trans (Keep.of_below _ hB3)
  have hsl : ∀ k, BdS B ov xs k → k < wa.heap.size := fun k hk => (h.lt hk).2
  have s1 : SafeP (BdU base B ov xs) w2 (fun v => Sl2 v sA y.scope) := Sl.safe h1 (fun _ ad e hs => Or.elim hs (fun h => by have := h3 ad e; omega) (fun h => by have := h3 ad e; have := hsl _ h; omega))
  have s2 : SafeP (BdU base B ov xs) w2 (fun v => Sl3 v aA y.attrs) := Sl.safe h2 (fun _ ad e hs => Or.elim hs (fun h => by have := h4 ad e; omega) (fun h => by have := h4 ad e; have := hsl _ h; omega))
  have hp := hA3.push (x := ⟨y, sA, k, aA, m, .slice none 0 0⟩) rfl hkids (s1.keep (ku hkall) (fun _ _ h => h)) (s2.keep (ku hkall) (fun _ _ h => h)) hown hg hat
  have e1 : Below base wa w2 := hb2.mono hbb
  have e2 : Below base w2 ((((w2.alloc o1).setCell ⟨B, 7, none⟩ (.int .i64 ((b.nodes + 1 : Nat) : Int))).alloc o2).drew) := hA.below hkall
  have e3 := hA3.below hp.2
  exact ⟨(e1.trans e2).trans e3, ⟨_, _, _, hp.1⟩, ((Keep.of_below _ hb2).trans hkall).trans hp.2⟩
def StartOut (base B : Nat) (S : Nat → Prop) (r : Except Int Bd) (w : World) (e : Ending) (w' : World) : Prop := TakeOut base B r w e w' ∧ ∀ b', r = .ok b' → Keep S w w'
theorem StartOut.bad {base B : Nat} {S : Nat → Prop} {w w' : World} {r : Except Int Bd} {c : Int} (hr : r = .error c) (hc : c ≠ 0) (hb : Below base w w') (hb2 : Below w.heap.size w w') : StartOut base B S r w (.returned (.int .i64 c)) w' :=
  ⟨TakeOut.bad hr hc hb hb2, fun b' h => by rw [hr] at h; cases h⟩
theorem StartOut.good {base B : Nat} {S : Nat → Prop} {w wa w' : World} {r : Except Int Bd} {b' : Bd} (hr : r = .ok b') (hb : Below base w w') (h : ∃ ov xs rc, BW base B b' ov xs rc w') (hw : Below w.heap.size w wa) (hk : Keep S wa w') : StartOut base B S r w (.returned (.int .i64 0)) w' :=
  ⟨TakeOut.good hr hb h, fun _ _ => (Keep.of_below _ hw).trans hk⟩
set_option maxRecDepth 100000 in
set_option maxHeartbeats 8000000 in
theorem bstart_any {T : Nat} (t : TkV) (tA : Option Addr) (tc : Nat) (h : BW base B b ov xs rc w) (hb : BdOK b) (hz : BdSz T b) (ht : TkOk t) (hB : Sl2 w tA t.attrs) :
    Calls Tryz.prog 82 #[.pointer (some ⟨B, 0, none⟩), tkVal t tA tc] w (StartOut base B (BdS B ov xs) (startX b t) w) := by
  obtain ⟨hkl, hxl⟩ := h.kids_len hb
  have hnl : b.nodes ≤ 2000 := hb.few
  have hol : b.opened.length = xs.length := by rw [h.els]; simp
  obtain ⟨kd, pl, nm, al, tx⟩ := t
  unfold tkVal
  simp only at hB ⊢
  have hWA : Below w.heap.size w (w.alloc (.cells #[.int .i64 kd, .int .i64 pl, .string nm, .slice tA al.length tc, .string tx] 57)) := (Below.refl _ w).alloc (Nat.le_refl _) _
  have hA := h.other hWA
  have hT := heap_alloc_new w (.cells #[.int .i64 kd, .int .i64 pl, .string nm, .slice tA al.length tc, .string tx] 57)
  have hbb : base ≤ w.heap.size := Nat.le_of_lt (Nat.lt_of_le_of_lt h.hB h.ltB)
  have hBW := hWA.mono hbb
  have hB1 := hB.below hWA
  obtain ⟨OA, OC, rfl⟩ := own_shape h.own
  have HA := Lib.hid hA
  have HT := Lib.hid hT
  have HBW := Lib.hid hBW
  have HWK := Lib.hid hWA
  have HB1 := Lib.hid hB1
  have hend := ended_any hA
  have hn0 : (0 : Int) ≤ (xs.length : Int) := by omega
  have hn1 : (xs.length : Int) ≤ 24 := by omega
  have hn2 : (0 : Int) ≤ (b.nodes : Int) := by omega
  have hn3 : (b.nodes : Int) ≤ 2000 := by omega
  have c0 := hA.c0
  have c7 := hA.c7
  have f7 := hA.f 7
  clear h hA hT hWA hBW hB1 hB
  revert hend c0 c7 f7; revert HWK; revert HB1; revert HBW; revert HT; revert HA
  generalize hwa : (w.alloc (.cells #[.int .i64 kd, .int .i64 pl, .string nm, .slice tA al.length tc, .string tx] 57)) = wa
  intro HA HT HBW HB1 HWK hend c0 c7 f7
  by_cases hr : b.root.kind = 1
  · have hx : startX b ⟨kd, pl, nm, al, tx⟩ = .error 18 := by unfold startX; rw [if_pos hr]
    have HX := Lib.hid hx
    rw [decide_eq_true hr] at hend
    clear hx hr
    go_enter Tryz.func82, Tryz.ntmps82
    go_wp2_with fail
    refine hend.mono ?_
    rintro e w1 ⟨rfl, rfl⟩
    go_wp2
    go_ret
    exact StartOut.bad HX.out (by decide) HBW.out HWK.out
  rw [decide_eq_false hr] at hend
  by_cases h24 : xs.length = 24
  · have hx : startX b ⟨kd, pl, nm, al, tx⟩ = .error 19 := by unfold startX; rw [if_neg hr, if_pos (by omega)]
    have HX := Lib.hid hx
    rw [h24] at c0
    clear hx hr
    go_enter Tryz.func82, Tryz.ntmps82
    go_wp2_with fail
    refine hend.mono ?_
    rintro e w1 ⟨rfl, rfl⟩
    go_wp2
    go_ret
    exact StartOut.bad HX.out (by decide) HBW.out HWK.out
  have h24' : ((xs.length : Int) == 24) = false := by simpa using (show ¬ (xs.length : Int) = 24 by omega)
  by_cases hnod : b.nodes = 2000
  · have hx : startX b ⟨kd, pl, nm, al, tx⟩ = .error 3 := by unfold startX; rw [if_neg hr, if_neg (by omega), if_pos hnod]
    have HX := Lib.hid hx
    rw [hnod] at c7
    clear hx hr
    go_enter Tryz.func82, Tryz.ntmps82
    go_wp2_with fail
    refine hend.mono ?_
    rintro e w1 ⟨rfl, rfl⟩
    go_wp2
    go_ret
    exact StartOut.bad HX.out (by decide) HBW.out HWK.out
  have hnod' : ((b.nodes : Int) == 2000) = false := by simpa using (show ¬ (b.nodes : Int) = 2000 by omega)
  have hsx : startX b ⟨kd, pl, nm, al, tx⟩ = match begunX (scopeX b) ⟨kd, pl, nm, al, tx⟩ with
      | .error e => .error e
      | .ok e => .ok { b with opened := b.opened ++ [e], nodes := b.nodes + 1 } := by
    unfold startX; rw [if_neg hr, if_neg (by omega), if_neg hnod]; rfl
  have HSX := Lib.hid hsx
  have hscz := scopeX_sz hz
  have hsl : ScSz 2000 (scopeX b) := ⟨by have := hscz.1; omega, hscz.2⟩
  have HSL := Lib.hid hsl
  clear hsx hr hscz hsl hz
  rcases last_cases xs with rfl | ⟨l, x, rfl⟩
  · have hin := inner_none HA.out
    have hsc0 : scopeX b = [] := by unfold scopeX; rw [HA.out.els]; rfl
    rw [hsc0] at HSX HSL
    have hbg := begun_any none tA [] 0 tc ⟨kd, pl, nm, al, tx⟩ wa HSL.out ht (Sl2.nil _ _) HB1.out
    unfold tkVal at hbg
    simp only [List.length_nil] at hbg
    have t0 := blk_cell HT.out 0
    have t1 := blk_cell HT.out 1
    have t2 := blk_cell HT.out 2
    have t3 := blk_cell HT.out 3
    have t4 := blk_cell HT.out 4
    simp only [List.getElem?_toArray, List.getElem?_cons_zero, List.getElem?_cons_succ] at t0 t1 t2 t3 t4
    go_enter Tryz.func82, Tryz.ntmps82
    go_wp2_with fail
    refine hend.mono ?_
    rintro e w1 ⟨rfl, rfl⟩
    go_wp2_with fail
    refine hin.mono ?_
    rintro e w1' ⟨rfl, rfl⟩
    go_wp2_with fail
    refine hbg.mono ?_
    rintro e w2 ⟨hb2, hp⟩
    cases hbx : begunX [] ⟨kd, pl, nm, al, tx⟩ with
    | error c =>
      rw [hbx] at hp
      obtain ⟨hc, rfl⟩ := hp
      have hc' : (c != 0) = true := by simpa using hc
      have HXE : Hid (startX b ⟨kd, pl, nm, al, tx⟩ = .error c) := Lib.hid (by rw [HSX.out, hbx])
      have hbe := HBW.out.trans (hb2.mono (Nat.le_of_lt (Nat.lt_of_le_of_lt HA.out.hB HA.out.ltB)))
      clear hbx HT HB1 hend hin hbg c0 c7 f7
      go_wp2
      go_ret
      exact StartOut.bad HXE.out hc (hbe.alloc (Nat.le_trans (Nat.le_trans hbb HBW.out.size) hb2.size) _) ((HWK.out.trans (hb2.mono HWK.out.size)).alloc (Nat.le_trans HWK.out.size hb2.size) _)
    | ok y =>
      rw [hbx] at hp
      obtain ⟨sA, k, aA, m, rfl, h1, h2, h3, h4⟩ := hp
      unfold ElX.cells
      simp only
      have hkd := (begunX_sz HSL.out ht hbx).2
      have HXE : Hid (startX b ⟨kd, pl, nm, al, tx⟩ = .ok { b with opened := b.opened ++ [y], nodes := b.nodes + 1 }) := Lib.hid (by rw [HSX.out, hbx])
      go_upto_region 14 with fail
      have hA2 := HA.out.other hb2
      have hA3 := hA2.other ((Below.refl w2.heap.size w2).alloc (Nat.le_refl _) (.cells #[.string y.word, .slice sA y.scope.length k, .int .i64 1, .string y.name.1, .string y.name.2, .slice aA y.attrs.length m, .slice none 0 0, .string sE] 162))
      have hA5 := hA3.count (b.nodes + 1)
      have hA6 := hA5.other ((Below.refl _ ((w2.alloc (.cells #[.string y.word, .slice sA y.scope.length k, .int .i64 1, .string y.name.1, .string y.name.2, .slice aA y.attrs.length m, .slice none 0 0, .string sE] 162)).setCell ⟨B, 7, none⟩ (.int .i64 ((b.nodes + 1 : Nat) : Int)))).alloc (Nat.le_refl _) (.cells #[.string y.word, .slice sA y.scope.length k, .int .i64 1, .string y.name.1, .string y.name.2, .slice aA y.attrs.length m, .slice none 0 0, .string sE] 162))
      have e1 : ((b.nodes + 1 : Nat) : Int) = (b.nodes : Int) + 1 := by omega
      have HPUT := Lib.hid (fun (w4 : World) (v4 : Value) => start_put (w4 := w4) (v4 := v4) HA.out hkd hb2 h1 h2 h3 h4 (k := k) (m := m) (.cells #[.string y.word, .slice sA y.scope.length k, .int .i64 1, .string y.name.1, .string y.name.2, .slice aA y.attrs.length m, .slice none 0 0, .string sE] 162) (.cells #[.string y.word, .slice sA y.scope.length k, .int .i64 1, .string y.name.1, .string y.name.2, .slice aA y.attrs.length m, .slice none 0 0, .string sE] 162))
      have HOWN := Lib.hid hA6.own
      have HGO := Lib.hid (fun (w4 : World) (hg : ((((w2.alloc (.cells #[.string y.word, .slice sA y.scope.length k, .int .i64 1, .string y.name.1, .string y.name.2, .slice aA y.attrs.length m, .slice none 0 0, .string sE] 162)).setCell ⟨B, 7, none⟩ (.int .i64 ((b.nodes + 1 : Nat) : Int))).alloc (.cells #[.string y.word, .slice sA y.scope.length k, .int .i64 1, .string y.name.1, .string y.name.2, .slice aA y.attrs.length m, .slice none 0 0, .string sE] 162)).drew).grownBy w4 (Value.slice OA 0 OC).ownBlock) =>
        (show w4.cell? ⟨B, 0, none⟩ = some (.slice OA 0 OC) ∧ w4.frozen? ⟨B, 0, none⟩ = false from by
          have hB := hg.block B hA6.ltB (fun e => hA6.d1 e.symm)
          exact ⟨(World.cell?_of_block hB).trans hA6.c0, (World.frozen?_of_block hB).trans (hA6.f 0)⟩))
      have HLIT := Lib.hid (Sl.lit ((w2.alloc (.cells #[.string y.word, .slice sA y.scope.length k, .int .i64 1, .string y.name.1, .string y.name.2, .slice aA y.attrs.length m, .slice none 0 0, .string sE] 162)).setCell ⟨B, 7, none⟩ (.int .i64 ((b.nodes + 1 : Nat) : Int))) 8 [.string y.word, .slice sA y.scope.length k, .int .i64 1, .string y.name.1, .string y.name.2, .slice aA y.attrs.length m, .slice none 0 0, .string sE] 162 1 rfl)
      have HN3 := Lib.hid (heap_alloc_new w2 (.cells #[.string y.word, .slice sA y.scope.length k, .int .i64 1, .string y.name.1, .string y.name.2, .slice aA y.attrs.length m, .slice none 0 0, .string sE] 162))
      have hBw2 : B < w2.heap.size := hA2.ltB
      have HN5 := Lib.hid ((show ((w2.alloc (.cells #[.string y.word, .slice sA y.scope.length k, .int .i64 1, .string y.name.1, .string y.name.2, .slice aA y.attrs.length m, .slice none 0 0, .string sE] 162)).setCell ⟨B, 7, none⟩ (.int .i64 ((b.nodes + 1 : Nat) : Int))).heap[w2.heap.size]? = _ from (Below.heap_setCell _ _ _ _ (by simp; omega)).trans (heap_alloc_new w2 (.cells #[.string y.word, .slice sA y.scope.length k, .int .i64 1, .string y.name.1, .string y.name.2, .slice aA y.attrs.length m, .slice none 0 0, .string sE] 162))))
      have H3 := Lib.hid hA3
      have H5 := Lib.hid hA5
      rw [e1] at HPUT HOWN HGO HLIT HN5 H5
      clear hA2 hA3 hA5 hA6 e1 hbx h1 h2 h3 h4 HB1 hend hin hbg c0 c7 f7 t0 t1 t2 t3 t4 hb2 HT HSX hwa HA
      revert H5; revert H3; revert HN5; revert HN3; revert HLIT; revert HGO; revert HOWN; revert HPUT
      generalize (w2.alloc (.cells #[.string y.word, .slice sA y.scope.length k, .int .i64 1, .string y.name.1, .string y.name.2, .slice aA y.attrs.length m, .slice none 0 0, .string sE] 162)) = w3
      intro HPUT HOWN HGO HLIT HN3 HN5 H3 H5
      generalize w2.heap.size = N at *
      have c7 := H3.out.c7
      have f7 := H3.out.f 7
      go_upto_region 15 with fail
      clear c7 f7
      revert H5; revert HN5; revert HLIT; revert HGO; revert HOWN; revert HPUT
      generalize (w3.setCell ⟨B, 7, none⟩ (.int .i64 ((b.nodes : Int) + 1))) = w5
      intro HPUT HOWN HGO HLIT HN5 H5
      have c0 : w5.drew.cell? ⟨B, 0, none⟩ = some (.slice OA 0 OC) := H5.out.c0
      have f0 : w5.drew.frozen? ⟨B, 0, none⟩ = false := H5.out.f 0
      have hBl : B < w5.heap.size := H5.out.ltB
      have hNl : N < w5.heap.size := blk_in HN5.out
      have aB : ∀ o, (w5.alloc o).cell? ⟨B, 0, none⟩ = some (.slice OA 0 OC) := fun o => (World.cell?_of_block (w := w5) (Below.heap_alloc w5 o _ hBl)).trans H5.out.c0
      have aN : ∀ o j, (w5.alloc o).cell? ⟨N, j, none⟩ = w5.cell? ⟨N, j, none⟩ := fun o j => World.cell?_of_block (w := w5) (Below.heap_alloc w5 o _ hNl)
      have n0 := blk_cell HN5.out 0
      have n1 := blk_cell HN5.out 1
      have n2 := blk_cell HN5.out 2
      have n3 := blk_cell HN5.out 3
      have n4 := blk_cell HN5.out 4
      have n5 := blk_cell HN5.out 5
      have n6 := blk_cell HN5.out 6
      have n7 := blk_cell HN5.out 7
      simp only [List.getElem?_toArray, List.getElem?_cons_zero, List.getElem?_cons_succ] at n0 n1 n2 n3 n4 n5 n6 n7
      have an0 : ∀ o, (w5.alloc o).cell? ⟨N, 0, none⟩ = _ := fun o => (aN o 0).trans n0
      have an1 : ∀ o, (w5.alloc o).cell? ⟨N, 1, none⟩ = _ := fun o => (aN o 1).trans n1
      have an2 : ∀ o, (w5.alloc o).cell? ⟨N, 2, none⟩ = _ := fun o => (aN o 2).trans n2
      have an3 : ∀ o, (w5.alloc o).cell? ⟨N, 3, none⟩ = _ := fun o => (aN o 3).trans n3
      have an4 : ∀ o, (w5.alloc o).cell? ⟨N, 4, none⟩ = _ := fun o => (aN o 4).trans n4
      have an5 : ∀ o, (w5.alloc o).cell? ⟨N, 5, none⟩ = _ := fun o => (aN o 5).trans n5
      have an6 : ∀ o, (w5.alloc o).cell? ⟨N, 6, none⟩ = _ := fun o => (aN o 6).trans n6
      have an7 : ∀ o, (w5.alloc o).cell? ⟨N, 7, none⟩ = _ := fun o => (aN o 7).trans n7
      clear aN hBl hNl
      obtain ⟨i0, hi, hz0, hz1, hz2⟩ := info_parts elem_info3
      have HONE := Lib.hid (show ∀ u ∈ [Value.string y.word, .slice sA y.scope.length k, .int .i64 1, .string y.name.1, .string y.name.2, .slice aA y.attrs.length m, .slice none 0 0, .string sE], u.oneCell' = true from fun u hu => by
        simp only [List.mem_cons, List.mem_nil_iff, or_false] at hu
        rcases hu with rfl | rfl | rfl | rfl | rfl | rfl | rfl | rfl <;> rfl)
      have hbw5 : base ≤ w5.heap.size := by have := H5.out.ltB; have := H5.out.hB; omega
      go_region_law (
        refine step_append_sl _ rfl (.tmp 53) (.tmp 55) _ rfl base 162 i0 _ 8 144 Tryz.underlying91 hi hz0 hz1 hz2 rfl (by omega) _ 0 (elsC []) rfl HOWN.out (some ⟨w5.heap.size, 0, none⟩) 1 1 [.string y.word, .slice sA y.scope.length k, .int .i64 1, .string y.name.1, .string y.name.2, .slice aA y.attrs.length m, .slice none 0 0, .string sE] rfl HLIT.out HONE.out (by simp only [maxLen]; omega) (by omega) (by simp; omega) ?_
        intro v4 w4 hown4 hg4 hat4
        obtain ⟨g4, cap4, rfl, hbg4, hgl4⟩ := hown4.form (by omega)
        obtain ⟨o1, o2⟩ := HGO.out w4 hg4
        have HFF := Lib.hid (HPUT.out w4 _ hown4 hg4 hat4)
        clear hown4 hg4 hat4)
      all_goals (
        go_wp2
        go_ret
        exact StartOut.good HXE.out (HBW.out.trans HFF.out.1) HFF.out.2.1 HWK.out HFF.out.2.2)
  · obtain ⟨O, cap, hov⟩ := HA.out.row
    rw [hov] at HA c0
    have hll : l.length ≤ 1000 := by simp at hxl; omega
    have hin := inner_some HA.out hll
    have hsc0 : scopeX b = x.e.scope := by unfold scopeX; rw [HA.out.els]; simp
    rw [hsc0] at HSX HSL
    have hbd : Below wa.heap.size wa wa.drew := (Below.refl _ wa).drew
    have hAd := HA.out.other hbd
    have e1 : wa.drew.cell? ⟨O, l.length * 8 + 1, none⟩ = some (.slice x.sA x.e.scope.length x.sc) := hAd.elc 1 _ rfl
    have hTd := still_block HT.out hbd
    have hBWd := HBW.out.drew
    have hWKd := HWK.out.drew
    have hB1d := HB1.out.below hbd
    have hlc : (l.length : Int) ≤ 24 := by simp at hxl; omega
    have hov2 : (Value.slice OA (l ++ [x]).length OC) = (Value.slice (some ⟨O, 0, none⟩) (l.length + 1) cap) := hov
    clear HT HBW HB1 HWK hbd hov
    simp only [Value.slice.injEq] at hov2
    obtain ⟨rfl, _, rfl⟩ := hov2
    have HA := Lib.hid hAd
    have HT := Lib.hid hTd
    have HBW := Lib.hid hBWd
    have HB1 := Lib.hid hB1d
    have HWK := Lib.hid hWKd
    clear hAd hTd hBWd hB1d hWKd
    revert hin e1; revert HWK; revert HB1; revert HBW; revert HT; revert HA
    generalize hwd : wa.drew = wd
    intro HA HT HBW HB1 HWK hin e1
    have hbg := begun_any x.sA tA x.e.scope x.sc tc ⟨kd, pl, nm, al, tx⟩ wd HSL.out ht (HA.out.scp x (by simp)).here HB1.out
    unfold tkVal at hbg
    simp only at hbg
    have t0 := blk_cell HT.out 0
    have t1 := blk_cell HT.out 1
    have t2 := blk_cell HT.out 2
    have t3 := blk_cell HT.out 3
    have t4 := blk_cell HT.out 4
    simp only [List.getElem?_toArray, List.getElem?_cons_zero, List.getElem?_cons_succ] at t0 t1 t2 t3 t4
    go_enter Tryz.func82, Tryz.ntmps82
    go_wp2_with fail
    refine hend.mono ?_
    rintro e w1 ⟨rfl, rfl⟩
    go_wp2_with fail
    refine hin.mono ?_
    rintro e w1' ⟨rfl, rfl⟩
    go_wp2_with fail
    refine hbg.mono ?_
    rintro e w2 ⟨hb2, hp⟩
    cases hbx : begunX x.e.scope ⟨kd, pl, nm, al, tx⟩ with
    | error c =>
      rw [hbx] at hp
      obtain ⟨hc, rfl⟩ := hp
      have hc' : (c != 0) = true := by simpa using hc
      have HXE : Hid (startX b ⟨kd, pl, nm, al, tx⟩ = .error c) := Lib.hid (by rw [HSX.out, hbx])
      have hbe := HBW.out.trans (hb2.mono (Nat.le_of_lt (Nat.lt_of_le_of_lt HA.out.hB HA.out.ltB)))
      clear hbx HT HB1 hend hin hbg c0 c7 f7
      go_wp2
      go_ret
      exact StartOut.bad HXE.out hc (hbe.alloc (Nat.le_trans (Nat.le_trans hbb HBW.out.size) hb2.size) _) ((HWK.out.trans (hb2.mono HWK.out.size)).alloc (Nat.le_trans HWK.out.size hb2.size) _)
    | ok y =>
      rw [hbx] at hp
      obtain ⟨sA, k, aA, m, rfl, h1, h2, h3, h4⟩ := hp
      unfold ElX.cells
      simp only
      have hkd := (begunX_sz HSL.out ht hbx).2
      have HXE : Hid (startX b ⟨kd, pl, nm, al, tx⟩ = .ok { b with opened := b.opened ++ [y], nodes := b.nodes + 1 }) := Lib.hid (by rw [HSX.out, hbx])
      go_upto_region 14 with fail
      have hA2 := HA.out.other hb2
      have hA3 := hA2.other ((Below.refl w2.heap.size w2).alloc (Nat.le_refl _) (.cells #[.string y.word, .slice sA y.scope.length k, .int .i64 1, .string y.name.1, .string y.name.2, .slice aA y.attrs.length m, .slice none 0 0, .string sE] 162))
      have hA5 := hA3.count (b.nodes + 1)
      have hA6 := hA5.other ((Below.refl _ ((w2.alloc (.cells #[.string y.word, .slice sA y.scope.length k, .int .i64 1, .string y.name.1, .string y.name.2, .slice aA y.attrs.length m, .slice none 0 0, .string sE] 162)).setCell ⟨B, 7, none⟩ (.int .i64 ((b.nodes + 1 : Nat) : Int)))).alloc (Nat.le_refl _) (.cells #[.string y.word, .slice sA y.scope.length k, .int .i64 1, .string y.name.1, .string y.name.2, .slice aA y.attrs.length m, .slice none 0 0, .string sE] 162))
      have e1 : ((b.nodes + 1 : Nat) : Int) = (b.nodes : Int) + 1 := by omega
      have e2 : (l ++ [x]).length = l.length + 1 := by simp
      have HPUT := Lib.hid (fun (w4 : World) (v4 : Value) => start_put (w4 := w4) (v4 := v4) HA.out hkd hb2 h1 h2 h3 h4 (k := k) (m := m) (.cells #[.string y.word, .slice sA y.scope.length k, .int .i64 1, .string y.name.1, .string y.name.2, .slice aA y.attrs.length m, .slice none 0 0, .string sE] 162) (.cells #[.string y.word, .slice sA y.scope.length k, .int .i64 1, .string y.name.1, .string y.name.2, .slice aA y.attrs.length m, .slice none 0 0, .string sE] 162))
      have HOWN := Lib.hid hA6.own
      have HGO := Lib.hid (fun (w4 : World) (hg : ((((w2.alloc (.cells #[.string y.word, .slice sA y.scope.length k, .int .i64 1, .string y.name.1, .string y.name.2, .slice aA y.attrs.length m, .slice none 0 0, .string sE] 162)).setCell ⟨B, 7, none⟩ (.int .i64 ((b.nodes + 1 : Nat) : Int))).alloc (.cells #[.string y.word, .slice sA y.scope.length k, .int .i64 1, .string y.name.1, .string y.name.2, .slice aA y.attrs.length m, .slice none 0 0, .string sE] 162)).drew).grownBy w4 (Value.slice (some ⟨O, 0, none⟩) (l.length + 1) OC).ownBlock) =>
        (show w4.cell? ⟨B, 0, none⟩ = some (.slice (some ⟨O, 0, none⟩) (l.length + 1) OC) ∧ w4.frozen? ⟨B, 0, none⟩ = false from by
          have hB := hg.block B hA6.ltB (fun e => hA6.d1 e.symm)
          exact ⟨(World.cell?_of_block hB).trans hA6.c0, (World.frozen?_of_block hB).trans (hA6.f 0)⟩))
      have HLIT := Lib.hid (Sl.lit ((w2.alloc (.cells #[.string y.word, .slice sA y.scope.length k, .int .i64 1, .string y.name.1, .string y.name.2, .slice aA y.attrs.length m, .slice none 0 0, .string sE] 162)).setCell ⟨B, 7, none⟩ (.int .i64 ((b.nodes + 1 : Nat) : Int))) 8 [.string y.word, .slice sA y.scope.length k, .int .i64 1, .string y.name.1, .string y.name.2, .slice aA y.attrs.length m, .slice none 0 0, .string sE] 162 1 rfl)
      have HN3 := Lib.hid (heap_alloc_new w2 (.cells #[.string y.word, .slice sA y.scope.length k, .int .i64 1, .string y.name.1, .string y.name.2, .slice aA y.attrs.length m, .slice none 0 0, .string sE] 162))
      have hBw2 : B < w2.heap.size := hA2.ltB
      have HN5 := Lib.hid ((show ((w2.alloc (.cells #[.string y.word, .slice sA y.scope.length k, .int .i64 1, .string y.name.1, .string y.name.2, .slice aA y.attrs.length m, .slice none 0 0, .string sE] 162)).setCell ⟨B, 7, none⟩ (.int .i64 ((b.nodes + 1 : Nat) : Int))).heap[w2.heap.size]? = _ from (Below.heap_setCell _ _ _ _ (by simp; omega)).trans (heap_alloc_new w2 (.cells #[.string y.word, .slice sA y.scope.length k, .int .i64 1, .string y.name.1, .string y.name.2, .slice aA y.attrs.length m, .slice none 0 0, .string sE] 162))))
      have H3 := Lib.hid hA3
      have H5 := Lib.hid hA5
      rw [e1] at HPUT HOWN HGO HLIT HN5 H5
      rw [e2] at HPUT HOWN
      clear e2
      clear hA2 hA3 hA5 hA6 e1 hbx h1 h2 h3 h4 HB1 hend hin hbg c0 c7 f7 t0 t1 t2 t3 t4 hb2 HT HSX hwa HA
      revert H5; revert H3; revert HN5; revert HN3; revert HLIT; revert HGO; revert HOWN; revert HPUT
      generalize (w2.alloc (.cells #[.string y.word, .slice sA y.scope.length k, .int .i64 1, .string y.name.1, .string y.name.2, .slice aA y.attrs.length m, .slice none 0 0, .string sE] 162)) = w3
      intro HPUT HOWN HGO HLIT HN3 HN5 H3 H5
      generalize w2.heap.size = N at *
      have c7 := H3.out.c7
      have f7 := H3.out.f 7
      go_upto_region 15 with fail
      clear c7 f7
      revert H5; revert HN5; revert HLIT; revert HGO; revert HOWN; revert HPUT
      generalize (w3.setCell ⟨B, 7, none⟩ (.int .i64 ((b.nodes : Int) + 1))) = w5
      intro HPUT HOWN HGO HLIT HN5 H5
      have c0 : w5.drew.cell? ⟨B, 0, none⟩ = some (.slice (some ⟨O, 0, none⟩) (l.length + 1) OC) := H5.out.c0
      have f0 : w5.drew.frozen? ⟨B, 0, none⟩ = false := H5.out.f 0
      have hBl : B < w5.heap.size := H5.out.ltB
      have hNl : N < w5.heap.size := blk_in HN5.out
      have aB : ∀ o, (w5.alloc o).cell? ⟨B, 0, none⟩ = some (.slice (some ⟨O, 0, none⟩) (l.length + 1) OC) := fun o => (World.cell?_of_block (w := w5) (Below.heap_alloc w5 o _ hBl)).trans H5.out.c0
      have aN : ∀ o j, (w5.alloc o).cell? ⟨N, j, none⟩ = w5.cell? ⟨N, j, none⟩ := fun o j => World.cell?_of_block (w := w5) (Below.heap_alloc w5 o _ hNl)
      have n0 := blk_cell HN5.out 0
      have n1 := blk_cell HN5.out 1
      have n2 := blk_cell HN5.out 2
      have n3 := blk_cell HN5.out 3
      have n4 := blk_cell HN5.out 4
      have n5 := blk_cell HN5.out 5
      have n6 := blk_cell HN5.out 6
      have n7 := blk_cell HN5.out 7
      simp only [List.getElem?_toArray, List.getElem?_cons_zero, List.getElem?_cons_succ] at n0 n1 n2 n3 n4 n5 n6 n7
      have an0 : ∀ o, (w5.alloc o).cell? ⟨N, 0, none⟩ = _ := fun o => (aN o 0).trans n0
      have an1 : ∀ o, (w5.alloc o).cell? ⟨N, 1, none⟩ = _ := fun o => (aN o 1).trans n1
      have an2 : ∀ o, (w5.alloc o).cell? ⟨N, 2, none⟩ = _ := fun o => (aN o 2).trans n2
      have an3 : ∀ o, (w5.alloc o).cell? ⟨N, 3, none⟩ = _ := fun o => (aN o 3).trans n3
      have an4 : ∀ o, (w5.alloc o).cell? ⟨N, 4, none⟩ = _ := fun o => (aN o 4).trans n4
      have an5 : ∀ o, (w5.alloc o).cell? ⟨N, 5, none⟩ = _ := fun o => (aN o 5).trans n5
      have an6 : ∀ o, (w5.alloc o).cell? ⟨N, 6, none⟩ = _ := fun o => (aN o 6).trans n6
      have an7 : ∀ o, (w5.alloc o).cell? ⟨N, 7, none⟩ = _ := fun o => (aN o 7).trans n7
      clear aN hBl hNl
      obtain ⟨i0, hi, hz0, hz1, hz2⟩ := info_parts elem_info3
      have HONE := Lib.hid (show ∀ u ∈ [Value.string y.word, .slice sA y.scope.length k, .int .i64 1, .string y.name.1, .string y.name.2, .slice aA y.attrs.length m, .slice none 0 0, .string sE], u.oneCell' = true from fun u hu => by
        simp only [List.mem_cons, List.mem_nil_iff, or_false] at hu
        rcases hu with rfl | rfl | rfl | rfl | rfl | rfl | rfl | rfl <;> rfl)
      have hbw5 : base ≤ w5.heap.size := by have := H5.out.ltB; have := H5.out.hB; omega
      go_region_law (
        refine step_append_sl _ rfl (.tmp 53) (.tmp 55) _ rfl base 162 i0 _ 8 144 Tryz.underlying91 hi hz0 hz1 hz2 rfl (by omega) _ (l.length + 1) (elsC (l ++ [x])) rfl HOWN.out (some ⟨w5.heap.size, 0, none⟩) 1 1 [.string y.word, .slice sA y.scope.length k, .int .i64 1, .string y.name.1, .string y.name.2, .slice aA y.attrs.length m, .slice none 0 0, .string sE] rfl HLIT.out HONE.out (by simp only [maxLen]; omega) (by omega) (by simp; omega) ?_
        intro v4 w4 hown4 hg4 hat4
        obtain ⟨g4, cap4, rfl, hbg4, hgl4⟩ := hown4.form (by omega)
        obtain ⟨o1, o2⟩ := HGO.out w4 hg4
        have HFF := Lib.hid (HPUT.out w4 _ hown4 hg4 hat4)
        clear hown4 hg4 hat4)
      all_goals (
        go_wp2
        go_ret
        exact StartOut.good HXE.out (HBW.out.trans HFF.out.1) HFF.out.2.1 HWK.out HFF.out.2.2)
end
end Go.Proofs.YtjohfljkhlkjoaaGreatDoor

namespace Go.Proofs.YtjohfljkhlkjoaaGreatDoor
open Go.RowKit Wb
section
variable {base B : Nat} {b : Bd} {ov : Value} {xs l : List ElX} {x : ElX} {rc : List Value} {w : World}
theorem btext_any {T : Nat} (s : ByteArray) (hs : s.size ≤ 1000000) (h : BW base B b ov xs rc w) (hb : BdOK b) (hz : BdSz T b) (hT : T ≤ 100000000000) :
    Calls Tryz.prog 80 #[.pointer (some ⟨B, 0, none⟩), .string s] w (TakeOut base B (textX' b s) w) := by
  rcases last_cases xs with rfl | ⟨l, x, rfl⟩
  · exact text_none s hs h
  · obtain ⟨O, cap, rfl⟩ := h.row
    exact text_some s hs h hb (fun k hk => Nat.le_trans (hz.text x.e (by rw [h.els]; simp) k hk) hT)
set_option maxRecDepth 100000 in
set_option maxHeartbeats 4000000 in
theorem take_any' {T : Nat} (t : TkV) (tA : Option Addr) (tc : Nat) (h : BW base B b ov xs rc w) (hb : BdOK b) (hz : BdSz T b) (hT : T ≤ 100000000000) (ht : TkOk t) (hB : Sl2 w tA t.attrs)
    (htx : ∀ x ∈ t.attrs, TxtB x.2) :
    Calls Tryz.prog 50 #[.pointer (some ⟨B, 0, none⟩), tkVal t tA tc] w (TakeOut base B (takeX' b t) w) := by
  have hWA : Below w.heap.size w (w.alloc (.cells #[.int .i64 t.kind, .int .i64 t.place, .string t.name, .slice tA t.attrs.length tc, .string t.text] 57)) := (Below.refl _ w).alloc (Nat.le_refl _) _
  have hA := h.other hWA
  have hT0 := heap_alloc_new w (.cells #[.int .i64 t.kind, .int .i64 t.place, .string t.name, .slice tA t.attrs.length tc, .string t.text] 57)
  have hbb : base ≤ w.heap.size := Nat.le_of_lt (Nat.lt_of_le_of_lt h.hB h.ltB)
  have hBW := hWA.mono hbb
  have HWK := Lib.hid hWA
  have hB1 := hB.below hWA
  have hg : ∀ k, BdS B ov xs k → k < w.heap.size := fun k hk => (h.lt hk).2
  have HA := Lib.hid hA
  have HT := Lib.hid hT0
  have HBW := Lib.hid hBW
  have HB1 := Lib.hid hB1
  have HG := Lib.hid hg
  obtain ⟨kd, pl, nm, al, tx⟩ := t
  unfold tkVal
  simp only at HA HT HBW HB1 HWK htx ⊢
  have htsz := ht.text
  simp only at htsz
  clear h hA hT0 hWA hBW hB1 hg hB
  revert HWK; revert HB1; revert HBW; revert HT; revert HA
  generalize hwa : (w.alloc (.cells #[.int .i64 kd, .int .i64 pl, .string nm, .slice tA al.length tc, .string tx] 57)) = wa
  intro HA HT HBW HB1 HWK
  have t0 := blk_cell HT.out 0
  have t1 := blk_cell HT.out 1
  have t2 := blk_cell HT.out 2
  have t3 := blk_cell HT.out 3
  have t4 := blk_cell HT.out 4
  simp only [List.getElem?_toArray, List.getElem?_cons_zero, List.getElem?_cons_succ] at t0 t1 t2 t3 t4
  by_cases h4 : kd = 4
  · subst h4
    have hx : takeX' b ⟨4, pl, nm, al, tx⟩ = textX' b tx := by unfold takeX'; rw [if_pos rfl]
    have htext := btext_any tx htsz HA.out hb hz hT
    rw [hx]
    have hbw := HBW.out
    clear hx HA HT HB1
    go_enter Tryz.func50, Tryz.ntmps50
    go_wp2_with fail
    refine htext.mono ?_
    rintro e w1 ⟨hb1, h1⟩
    generalize textX' b tx = r at *
    cases r with
    | error c =>
      obtain ⟨hc, rfl, hb2⟩ := h1
      go_wp2
      go_ret
      exact TakeOut.bad rfl hc (hbw.trans hb1) (HWK.out.trans (hb2.mono HWK.out.size))
    | ok b' =>
      obtain ⟨rfl, h2⟩ := h1
      go_wp2
      go_ret
      exact TakeOut.good rfl (hbw.trans hb1) h2
  have h4' : (kd == 4) = false := by simpa using h4
  by_cases h2 : kd = 2
  · subst h2
    have hx : takeX' b ⟨2, pl, nm, al, tx⟩ = endX' b nm := by unfold takeX'; rw [if_neg (show ¬ (2 : Int) = 4 by decide), if_pos rfl]
    have hend := end_any nm HA.out hb
    rw [hx]
    have hbw := HBW.out
    clear hx HA HT HB1
    go_enter Tryz.func50, Tryz.ntmps50
    go_wp2_with fail
    refine hend.mono ?_
    rintro e w1 ⟨hb1, h1⟩
    generalize endX' b nm = r at *
    cases r with
    | error c =>
      obtain ⟨hc, rfl, hb2⟩ := h1
      go_wp2
      go_ret
      exact TakeOut.bad rfl hc (hbw.trans hb1) (HWK.out.trans (hb2.mono HWK.out.size))
    | ok b' =>
      obtain ⟨rfl, h2⟩ := h1
      go_wp2
      go_ret
      exact TakeOut.good rfl (hbw.trans hb1) h2
  have h2' : (kd == 2) = false := by simpa using h2
  have hx : takeX' b ⟨kd, pl, nm, al, tx⟩ = match startX b ⟨kd, pl, nm, al, tx⟩ with
      | .error e => .error e
      | .ok b' => .ok (if kd = 3 then closeX b' else b') := by unfold takeX'; rw [if_neg h4, if_neg h2]; rfl
  have HX := Lib.hid hx
  have hst := bstart_any ⟨kd, pl, nm, al, tx⟩ tA tc HA.out hb hz ht HB1.out
  have HOK := Lib.hid (fun b' (h : startX b ⟨kd, pl, nm, al, tx⟩ = .ok b') => startX_ok hb htx h)
  have HOP := Lib.hid (fun b' (h : startX b ⟨kd, pl, nm, al, tx⟩ = .ok b') => (show b'.opened ≠ [] from by
    unfold startX at h
    split at h
    · cases h
    · split at h
      · cases h
      · split at h
        · cases h
        · split at h
          · cases h
          · simp only [Except.ok.injEq] at h
            subst h
            simp))
  unfold tkVal at hst
  simp only at hst
  clear hx
  go_enter Tryz.func50, Tryz.ntmps50
  go_wp2_with fail
  refine hst.mono ?_
  rintro e w1 ⟨⟨hb1, h1⟩, hk1⟩
  have hbw := HBW.out
  cases hsx : startX b ⟨kd, pl, nm, al, tx⟩ with
  | error c =>
    rw [hsx] at h1
    have HXE : Hid (takeX' b ⟨kd, pl, nm, al, tx⟩ = .error c) := Lib.hid (by rw [HX.out, hsx])
    obtain ⟨hc, rfl, hb2⟩ := h1
    have hc' : (c != 0) = true := by simpa using hc
    clear hsx hk1 HX HA HT HB1 HOK HOP
    go_wp2
    go_ret
    exact TakeOut.bad HXE.out hc (hbw.trans hb1) (HWK.out.trans (hb2.mono HWK.out.size))
  | ok b1 =>
    rw [hsx] at h1
    have hke := hk1 b1 hsx
    have hok := HOK.out b1 hsx
    have hop := HOP.out b1 hsx
    have HXE : Hid (takeX' b ⟨kd, pl, nm, al, tx⟩ = .ok (if kd = 3 then closeX b1 else b1)) := Lib.hid (by rw [HX.out, hsx])
    obtain ⟨rfl, ov1, xs1, rc1, hw1⟩ := h1
    have hT1 : w1.heap[w.heap.size]? = _ := (hke.block _ (blk_in HT.out) (fun hs => by have := HG.out _ hs; omega)).trans HT.out
    have k0 := blk_cell hT1 0
    simp only [List.getElem?_toArray, List.getElem?_cons_zero] at k0
    clear t0 t1 t2 t3 t4 hsx hk1 hke HX HA HT HB1 HOK HOP hT1
    by_cases h3 : kd = 3
    · subst h3
      rcases last_cases xs1 with rfl | ⟨l1, x1, rfl⟩
      · exact absurd (by rw [hw1.els]; rfl) hop
      · obtain ⟨O1, cap1, rfl⟩ := hw1.row
        obtain ⟨hkl, hxl⟩ := hw1.kids_len hok
        have hcl := close_any hw1 (by simp at hxl; omega) (fun z hz => Nat.le_trans (hkl z (by simp [hz])) (by omega))
        go_wp2_with fail
        refine hcl.mono ?_
        rintro e w2 ⟨rfl, hb2, h2⟩
        go_wp2
        go_ret
        exact TakeOut.good (by rw [HXE.out]; simp) ((hbw.trans hb1).trans hb2) h2
    · have h3' : (kd == 3) = false := by simpa using h3
      go_wp2
      go_ret
      exact TakeOut.good (by rw [HXE.out, if_neg h3]) (hbw.trans hb1) ⟨_, _, _, hw1⟩
end
end Go.Proofs.YtjohfljkhlkjoaaGreatDoor

