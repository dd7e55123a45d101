/- ScG. -/
import Derived.Test.YtbdamneophbnnaaGreatDoorCU6
import Derived.Test.YtbdamneophbnnaaGreatDoorCU26
namespace Go.Proofs.YtbdamneophbnnaaGreatDoor
open Go.RowKit Wb
theorem unV_unB (v : List UInt8) : (unB (mkT v) true).1 = mkT (unV v).1 ∧ (unB (mkT v) true).2.2 = (unV v).2 := by
  have hz := mkT_size v
  have hl := mkT_list v
  unfold unV
  cases h : unL true (v.length + 1) v 0 with
  | ok x =>
    have h' : unL true ((mkT v).size + 1) (mkT v).data.toList 0 = .ok x := by rw [hz, hl]; exact h
    rw [unB_ok h']
    exact ⟨rfl, rfl⟩
  | error p =>
    have h' : unL true ((mkT v).size + 1) (mkT v).data.toList 0 = .error p := by rw [hz, hl]; exact h
    rw [unB_bad h']
    exact ⟨rfl, rfl⟩
theorem step9_size : (Tryz.prog.info? 46).map (·.size) = some 9 := by kernel_rfl
def stV (x : StV) : Value := .agg #[.int .i64 x.kind, .bool x.any, .string x.name.1, .string x.name.2, .int .i64 x.pos, .bool x.by_, .string x.attr.1, .string x.attr.2, .string x.val]
def OneOut (o : Except Int StV) (e : Ending) : Prop :=
  (∀ k, o = .error k → e = .returned (.tuple #[stV ⟨0, false, nE, 0, false, nE, sE⟩, .int .i64 k])) ∧ ∀ x, o = .ok x → e = .returned (.tuple #[stV x, .int .i64 0])
theorem OneOut.bad {k : Int} : OneOut (.error k) (.returned (.tuple #[.agg #[.int .i64 0, .bool false, .string ⟨#[]⟩, .string ⟨#[]⟩, .int .i64 0, .bool false, .string ⟨#[]⟩, .string ⟨#[]⟩, .string ⟨#[]⟩], .int .i64 k])) :=
  ⟨fun k' h => by injection h with h; rw [h]; rfl, fun x h => by cases h⟩
theorem OneOut.good {x : StV} : OneOut (.ok x) (.returned (.tuple #[stV x, .int .i64 0])) :=
  ⟨fun k' h => (by cases h), fun x h => by injection h with h; rw [h]⟩
set_option maxHeartbeats 4000000 in
set_option maxRecDepth 100000 in
theorem sres_any (A : Option Addr) (l : List Pr) (c : Nat) (q : ByteArray) (attr : Bool) (s lo : ByteArray) (er : Int) (hr : resB l q attr = ((s, lo), er)) (w : World) (hl : l.length ≤ 1000000000) (hq : q.size ≤ 1000000000) (hsz : s.size ≤ 1000000000) (hA : Sl2 w A l) :
    Calls Tryz.prog 122 #[.slice A l.length c, .string q, .bool attr] w fun e w' => e = .returned (.tuple #[.agg #[.string s, .string lo], .int .i64 er]) ∧ Below w.heap.size w w' := by
  have hk0 := OwnB.new0 w #[.string ⟨#[]⟩, .string ⟨#[]⟩] 44
  have hb0 := (Below.refl w.heap.size w).alloc (Nat.le_refl _) (.cells #[.string ⟨#[]⟩, .string ⟨#[]⟩] 44)
  have hA0 := hA.below hb0
  go_enter Tryz.func122, Tryz.ntmps122
  go_upto_region 1 with fail
  generalize w.alloc (.cells #[.string ⟨#[]⟩, .string ⟨#[]⟩] 44) = w0 at *
  have hres := resolve_any A l c q attr w0 hl hq hA0
  rw [hr] at hres
  simp only at hres
  go_wp2_with fail
  refine hres.mono ?_
  rintro e w1 ⟨rfl, hb1⟩
  have hk1 := hk0.next hb1
  replace hb1 := hb0.trans (hb1.mono hb0.size)
  have hne : w.heap.size ≠ w1.heap.size := by have := hk1.lt; omega
  clear hres hk0 hb0 hA0 hA
  go_upto_region 2 with fail
  have hn2 := OwnB.new #[.string s, .string lo] 44 hb1
  have hk2 := hk1.alloc (.cells #[.string s, .string lo] 44)
  have hb2 := hb1.alloc hb1.size (.cells #[.string s, .string lo] 44)
  generalize w1.alloc (.cells #[.string s, .string lo] 44) = w2 at *
  generalize w1.heap.size = g at *
  clear hk1 hb1
  have c0 : w2.cell? ⟨g, 0, none⟩ = some (.string s) := hn2.cell 0
  go_wp2_with fail
  refine (sclone_any s _ hsz).mono ?_
  rintro e w3 ⟨rfl, hb3⟩
  have hn3 := hn2.next hb3
  have hk3 := hk2.next hb3
  replace hb3 := hb2.trans (hb3.mono hb2.size)
  clear hn2 hk2 hb2 c0
  have c0 : w3.cell? ⟨g, 0, none⟩ = some (.string s) := hn3.cell 0
  have f0 := hn3.free 0
  go_upto_region 3 with fail
  have hn4 := hn3.put2_0 (.string s)
  have hk4 := hk3.other hne 0 (.string s)
  have hb4 := hn3.below hb3 0 (.string s)
  generalize w3.setCell ⟨g, 0, none⟩ (.string s) = w4 at *
  clear c0 f0 hn3 hk3 hb3
  have c0 : w4.cell? ⟨g, 0, none⟩ = some (.string s) := hn4.cell 0
  have c1 : w4.cell? ⟨g, 1, none⟩ = some (.string lo) := hn4.cell 1
  have d0 : w4.cell? ⟨w.heap.size, 0, none⟩ = some (.string ⟨#[]⟩) := hk4.cell 0
  have d1 : w4.cell? ⟨w.heap.size, 1, none⟩ = some (.string ⟨#[]⟩) := hk4.cell 1
  have e0 := hk4.free 0
  have e1 := hk4.free 1
  go_wp2
  refine bodyPost_ret (results_cell2 rfl _ _ w.heap.size _ _ _ rfl (hk4.all2 _ _).blk Tryz.underlying44 rfl name_info) rfl ?_
  exact ⟨rfl, (hb4.setCell (Nat.le_refl _) _).setCell (Nat.le_refl _) _⟩
def ScSm (l : List Pr) : Prop := l.length ≤ 1000000 ∧ ∀ x ∈ l, x.2.size ≤ 1000000
theorem ScSm.res {l : List Pr} (h : ScSm l) {q : ByteArray} {attr : Bool} {s lo : ByteArray} {er : Int} (hr : resB l q attr = ((s, lo), er)) : s.size ≤ 1000000 := by
  have := resB_sp (M := 1000000) (sc := l) q attr (by decide) h.2
  rw [hr] at this
  exact this
set_option maxHeartbeats 8000000 in
set_option maxRecDepth 100000 in
theorem attrStep_any (A : Option Addr) (l : List Pr) (c : Nat) (q : ByteArray) (w : World) (hl : ScSm l) (hq : q.size ≤ 1000000) (hA : Sl2 w A l) :
    Calls Tryz.prog 97 #[.slice A l.length c, .string q] w fun e w' => OneOut (if (resB l q true).2 = 0 then .ok ⟨2, false, (resB l q true).1, 0, false, nE, sE⟩ else .error (resB l q true).2) e ∧ Below w.heap.size w w' := by
  obtain ⟨s, lo, er, hr⟩ : ∃ s lo er, resB l q true = ((s, lo), er) := ⟨_, _, _, rfl⟩
  have hss := hl.res hr
  have HR := Lib.hid (fun v (hv : Sl2 v A l) => sres_any A l c q true s lo er hr v (by have := hl.1; omega) (by omega) (by omega) hv)
  rw [hr]
  simp only
  obtain ⟨o, ho⟩ : ∃ o : Except Int StV, (if er = 0 then .ok ⟨2, false, (s, lo), 0, false, nE, sE⟩ else .error er) = o := ⟨_, rfl⟩
  rw [ho]
  have hk0 := OwnB.new0 w #[.int .i64 0, .bool false, .string ⟨#[]⟩, .string ⟨#[]⟩, .int .i64 0, .bool false, .string ⟨#[]⟩, .string ⟨#[]⟩, .string ⟨#[]⟩] 46
  have hb0 := (Below.refl w.heap.size w).alloc (Nat.le_refl _) (.cells #[.int .i64 0, .bool false, .string ⟨#[]⟩, .string ⟨#[]⟩, .int .i64 0, .bool false, .string ⟨#[]⟩, .string ⟨#[]⟩, .string ⟨#[]⟩] 46)
  have hA0 := hA.below hb0
  clear hr hss
  go_enter Tryz.func97, Tryz.ntmps97
  go_upto_region 1 with fail
  generalize w.alloc (.cells #[.int .i64 0, .bool false, .string ⟨#[]⟩, .string ⟨#[]⟩, .int .i64 0, .bool false, .string ⟨#[]⟩, .string ⟨#[]⟩, .string ⟨#[]⟩] 46) = w0 at *
  go_wp2_with fail
  refine (HR.out _ hA0).mono ?_
  rintro e w1 ⟨rfl, hb1⟩
  have hk1 := hk0.next hb1
  replace hb1 := hb0.trans (hb1.mono hb0.size)
  have hne : w.heap.size ≠ w1.heap.size := by have := hk1.lt; omega
  clear HR hk0 hb0 hA0 hA
  go_upto_region 2 with fail
  have hn2 := OwnB.new #[.string s, .string lo] 44 hb1
  have hk2 := hk1.alloc (.cells #[.string s, .string lo] 44)
  have hb2 := hb1.alloc hb1.size (.cells #[.string s, .string lo] 44)
  generalize w1.alloc (.cells #[.string s, .string lo] 44) = w2 at *
  generalize w1.heap.size = g at *
  clear hk1 hb1
  have c0 : w2.cell? ⟨g, 0, none⟩ = some (.string s) := hn2.cell 0
  have c1 : w2.cell? ⟨g, 1, none⟩ = some (.string lo) := hn2.cell 1
  have d0 : w2.cell? ⟨w.heap.size, 0, none⟩ = some (.int .i64 0) := hk2.cell 0
  have d1 : w2.cell? ⟨w.heap.size, 1, none⟩ = some (.bool false) := hk2.cell 1
  have d2 : w2.cell? ⟨w.heap.size, 2, none⟩ = some (.string ⟨#[]⟩) := hk2.cell 2
  have d3 : w2.cell? ⟨w.heap.size, 3, none⟩ = some (.string ⟨#[]⟩) := hk2.cell 3
  have d4 : w2.cell? ⟨w.heap.size, 4, none⟩ = some (.int .i64 0) := hk2.cell 4
  have d5 : w2.cell? ⟨w.heap.size, 5, none⟩ = some (.bool false) := hk2.cell 5
  have d6 : w2.cell? ⟨w.heap.size, 6, none⟩ = some (.string ⟨#[]⟩) := hk2.cell 6
  have d7 : w2.cell? ⟨w.heap.size, 7, none⟩ = some (.string ⟨#[]⟩) := hk2.cell 7
  have d8 : w2.cell? ⟨w.heap.size, 8, none⟩ = some (.string ⟨#[]⟩) := hk2.cell 8
  have df0 := hk2.free 0
  have df1 := hk2.free 1
  have df2 := hk2.free 2
  have df3 := hk2.free 3
  have df4 := hk2.free 4
  have df5 := hk2.free 5
  have df6 := hk2.free 6
  have df7 := hk2.free 7
  have df8 := hk2.free 8
  by_cases he : er = 0
  · subst he
    rw [if_pos rfl] at ho
    subst ho
    go_wp2
    refine bodyPost_ret (results_cell2 rfl _ _ w.heap.size _ _ _ rfl (hk2.all9 _ _ _ _ _ _ _ _ _).blk Tryz.underlying46 rfl step9_size) rfl ?_
    exact ⟨OneOut.good, (((((((((hb2.setCell (Nat.le_refl _) _).setCell (Nat.le_refl _) _).setCell (Nat.le_refl _) _).setCell (Nat.le_refl _) _).setCell (Nat.le_refl _) _).setCell (Nat.le_refl _) _).setCell (Nat.le_refl _) _).setCell (Nat.le_refl _) _).setCell (Nat.le_refl _) _)⟩
  · have hen : (er == 0) = false := by simpa using he
    rw [if_neg he] at ho
    subst ho
    go_wp2
    refine bodyPost_ret (results_cell2 rfl _ _ w.heap.size _ _ _ rfl (hk2.all9 _ _ _ _ _ _ _ _ _).blk Tryz.underlying46 rfl step9_size) rfl ?_
    exact ⟨OneOut.bad, (((((((((hb2.setCell (Nat.le_refl _) _).setCell (Nat.le_refl _) _).setCell (Nat.le_refl _) _).setCell (Nat.le_refl _) _).setCell (Nat.le_refl _) _).setCell (Nat.le_refl _) _).setCell (Nat.le_refl _) _).setCell (Nat.le_refl _) _).setCell (Nat.le_refl _) _)⟩
set_option maxHeartbeats 16000000 in
set_option maxRecDepth 100000 in
theorem nameStep_any (A : Option Addr) (l : List Pr) (c : Nat) (d : ByteArray) (w : World) (hl : ScSm l) (hd : d.size ≤ 1000000) (hA : Sl2 w A l) (hG : GvS w) :
    Calls Tryz.prog 98 #[.slice A l.length c, .string d] w fun e w' => OneOut (stepP l d.data.toList) e ∧ Below w.heap.size w w' := by
  have hcut := fun v hv => scut_any d v hd hv
  obtain ⟨oc, hoc⟩ : ∃ oc, cutK d.data.toList = oc := ⟨_, rfl⟩
  rw [hoc] at hcut
  obtain ⟨o, ho⟩ : ∃ o, stepP l d.data.toList = o := ⟨_, rfl⟩
  rw [ho]
  have hdl : d.data.toList.length = d.size := by simp
  have HG := Lib.hid (fun v (hb : Below w.heap.size w v) => hG.next hb)
  have HA := Lib.hid (fun v (hb : Below w.heap.size w v) => hA.below hb)
  have hk0 := OwnB.new0 w #[.int .i64 0, .bool false, .string ⟨#[]⟩, .string ⟨#[]⟩, .int .i64 0, .bool false, .string ⟨#[]⟩, .string ⟨#[]⟩, .string ⟨#[]⟩] 46
  have hb0 := (Below.refl w.heap.size w).alloc (Nat.le_refl _) (.cells #[.int .i64 0, .bool false, .string ⟨#[]⟩, .string ⟨#[]⟩, .int .i64 0, .bool false, .string ⟨#[]⟩, .string ⟨#[]⟩, .string ⟨#[]⟩] 46)
  clear hG hA
  cases oc with
  | none =>
    obtain rfl : .error 33 = o := by rw [← ho, step_none hoc]
    clear ho hoc
    go_enter Tryz.func98, Tryz.ntmps98
    go_upto_region 1 with fail
    generalize w.alloc (.cells #[.int .i64 0, .bool false, .string ⟨#[]⟩, .string ⟨#[]⟩, .int .i64 0, .bool false, .string ⟨#[]⟩, .string ⟨#[]⟩, .string ⟨#[]⟩] 46) = w0 at *
    go_wp2_with fail
    refine (hcut _ (HG.out _ hb0)).mono ?_
    rintro e w1 ⟨hco, hb1⟩
    obtain ⟨un, ua, uv, up, ub, rfl⟩ := hco.1 rfl
    have hk1 := hk0.next hb1
    replace hb1 := hb0.trans (hb1.mono hb0.size)
    clear hcut hk0 hb0 hco
    go_upto_region 2 with fail
    have hk2 := hk1.alloc (.cells #[.string un, .int .i64 up, .bool ub, .string ua, .string uv] 154)
    have hb2 := hb1.alloc hb1.size (.cells #[.string un, .int .i64 up, .bool ub, .string ua, .string uv] 154)
    generalize w1.alloc (.cells #[.string un, .int .i64 up, .bool ub, .string ua, .string uv] 154) = w2 at *
    clear hk1 hb1
    have d0 : w2.cell? ⟨w.heap.size, 0, none⟩ = some (.int .i64 0) := hk2.cell 0
    have d1 : w2.cell? ⟨w.heap.size, 1, none⟩ = some (.bool false) := hk2.cell 1
    have d2 : w2.cell? ⟨w.heap.size, 2, none⟩ = some (.string ⟨#[]⟩) := hk2.cell 2
    have d3 : w2.cell? ⟨w.heap.size, 3, none⟩ = some (.string ⟨#[]⟩) := hk2.cell 3
    have d4 : w2.cell? ⟨w.heap.size, 4, none⟩ = some (.int .i64 0) := hk2.cell 4
    have d5 : w2.cell? ⟨w.heap.size, 5, none⟩ = some (.bool false) := hk2.cell 5
    have d6 : w2.cell? ⟨w.heap.size, 6, none⟩ = some (.string ⟨#[]⟩) := hk2.cell 6
    have d7 : w2.cell? ⟨w.heap.size, 7, none⟩ = some (.string ⟨#[]⟩) := hk2.cell 7
    have d8 : w2.cell? ⟨w.heap.size, 8, none⟩ = some (.string ⟨#[]⟩) := hk2.cell 8
    have df0 := hk2.free 0
    have df1 := hk2.free 1
    have df2 := hk2.free 2
    have df3 := hk2.free 3
    have df4 := hk2.free 4
    have df5 := hk2.free 5
    have df6 := hk2.free 6
    have df7 := hk2.free 7
    have df8 := hk2.free 8
    go_wp2
    refine bodyPost_ret (results_cell2 rfl _ _ w.heap.size _ _ _ rfl (hk2.all9 _ _ _ _ _ _ _ _ _).blk Tryz.underlying46 rfl step9_size) rfl ?_
    exact ⟨OneOut.bad, (((((((((hb2.setCell (Nat.le_refl _) _).setCell (Nat.le_refl _) _).setCell (Nat.le_refl _) _).setCell (Nat.le_refl _) _).setCell (Nat.le_refl _) _).setCell (Nat.le_refl _) _).setCell (Nat.le_refl _) _).setCell (Nat.le_refl _) _).setCell (Nat.le_refl _) _)⟩
  | some x =>
    obtain ⟨n, p, av⟩ := x
    obtain ⟨s1, l1, e1, hr1⟩ : ∃ s lo er, resB l (mkT n) false = ((s, lo), er) := ⟨_, _, _, rfl⟩
    have hss1 := hl.res hr1
    have HN := Lib.hid (fun (h : n.length ≤ d.size) v (hb : Below w.heap.size w v) => sres_any A l c (mkT n) false s1 l1 e1 hr1 v (by have := hl.1; omega) (by rw [mkT_size]; omega) (by omega) (HA.out v hb))
    cases av with
    | none =>
      obtain ⟨hp9, hnl, hst⟩ := step_some (sc := l) hoc
      rw [ho, show resB l ⟨n.toArray⟩ false = ((s1, l1), e1) from hr1] at hst
      simp only at hst
      rw [hdl] at hnl
      have HST := Lib.hid hst
      have HN2 := Lib.hid (HN.out hnl)
      clear ho hoc hr1 hss1 hst HN hl
      go_enter Tryz.func98, Tryz.ntmps98
      go_upto_region 1 with fail
      generalize w.alloc (.cells #[.int .i64 0, .bool false, .string ⟨#[]⟩, .string ⟨#[]⟩, .int .i64 0, .bool false, .string ⟨#[]⟩, .string ⟨#[]⟩, .string ⟨#[]⟩] 46) = w0 at *
      go_wp2_with fail
      refine (hcut _ (HG.out _ hb0)).mono ?_
      rintro e w1 ⟨hco, hb1⟩
      obtain rfl := hco.2 _ _ _ rfl
      unfold pieV
      have hk1 := hk0.next hb1
      replace hb1 := hb0.trans (hb1.mono hb0.size)
      have hne1 : w.heap.size ≠ w1.heap.size := by have := hk1.lt; omega
      clear hcut hk0 hb0 hco
      go_upto_region 2 with fail
      have hp2 := OwnB.new #[.string (mkT n), .int .i64 p, .bool false, .string ⟨#[]⟩, .string ⟨#[]⟩] 154 hb1
      have hk2 := hk1.alloc (.cells #[.string (mkT n), .int .i64 p, .bool false, .string ⟨#[]⟩, .string ⟨#[]⟩] 154)
      have hb2 := hb1.alloc hb1.size (.cells #[.string (mkT n), .int .i64 p, .bool false, .string ⟨#[]⟩, .string ⟨#[]⟩] 154)
      generalize w1.alloc (.cells #[.string (mkT n), .int .i64 p, .bool false, .string ⟨#[]⟩, .string ⟨#[]⟩] 154) = w2 at *
      generalize w1.heap.size = gp at *
      clear hk1 hb1
      have q0 : w2.cell? ⟨gp, 0, none⟩ = some (.string (mkT n)) := hp2.cell 0
      have q1 : w2.cell? ⟨gp, 1, none⟩ = some (.int .i64 p) := hp2.cell 1
      have q2 : w2.cell? ⟨gp, 2, none⟩ = some (.bool false) := hp2.cell 2
      obtain ⟨any, hany⟩ : ∃ b, decide (n = [42]) = b := ⟨_, rfl⟩
      have hnb : ((mkT n).toList == [42]) = any := by rw [mkT_eq]; exact hany
      have hnex : gp ≠ w2.heap.size := by have := hp2.lt; omega
      have hnex0 : w.heap.size ≠ w2.heap.size := by have := hk2.lt; omega
      go_upto_region 5 with fail
      (try rw [hnb])
      have XC := Lib.hid (show True from trivial)
      have hx3 := OwnB.new #[.int .i64 1, .bool any, .string ⟨#[]⟩, .string ⟨#[]⟩, .int .i64 p, .bool false, .string ⟨#[]⟩, .string ⟨#[]⟩, .string ⟨#[]⟩] 46 hb2
      have hk3 := hk2.alloc (.cells #[.int .i64 1, .bool any, .string ⟨#[]⟩, .string ⟨#[]⟩, .int .i64 p, .bool false, .string ⟨#[]⟩, .string ⟨#[]⟩, .string ⟨#[]⟩] 46)
      have hp3 := hp2.alloc (.cells #[.int .i64 1, .bool any, .string ⟨#[]⟩, .string ⟨#[]⟩, .int .i64 p, .bool false, .string ⟨#[]⟩, .string ⟨#[]⟩, .string ⟨#[]⟩] 46)
      have hb3 := hb2.alloc hb2.size (.cells #[.int .i64 1, .bool any, .string ⟨#[]⟩, .string ⟨#[]⟩, .int .i64 p, .bool false, .string ⟨#[]⟩, .string ⟨#[]⟩, .string ⟨#[]⟩] 46)
      generalize w2.alloc (.cells #[.int .i64 1, .bool any, .string ⟨#[]⟩, .string ⟨#[]⟩, .int .i64 p, .bool false, .string ⟨#[]⟩, .string ⟨#[]⟩, .string ⟨#[]⟩] 46) = w3 at *
      generalize w2.heap.size = gx at *
      clear hk2 hb2 hp2 q0 q1 q2 XC
      cases any with
      | true =>
        have hn : n = [42] := by simpa using hany
        obtain rfl : Except.ok ⟨1, true, nE, p, false, nE, sE⟩ = o := by have := HST.out; simpa [hn] using this.symm
        have x0 := hx3.cell 0
        have x1 := hx3.cell 1
        have x2 := hx3.cell 2
        have x3 := hx3.cell 3
        have x4 := hx3.cell 4
        have x5 := hx3.cell 5
        have x6 := hx3.cell 6
        have x7 := hx3.cell 7
        have x8 := hx3.cell 8
        simp only [List.getElem?_toArray, List.getElem?_cons_zero, List.getElem?_cons_succ] at x0 x1 x2 x3 x4 x5 x6 x7 x8
        have d0 : w3.cell? ⟨w.heap.size, 0, none⟩ = some (.int .i64 0) := hk3.cell 0
        have d1 : w3.cell? ⟨w.heap.size, 1, none⟩ = some (.bool false) := hk3.cell 1
        have d2 : w3.cell? ⟨w.heap.size, 2, none⟩ = some (.string ⟨#[]⟩) := hk3.cell 2
        have d3 : w3.cell? ⟨w.heap.size, 3, none⟩ = some (.string ⟨#[]⟩) := hk3.cell 3
        have d4 : w3.cell? ⟨w.heap.size, 4, none⟩ = some (.int .i64 0) := hk3.cell 4
        have d5 : w3.cell? ⟨w.heap.size, 5, none⟩ = some (.bool false) := hk3.cell 5
        have d6 : w3.cell? ⟨w.heap.size, 6, none⟩ = some (.string ⟨#[]⟩) := hk3.cell 6
        have d7 : w3.cell? ⟨w.heap.size, 7, none⟩ = some (.string ⟨#[]⟩) := hk3.cell 7
        have d8 : w3.cell? ⟨w.heap.size, 8, none⟩ = some (.string ⟨#[]⟩) := hk3.cell 8
        have df0 := hk3.free 0
        have df1 := hk3.free 1
        have df2 := hk3.free 2
        have df3 := hk3.free 3
        have df4 := hk3.free 4
        have df5 := hk3.free 5
        have df6 := hk3.free 6
        have df7 := hk3.free 7
        have df8 := hk3.free 8
        clear hx3 HST HG HA hp3
        go_wp2
        refine bodyPost_ret (results_cell2 rfl _ _ w.heap.size _ _ _ rfl (hk3.all9 _ _ _ _ _ _ _ _ _).blk Tryz.underlying46 rfl step9_size) rfl ?_
        exact ⟨OneOut.good, (((((((((hb3.setCell (Nat.le_refl _) _).setCell (Nat.le_refl _) _).setCell (Nat.le_refl _) _).setCell (Nat.le_refl _) _).setCell (Nat.le_refl _) _).setCell (Nat.le_refl _) _).setCell (Nat.le_refl _) _).setCell (Nat.le_refl _) _).setCell (Nat.le_refl _) _)⟩
      | false =>
        have hn : ¬ n = [42] := by simpa using hany
        have x1 := hx3.cell 1
        simp only [List.getElem?_toArray, List.getElem?_cons_zero, List.getElem?_cons_succ] at x1
        have qq : w3.cell? ⟨gp, 0, none⟩ = some (.string (mkT n)) := hp3.cell 0
        go_wp2_with fail
        refine (HN2.out _ hb3).mono ?_
        rintro e w4 ⟨rfl, hb4⟩
        have hx4 := hx3.next hb4
        have hk4 := hk3.next hb4
        have hp4 := hp3.next hb4
        replace hb4 := hb3.trans (hb4.mono hb3.size)
        clear hx3 hk3 hp3 hb3 qq x1
        have x2 := hx4.cell 2
        have xf2 := hx4.free 2
        have x3 := hx4.cell 3
        have xf3 := hx4.free 3
        simp only [List.getElem?_toArray, List.getElem?_cons_zero, List.getElem?_cons_succ] at x2 x3
        go_upto_region 8 with fail
        have hx5 := ((hx4.put9_2 (.string s1)).put9_3 (.string l1))
        have hk5 := ((hk4.other hnex0 2 (.string s1)).other hnex0 3 (.string l1))
        have hp5 := ((hp4.other hnex 2 (.string s1)).other hnex 3 (.string l1))
        have hb5 := ((hx4.put9_2 (.string s1)).below (hx4.below hb4 2 (.string s1)) 3 (.string l1))
        generalize ((w4.setCell ⟨gx, 2, none⟩ (.string s1)).setCell ⟨gx, 3, none⟩ (.string l1)) = w5 at *
        clear hx4 hk4 hp4 hb4 x2 xf2 x3 xf3
        by_cases he1 : e1 = 0
        · subst he1
          obtain rfl : Except.ok ⟨1, false, (s1, l1), p, false, nE, sE⟩ = o := by have := HST.out; simpa [hn] using this.symm
          have x0 := hx5.cell 0
          have x1 := hx5.cell 1
          have x2 := hx5.cell 2
          have x3 := hx5.cell 3
          have x4 := hx5.cell 4
          have x5 := hx5.cell 5
          have x6 := hx5.cell 6
          have x7 := hx5.cell 7
          have x8 := hx5.cell 8
          simp only [List.getElem?_toArray, List.getElem?_cons_zero, List.getElem?_cons_succ] at x0 x1 x2 x3 x4 x5 x6 x7 x8
          have d0 : w5.cell? ⟨w.heap.size, 0, none⟩ = some (.int .i64 0) := hk5.cell 0
          have d1 : w5.cell? ⟨w.heap.size, 1, none⟩ = some (.bool false) := hk5.cell 1
          have d2 : w5.cell? ⟨w.heap.size, 2, none⟩ = some (.string ⟨#[]⟩) := hk5.cell 2
          have d3 : w5.cell? ⟨w.heap.size, 3, none⟩ = some (.string ⟨#[]⟩) := hk5.cell 3
          have d4 : w5.cell? ⟨w.heap.size, 4, none⟩ = some (.int .i64 0) := hk5.cell 4
          have d5 : w5.cell? ⟨w.heap.size, 5, none⟩ = some (.bool false) := hk5.cell 5
          have d6 : w5.cell? ⟨w.heap.size, 6, none⟩ = some (.string ⟨#[]⟩) := hk5.cell 6
          have d7 : w5.cell? ⟨w.heap.size, 7, none⟩ = some (.string ⟨#[]⟩) := hk5.cell 7
          have d8 : w5.cell? ⟨w.heap.size, 8, none⟩ = some (.string ⟨#[]⟩) := hk5.cell 8
          have df0 := hk5.free 0
          have df1 := hk5.free 1
          have df2 := hk5.free 2
          have df3 := hk5.free 3
          have df4 := hk5.free 4
          have df5 := hk5.free 5
          have df6 := hk5.free 6
          have df7 := hk5.free 7
          have df8 := hk5.free 8
          clear hx5 HST HG HA hp5
          go_wp2
          refine bodyPost_ret (results_cell2 rfl _ _ w.heap.size _ _ _ rfl (hk5.all9 _ _ _ _ _ _ _ _ _).blk Tryz.underlying46 rfl step9_size) rfl ?_
          exact ⟨OneOut.good, (((((((((hb5.setCell (Nat.le_refl _) _).setCell (Nat.le_refl _) _).setCell (Nat.le_refl _) _).setCell (Nat.le_refl _) _).setCell (Nat.le_refl _) _).setCell (Nat.le_refl _) _).setCell (Nat.le_refl _) _).setCell (Nat.le_refl _) _).setCell (Nat.le_refl _) _)⟩
        · have he1b : (e1 == 0) = false := by simpa using he1
          obtain rfl : Except.error e1 = o := by have := HST.out; simpa [hn, he1] using this.symm
          have x5 := hx5.cell 5
          simp only [List.getElem?_toArray, List.getElem?_cons_zero, List.getElem?_cons_succ] at x5
          have d0 : w5.cell? ⟨w.heap.size, 0, none⟩ = some (.int .i64 0) := hk5.cell 0
          have d1 : w5.cell? ⟨w.heap.size, 1, none⟩ = some (.bool false) := hk5.cell 1
          have d2 : w5.cell? ⟨w.heap.size, 2, none⟩ = some (.string ⟨#[]⟩) := hk5.cell 2
          have d3 : w5.cell? ⟨w.heap.size, 3, none⟩ = some (.string ⟨#[]⟩) := hk5.cell 3
          have d4 : w5.cell? ⟨w.heap.size, 4, none⟩ = some (.int .i64 0) := hk5.cell 4
          have d5 : w5.cell? ⟨w.heap.size, 5, none⟩ = some (.bool false) := hk5.cell 5
          have d6 : w5.cell? ⟨w.heap.size, 6, none⟩ = some (.string ⟨#[]⟩) := hk5.cell 6
          have d7 : w5.cell? ⟨w.heap.size, 7, none⟩ = some (.string ⟨#[]⟩) := hk5.cell 7
          have d8 : w5.cell? ⟨w.heap.size, 8, none⟩ = some (.string ⟨#[]⟩) := hk5.cell 8
          have df0 := hk5.free 0
          have df1 := hk5.free 1
          have df2 := hk5.free 2
          have df3 := hk5.free 3
          have df4 := hk5.free 4
          have df5 := hk5.free 5
          have df6 := hk5.free 6
          have df7 := hk5.free 7
          have df8 := hk5.free 8
          clear hx5 HST HG HA hp5
          go_wp2
          refine bodyPost_ret (results_cell2 rfl _ _ w.heap.size _ _ _ rfl (hk5.all9 _ _ _ _ _ _ _ _ _).blk Tryz.underlying46 rfl step9_size) rfl ?_
          exact ⟨OneOut.bad, (((((((((hb5.setCell (Nat.le_refl _) _).setCell (Nat.le_refl _) _).setCell (Nat.le_refl _) _).setCell (Nat.le_refl _) _).setCell (Nat.le_refl _) _).setCell (Nat.le_refl _) _).setCell (Nat.le_refl _) _).setCell (Nat.le_refl _) _).setCell (Nat.le_refl _) _)⟩
    | some av =>
      obtain ⟨a, v⟩ := av
      obtain ⟨hp9, hnl, hal, hvl, hst⟩ := step_test (sc := l) hoc
      obtain ⟨s2, l2, e2, hr2⟩ : ∃ s lo er, resB l (mkT a) true = ((s, lo), er) := ⟨_, _, _, rfl⟩
      have hss2 := hl.res hr2
      rw [ho, show resB l ⟨n.toArray⟩ false = ((s1, l1), e1) from hr1, show resB l ⟨a.toArray⟩ true = ((s2, l2), e2) from hr2] at hst
      simp only at hst
      rw [hdl] at hnl hal hvl
      have HST := Lib.hid hst
      have HN2 := Lib.hid (HN.out hnl)
      have HAT := Lib.hid (fun u (hb : Below w.heap.size w u) => sres_any A l c (mkT a) true s2 l2 e2 hr2 u (by have := hl.1; omega) (by rw [mkT_size]; omega) (by omega) (HA.out u hb))
      obtain ⟨up, hup⟩ : ∃ up, (unB (mkT v) true).2.1 = up := ⟨_, rfl⟩
      have HU := Lib.hid (fun u (hb : Below w.heap.size w u) => (show Calls Tryz.prog 124 #[.string (mkT v), .bool true] u fun e w' => e = .returned (.tuple #[.string (mkT (unV v).1), .int .i64 up, .int .i64 (unV v).2]) ∧ Below u.heap.size u w' from by
        have := Y.Unescape_any (mkT v) true u (HG.out u hb).1 (by rw [mkT_size]; omega)
        rw [(unV_unB v).1, (unV_unB v).2, hup] at this
        exact this))
      clear ho hoc hr1 hr2 hss1 hss2 hst HN hl hup
      go_enter Tryz.func98, Tryz.ntmps98
      go_upto_region 1 with fail
      generalize w.alloc (.cells #[.int .i64 0, .bool false, .string ⟨#[]⟩, .string ⟨#[]⟩, .int .i64 0, .bool false, .string ⟨#[]⟩, .string ⟨#[]⟩, .string ⟨#[]⟩] 46) = w0 at *
      go_wp2_with fail
      refine (hcut _ (HG.out _ hb0)).mono ?_
      rintro e w1 ⟨hco, hb1⟩
      obtain rfl := hco.2 _ _ _ rfl
      unfold pieV
      have hk1 := hk0.next hb1
      replace hb1 := hb0.trans (hb1.mono hb0.size)
      have hne1 : w.heap.size ≠ w1.heap.size := by have := hk1.lt; omega
      clear hcut hk0 hb0 hco
      go_upto_region 2 with fail
      have hp2 := OwnB.new #[.string (mkT n), .int .i64 p, .bool true, .string (mkT a), .string (mkT v)] 154 hb1
      have hk2 := hk1.alloc (.cells #[.string (mkT n), .int .i64 p, .bool true, .string (mkT a), .string (mkT v)] 154)
      have hb2 := hb1.alloc hb1.size (.cells #[.string (mkT n), .int .i64 p, .bool true, .string (mkT a), .string (mkT v)] 154)
      generalize w1.alloc (.cells #[.string (mkT n), .int .i64 p, .bool true, .string (mkT a), .string (mkT v)] 154) = w2 at *
      generalize w1.heap.size = gp at *
      clear hk1 hb1
      have q0 : w2.cell? ⟨gp, 0, none⟩ = some (.string (mkT n)) := hp2.cell 0
      have q1 : w2.cell? ⟨gp, 1, none⟩ = some (.int .i64 p) := hp2.cell 1
      have q2 : w2.cell? ⟨gp, 2, none⟩ = some (.bool true) := hp2.cell 2
      obtain ⟨any, hany⟩ : ∃ b, decide (n = [42]) = b := ⟨_, rfl⟩
      have hnb : ((mkT n).toList == [42]) = any := by rw [mkT_eq]; exact hany
      have hnex : gp ≠ w2.heap.size := by have := hp2.lt; omega
      have hnex0 : w.heap.size ≠ w2.heap.size := by have := hk2.lt; omega
      go_upto_region 5 with fail
      (try rw [hnb])
      have XC := Lib.hid (show True from trivial)
      have hx3 := OwnB.new #[.int .i64 1, .bool any, .string ⟨#[]⟩, .string ⟨#[]⟩, .int .i64 p, .bool true, .string ⟨#[]⟩, .string ⟨#[]⟩, .string ⟨#[]⟩] 46 hb2
      have hk3 := hk2.alloc (.cells #[.int .i64 1, .bool any, .string ⟨#[]⟩, .string ⟨#[]⟩, .int .i64 p, .bool true, .string ⟨#[]⟩, .string ⟨#[]⟩, .string ⟨#[]⟩] 46)
      have hp3 := hp2.alloc (.cells #[.int .i64 1, .bool any, .string ⟨#[]⟩, .string ⟨#[]⟩, .int .i64 p, .bool true, .string ⟨#[]⟩, .string ⟨#[]⟩, .string ⟨#[]⟩] 46)
      have hb3 := hb2.alloc hb2.size (.cells #[.int .i64 1, .bool any, .string ⟨#[]⟩, .string ⟨#[]⟩, .int .i64 p, .bool true, .string ⟨#[]⟩, .string ⟨#[]⟩, .string ⟨#[]⟩] 46)
      generalize w2.alloc (.cells #[.int .i64 1, .bool any, .string ⟨#[]⟩, .string ⟨#[]⟩, .int .i64 p, .bool true, .string ⟨#[]⟩, .string ⟨#[]⟩, .string ⟨#[]⟩] 46) = w3 at *
      generalize w2.heap.size = gx at *
      clear hk2 hb2 hp2 q0 q1 q2 XC
      cases any with
      | true =>
        have hn : n = [42] := by simpa using hany
        have x1 : w3.cell? ⟨gx, 1, none⟩ = some (.bool true) := hx3.cell 1
        go_upto_region 8 with fail
        clear x1
        have x5 := hx3.cell 5
        simp only [List.getElem?_toArray, List.getElem?_cons_zero, List.getElem?_cons_succ] at x5
        have qq : w3.cell? ⟨gp, 3, none⟩ = some (.string (mkT a)) := hp3.cell 3
        go_wp2_with fail
        refine (HAT.out _ hb3).mono ?_
        rintro e w4 ⟨rfl, hb4⟩
        have hx4 := hx3.next hb4
        have hk4 := hk3.next hb4
        have hp4 := hp3.next hb4
        replace hb4 := hb3.trans (hb4.mono hb3.size)
        clear hx3 hk3 hp3 hb3 qq x5
        have x6 := hx4.cell 6
        have xf6 := hx4.free 6
        have x7 := hx4.cell 7
        have xf7 := hx4.free 7
        simp only [List.getElem?_toArray, List.getElem?_cons_zero, List.getElem?_cons_succ] at x6 x7
        go_upto_region 10 with fail
        have hx5 := ((hx4.put9_6 (.string s2)).put9_7 (.string l2))
        have hk5 := ((hk4.other hnex0 6 (.string s2)).other hnex0 7 (.string l2))
        have hp5 := ((hp4.other hnex 6 (.string s2)).other hnex 7 (.string l2))
        have hb5 := ((hx4.put9_6 (.string s2)).below (hx4.below hb4 6 (.string s2)) 7 (.string l2))
        generalize ((w4.setCell ⟨gx, 6, none⟩ (.string s2)).setCell ⟨gx, 7, none⟩ (.string l2)) = w5 at *
        clear hx4 hk4 hp4 hb4 x6 xf6 x7 xf7
        by_cases he2 : e2 = 0
        · subst he2
          have x5 := hx5.cell 5
          simp only [List.getElem?_toArray, List.getElem?_cons_zero, List.getElem?_cons_succ] at x5
          have qq : w5.cell? ⟨gp, 4, none⟩ = some (.string (mkT v)) := hp5.cell 4
          go_wp2_with fail
          refine (HU.out _ hb5).mono ?_
          rintro e w6 ⟨rfl, hb6⟩
          have hx6 := hx5.next hb6
          have hk6 := hk5.next hb6
          have hp6 := hp5.next hb6
          replace hb6 := hb5.trans (hb6.mono hb5.size)
          clear hx5 hk5 hp5 hb5 qq x5
          have x8 := hx6.cell 8
          have xf8 := hx6.free 8
          simp only [List.getElem?_toArray, List.getElem?_cons_zero, List.getElem?_cons_succ] at x8
          go_upto_region 12 with fail
          have hx7 := (hx6.put9_8 (.string (mkT (unV v).1)))
          have hk7 := (hk6.other hnex0 8 (.string (mkT (unV v).1)))
          have hp7 := (hp6.other hnex 8 (.string (mkT (unV v).1)))
          have hb7 := (hx6.below hb6 8 (.string (mkT (unV v).1)))
          generalize (w6.setCell ⟨gx, 8, none⟩ (.string (mkT (unV v).1))) = w7 at *
          clear hx6 hk6 hp6 hb6 x8 xf8
          by_cases he3 : (unV v).2 = 0
          · have he3b : ((unV v).2 == 0) = true := by rw [he3]; rfl
            obtain rfl : Except.ok ⟨1, true, nE, p, true, (s2, l2), mkT (unV v).1⟩ = o := by have := HST.out; simpa [hn, he3, mkT] using this.symm
            have x0 := hx7.cell 0
            have x1 := hx7.cell 1
            have x2 := hx7.cell 2
            have x3 := hx7.cell 3
            have x4 := hx7.cell 4
            have x5 := hx7.cell 5
            have x6 := hx7.cell 6
            have x7 := hx7.cell 7
            have x8 := hx7.cell 8
            simp only [List.getElem?_toArray, List.getElem?_cons_zero, List.getElem?_cons_succ] at x0 x1 x2 x3 x4 x5 x6 x7 x8
            have d0 : w7.cell? ⟨w.heap.size, 0, none⟩ = some (.int .i64 0) := hk7.cell 0
            have d1 : w7.cell? ⟨w.heap.size, 1, none⟩ = some (.bool false) := hk7.cell 1
            have d2 : w7.cell? ⟨w.heap.size, 2, none⟩ = some (.string ⟨#[]⟩) := hk7.cell 2
            have d3 : w7.cell? ⟨w.heap.size, 3, none⟩ = some (.string ⟨#[]⟩) := hk7.cell 3
            have d4 : w7.cell? ⟨w.heap.size, 4, none⟩ = some (.int .i64 0) := hk7.cell 4
            have d5 : w7.cell? ⟨w.heap.size, 5, none⟩ = some (.bool false) := hk7.cell 5
            have d6 : w7.cell? ⟨w.heap.size, 6, none⟩ = some (.string ⟨#[]⟩) := hk7.cell 6
            have d7 : w7.cell? ⟨w.heap.size, 7, none⟩ = some (.string ⟨#[]⟩) := hk7.cell 7
            have d8 : w7.cell? ⟨w.heap.size, 8, none⟩ = some (.string ⟨#[]⟩) := hk7.cell 8
            have df0 := hk7.free 0
            have df1 := hk7.free 1
            have df2 := hk7.free 2
            have df3 := hk7.free 3
            have df4 := hk7.free 4
            have df5 := hk7.free 5
            have df6 := hk7.free 6
            have df7 := hk7.free 7
            have df8 := hk7.free 8
            clear hx7 HST HG HA hp7
            go_wp2
            refine bodyPost_ret (results_cell2 rfl _ _ w.heap.size _ _ _ rfl (hk7.all9 _ _ _ _ _ _ _ _ _).blk Tryz.underlying46 rfl step9_size) rfl ?_
            exact ⟨OneOut.good, (((((((((hb7.setCell (Nat.le_refl _) _).setCell (Nat.le_refl _) _).setCell (Nat.le_refl _) _).setCell (Nat.le_refl _) _).setCell (Nat.le_refl _) _).setCell (Nat.le_refl _) _).setCell (Nat.le_refl _) _).setCell (Nat.le_refl _) _).setCell (Nat.le_refl _) _)⟩
          · have he3b : ((unV v).2 == 0) = false := by simpa using he3
            obtain rfl : Except.error (unV v).2 = o := by have := HST.out; simpa [hn, he3] using this.symm
            have x5 := hx7.cell 5
            simp only [List.getElem?_toArray, List.getElem?_cons_zero, List.getElem?_cons_succ] at x5
            have d0 : w7.cell? ⟨w.heap.size, 0, none⟩ = some (.int .i64 0) := hk7.cell 0
            have d1 : w7.cell? ⟨w.heap.size, 1, none⟩ = some (.bool false) := hk7.cell 1
            have d2 : w7.cell? ⟨w.heap.size, 2, none⟩ = some (.string ⟨#[]⟩) := hk7.cell 2
            have d3 : w7.cell? ⟨w.heap.size, 3, none⟩ = some (.string ⟨#[]⟩) := hk7.cell 3
            have d4 : w7.cell? ⟨w.heap.size, 4, none⟩ = some (.int .i64 0) := hk7.cell 4
            have d5 : w7.cell? ⟨w.heap.size, 5, none⟩ = some (.bool false) := hk7.cell 5
            have d6 : w7.cell? ⟨w.heap.size, 6, none⟩ = some (.string ⟨#[]⟩) := hk7.cell 6
            have d7 : w7.cell? ⟨w.heap.size, 7, none⟩ = some (.string ⟨#[]⟩) := hk7.cell 7
            have d8 : w7.cell? ⟨w.heap.size, 8, none⟩ = some (.string ⟨#[]⟩) := hk7.cell 8
            have df0 := hk7.free 0
            have df1 := hk7.free 1
            have df2 := hk7.free 2
            have df3 := hk7.free 3
            have df4 := hk7.free 4
            have df5 := hk7.free 5
            have df6 := hk7.free 6
            have df7 := hk7.free 7
            have df8 := hk7.free 8
            clear hx7 HST HG HA hp7
            go_wp2
            refine bodyPost_ret (results_cell2 rfl _ _ w.heap.size _ _ _ rfl (hk7.all9 _ _ _ _ _ _ _ _ _).blk Tryz.underlying46 rfl step9_size) rfl ?_
            exact ⟨OneOut.bad, (((((((((hb7.setCell (Nat.le_refl _) _).setCell (Nat.le_refl _) _).setCell (Nat.le_refl _) _).setCell (Nat.le_refl _) _).setCell (Nat.le_refl _) _).setCell (Nat.le_refl _) _).setCell (Nat.le_refl _) _).setCell (Nat.le_refl _) _).setCell (Nat.le_refl _) _)⟩
        · have he2b : (e2 == 0) = false := by simpa using he2
          obtain rfl : Except.error e2 = o := by have := HST.out; simpa [hn, he2] using this.symm
          have x5 := hx5.cell 5
          simp only [List.getElem?_toArray, List.getElem?_cons_zero, List.getElem?_cons_succ] at x5
          have d0 : w5.cell? ⟨w.heap.size, 0, none⟩ = some (.int .i64 0) := hk5.cell 0
          have d1 : w5.cell? ⟨w.heap.size, 1, none⟩ = some (.bool false) := hk5.cell 1
          have d2 : w5.cell? ⟨w.heap.size, 2, none⟩ = some (.string ⟨#[]⟩) := hk5.cell 2
          have d3 : w5.cell? ⟨w.heap.size, 3, none⟩ = some (.string ⟨#[]⟩) := hk5.cell 3
          have d4 : w5.cell? ⟨w.heap.size, 4, none⟩ = some (.int .i64 0) := hk5.cell 4
          have d5 : w5.cell? ⟨w.heap.size, 5, none⟩ = some (.bool false) := hk5.cell 5
          have d6 : w5.cell? ⟨w.heap.size, 6, none⟩ = some (.string ⟨#[]⟩) := hk5.cell 6
          have d7 : w5.cell? ⟨w.heap.size, 7, none⟩ = some (.string ⟨#[]⟩) := hk5.cell 7
          have d8 : w5.cell? ⟨w.heap.size, 8, none⟩ = some (.string ⟨#[]⟩) := hk5.cell 8
          have df0 := hk5.free 0
          have df1 := hk5.free 1
          have df2 := hk5.free 2
          have df3 := hk5.free 3
          have df4 := hk5.free 4
          have df5 := hk5.free 5
          have df6 := hk5.free 6
          have df7 := hk5.free 7
          have df8 := hk5.free 8
          clear hx5 HST HG HA hp5
          go_wp2
          refine bodyPost_ret (results_cell2 rfl _ _ w.heap.size _ _ _ rfl (hk5.all9 _ _ _ _ _ _ _ _ _).blk Tryz.underlying46 rfl step9_size) rfl ?_
          exact ⟨OneOut.bad, (((((((((hb5.setCell (Nat.le_refl _) _).setCell (Nat.le_refl _) _).setCell (Nat.le_refl _) _).setCell (Nat.le_refl _) _).setCell (Nat.le_refl _) _).setCell (Nat.le_refl _) _).setCell (Nat.le_refl _) _).setCell (Nat.le_refl _) _).setCell (Nat.le_refl _) _)⟩
      | false =>
        have hn : ¬ n = [42] := by simpa using hany
        have x1 := hx3.cell 1
        simp only [List.getElem?_toArray, List.getElem?_cons_zero, List.getElem?_cons_succ] at x1
        have qq : w3.cell? ⟨gp, 0, none⟩ = some (.string (mkT n)) := hp3.cell 0
        go_wp2_with fail
        refine (HN2.out _ hb3).mono ?_
        rintro e w4 ⟨rfl, hb4⟩
        have hx4 := hx3.next hb4
        have hk4 := hk3.next hb4
        have hp4 := hp3.next hb4
        replace hb4 := hb3.trans (hb4.mono hb3.size)
        clear hx3 hk3 hp3 hb3 qq x1
        have x2 := hx4.cell 2
        have xf2 := hx4.free 2
        have x3 := hx4.cell 3
        have xf3 := hx4.free 3
        simp only [List.getElem?_toArray, List.getElem?_cons_zero, List.getElem?_cons_succ] at x2 x3
        go_upto_region 8 with fail
        have hx5 := ((hx4.put9_2 (.string s1)).put9_3 (.string l1))
        have hk5 := ((hk4.other hnex0 2 (.string s1)).other hnex0 3 (.string l1))
        have hp5 := ((hp4.other hnex 2 (.string s1)).other hnex 3 (.string l1))
        have hb5 := ((hx4.put9_2 (.string s1)).below (hx4.below hb4 2 (.string s1)) 3 (.string l1))
        generalize ((w4.setCell ⟨gx, 2, none⟩ (.string s1)).setCell ⟨gx, 3, none⟩ (.string l1)) = w5 at *
        clear hx4 hk4 hp4 hb4 x2 xf2 x3 xf3
        by_cases he1 : e1 = 0
        · subst he1
          have x5 := hx5.cell 5
          simp only [List.getElem?_toArray, List.getElem?_cons_zero, List.getElem?_cons_succ] at x5
          have qq : w5.cell? ⟨gp, 3, none⟩ = some (.string (mkT a)) := hp5.cell 3
          go_wp2_with fail
          refine (HAT.out _ hb5).mono ?_
          rintro e w6 ⟨rfl, hb6⟩
          have hx6 := hx5.next hb6
          have hk6 := hk5.next hb6
          have hp6 := hp5.next hb6
          replace hb6 := hb5.trans (hb6.mono hb5.size)
          clear hx5 hk5 hp5 hb5 qq x5
          have x6 := hx6.cell 6
          have xf6 := hx6.free 6
          have x7 := hx6.cell 7
          have xf7 := hx6.free 7
          simp only [List.getElem?_toArray, List.getElem?_cons_zero, List.getElem?_cons_succ] at x6 x7
          go_upto_region 10 with fail
          have hx7 := ((hx6.put9_6 (.string s2)).put9_7 (.string l2))
          have hk7 := ((hk6.other hnex0 6 (.string s2)).other hnex0 7 (.string l2))
          have hp7 := ((hp6.other hnex 6 (.string s2)).other hnex 7 (.string l2))
          have hb7 := ((hx6.put9_6 (.string s2)).below (hx6.below hb6 6 (.string s2)) 7 (.string l2))
          generalize ((w6.setCell ⟨gx, 6, none⟩ (.string s2)).setCell ⟨gx, 7, none⟩ (.string l2)) = w7 at *
          clear hx6 hk6 hp6 hb6 x6 xf6 x7 xf7
          by_cases he2 : e2 = 0
          · subst he2
            have x5 := hx7.cell 5
            simp only [List.getElem?_toArray, List.getElem?_cons_zero, List.getElem?_cons_succ] at x5
            have qq : w7.cell? ⟨gp, 4, none⟩ = some (.string (mkT v)) := hp7.cell 4
            go_wp2_with fail
            refine (HU.out _ hb7).mono ?_
            rintro e w8 ⟨rfl, hb8⟩
            have hx8 := hx7.next hb8
            have hk8 := hk7.next hb8
            have hp8 := hp7.next hb8
            replace hb8 := hb7.trans (hb8.mono hb7.size)
            clear hx7 hk7 hp7 hb7 qq x5
            have x8 := hx8.cell 8
            have xf8 := hx8.free 8
            simp only [List.getElem?_toArray, List.getElem?_cons_zero, List.getElem?_cons_succ] at x8
            go_upto_region 12 with fail
            have hx9 := (hx8.put9_8 (.string (mkT (unV v).1)))
            have hk9 := (hk8.other hnex0 8 (.string (mkT (unV v).1)))
            have hp9 := (hp8.other hnex 8 (.string (mkT (unV v).1)))
            have hb9 := (hx8.below hb8 8 (.string (mkT (unV v).1)))
            generalize (w8.setCell ⟨gx, 8, none⟩ (.string (mkT (unV v).1))) = w9 at *
            clear hx8 hk8 hp8 hb8 x8 xf8
            by_cases he3 : (unV v).2 = 0
            · have he3b : ((unV v).2 == 0) = true := by rw [he3]; rfl
              obtain rfl : Except.ok ⟨1, false, (s1, l1), p, true, (s2, l2), mkT (unV v).1⟩ = o := by have := HST.out; simpa [hn, he3, mkT] using this.symm
              have x0 := hx9.cell 0
              have x1 := hx9.cell 1
              have x2 := hx9.cell 2
              have x3 := hx9.cell 3
              have x4 := hx9.cell 4
              have x5 := hx9.cell 5
              have x6 := hx9.cell 6
              have x7 := hx9.cell 7
              have x8 := hx9.cell 8
              simp only [List.getElem?_toArray, List.getElem?_cons_zero, List.getElem?_cons_succ] at x0 x1 x2 x3 x4 x5 x6 x7 x8
              have d0 : w9.cell? ⟨w.heap.size, 0, none⟩ = some (.int .i64 0) := hk9.cell 0
              have d1 : w9.cell? ⟨w.heap.size, 1, none⟩ = some (.bool false) := hk9.cell 1
              have d2 : w9.cell? ⟨w.heap.size, 2, none⟩ = some (.string ⟨#[]⟩) := hk9.cell 2
              have d3 : w9.cell? ⟨w.heap.size, 3, none⟩ = some (.string ⟨#[]⟩) := hk9.cell 3
              have d4 : w9.cell? ⟨w.heap.size, 4, none⟩ = some (.int .i64 0) := hk9.cell 4
              have d5 : w9.cell? ⟨w.heap.size, 5, none⟩ = some (.bool false) := hk9.cell 5
              have d6 : w9.cell? ⟨w.heap.size, 6, none⟩ = some (.string ⟨#[]⟩) := hk9.cell 6
              have d7 : w9.cell? ⟨w.heap.size, 7, none⟩ = some (.string ⟨#[]⟩) := hk9.cell 7
              have d8 : w9.cell? ⟨w.heap.size, 8, none⟩ = some (.string ⟨#[]⟩) := hk9.cell 8
              have df0 := hk9.free 0
              have df1 := hk9.free 1
              have df2 := hk9.free 2
              have df3 := hk9.free 3
              have df4 := hk9.free 4
              have df5 := hk9.free 5
              have df6 := hk9.free 6
              have df7 := hk9.free 7
              have df8 := hk9.free 8
              clear hx9 HST HG HA hp9
              go_wp2
              refine bodyPost_ret (results_cell2 rfl _ _ w.heap.size _ _ _ rfl (hk9.all9 _ _ _ _ _ _ _ _ _).blk Tryz.underlying46 rfl step9_size) rfl ?_
              exact ⟨OneOut.good, (((((((((hb9.setCell (Nat.le_refl _) _).setCell (Nat.le_refl _) _).setCell (Nat.le_refl _) _).setCell (Nat.le_refl _) _).setCell (Nat.le_refl _) _).setCell (Nat.le_refl _) _).setCell (Nat.le_refl _) _).setCell (Nat.le_refl _) _).setCell (Nat.le_refl _) _)⟩
            · have he3b : ((unV v).2 == 0) = false := by simpa using he3
              obtain rfl : Except.error (unV v).2 = o := by have := HST.out; simpa [hn, he3] using this.symm
              have x5 := hx9.cell 5
              simp only [List.getElem?_toArray, List.getElem?_cons_zero, List.getElem?_cons_succ] at x5
              have d0 : w9.cell? ⟨w.heap.size, 0, none⟩ = some (.int .i64 0) := hk9.cell 0
              have d1 : w9.cell? ⟨w.heap.size, 1, none⟩ = some (.bool false) := hk9.cell 1
              have d2 : w9.cell? ⟨w.heap.size, 2, none⟩ = some (.string ⟨#[]⟩) := hk9.cell 2
              have d3 : w9.cell? ⟨w.heap.size, 3, none⟩ = some (.string ⟨#[]⟩) := hk9.cell 3
              have d4 : w9.cell? ⟨w.heap.size, 4, none⟩ = some (.int .i64 0) := hk9.cell 4
              have d5 : w9.cell? ⟨w.heap.size, 5, none⟩ = some (.bool false) := hk9.cell 5
              have d6 : w9.cell? ⟨w.heap.size, 6, none⟩ = some (.string ⟨#[]⟩) := hk9.cell 6
              have d7 : w9.cell? ⟨w.heap.size, 7, none⟩ = some (.string ⟨#[]⟩) := hk9.cell 7
              have d8 : w9.cell? ⟨w.heap.size, 8, none⟩ = some (.string ⟨#[]⟩) := hk9.cell 8
              have df0 := hk9.free 0
              have df1 := hk9.free 1
              have df2 := hk9.free 2
              have df3 := hk9.free 3
              have df4 := hk9.free 4
              have df5 := hk9.free 5
              have df6 := hk9.free 6
              have df7 := hk9.free 7
              have df8 := hk9.free 8
              clear hx9 HST HG HA hp9
              go_wp2
              refine bodyPost_ret (results_cell2 rfl _ _ w.heap.size _ _ _ rfl (hk9.all9 _ _ _ _ _ _ _ _ _).blk Tryz.underlying46 rfl step9_size) rfl ?_
              exact ⟨OneOut.bad, (((((((((hb9.setCell (Nat.le_refl _) _).setCell (Nat.le_refl _) _).setCell (Nat.le_refl _) _).setCell (Nat.le_refl _) _).setCell (Nat.le_refl _) _).setCell (Nat.le_refl _) _).setCell (Nat.le_refl _) _).setCell (Nat.le_refl _) _).setCell (Nat.le_refl _) _)⟩
          · have he2b : (e2 == 0) = false := by simpa using he2
            obtain rfl : Except.error e2 = o := by have := HST.out; simpa [hn, he2] using this.symm
            have x5 := hx7.cell 5
            simp only [List.getElem?_toArray, List.getElem?_cons_zero, List.getElem?_cons_succ] at x5
            have d0 : w7.cell? ⟨w.heap.size, 0, none⟩ = some (.int .i64 0) := hk7.cell 0
            have d1 : w7.cell? ⟨w.heap.size, 1, none⟩ = some (.bool false) := hk7.cell 1
            have d2 : w7.cell? ⟨w.heap.size, 2, none⟩ = some (.string ⟨#[]⟩) := hk7.cell 2
            have d3 : w7.cell? ⟨w.heap.size, 3, none⟩ = some (.string ⟨#[]⟩) := hk7.cell 3
            have d4 : w7.cell? ⟨w.heap.size, 4, none⟩ = some (.int .i64 0) := hk7.cell 4
            have d5 : w7.cell? ⟨w.heap.size, 5, none⟩ = some (.bool false) := hk7.cell 5
            have d6 : w7.cell? ⟨w.heap.size, 6, none⟩ = some (.string ⟨#[]⟩) := hk7.cell 6
            have d7 : w7.cell? ⟨w.heap.size, 7, none⟩ = some (.string ⟨#[]⟩) := hk7.cell 7
            have d8 : w7.cell? ⟨w.heap.size, 8, none⟩ = some (.string ⟨#[]⟩) := hk7.cell 8
            have df0 := hk7.free 0
            have df1 := hk7.free 1
            have df2 := hk7.free 2
            have df3 := hk7.free 3
            have df4 := hk7.free 4
            have df5 := hk7.free 5
            have df6 := hk7.free 6
            have df7 := hk7.free 7
            have df8 := hk7.free 8
            clear hx7 HST HG HA hp7
            go_wp2
            refine bodyPost_ret (results_cell2 rfl _ _ w.heap.size _ _ _ rfl (hk7.all9 _ _ _ _ _ _ _ _ _).blk Tryz.underlying46 rfl step9_size) rfl ?_
            exact ⟨OneOut.bad, (((((((((hb7.setCell (Nat.le_refl _) _).setCell (Nat.le_refl _) _).setCell (Nat.le_refl _) _).setCell (Nat.le_refl _) _).setCell (Nat.le_refl _) _).setCell (Nat.le_refl _) _).setCell (Nat.le_refl _) _).setCell (Nat.le_refl _) _).setCell (Nat.le_refl _) _)⟩
        · have he1b : (e1 == 0) = false := by simpa using he1
          obtain rfl : Except.error e1 = o := by have := HST.out; simpa [hn, he1] using this.symm
          have x5 := hx5.cell 5
          simp only [List.getElem?_toArray, List.getElem?_cons_zero, List.getElem?_cons_succ] at x5
          have d0 : w5.cell? ⟨w.heap.size, 0, none⟩ = some (.int .i64 0) := hk5.cell 0
          have d1 : w5.cell? ⟨w.heap.size, 1, none⟩ = some (.bool false) := hk5.cell 1
          have d2 : w5.cell? ⟨w.heap.size, 2, none⟩ = some (.string ⟨#[]⟩) := hk5.cell 2
          have d3 : w5.cell? ⟨w.heap.size, 3, none⟩ = some (.string ⟨#[]⟩) := hk5.cell 3
          have d4 : w5.cell? ⟨w.heap.size, 4, none⟩ = some (.int .i64 0) := hk5.cell 4
          have d5 : w5.cell? ⟨w.heap.size, 5, none⟩ = some (.bool false) := hk5.cell 5
          have d6 : w5.cell? ⟨w.heap.size, 6, none⟩ = some (.string ⟨#[]⟩) := hk5.cell 6
          have d7 : w5.cell? ⟨w.heap.size, 7, none⟩ = some (.string ⟨#[]⟩) := hk5.cell 7
          have d8 : w5.cell? ⟨w.heap.size, 8, none⟩ = some (.string ⟨#[]⟩) := hk5.cell 8
          have df0 := hk5.free 0
          have df1 := hk5.free 1
          have df2 := hk5.free 2
          have df3 := hk5.free 3
          have df4 := hk5.free 4
          have df5 := hk5.free 5
          have df6 := hk5.free 6
          have df7 := hk5.free 7
          have df8 := hk5.free 8
          clear hx5 HST HG HA hp5
          go_wp2
          refine bodyPost_ret (results_cell2 rfl _ _ w.heap.size _ _ _ rfl (hk5.all9 _ _ _ _ _ _ _ _ _).blk Tryz.underlying46 rfl step9_size) rfl ?_
          exact ⟨OneOut.bad, (((((((((hb5.setCell (Nat.le_refl _) _).setCell (Nat.le_refl _) _).setCell (Nat.le_refl _) _).setCell (Nat.le_refl _) _).setCell (Nat.le_refl _) _).setCell (Nat.le_refl _) _).setCell (Nat.le_refl _) _).setCell (Nat.le_refl _) _).setCell (Nat.le_refl _) _)⟩
end Go.Proofs.YtbdamneophbnnaaGreatDoor
