/- FeG. -/
import Derived.Test.YtblongcnmpdihaaDoorCd7
namespace Wb
open Go Go.RowKit
theorem results_cell3' {P : Program} {fn : Func} {p u v : Tmp} {ty : TypeId} (h : fn.results = #[.cell p ty, .tmp u, .tmp v]) (tmps : Array Value) (w : World) (g : Nat) (t : TypeId) (cs : Array Value) (d : TypeDesc)
    (hp : tmps.getD p undef = .pointer (some ⟨g, 0, none⟩)) (hg : w.heap[g]? = some (.cells cs t (0, 0)))
    (hu : P.underlying ty = some d) (hd : (match d with | .struct _ | .array _ _ => true | _ => false) = true) (hi : (P.info? ty).map (·.size) = some cs.size) :
    (results fn tmps).run P w = .ok (.tuple #[.agg cs, tmps.getD u undef, tmps.getD v undef]) w := by
  have hp' : tmps[p]?.getD undef = .pointer (some ⟨g, 0, none⟩) := by simpa using hp
  unfold results
  rw [h]
  simp [hp', asAddr, Result.andThen, run_loadVar_row w g t ty cs (0, 0) d hg hu hd hi]
theorem valueF_quote (L : List UInt8) (h : preQ 34 L = true) : valueF L = quotedF (preR 34 L) := by
  unfold preQ at h
  rw [decide_eq_true_eq] at h
  unfold preR
  rw [if_pos h]
  cases L with
  | nil => cases h
  | cons c l =>
    simp only [List.head?_cons, Option.some.injEq] at h
    rw [valueF, if_pos h]
    rfl
theorem valueF_token (L : List UInt8) (h : preQ 34 L = false) : valueF L = if (L.takeWhile tkC).isEmpty = true then none else some (L.takeWhile tkC, L.dropWhile tkC) := by
  unfold preQ at h
  rw [decide_eq_false_iff_not] at h
  cases L with
  | nil => rfl
  | cons c l =>
    simp only [List.head?_cons, Option.some.injEq] at h
    rw [valueF, if_neg h]
    by_cases hc : tkC c = true
    · rw [if_pos hc, if_neg (by simp [hc])]
    · rw [if_neg hc, if_pos (by simp [hc])]
def PmOut (o : Option ((List UInt8 × List UInt8) × List UInt8)) (e : Ending) : Prop :=
  match o with
  | some (x, r) => e = .returned (.tuple #[.agg #[.string ⟨x.1.toArray⟩, .string ⟨x.2.toArray⟩], .string ⟨r.toArray⟩, .bool true])
  | none => ∃ n v r : ByteArray, n.size ≤ 1000000000 ∧ e = .returned (.tuple #[.agg #[.string n, .string v], .string r, .bool false])
theorem preQ_cons (c : UInt8) (s : List UInt8) (h : preQ c s = true) : s = c :: preR c s := by
  unfold preQ at h
  rw [decide_eq_true_eq] at h
  unfold preR
  rw [if_pos h]
  cases s with
  | nil => cases h
  | cons x l => simp only [List.head?_cons, Option.some.injEq] at h; rw [h]; rfl
theorem preQ_no (c : UInt8) (s : List UInt8) (h : preQ c s = false) : s = [] ∨ ∃ x l, s = x :: l ∧ x ≠ c := by
  unfold preQ at h
  rw [decide_eq_false_iff_not] at h
  cases s with
  | nil => exact .inl rfl
  | cons x l => exact .inr ⟨x, l, rfl, fun e => h (by rw [e]; rfl)⟩
theorem pmF_way (L a nm q : List UInt8) (ha : a = (preR 59 L).dropWhile blankB) (hn : nm = a.takeWhile tkC) (hq : q = (a.dropWhile tkC).dropWhile blankB) :
    pmF L = if (preQ 59 L && !nm.isEmpty && preQ 61 q) = true then (valueF ((preR 61 q).dropWhile blankB)).map (fun p => ((lowF nm, p.1), p.2)) else none := by
  cases h1 : preQ 59 L
  · rw [if_neg (by simp)]
    rcases preQ_no 59 L h1 with rfl | ⟨x, l, rfl, hx⟩
    · rfl
    · rw [pmF, if_pos hx]
  · obtain ⟨t, ht⟩ : ∃ t, preR 59 L = t := ⟨_, rfl⟩
    rw [preQ_cons 59 L h1]
    rw [ht] at ha ⊢
    rw [pmF, if_neg (by simp)]
    simp only
    rw [← ha, ← hn, ← hq]
    cases h2 : nm.isEmpty
    · have h2' : nm ≠ [] := by intro e; rw [e] at h2; cases h2
      rw [if_neg h2']
      cases h3 : preQ 61 q
      · rw [if_neg (by simp)]
        rcases preQ_no 61 q h3 with rfl | ⟨x, l, rfl, hx⟩
        · rfl
        · simp only; rw [if_pos hx]
      · obtain ⟨r, hr⟩ : ∃ r, preR 61 q = r := ⟨_, rfl⟩
        rw [preQ_cons 61 q h3, hr]
        simp only
        rw [if_neg (by simp), if_pos (by simp)]
        have e : preR 61 (61 :: r) = r := rfl
        rw [e]
        cases valueF (r.dropWhile blankB) <;> rfl
    · have h2' : nm = [] := List.isEmpty_iff.1 h2
      rw [if_pos h2', if_neg (by simp)]
theorem ba_mk (x : ByteArray) : (⟨x.data.toList.toArray⟩ : ByteArray) = x := by simp
def VaIs (b : Bool) (o : Option (List UInt8 × List UInt8)) (va ra : ByteArray) : Prop := if b = true then o = some (va.data.toList, ra.data.toList) else o = none
theorem pm_end {b1 b2 b3 b4 : Bool} {o : Option (List UInt8 × List UInt8)} {va ra nm : ByteArray} {ln : List UInt8} {R : Option ((List UInt8 × List UInt8) × List UInt8)}
    (hR : R = if (b1 && !b2 && b3) = true then o.map (fun p => ((ln, p.1), p.2)) else none) (hO : VaIs b4 o va ra) (hn : nm = ⟨ln.toArray⟩) (hz : nm.size ≤ 1000000000) :
    PmOut R (.returned (.tuple #[.agg #[.string nm, .string va], .string ra, .bool (b1 && !b2 && b3 && b4)])) := by
  subst hR
  unfold VaIs at hO
  cases hb : (b1 && !b2 && b3)
  · rw [if_neg (by simp)]
    exact ⟨_, _, _, hz, rfl⟩
  · rw [if_pos rfl]
    cases b4
    · rw [if_neg (by simp)] at hO
      rw [hO]
      exact ⟨_, _, _, hz, rfl⟩
    · rw [if_pos rfl] at hO
      rw [hO, hn]
      have e : ∀ x : ByteArray, (⟨x.data.toList.toArray⟩ : ByteArray) = x := fun x => by simp
      unfold PmOut
      simp only [Option.map_some]
      rw [e va, e ra]
      rfl
end Wb
namespace Go.Proofs.YtblongcnmpdihaaDoor
open Go.RowKit Wb
set_option maxRecDepth 100000 in
set_option maxHeartbeats 1000000 in
theorem cutValue_any (s : ByteArray) (w : World) (hs : s.size ≤ 1000000000) :
    Calls Tryd.prog 84 #[.string s] w fun e w' => CutOut (valueF s.data.toList) e ∧ Below w.heap.size w w' := by
  have h1 := cutPre_any 34 s w hs
  cases hq : preQ 34 s.data.toList
  · have h2 := fun v => cutToken_any s v hs
    have hV := valueF_token _ hq
    rw [hq] at h1
    rw [hV, ← spanA_list, ← spanR_list, ← empty_list]
    clear hq hV
    generalize preX 34 s = x at *
    obtain ⟨b, hb⟩ : ∃ b, (spanA tkC s).toList.isEmpty = b := ⟨_, rfl⟩
    rw [hb] at h2 ⊢
    clear hb
    generalize spanA tkC s = a at *
    generalize spanR tkC s = r at *
    obtain ⟨o, ho⟩ : ∃ o, (if b = true then none else some (a.data.toList, r.data.toList)) = o := ⟨_, rfl⟩
    rw [ho]
    have HO := Lib.hid ho
    clear ho
    go_enter Tryd.func84, Tryd.ntmps84
    go_wp2_with fail
    refine h1.mono ?_
    rintro e w3 ⟨rfl, hb3⟩
    have HB3 := Lib.hid hb3
    clear hb3 h1
    go_wp2_with fail
    refine (h2 w3).mono ?_
    rintro e w4 ⟨rfl, hb4⟩
    have HB4 := Lib.hid (HB3.out.trans (hb4.mono HB3.out.size))
    clear hb4 h2
    go_wp2
    go_ret3
    refine ⟨?_, HB4.out⟩
    rw [← HO.out]
    cases b
    · rw [if_neg (by simp)]
      unfold CutOut
      simp only
      rw [ba_mk a, ba_mk r]
      rfl
    · rw [if_pos rfl]
      exact ⟨_, _, rfl⟩
  · have hV := valueF_quote _ hq
    have h2 := fun v => unquoted_any (preX 34 s) v (by have := preX_size 34 s; omega)
    rw [hq] at h1
    have e : (preX 34 s).data.toList = preR 34 s.data.toList := rfl
    rw [e] at h2
    rw [hV]
    clear hq hV e
    generalize preX 34 s = x at *
    generalize quotedF (preR 34 s.data.toList) = o at *
    go_enter Tryd.func84, Tryd.ntmps84
    go_wp2_with fail
    refine h1.mono ?_
    rintro e w3 ⟨rfl, hb3⟩
    have HB3 := Lib.hid hb3
    clear hb3 h1
    go_wp2_with fail
    refine (h2 w3).mono ?_
    rintro e w4 ⟨ho, hb4⟩
    have HB4 := Lib.hid (HB3.out.trans (hb4.mono HB3.out.size))
    clear hb4 h2
    rcases o with _ | ⟨v, r⟩
    · obtain ⟨a, b, rfl⟩ := ho
      go_wp2
      go_ret3
      exact ⟨⟨_, _, rfl⟩, HB4.out⟩
    · obtain rfl : e = _ := ho
      go_wp2
      go_ret3
      exact ⟨rfl, HB4.out⟩
theorem param_info : (Tryd.prog.info? 45).map (·.size) = some 2 := by kernel_rfl
set_option maxRecDepth 100000 in
set_option maxHeartbeats 4000000 in
theorem cutParam_any (s : ByteArray) (w : World) (hs : s.size ≤ 1000000000) :
    Calls Tryd.prog 66 #[.string s] w fun e w' => PmOut (pmF s.data.toList) e ∧ Below w.heap.size w w' := by
  have z1 := preX_size 59 s
  have z2 := spanR_size blankB (preX 59 s)
  have z3 := spanR_size tkC (spanR blankB (preX 59 s))
  have z4 := spanR_size blankB (spanR tkC (spanR blankB (preX 59 s)))
  have z5 := preX_size 61 (spanR blankB (spanR tkC (spanR blankB (preX 59 s))))
  have z6 := spanR_size blankB (preX 61 (spanR blankB (spanR tkC (spanR blankB (preX 59 s)))))
  have z7 := spanA_size tkC (spanR blankB (preX 59 s))
  have h1 := fun v => cutPre_any 59 s v hs
  have h2 := fun v => skip_any (preX 59 s) v (by omega)
  have h3 := fun v => cutToken_any (spanR blankB (preX 59 s)) v (by omega)
  have h4 := fun v => skip_any (spanR tkC (spanR blankB (preX 59 s))) v (by omega)
  have h5 := fun v => cutPre_any 61 (spanR blankB (spanR tkC (spanR blankB (preX 59 s)))) v (by omega)
  have h6 := fun v => skip_any (preX 61 (spanR blankB (spanR tkC (spanR blankB (preX 59 s))))) v (by omega)
  have h7 := fun v => cutValue_any (spanR blankB (preX 61 (spanR blankB (spanR tkC (spanR blankB (preX 59 s)))))) v (by omega)
  have h8 := fun v => small_any (spanA tkC (spanR blankB (preX 59 s))) v (by omega)
  have hP := pmF_way s.data.toList _ _ _ rfl rfl rfl
  have HZ := Lib.hid (show (lowB (spanA tkC (spanR blankB (preX 59 s)))).size ≤ 1000000000 by rw [lowB_size]; omega)
  have e1 : (spanA tkC (spanR blankB (preX 59 s))).toList.isEmpty = (((preR 59 s.data.toList).dropWhile blankB).takeWhile tkC).isEmpty := by rw [empty_list]; rfl
  have e2 : (lowB (spanA tkC (spanR blankB (preX 59 s)))) = ⟨(lowF (((preR 59 s.data.toList).dropWhile blankB).takeWhile tkC)).toArray⟩ := rfl
  have e3 : preQ 61 (spanR blankB (spanR tkC (spanR blankB (preX 59 s)))).data.toList = preQ 61 ((((preR 59 s.data.toList).dropWhile blankB).dropWhile tkC).dropWhile blankB) := rfl
  have e4 : valueF (spanR blankB (preX 61 (spanR blankB (spanR tkC (spanR blankB (preX 59 s)))))).data.toList = valueF ((preR 61 ((((preR 59 s.data.toList).dropWhile blankB).dropWhile tkC).dropWhile blankB)).dropWhile blankB) := rfl
  rw [← e1, ← e3, ← e4] at hP
  obtain ⟨R, hR⟩ : ∃ R, pmF s.data.toList = R := ⟨_, rfl⟩
  rw [hR] at hP ⊢
  have HE2 := Lib.hid e2
  clear hR e1 e2 e3 e4 z1 z2 z3 z4 z5 z6 z7
  generalize valueF (spanR blankB (preX 61 (spanR blankB (spanR tkC (spanR blankB (preX 59 s)))))).data.toList = o at *
  generalize preQ 61 (spanR blankB (spanR tkC (spanR blankB (preX 59 s)))).data.toList = b3 at *
  generalize (lowF (((preR 59 s.data.toList).dropWhile blankB).takeWhile tkC)) = ln at *
  generalize (spanA tkC (spanR blankB (preX 59 s))).toList.isEmpty = b2 at *
  generalize preQ 59 s.data.toList = b1 at *
  generalize lowB (spanA tkC (spanR blankB (preX 59 s))) = nm at *
  generalize spanA tkC (spanR blankB (preX 59 s)) = tk at *
  generalize spanR blankB (preX 61 (spanR blankB (spanR tkC (spanR blankB (preX 59 s))))) = s7 at *
  generalize preX 61 (spanR blankB (spanR tkC (spanR blankB (preX 59 s)))) = s6 at *
  generalize spanR blankB (spanR tkC (spanR blankB (preX 59 s))) = s5 at *
  generalize spanR tkC (spanR blankB (preX 59 s)) = s4 at *
  generalize spanR blankB (preX 59 s) = s3 at *
  generalize preX 59 s = s2 at *
  have HR := Lib.hid hP
  clear hP
  have hG := heap_alloc_new w (.cells #[.string ⟨#[]⟩, .string ⟨#[]⟩] 45)
  have hb0 := (Below.refl w.heap.size w).alloc (Nat.le_refl _) (.cells #[.string ⟨#[]⟩, .string ⟨#[]⟩] 45)
  have HG := Lib.hid hG
  have HB := Lib.hid hb0
  clear hG hb0
  go_enter Tryd.func66, Tryd.ntmps66
  go_wp2_with fail
  refine (h1 _).mono ?_
  rintro e w1 ⟨rfl, hb⟩
  have HG1 := Lib.hid (still_block HG.out hb)
  have HB1 := Lib.hid (HB.out.trans (hb.mono HB.out.size))
  clear hb HG HB h1
  go_wp2_with fail
  refine (h2 _).mono ?_
  rintro e w2 ⟨rfl, hb⟩
  have HG2 := Lib.hid (still_block HG1.out hb)
  have HB2 := Lib.hid (HB1.out.trans (hb.mono HB1.out.size))
  clear hb HG1 HB1 h2
  go_wp2_with fail
  refine (h3 _).mono ?_
  rintro e w3 ⟨rfl, hb⟩
  have HG3 := Lib.hid (still_block HG2.out hb)
  have HB3 := Lib.hid (HB2.out.trans (hb.mono HB2.out.size))
  clear hb HG2 HB2 h3
  go_wp2_with fail
  refine (h4 _).mono ?_
  rintro e w4 ⟨rfl, hb⟩
  have HG4 := Lib.hid (still_block HG3.out hb)
  have HB4 := Lib.hid (HB3.out.trans (hb.mono HB3.out.size))
  clear hb HG3 HB3 h4
  go_wp2_with fail
  refine (h5 _).mono ?_
  rintro e w5 ⟨rfl, hb⟩
  have HG5 := Lib.hid (still_block HG4.out hb)
  have HB5 := Lib.hid (HB4.out.trans (hb.mono HB4.out.size))
  clear hb HG4 HB4 h5
  go_wp2_with fail
  refine (h6 _).mono ?_
  rintro e w6 ⟨rfl, hb⟩
  have HG6 := Lib.hid (still_block HG5.out hb)
  have HB6 := Lib.hid (HB5.out.trans (hb.mono HB5.out.size))
  clear hb HG5 HB5 h6
  go_wp2_with fail
  refine (h7 _).mono ?_
  rintro e w7 ⟨ho, hb⟩
  have HG7 := Lib.hid (still_block HG6.out hb)
  have HB7 := Lib.hid (HB6.out.trans (hb.mono HB6.out.size))
  clear hb HG6 HB6 h7
  have h9 := h8 w7
  clear h8
  obtain ⟨va, ra, b4, rfl, hob⟩ : ∃ (va ra : ByteArray) (b4 : Bool), e = .returned (.tuple #[.string va, .string ra, .bool b4]) ∧ VaIs b4 o va ra := by
    rcases o with _ | ⟨v, r⟩
    · obtain ⟨a, b, rfl⟩ := ho
      exact ⟨a, b, false, rfl, rfl⟩
    · exact ⟨_, _, true, ho, rfl⟩
  have HO := Lib.hid hob
  clear ho hob
  cases b1
  all_goals cases b2
  all_goals cases b3
  all_goals cases b4
  all_goals
    go_wp2_with fail
    refine h9.mono ?_
    rintro e w8 ⟨rfl, hb⟩
    have HG8 := Lib.hid (still_block HG7.out hb)
    have HB8 := Lib.hid (HB7.out.trans (hb.mono HB7.out.size))
    clear hb h9
    have d0 := blk_cell HG8.out 0
    have d1 := blk_cell HG8.out 1
    have f0 := blk_free HG8.out 0
    have f1 := blk_free HG8.out 1
    simp only [List.getElem?_toArray, List.getElem?_cons_zero, List.getElem?_cons_succ] at d0 d1
    go_wp2
    refine bodyPost_ret (results_cell3' rfl _ _ w.heap.size _ _ _ rfl (blk_set (blk_set HG8.out 0 _) 1 _) Tryd.underlying45 rfl param_info) rfl ?_
    exact ⟨pm_end HR.out HO.out HE2.out HZ.out, (HB8.out.setCell (Nat.le_refl _) _).setCell (Nat.le_refl _) _⟩
end Go.Proofs.YtblongcnmpdihaaDoor
