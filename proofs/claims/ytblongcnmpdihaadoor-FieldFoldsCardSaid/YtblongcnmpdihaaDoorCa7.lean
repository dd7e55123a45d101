/- FeG FeH. -/
import Derived.Maps.OwnSet
import Derived.StringKeys
import Derived.Test.YtblongcnmpdihaaDoorCa6
namespace Wb
open Go Go.RowKit
theorem results_cell3' {P : Program} {fn : Func} {p u v : Tmp} {ty : TypeId} (h : fn.results = #[.cell p ty, .tmp u, .tmp v]) (tmps : Array Value) (w : World) (g : Nat) (t : TypeId) (cs : Array Value) (d : TypeDesc)
    (hp : tmps.getD p undef = .pointer (some ⟨g, 0, none⟩)) (hg : w.heap[g]? = some (.cells cs t (0, 0)))
    (hu : P.underlying ty = some d) (hd : (match d with | .struct _ | .array _ _ => true | _ => false) = true) (hi : (P.info? ty).map (·.size) = some cs.size) :
    (results fn tmps).run P w = .ok (.tuple #[.agg cs, tmps.getD u undef, tmps.getD v undef]) w := by
  have hp' : tmps[p]?.getD undef = .pointer (some ⟨g, 0, none⟩) := by simpa using hp
  unfold results
  rw [h]
  simp [hp', asAddr, Result.andThen, run_loadVar_row w g t ty cs (0, 0) d hg hu hd hi]
theorem valueF_quote (L : List UInt8) (h : preQ 34 L = true) : valueF L = quotedF (preR 34 L) := by
  unfold preQ at h
  rw [decide_eq_true_eq] at h
  unfold preR
  rw [if_pos h]
  cases L with
  | nil => cases h
  | cons c l =>
    simp only [List.head?_cons, Option.some.injEq] at h
    rw [valueF, if_pos h]
    rfl
theorem valueF_token (L : List UInt8) (h : preQ 34 L = false) : valueF L = if (L.takeWhile tkC).isEmpty = true then none else some (L.takeWhile tkC, L.dropWhile tkC) := by
  unfold preQ at h
  rw [decide_eq_false_iff_not] at h
  cases L with
  | nil => rfl
  | cons c l =>
    simp only [List.head?_cons, Option.some.injEq] at h
    rw [valueF, if_neg h]
    by_cases hc : tkC c = true
    · rw [if_pos hc, if_neg (by simp [hc])]
    · rw [if_neg hc, if_pos (by simp [hc])]
def PmOut (o : Option ((List UInt8 × List UInt8) × List UInt8)) (e : Ending) : Prop :=
  match o with
  | some (x, r) => e = .returned (.tuple #[.agg #[.string ⟨x.1.toArray⟩, .string ⟨x.2.toArray⟩], .string ⟨r.toArray⟩, .bool true])
  | none => ∃ n v r : ByteArray, n.size ≤ 1000000000 ∧ e = .returned (.tuple #[.agg #[.string n, .string v], .string r, .bool false])
theorem preQ_cons (c : UInt8) (s : List UInt8) (h : preQ c s = true) : s = c :: preR c s := by
  unfold preQ at h
  rw [decide_eq_true_eq] at h
  unfold preR
  rw [if_pos h]
  cases s with
  | nil => cases h
  | cons x l => simp only [List.head?_cons, Option.some.injEq] at h; rw [h]; rfl
theorem preQ_no (c : UInt8) (s : List UInt8) (h : preQ c s = false) : s = [] ∨ ∃ x l, s = x :: l ∧ x ≠ c := by
  unfold preQ at h
  rw [decide_eq_false_iff_not] at h
  cases s with
  | nil => exact .inl rfl
  | cons x l => exact .inr ⟨x, l, rfl, fun e => h (by rw [e]; rfl)⟩
theorem pmF_way (L a nm q : List UInt8) (ha : a = (preR 59 L).dropWhile blankB) (hn : nm = a.takeWhile tkC) (hq : q = (a.dropWhile tkC).dropWhile blankB) :
    pmF L = if (preQ 59 L && !nm.isEmpty && preQ 61 q) = true then (valueF ((preR 61 q).dropWhile blankB)).map (fun p => ((lowF nm, p.1), p.2)) else none := by
  cases h1 : preQ 59 L
  · rw [if_neg (by simp)]
    rcases preQ_no 59 L h1 with rfl | ⟨x, l, rfl, hx⟩
    · rfl
    · rw [pmF, if_pos hx]
  · obtain ⟨t, ht⟩ : ∃ t, preR 59 L = t := ⟨_, rfl⟩
    rw [preQ_cons 59 L h1]
    rw [ht] at ha ⊢
    rw [pmF, if_neg (by simp)]
    simp only
    rw [← ha, ← hn, ← hq]
    cases h2 : nm.isEmpty
    · have h2' : nm ≠ [] := by intro e; rw [e] at h2; cases h2
      rw [if_neg h2']
      cases h3 : preQ 61 q
      · rw [if_neg (by simp)]
        rcases preQ_no 61 q h3 with rfl | ⟨x, l, rfl, hx⟩
        · rfl
        · simp only; rw [if_pos hx]
      · obtain ⟨r, hr⟩ : ∃ r, preR 61 q = r := ⟨_, rfl⟩
        rw [preQ_cons 61 q h3, hr]
        simp only
        rw [if_neg (by simp), if_pos (by simp)]
        have e : preR 61 (61 :: r) = r := rfl
        rw [e]
        cases valueF (r.dropWhile blankB) <;> rfl
    · have h2' : nm = [] := List.isEmpty_iff.1 h2
      rw [if_pos h2', if_neg (by simp)]
theorem ba_mk (x : ByteArray) : (⟨x.data.toList.toArray⟩ : ByteArray) = x := by simp
def VaIs (b : Bool) (o : Option (List UInt8 × List UInt8)) (va ra : ByteArray) : Prop := if b = true then o = some (va.data.toList, ra.data.toList) else o = none
theorem pm_end {b1 b2 b3 b4 : Bool} {o : Option (List UInt8 × List UInt8)} {va ra nm : ByteArray} {ln : List UInt8} {R : Option ((List UInt8 × List UInt8) × List UInt8)}
    (hR : R = if (b1 && !b2 && b3) = true then o.map (fun p => ((ln, p.1), p.2)) else none) (hO : VaIs b4 o va ra) (hn : nm = ⟨ln.toArray⟩) (hz : nm.size ≤ 1000000000) :
    PmOut R (.returned (.tuple #[.agg #[.string nm, .string va], .string ra, .bool (b1 && !b2 && b3 && b4)])) := by
  subst hR
  unfold VaIs at hO
  cases hb : (b1 && !b2 && b3)
  · rw [if_neg (by simp)]
    exact ⟨_, _, _, hz, rfl⟩
  · rw [if_pos rfl]
    cases b4
    · rw [if_neg (by simp)] at hO
      rw [hO]
      exact ⟨_, _, _, hz, rfl⟩
    · rw [if_pos rfl] at hO
      rw [hO, hn]
      have e : ∀ x : ByteArray, (⟨x.data.toList.toArray⟩ : ByteArray) = x := fun x => by simp
      unfold PmOut
      simp only [Option.map_some]
      rw [e va, e ra]
      rfl
end Wb
namespace Go.Proofs.YtblongcnmpdihaaDoor
open Go.RowKit Wb
set_option maxRecDepth 100000 in
set_option maxHeartbeats 1000000 in
theorem cutValue_any (s : ByteArray) (w : World) (hs : s.size ≤ 1000000000) :
    Calls Tryd.prog 84 #[.string s] w fun e w' => CutOut (valueF s.data.toList) e ∧ Below w.heap.size w w' := by
  have h1 := cutPre_any 34 s w hs
  cases hq : preQ 34 s.data.toList
  · have h2 := fun v => cutToken_any s v hs
    have hV := valueF_token _ hq
    rw [hq] at h1
    rw [hV, ← spanA_list, ← spanR_list, ← empty_list]
    clear hq hV
    generalize preX 34 s = x at *
    obtain ⟨b, hb⟩ : ∃ b, (spanA tkC s).toList.isEmpty = b := ⟨_, rfl⟩
    rw [hb] at h2 ⊢
    clear hb
    generalize spanA tkC s = a at *
    generalize spanR tkC s = r at *
    obtain ⟨o, ho⟩ : ∃ o, (if b = true then none else some (a.data.toList, r.data.toList)) = o := ⟨_, rfl⟩
    rw [ho]
    have HO := Lib.hid ho
    clear ho
    go_enter Tryd.func84, Tryd.ntmps84
    go_wp2_with fail
    refine h1.mono ?_
    rintro e w3 ⟨rfl, hb3⟩
    have HB3 := Lib.hid hb3
    clear hb3 h1
    go_wp2_with fail
    refine (h2 w3).mono ?_
    rintro e w4 ⟨rfl, hb4⟩
    have HB4 := Lib.hid (HB3.out.trans (hb4.mono HB3.out.size))
    clear hb4 h2
    go_wp2
    go_ret3
    refine ⟨?_, HB4.out⟩
    rw [← HO.out]
    cases b
    · rw [if_neg (by simp)]
      unfold CutOut
      simp only
      rw [ba_mk a, ba_mk r]
      rfl
    · rw [if_pos rfl]
      exact ⟨_, _, rfl⟩
  · have hV := valueF_quote _ hq
    have h2 := fun v => unquoted_any (preX 34 s) v (by have := preX_size 34 s; omega)
    rw [hq] at h1
    have e : (preX 34 s).data.toList = preR 34 s.data.toList := rfl
    rw [e] at h2
    rw [hV]
    clear hq hV e
    generalize preX 34 s = x at *
    generalize quotedF (preR 34 s.data.toList) = o at *
    go_enter Tryd.func84, Tryd.ntmps84
    go_wp2_with fail
    refine h1.mono ?_
    rintro e w3 ⟨rfl, hb3⟩
    have HB3 := Lib.hid hb3
    clear hb3 h1
    go_wp2_with fail
    refine (h2 w3).mono ?_
    rintro e w4 ⟨ho, hb4⟩
    have HB4 := Lib.hid (HB3.out.trans (hb4.mono HB3.out.size))
    clear hb4 h2
    rcases o with _ | ⟨v, r⟩
    · obtain ⟨a, b, rfl⟩ := ho
      go_wp2
      go_ret3
      exact ⟨⟨_, _, rfl⟩, HB4.out⟩
    · obtain rfl : e = _ := ho
      go_wp2
      go_ret3
      exact ⟨rfl, HB4.out⟩
theorem param_info : (Tryd.prog.info? 45).map (·.size) = some 2 := by kernel_rfl
set_option maxRecDepth 100000 in
set_option maxHeartbeats 4000000 in
theorem cutParam_any (s : ByteArray) (w : World) (hs : s.size ≤ 1000000000) :
    Calls Tryd.prog 66 #[.string s] w fun e w' => PmOut (pmF s.data.toList) e ∧ Below w.heap.size w w' := by
  have z1 := preX_size 59 s
  have z2 := spanR_size blankB (preX 59 s)
  have z3 := spanR_size tkC (spanR blankB (preX 59 s))
  have z4 := spanR_size blankB (spanR tkC (spanR blankB (preX 59 s)))
  have z5 := preX_size 61 (spanR blankB (spanR tkC (spanR blankB (preX 59 s))))
  have z6 := spanR_size blankB (preX 61 (spanR blankB (spanR tkC (spanR blankB (preX 59 s)))))
  have z7 := spanA_size tkC (spanR blankB (preX 59 s))
  have h1 := fun v => cutPre_any 59 s v hs
  have h2 := fun v => skip_any (preX 59 s) v (by omega)
  have h3 := fun v => cutToken_any (spanR blankB (preX 59 s)) v (by omega)
  have h4 := fun v => skip_any (spanR tkC (spanR blankB (preX 59 s))) v (by omega)
  have h5 := fun v => cutPre_any 61 (spanR blankB (spanR tkC (spanR blankB (preX 59 s)))) v (by omega)
  have h6 := fun v => skip_any (preX 61 (spanR blankB (spanR tkC (spanR blankB (preX 59 s))))) v (by omega)
  have h7 := fun v => cutValue_any (spanR blankB (preX 61 (spanR blankB (spanR tkC (spanR blankB (preX 59 s)))))) v (by omega)
  have h8 := fun v => small_any (spanA tkC (spanR blankB (preX 59 s))) v (by omega)
  have hP := pmF_way s.data.toList _ _ _ rfl rfl rfl
  have HZ := Lib.hid (show (lowB (spanA tkC (spanR blankB (preX 59 s)))).size ≤ 1000000000 by rw [lowB_size]; omega)
  have e1 : (spanA tkC (spanR blankB (preX 59 s))).toList.isEmpty = (((preR 59 s.data.toList).dropWhile blankB).takeWhile tkC).isEmpty := by rw [empty_list]; rfl
  have e2 : (lowB (spanA tkC (spanR blankB (preX 59 s)))) = ⟨(lowF (((preR 59 s.data.toList).dropWhile blankB).takeWhile tkC)).toArray⟩ := rfl
  have e3 : preQ 61 (spanR blankB (spanR tkC (spanR blankB (preX 59 s)))).data.toList = preQ 61 ((((preR 59 s.data.toList).dropWhile blankB).dropWhile tkC).dropWhile blankB) := rfl
  have e4 : valueF (spanR blankB (preX 61 (spanR blankB (spanR tkC (spanR blankB (preX 59 s)))))).data.toList = valueF ((preR 61 ((((preR 59 s.data.toList).dropWhile blankB).dropWhile tkC).dropWhile blankB)).dropWhile blankB) := rfl
  rw [← e1, ← e3, ← e4] at hP
  obtain ⟨R, hR⟩ : ∃ R, pmF s.data.toList = R := ⟨_, rfl⟩
  rw [hR] at hP ⊢
  have HE2 := Lib.hid e2
  clear hR e1 e2 e3 e4 z1 z2 z3 z4 z5 z6 z7
  generalize valueF (spanR blankB (preX 61 (spanR blankB (spanR tkC (spanR blankB (preX 59 s)))))).data.toList = o at *
  generalize preQ 61 (spanR blankB (spanR tkC (spanR blankB (preX 59 s)))).data.toList = b3 at *
  generalize (lowF (((preR 59 s.data.toList).dropWhile blankB).takeWhile tkC)) = ln at *
  generalize (spanA tkC (spanR blankB (preX 59 s))).toList.isEmpty = b2 at *
  generalize preQ 59 s.data.toList = b1 at *
  generalize lowB (spanA tkC (spanR blankB (preX 59 s))) = nm at *
  generalize spanA tkC (spanR blankB (preX 59 s)) = tk at *
  generalize spanR blankB (preX 61 (spanR blankB (spanR tkC (spanR blankB (preX 59 s))))) = s7 at *
  generalize preX 61 (spanR blankB (spanR tkC (spanR blankB (preX 59 s)))) = s6 at *
  generalize spanR blankB (spanR tkC (spanR blankB (preX 59 s))) = s5 at *
  generalize spanR tkC (spanR blankB (preX 59 s)) = s4 at *
  generalize spanR blankB (preX 59 s) = s3 at *
  generalize preX 59 s = s2 at *
  have HR := Lib.hid hP
  clear hP
  have hG := heap_alloc_new w (.cells #[.string ⟨#[]⟩, .string ⟨#[]⟩] 45)
  have hb0 := (Below.refl w.heap.size w).alloc (Nat.le_refl _) (.cells #[.string ⟨#[]⟩, .string ⟨#[]⟩] 45)
  have HG := Lib.hid hG
  have HB := Lib.hid hb0
  clear hG hb0
  go_enter Tryd.func66, Tryd.ntmps66
  go_wp2_with fail
  refine (h1 _).mono ?_
  rintro e w1 ⟨rfl, hb⟩
  have HG1 := Lib.hid (still_block HG.out hb)
  have HB1 := Lib.hid (HB.out.trans (hb.mono HB.out.size))
  clear hb HG HB h1
  go_wp2_with fail
  refine (h2 _).mono ?_
  rintro e w2 ⟨rfl, hb⟩
  have HG2 := Lib.hid (still_block HG1.out hb)
  have HB2 := Lib.hid (HB1.out.trans (hb.mono HB1.out.size))
  clear hb HG1 HB1 h2
  go_wp2_with fail
  refine (h3 _).mono ?_
  rintro e w3 ⟨rfl, hb⟩
  have HG3 := Lib.hid (still_block HG2.out hb)
  have HB3 := Lib.hid (HB2.out.trans (hb.mono HB2.out.size))
  clear hb HG2 HB2 h3
  go_wp2_with fail
  refine (h4 _).mono ?_
  rintro e w4 ⟨rfl, hb⟩
  have HG4 := Lib.hid (still_block HG3.out hb)
  have HB4 := Lib.hid (HB3.out.trans (hb.mono HB3.out.size))
  clear hb HG3 HB3 h4
  go_wp2_with fail
  refine (h5 _).mono ?_
  rintro e w5 ⟨rfl, hb⟩
  have HG5 := Lib.hid (still_block HG4.out hb)
  have HB5 := Lib.hid (HB4.out.trans (hb.mono HB4.out.size))
  clear hb HG4 HB4 h5
  go_wp2_with fail
  refine (h6 _).mono ?_
  rintro e w6 ⟨rfl, hb⟩
  have HG6 := Lib.hid (still_block HG5.out hb)
  have HB6 := Lib.hid (HB5.out.trans (hb.mono HB5.out.size))
  clear hb HG5 HB5 h6
  go_wp2_with fail
  refine (h7 _).mono ?_
  rintro e w7 ⟨ho, hb⟩
  have HG7 := Lib.hid (still_block HG6.out hb)
  have HB7 := Lib.hid (HB6.out.trans (hb.mono HB6.out.size))
  clear hb HG6 HB6 h7
  have h9 := h8 w7
  clear h8
  obtain ⟨va, ra, b4, rfl, hob⟩ : ∃ (va ra : ByteArray) (b4 : Bool), e = .returned (.tuple #[.string va, .string ra, .bool b4]) ∧ VaIs b4 o va ra := by
    rcases o with _ | ⟨v, r⟩
    · obtain ⟨a, b, rfl⟩ := ho
      exact ⟨a, b, false, rfl, rfl⟩
    · exact ⟨_, _, true, ho, rfl⟩
  have HO := Lib.hid hob
  clear ho hob
  cases b1
  all_goals cases b2
  all_goals cases b3
  all_goals cases b4
  all_goals
    go_wp2_with fail
    refine h9.mono ?_
    rintro e w8 ⟨rfl, hb⟩
    have HG8 := Lib.hid (still_block HG7.out hb)
    have HB8 := Lib.hid (HB7.out.trans (hb.mono HB7.out.size))
    clear hb h9
    have d0 := blk_cell HG8.out 0
    have d1 := blk_cell HG8.out 1
    have f0 := blk_free HG8.out 0
    have f1 := blk_free HG8.out 1
    simp only [List.getElem?_toArray, List.getElem?_cons_zero, List.getElem?_cons_succ] at d0 d1
    go_wp2
    refine bodyPost_ret (results_cell3' rfl _ _ w.heap.size _ _ _ rfl (blk_set (blk_set HG8.out 0 _) 1 _) Tryd.underlying45 rfl param_info) rfl ?_
    exact ⟨pm_end HR.out HO.out HE2.out HZ.out, (HB8.out.setCell (Nat.le_refl _) _).setCell (Nat.le_refl _) _⟩
end Go.Proofs.YtblongcnmpdihaaDoor
namespace Wb
open Go
def toPr (x : List UInt8 × List UInt8) : Pr := (⟨x.1.toArray⟩, ⟨x.2.toArray⟩)
def toPrs (l : List (List UInt8 × List UInt8)) : List Pr := l.map toPr
theorem lowOK_nil : lowOK [] := fun p hp => by cases hp
theorem lowOK_snoc {out : List (List UInt8 × List UInt8)} {x : List UInt8 × List UInt8} (h : lowOK out) (hx : lowF x.1 = x.1) : lowOK (out ++ [x]) := fun p hp => by
  rcases List.mem_append.1 hp with hp | hp
  · exact h p hp
  · rw [List.mem_singleton.1 hp]; exact hx
def paramsG (f : Nat) (out : List (List UInt8 × List UInt8)) (u : List UInt8) : Except Int (List (List UInt8 × List UInt8)) :=
  if u = [] then .ok out else match pmF u with
    | none => .error 4
    | some (x, r3) => if hasF out x.1 = true then .error 4 else paramsF f (out ++ [x]) r3
theorem paramsF_G (f : Nat) (out : List (List UInt8 × List UInt8)) (s : List UInt8) : paramsF (f + 1) out s = paramsG f out (s.dropWhile blankB) := params_way f out s
theorem paramsG_done (f : Nat) (out : List (List UInt8 × List UInt8)) : paramsG f out [] = .ok out := by unfold paramsG; rw [if_pos rfl]
theorem paramsG_bad (f : Nat) (out : List (List UInt8 × List UInt8)) (u : List UInt8) (hu : u ≠ []) (h : pmF u = none) : paramsG f out u = .error 4 := by unfold paramsG; rw [if_neg hu, h]
theorem paramsG_twice (f : Nat) (out : List (List UInt8 × List UInt8)) (u : List UInt8) (x : List UInt8 × List UInt8) (r : List UInt8) (hu : u ≠ []) (h : pmF u = some (x, r)) (ht : hasF out x.1 = true) : paramsG f out u = .error 4 := by
  unfold paramsG; rw [if_neg hu, h]; simp only; rw [if_pos ht]
theorem paramsG_next (f : Nat) (out : List (List UInt8 × List UInt8)) (u : List UInt8) (x : List UInt8 × List UInt8) (r : List UInt8) (hf : u.length ≤ f) (hu : u ≠ []) (h : pmF u = some (x, r)) (ht : hasF out x.1 = false) :
    ∃ g, (r.dropWhile blankB).length ≤ g ∧ paramsG f out u = paramsG g (out ++ [x]) (r.dropWhile blankB) := by
  have h1 := pmF_len u x r h
  have h2 := dropW_le blankB r
  obtain ⟨g, rfl⟩ : ∃ g, f = g + 1 := ⟨f - 1, by omega⟩
  refine ⟨g, by omega, ?_⟩
  conv => lhs; unfold paramsG
  rw [if_neg hu, h]
  simp only
  rw [ht, if_neg (by simp), paramsF_G]
end Wb
namespace Go.Proofs.YtblongcnmpdihaaDoor
open Go.RowKit Wb Go.Maps
theorem str_key (x : ByteArray) (h : x.size ≤ maxLen) : keyOf Tryd.prog 9 (.string x) = some (.string x.data.toList) := Go.WideMaps.keyOf_string_mk Tryd.underlying9 h
def SetS (w : World) (b n : Nat) (l : List (List UInt8)) : Prop :=
  ∃ D : DataW Unit, w.ownsMap Tryd.prog 9 unitElem b n D ∧ ∀ x : List UInt8, Maps.has D (.string x) = l.any (fun y => decide (y = x))
theorem SetS.made (w : World) : SetS (w.alloc (.map #[] 0)) w.heap.size 0 [] := ⟨.map [], World.ownsMap_made _ _ _ _, fun x => by simp [has_eq]⟩
theorem SetS.below {w w2 : World} {b n : Nat} {l : List (List UInt8)} (h : SetS w b n l) (hb : Below w.heap.size w w2) : SetS w2 b n l := by
  obtain ⟨D, ⟨es, clock, h1, h2⟩, h3⟩ := h
  exact ⟨D, ⟨es, clock, still_block h1 hb, h2⟩, h3⟩
theorem SetS.grown {w w2 : World} {b n : Nat} {l : List (List UInt8)} {row : Option Nat} (h : SetS w b n l) (hg : w.grownBy w2 row) (hne : some b ≠ row) : SetS w2 b n l := by
  obtain ⟨D, h1, h3⟩ := h
  exact ⟨D, h1.kept hg hne, h3⟩
theorem SetS.put {w : World} {b n : Nat} {l : List (List UInt8)} {D : DataW Unit} {x : List UInt8} (hown : w.ownsMap Tryd.prog 9 unitElem b n (D.put (.string x) (.agg []))) (hD : IsMap D)
    (hhas : ∀ x : List UInt8, Maps.has D (.string x) = l.any (fun y => decide (y = x))) : SetS w b n (l ++ [x]) := by
  refine ⟨_, hown, fun y => ?_⟩
  rw [List.any_append, ← hhas y]
  by_cases e : y = x
  · subst e
    rw [has_put_same hD (show WideAt.IsKeyLit (.string y) from trivial)]
    simp
  · rw [has_put_other (fun h => e (by injection h))]
    have : decide (x = y) = false := decide_eq_false (fun h => e h.symm)
    simp [this]
theorem zero_unit (w : World) : (zeroValue 97).run Tryd.prog w = .ok (.agg #[]) w := by kernel_rfl
theorem par_info : (Tryd.prog.info? 45).map (fun i => (i.zero, i.size, i.bytes)) = some (some (.agg #[.string ⟨#[]⟩, .string ⟨#[]⟩]), 2, 32) := by kernel_rfl
def ParOut (o : Except Int (List (List UInt8 × List UInt8))) (e : Ending) (w' : World) : Prop :=
  match o with
  | .ok l => ∃ A c, e = .returned (.tuple #[.slice A l.length c, .bool true]) ∧ Sl2 w' A (toPrs l)
  | .error _ => e = .returned (.tuple #[.slice none 0 0, .bool false])
set_option maxRecDepth 100000 in
set_option maxHeartbeats 4000000 in
theorem params_any (s : ByteArray) (f : Nat) (w : World) (hs : s.size ≤ 1000000000) (hf : s.size ≤ f) :
    Calls Tryd.prog 46 #[.string s] w fun e w' => ParOut (paramsF (f + 1) [] s.data.toList) e w' ∧ Below w.heap.size w w' := by
  obtain ⟨i0, hi, hz0, hz1, hz2⟩ := info_parts par_info
  obtain ⟨o, ho⟩ : ∃ o, paramsF (f + 1) [] s.data.toList = o := ⟨_, rfl⟩
  rw [ho]
  have HO := Lib.hid ho
  clear ho
  have h1 := fun v => skip_any s v hs
  have z1 := spanR_size blankB s
  have HQ := Lib.hid (show o = paramsG f [] (spanR blankB s).data.toList by rw [← HO.out, paramsF_G]; rfl)
  generalize spanR blankB s = u0 at *
  have hM := Lib.hid (SetS.made w)
  have HB0 := Lib.hid ((Below.refl w.heap.size w).alloc (Nat.le_refl _) (.map #[] 0))
  have hmm := @run_makeMap Tryd.prog
  go_enter Tryd.func46, Tryd.ntmps46
  go_wp2_with fail
  refine (h1 _).mono ?_
  rintro e w1 ⟨rfl, hb⟩
  have HM := Lib.hid (hM.out.below hb)
  have HB := Lib.hid (HB0.out.trans (hb.mono HB0.out.size))
  have HZ : w.heap.size + 1 ≤ w1.heap.size := by have := hb.size; simp at this; omega
  clear hb hM HB0 h1
  have e0 : w1.ownsRow (w.heap.size + 1) 45 2 (.slice none 0 0) ([] : List (List UInt8 × List UInt8)).length (cells2 (toPrs [])) := World.ownsRow_nil _ _ _ _
  have E0 := Lib.hid e0
  have L0 := Lib.hid lowOK_nil
  clear e0
  go_wp2
  go_loopw [0, 4] (fun v0 v4 wr => ∃ (u : ByteArray) (out : List (List UInt8 × List UInt8)) (g : Nat), v0 = .string u ∧ u.size ≤ g ∧ u.size + out.length ≤ s.size ∧ Hid (lowOK out) ∧ Hid (o = paramsG g out u.data.toList) ∧ Hid (wr.ownsRow (w.heap.size + 1) 45 2 v4 out.length (cells2 (toPrs out))) ∧ Hid (SetS wr w.heap.size out.length (out.map Prod.fst)) ∧ Hid (Below w.heap.size w wr) ∧ w.heap.size + 1 ≤ wr.heap.size) (fun v0 _ _ => Lib.strSize v0)
  case atStart => exact ⟨u0, [], f, rfl, by omega, by simp; omega, L0, HQ, E0, HM, HB, HZ⟩
  case round =>
    obtain ⟨u, out, g, rfl, hg, hsz, HL, HQ, HR, HS, HB, hz⟩ := hrel
    by_cases hu : u.toList.isEmpty = true
    · have hun : u.data.toList = [] := by rw [empty_list] at hu; exact List.isEmpty_iff.1 hu
      have HE : Hid (o = .ok out) := Lib.hid (by rw [HQ.out, hun, paramsG_done])
      obtain ⟨A, c, rfl⟩ := own_shape HR.out
      have HS2 := Lib.hid (Sl2.of_own (l := toPrs out) (by unfold toPrs at *; rw [List.length_map]; exact HR.out))
      clear hun
      go_wp2
      go_ret2
      rw [HE.out]
      exact ⟨⟨_, _, rfl, HS2.out⟩, HB.out⟩
    · have hu : u.toList.isEmpty = false := by simpa using hu
      have hun : u.data.toList ≠ [] := by
        intro e
        rw [empty_list, e] at hu
        cases hu
      have h3 := cutParam_any u wr (by omega)
      cases hp : pmF u.data.toList with
      | none =>
        rw [hp] at h3
        have HE : Hid (o = .error 4) := Lib.hid (by rw [HQ.out, paramsG_bad _ _ _ hun hp])
        clear hp hun HQ
        go_wp2_with fail
        refine h3.mono ?_
        rintro e w3 ⟨⟨n, v, r, hn, rfl⟩, hb3⟩
        have HB3 := Lib.hid ((HB.out.trans (hb3.mono HB.out.size)))
        obtain ⟨D, hown, hhas⟩ := HS.out.below hb3
        have hkey := str_key n (by simp only [maxLen]; omega)
        clear hb3 h3 hhas
        go_wp2_with (at_lookup; refine wpList_lookup_own_unit _ rfl _ _ _ rfl 9 97 (string_keyed Tryd.underlying9) Tryd.underlying94 (zero_unit _) w.heap.size out.length D rfl (hown.alloc _) _ _ rfl hkey ?_)
        all_goals
          go_ret2
          rw [HE.out]
          exact ⟨rfl, (HB3.out.alloc HB3.out.size _).alloc (by have := HB3.out.size; simp; omega) _⟩
      | some p =>
        obtain ⟨x, rr⟩ := p
        rw [hp] at h3
        have hlen := pmF_len _ _ _ hp
        rw [← ba_size] at hlen
        have hxs : (⟨x.1.toArray⟩ : ByteArray).size ≤ 1000000000 := by rw [Lib.size_mk]; omega
        have hlow := pmF_small _ _ _ hp
        cases ht : hasF out x.1
        · obtain ⟨g2, hg2, hnext⟩ := paramsG_next g out u.data.toList x rr (by rw [← ba_size]; exact hg) hun hp ht
          have HE : Hid (o = paramsG g2 (out ++ [x]) (rr.dropWhile blankB)) := Lib.hid (by rw [HQ.out, hnext])
          have HLn : Hid (lowOK (out ++ [x])) := Lib.hid (lowOK_snoc HL.out hlow)
          have hth : (out.map Prod.fst).any (fun y => decide (y = x.1)) = false := by rw [← ht, has_any out x.1 HL.out hlow, List.any_map]; rfl
          clear hp hun hnext HQ HL ht hlow
          go_wp2_with fail
          refine h3.mono ?_
          rintro e w3 ⟨he, hb3⟩
          obtain rfl : e = _ := he
          have HB3 := Lib.hid ((HB.out.trans (hb3.mono HB.out.size)))
          obtain ⟨D, hown, hhas⟩ := HS.out.below hb3
          have hkey := str_key ⟨x.1.toArray⟩ (by simp only [maxLen]; omega)
          have hD : Maps.has D (.string x.1) = false := by rw [hhas, hth]
          have HH := Lib.hid hhas
          have HM3 := Lib.hid hown.isMap
          have HR3 := Lib.hid (own_below HR.out hb3)
          have hz3 : w.heap.size + 1 ≤ w3.heap.size := Nat.le_trans hz hb3.size
          have hAA := still_block (heap_alloc_new w3 (.cells #[.string ⟨x.1.toArray⟩, .string ⟨x.2.toArray⟩] 45)) ((Below.refl _ _).alloc (Nat.le_refl _) (.cells #[] 97))
          have hB4 := (HB3.out.alloc HB3.out.size (.cells #[.string ⟨x.1.toArray⟩, .string ⟨x.2.toArray⟩] 45)).alloc (by have := HB3.out.size; simp; omega) (.cells #[] 97)
          have hne4 : some w3.heap.size ≠ some w.heap.size := fun e => by simp only [Option.some.injEq] at e; omega
          clear hb3 h3 hhas hth
          go_wp2_with (first
            | (at_lookup; refine wpList_lookup_own_unit _ rfl _ _ _ rfl 9 97 (string_keyed Tryd.underlying9) Tryd.underlying94 (zero_unit _) w.heap.size out.length D rfl (hown.alloc _) _ _ rfl hkey ?_)
            | (at_mapUpdate; refine wpList_mapUpdate_own _ rfl _ _ _ _ rfl 9 97 (string_keyed Tryd.underlying9) Tryd.underlying94 unitElem w.heap.size out.length D rfl ((hown.alloc _).alloc _) (by simp only [maxLen]; omega) _ _ (.string x.1) rfl rfl hkey (.agg []) [] unitElem_mk ?_; intro w4 hown4 hg4; have hA4 := grown_block hAA hg4 hne4; have c0 := blk_cell hA4 0; have c1 := blk_cell hA4 1; simp only [List.getElem?_toArray, List.getElem?_cons_zero, List.getElem?_cons_succ] at c0 c1)
            | (at_builtin; apply Classical.byContradiction; intro hNG))
          have hB5 := hB4.grown hg4 (by have := HB3.out.size; simp; omega) (fun k hk => by simp only [Option.some.injEq] at hk; omega)
          have hz4 : w.heap.size + 1 ≤ w4.heap.size := by have := hg4.size; simp at this; omega
          obtain ⟨vA, vc, rfl⟩ := own_shape HR3.out
          have hR4 : w4.ownsRow (w.heap.size + 1) 45 2 (.slice vA out.length vc) out.length (cells2 (toPrs out)) := by
            refine own_blk' ((HR3.out.alloc (.cells #[.string ⟨x.1.toArray⟩, .string ⟨x.2.toArray⟩] 45)).alloc (.cells #[] 97)) fun k hk => ?_
            have := own_in' ((HR3.out.alloc (.cells #[.string ⟨x.1.toArray⟩, .string ⟨x.2.toArray⟩] 45)).alloc (.cells #[] 97)) hk
            exact hg4.block k this.2 (fun e => by simp only [Option.some.injEq] at e; omega)
          have HS4 : SetS w4 w.heap.size (out.length + 1) (out.map Prod.fst ++ [x.1]) := SetS.put hown4 HM3.out HH.out
          refine hNG ?_
          refine wpList_append_sl _ rfl _ _ _ rfl (w.heap.size + 1) 45 i0 _ 2 32 Tryd.underlying38 hi hz0 hz1 hz2 rfl (by omega) _ out.length (cells2 (toPrs out)) rfl (hR4.alloc _) (some ⟨w4.heap.size, 0, none⟩) 1 1 [.string ⟨x.1.toArray⟩, .string ⟨x.2.toArray⟩] rfl (Sl.lit w4 2 [.string ⟨x.1.toArray⟩, .string ⟨x.2.toArray⟩] _ 1 rfl) (cells2_one [(⟨x.1.toArray⟩, ⟨x.2.toArray⟩)]) (by simp only [maxLen]; omega) (by omega) (by simp; omega) ?_
          intro v5 w5 hown5 hg5 hat5
          have hB6 := (hB5.alloc (by omega) (.cells #[.string ⟨x.1.toArray⟩, .string ⟨x.2.toArray⟩] 45)).grown hg5 (by simp; omega) (fun k hk => by have := (hR4.lt k hk).1; omega)
          have hz5 : w.heap.size + 1 ≤ w5.heap.size := by have := hg5.size; simp at this; omega
          have HS5 := Lib.hid ((HS4.below ((Below.refl _ _).alloc (Nat.le_refl _) (.cells #[.string ⟨x.1.toArray⟩, .string ⟨x.2.toArray⟩] 45))).grown hg5 (fun e => by have := (hR4.lt w.heap.size e.symm).1; omega))
          have HB6 := Lib.hid hB6
          have HR5 := Lib.hid hown5
          clear hown hown4 hg4 hA4 hAA hB4 hB5 hR4 HS4 hown5 hg5 hat5 hB6 hNG c0 c1 hkey hD
          have h6 := skip_any ⟨rr.toArray⟩ w5 (by rw [Lib.size_mk]; omega)
          go_wp2_with fail
          refine h6.mono ?_
          rintro e w6 ⟨rfl, hb6⟩
          have HB7 := Lib.hid (HB6.out.trans (hb6.mono HB6.out.size))
          have HS7 := Lib.hid (HS5.out.below hb6)
          have HR7 := Lib.hid (own_below HR5.out hb6)
          have hz7 : w.heap.size + 1 ≤ w6.heap.size := Nat.le_trans hz5 hb6.size
          have hrz := dropW_le blankB rr
          clear hb6 h6
          go_wp2
          go_roundw
          case rel => exact ⟨spanR blankB ⟨rr.toArray⟩, out ++ [x], g2, rfl, by rw [ba_size, spanR_list]; exact hg2, by
            rw [ba_size, spanR_list, List.length_append, List.length_singleton]
            show (rr.dropWhile blankB).length + _ ≤ _
            omega, HLn, HE, Lib.hid (by
              have := HR7.out
              rw [List.length_append, List.length_singleton]
              unfold toPrs at *
              rw [List.map_append, cells2_append]
              exact this), Lib.hid (by
              have := HS7.out
              rw [List.length_append, List.length_singleton, List.map_append]
              exact this), HB7, hz7⟩
          case measure =>
            show (spanR blankB ⟨rr.toArray⟩).size < u.size
            rw [ba_size, spanR_list]
            show (rr.dropWhile blankB).length < _
            omega
        · have HE : Hid (o = .error 4) := Lib.hid (by rw [HQ.out, paramsG_twice _ _ _ _ _ hun hp ht])
          have hth : (out.map Prod.fst).any (fun y => decide (y = x.1)) = true := by rw [← ht, has_any out x.1 HL.out hlow, List.any_map]; rfl
          clear hp hun HQ HL ht hlow
          go_wp2_with fail
          refine h3.mono ?_
          rintro e w3 ⟨he, hb3⟩
          obtain rfl : e = _ := he
          have HB3 := Lib.hid ((HB.out.trans (hb3.mono HB.out.size)))
          obtain ⟨D, hown, hhas⟩ := HS.out.below hb3
          have hkey := str_key ⟨x.1.toArray⟩ (by simp only [maxLen]; omega)
          have hD : Maps.has D (.string x.1) = true := by rw [hhas, hth]
          clear hb3 h3 hhas hth
          go_wp2_with (at_lookup; refine wpList_lookup_own_unit _ rfl _ _ _ rfl 9 97 (string_keyed Tryd.underlying9) Tryd.underlying94 (zero_unit _) w.heap.size out.length D rfl (hown.alloc _) _ _ rfl hkey ?_)
          all_goals
            go_ret2
            rw [HE.out]
            exact ⟨rfl, (HB3.out.alloc HB3.out.size _).alloc (by have := HB3.out.size; simp; omega) _⟩
end Go.Proofs.YtblongcnmpdihaaDoor
