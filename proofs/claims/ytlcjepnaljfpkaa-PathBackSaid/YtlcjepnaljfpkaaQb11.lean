/- PfA PfB PfC PfD PfE. -/
import Derived.Laws.StructEq
import Derived.Deep.Cut
import Derived.Deep.DeepCutAuto
import Derived.Test.YtlcjepnaljfpkaaQb3
import Derived.Test.YtlcjepnaljfpkaaQb8
import Derived.Test.YtlcjepnaljfpkaaQb9
import Derived.Test.YtlcjepnaljfpkaaQb10
namespace Wb
open Go Go.RowKit
theorem idxA_drop {nm : ByteArray × ByteArray} {l : List Tr} {i : Nat} {a : Tr} (h : l[i]? = some a) : idxA nm (l.drop i) = if a.1 = nm then 0 else if idxA nm (l.drop (i + 1)) < 0 then -1 else idxA nm (l.drop (i + 1)) + 1 := by
  obtain ⟨hi, e⟩ := List.getElem?_eq_some_iff.1 h
  rw [List.drop_eq_getElem_cons hi, e]
  rfl
theorem toList_ne {a b : ByteArray} (h : a ≠ b) : (a.toList == b.toList) = false := by
  cases hb : (a.toList == b.toList) with
  | false => rfl
  | true =>
    rw [beq_iff_eq] at hb
    exact absurd (by rw [ByteArray.toList_eq, ByteArray.toList_eq] at hb; cases a; cases b; simp_all) h
end Wb
namespace Go.Proofs.Ytlcjepnaljfpkaa
open Go.RowKit Wb
theorem first_clos (a : Tr) (nm : ByteArray × ByteArray) (NB : Nat) (w : World) (hNB : w.heap[NB]? = some (.cells #[.string nm.1, .string nm.2] 23 (0, 0))) :
    Calls Try.prog 53 #[.agg #[.string a.1.1, .string a.1.2, .string a.2], .pointer (some ⟨NB, 0, none⟩)] w fun e w' => e = .returned (.bool (decide (a.1 = nm))) ∧ Below w.heap.size w w' := by
  have hb1 := (Below.refl w.heap.size w).alloc (Nat.le_refl _) (.cells #[.string a.1.1, .string a.1.2, .string a.2] 29)
  have HB := Lib.hid hb1
  have hN := still_block hNB hb1
  have hA := heap_alloc_new w (.cells #[.string a.1.1, .string a.1.2, .string a.2] 29)
  have c0 := blk_cell hN 0
  have c1 := blk_cell hN 1
  have d0 := blk_cell hA 0
  have d1 := blk_cell hA 1
  have d2 := blk_cell hA 2
  simp only [List.getElem?_toArray, List.getElem?_cons_zero, List.getElem?_cons_succ] at c0 c1 d0 d1 d2
  obtain ⟨⟨s, lo⟩, v⟩ := a
  obtain ⟨t, lp⟩ := nm
  simp only at *
  clear hb1 hN hA hNB
  by_cases h1 : s = t
  · subst h1
    by_cases h2 : lo = lp
    · subst h2
      rw [decide_eq_true rfl]
      go_enter Try.func53, Try.ntmps53
      go_wp2
      go_ret
      exact ⟨by simp, HB.out⟩
    · have hf := toList_ne h2
      rw [decide_eq_false (show ¬ (s, lo) = (s, lp) from fun e => h2 (by injection e))]
      clear h2
      go_enter Try.func53, Try.ntmps53
      go_wp2
      go_ret
      exact ⟨by simp, HB.out⟩
  · have hf := toList_ne h1
    rw [decide_eq_false (show ¬ (s, lo) = (t, lp) from fun e => h1 (by injection e))]
    clear h1
    go_enter Try.func53, Try.ntmps53
    go_wp2
    go_ret
    exact ⟨by simp, HB.out⟩
set_option maxRecDepth 100000 in
set_option maxHeartbeats 4000000 in
theorem idxfn_any (A : Option Addr) (l : List Tr) (c : Nat) (nm : ByteArray × ByteArray) (NB : Nat) (w : World) (hA : Sl3 w A l) (hl : l.length ≤ 1000001) (hNB : w.heap[NB]? = some (.cells #[.string nm.1, .string nm.2] 23 (0, 0))) :
    Calls Try.prog 52 #[.slice A l.length c, .func (.func 53) #[] #[.pointer (some ⟨NB, 0, none⟩)]] w fun e w' => e = .returned (.int .i64 (idxA nm l)) ∧ Below w.heap.size w w' := by
  obtain ⟨R, hR⟩ : ∃ R, idxA nm l = R := ⟨_, rfl⟩
  rw [hR]
  have HR := Lib.hid hR
  have HA := Lib.hid hA
  have HNB := Lib.hid hNB
  clear hR hA hNB
  go_enter Try.func52, Try.ntmps52
  go_wp2
  go_loopw [8] (fun vi wr => ∃ i : Nat, i ≤ l.length ∧ vi = .int .i64 i ∧ Hid (R = if idxA nm (l.drop i) < 0 then -1 else idxA nm (l.drop i) + i) ∧ Hid (Below w.heap.size w wr)) (fun vi _ => ((l.length : Int) - intOf vi).toNat)
  case atStart => exact ⟨0, by omega, rfl, Lib.hid (by
    rw [List.drop_zero, HR.out]
    have := (idxA_ge nm l).1
    rw [HR.out] at this
    split <;> omega), Lib.hid (Below.refl _ _)⟩
  case round =>
    obtain ⟨i, hi, rfl, HS, HB⟩ := hrel
    by_cases h0 : i < l.length
    · obtain ⟨a, ha⟩ : ∃ a, l[i]? = some a := ⟨l[i], List.getElem?_eq_getElem h0⟩
      obtain ⟨ad, rfl, had, d0, d1, d2⟩ := (HA.out.below HB.out).at_ ha
      have hst := HS.out
      rw [idxA_drop ha] at hst
      have hc := first_clos a nm NB wr (still_block HNB.out HB.out)
      by_cases hq : a.1 = nm
      · rw [decide_eq_true hq] at hc
        rw [if_pos hq] at hst
        have HST := Lib.hid hst
        clear hst hq ha
        go_wp2_with fail
        refine hc.mono ?_
        rintro e w3 ⟨rfl, hb3⟩
        have HB3 := Lib.hid (HB.out.trans (hb3.mono HB.out.size))
        clear hb3 hc
        go_wp2
        go_ret
        exact ⟨by rw [HST.out]; simp, HB3.out⟩
      · rw [decide_eq_false hq] at hc
        rw [if_neg hq] at hst
        have HST := Lib.hid hst
        clear hst hq ha
        go_wp2_with fail
        refine hc.mono ?_
        rintro e w3 ⟨rfl, hb3⟩
        have HB3 := Lib.hid (HB.out.trans (hb3.mono HB.out.size))
        clear hb3 hc
        go_wp2
        go_roundw
        case rel => exact ⟨i + 1, by omega, by go_num, Lib.hid (by
          rw [HST.out]
          have := (idxA_ge nm (l.drop (i + 1))).1
          by_cases hn : idxA nm (l.drop (i + 1)) < 0
          · rw [if_pos hn, if_pos hn]; rfl
          · rw [if_neg hn, if_neg hn, if_neg (by omega)]; omega), HB3⟩
        case measure => simp [intOf]; omega
    · have HT : Hid (R = -1) := Lib.hid (by rw [HS.out, List.drop_eq_nil_of_le (by omega)]; rfl)
      go_wp2
      go_ret
      exact ⟨by rw [HT.out]; rfl, HB.out⟩
set_option maxRecDepth 100000 in
theorem pfirst_any (A : Option Addr) (l : List Tr) (c : Nat) (nm : ByteArray × ByteArray) (w : World) (hA : Sl3 w A l) (hl : l.length ≤ 1000001) :
    Calls Try.prog 37 #[.slice A l.length c, .agg #[.string nm.1, .string nm.2]] w fun e w' => e = .returned (.int .i64 (idxA nm l)) ∧ Below w.heap.size w w' := by
  have hb1 := (Below.refl w.heap.size w).alloc (Nat.le_refl _) (.cells #[.string nm.1, .string nm.2] 23)
  have hc := idxfn_any A l c nm w.heap.size (w.alloc (.cells #[.string nm.1, .string nm.2] 23)) (hA.below hb1) hl (heap_alloc_new _ _)
  have HB := Lib.hid hb1
  obtain ⟨R, hR⟩ : ∃ R, idxA nm l = R := ⟨_, rfl⟩
  rw [hR] at hc ⊢
  clear hb1 hA hR
  go_enter Try.func37, Try.ntmps37
  go_wp2_with fail
  refine hc.mono ?_
  rintro e w3 ⟨rfl, hb3⟩
  have HB3 := Lib.hid (HB.out.trans (hb3.mono HB.out.size))
  clear hb3 hc
  go_wp2
  go_ret
  exact ⟨rfl, HB3.out⟩
end Go.Proofs.Ytlcjepnaljfpkaa
namespace Go.Proofs.Ytlcjepnaljfpkaa
open Go.RowKit Wb
def zA : List Value := [.string ⟨#[]⟩, .string ⟨#[]⟩, .string ⟨#[]⟩]
theorem zA_is : (Builtin.zeroCells (Value.agg #[.string ⟨#[]⟩, .string ⟨#[]⟩, .string ⟨#[]⟩]).cells 1).toList = zA := by kernel_rfl
theorem zA_one : ∀ u ∈ zA, u.oneCell' = true := by
  intro u hu
  simp only [zA, List.mem_cons, List.mem_nil_iff, or_false] at hu
  rcases hu with rfl | rfl | rfl <;> rfl
theorem ats_head (g n c i : Nat) (hi : i ≤ c) (hc : 0 < c) (w : World) : (Instr.slice 24 (.slice (some ⟨g, 0, none⟩) n c) none (some (.int .i64 (i : Int))) none).run Try.prog w = .ok (.slice (some ⟨g, 0, none⟩) i c) w := by
  have h0 : (0 : Int) ≤ (i : Int) := by omega
  have h2 : (i : Int) ≤ (c : Int) := by omega
  have hu := Try.underlying24
  have hz := Try.sizeOf29
  have hn : ¬ c = 0 := by omega
  go_simp
theorem ats_tail (g n c i : Nat) (hi : i ≤ n) (hn : n ≤ c) : ∃ a1 : Addr, (∀ w, (Instr.slice 24 (.slice (some ⟨g, 0, none⟩) n c) (some (.int .i64 (i : Int))) none none).run Try.prog w = .ok (.slice (some a1) (n - i) (c - i)) w) ∧ a1.block = g ∧ (i < c → a1 = ⟨g, i * 3, none⟩) := by
  refine ⟨if c = i then ⟨g, 0, none⟩ else (⟨g, 0, none⟩ : Addr).add (i * 3), fun w => ?_, ?_, fun h => ?_⟩
  · have h0 : (0 : Int) ≤ (i : Int) := by omega
    have h2 : (i : Int) ≤ (n : Int) := by omega
    have hu := Try.underlying24
    have hz := Try.sizeOf29
    by_cases hc : c = i
    · subst hc
      go_simp
    · go_simp
  · split
    · rfl
    · rw [add_block]
  · rw [if_neg (by omega)]
    unfold Addr.add
    split <;> simp_all
theorem ats_lh (g n c i j : Nat) (hij : i ≤ j) (hj : j ≤ c) (hi : i < c) (w : World) : (Instr.slice 24 (.slice (some ⟨g, 0, none⟩) n c) (some (.int .i64 (i : Int))) (some (.int .i64 (j : Int))) none).run Try.prog w = .ok (.slice (some ⟨g, i * 3, none⟩) (j - i) (c - i)) w := by
  have h0 : (0 : Int) ≤ (i : Int) := by omega
  have h1 : (i : Int) ≤ (j : Int) := by omega
  have h2 : (j : Int) ≤ (c : Int) := by omega
  have hu := Try.underlying24
  have hz := Try.sizeOf29
  have hn : ¬ c = i := by omega
  go_simp
set_option maxRecDepth 100000 in
set_option maxHeartbeats 4000000 in
theorem deleteA_any (g m c i : Nat) (cur : Array Value) (w : World) (hg : w.heap[g]? = some (.cells cur 29 (0, 0))) (hcs : cur.size = c * 3) (hi : i ≤ m) (hnc : m + 1 ≤ c) (h1 : ∀ u ∈ cur.toList.take ((m + 1) * 3), u.oneCell' = true) :
    Calls Try.prog 39 #[.slice (some ⟨g, 0, none⟩) (m + 1) c, .int .i64 (i : Int), .int .i64 ((i : Int) + 1)] w fun e w' => e = .returned (.slice (some ⟨g, 0, none⟩) m c) ∧
      ∃ cs, RowSet g cs 29 w w' ∧ cs.take (m * 3) = cur.toList.take (i * 3) ++ (cur.toList.drop ((i + 1) * 3)).take ((m - i) * 3) := by
  obtain ⟨j0, hj, hy0, hy1, hy2⟩ := info_parts attr_info
  obtain ⟨a1, hq2, _, ha1⟩ := ats_tail g (m + 1) c (i + 1) (by omega) hnc
  have hq1 := ats_head g (m + 1) c i (by omega) (by omega)
  have hq3 := ats_lh g m c m (m + 1) (by omega) (by omega) (by omega)
  rw [show ((i + 1 : Nat) : Int) = (i : Int) + 1 from by omega, show m + 1 - (i + 1) = m - i from by omega] at hq2
  rw [show ((m + 1 : Nat) : Int) = (m : Int) + 1 from by omega, show m + 1 - m = 1 from by omega] at hq3
  have hmid : ((cur.toList.drop ((i + 1) * 3)).take ((m - i) * 3)).length = (m - i) * 3 := by
    rw [List.length_take, List.length_drop, Array.length_toList, hcs]
    have : (i + 1) * 3 + (m - i) * 3 ≤ c * 3 := by omega
    omega
  have hsrc : ∀ j u, ((cur.toList.drop ((i + 1) * 3)).take ((m - i) * 3))[j]? = some u → w.drew.cell? (a1.add j) = some u := by
    intro j u hu
    have hjl := (List.getElem?_eq_some_iff.1 hu).1
    rw [hmid] at hjl
    rw [List.getElem?_take_of_lt (by omega), List.getElem?_drop] at hu
    rw [ha1 (by omega), Addr.add_lit]
    show w.cell? _ = _
    simpa [World.cell?, hg] using hu
  have hone : ∀ u ∈ (cur.toList.drop ((i + 1) * 3)).take ((m - i) * 3), u.oneCell' = true := by
    intro u hu
    obtain ⟨j, hj⟩ := List.getElem?_of_mem hu
    have hjl := (List.getElem?_eq_some_iff.1 hj).1
    rw [hmid] at hjl
    rw [List.getElem?_take_of_lt (by omega), List.getElem?_drop] at hj
    refine h1 u (List.mem_of_getElem? (i := (i + 1) * 3 + j) ?_)
    rw [List.getElem?_take_of_lt (by omega)]
    exact hj
  obtain ⟨mid, hm⟩ : ∃ mid, (cur.toList.drop ((i + 1) * 3)).take ((m - i) * 3) = mid := ⟨_, rfl⟩
  rw [hm] at hmid hsrc hone ⊢
  have hspare : ∀ j, j < mid.length → (w.drew.cell? ⟨g, 0 + i * 3 + j, none⟩).isSome = true ∧ w.drew.frozen? ⟨g, 0 + i * 3 + j, none⟩ = false := by
    intro j hj
    have hlt : 0 + i * 3 + j < cur.size := by rw [hcs]; omega
    obtain ⟨u, hu⟩ : ∃ u, cur[0 + i * 3 + j]? = some u := ⟨cur[0 + i * 3 + j], Array.getElem?_eq_getElem hlt⟩
    exact ⟨by show (w.cell? _).isSome = true; simp only [World.cell?, hg]; rw [hu]; rfl, by show w.frozen? _ = false; simp [World.frozen?, hg]⟩
  have hrow := setCells_row Try.prog (w := w.drew) (g := g) (o := i * 3) (vs := mid) hg (by rw [hmid, hcs]; omega) hone
  have he : i + (m - i) = m := by omega
  have hs1 := RowSet.set (w := w.drew) hg (cur.toList.take (i * 3) ++ mid ++ cur.toList.drop (i * 3 + mid.length))
  rw [← hrow] at hs1
  have hlen1 : (cur.toList.take (i * 3) ++ mid ++ cur.toList.drop (i * 3 + mid.length)).length = c * 3 := by
    rw [List.length_append, List.length_append, List.length_take, List.length_drop, Array.length_toList, hcs]; omega
  have htk : (cur.toList.take (i * 3) ++ mid ++ cur.toList.drop (i * 3 + mid.length)).take (m * 3) = cur.toList.take (i * 3) ++ mid := by
    rw [List.take_append_of_le_length (by rw [List.length_append, List.length_take, Array.length_toList, hcs, hmid]; omega), List.take_of_length_le (by rw [List.length_append, List.length_take, Array.length_toList, hcs, hmid]; omega)]
  obtain ⟨c1, hc1⟩ : ∃ c1, cur.toList.take (i * 3) ++ mid ++ cur.toList.drop (i * 3 + mid.length) = c1 := ⟨_, rfl⟩
  rw [hc1] at hs1 hlen1 htk
  obtain ⟨fin, hfin⟩ : ∃ fin, cur.toList.take (i * 3) ++ mid = fin := ⟨_, rfl⟩
  rw [hfin] at htk ⊢
  have hcl := fun (ty : TypeId) => run_clear_rowz (P := Try.prog) (w.drew.setCells g (i * 3) mid) 24 29 ty _ Try.underlying24 Try.zeroValue29 (by rw [zA_is]; exact zA_one) g (m * 3) (c - m) c1.toArray _ hs1.row (by rw [zA_is, List.size_toArray, hlen1]; show m * 3 + 3 ≤ c * 3; omega)
  have hs2 := RowSet.set hs1.row (c1.take (m * 3) ++ zA ++ c1.drop (m * 3 + zA.length))
  rw [zA_is] at hcl
  have ht2 : (c1.take (m * 3) ++ zA ++ c1.drop (m * 3 + zA.length)).take (m * 3) = fin := by rw [List.append_assoc, List.take_append_of_le_length (by rw [List.length_take, hlen1]; omega), List.take_take, Nat.min_self, htk]
  obtain ⟨c2, hc2⟩ : ∃ c2, c1.take (m * 3) ++ zA ++ c1.drop (m * 3 + zA.length) = c2 := ⟨_, rfl⟩
  rw [hc2] at hcl hs2 ht2
  have HF := Lib.hid (show ∃ cs, RowSet g cs 29 w ((w.drew.setCells g (i * 3) mid).setRow g c2.toArray) ∧ cs.take (m * 3) = fin from ⟨_, (hs1.trans hs2).drew, ht2⟩)
  have f1 : (0 : Int) ≤ (i : Int) := by omega
  have f2 : (i : Int) ≤ (i : Int) + 1 := by omega
  have f3 : (i : Int) + 1 ≤ (m : Int) + 1 := by omega
  have f4 : (m : Int) + 1 ≤ (c : Int) := by omega
  have f5 : ((i : Int) == (i : Int) + 1) = false := by simp; omega
  have HSP := Lib.hid hspare
  have HSRC := Lib.hid hsrc
  have HCL := Lib.hid hcl
  clear hs2 hs1 ht2 hc2 htk hlen1 hspare hsrc hcl hrow hm h1 hfin hc1
  go_enter Try.func39, Try.ntmps39
  go_wp2
  go_region_law (
    refine step_append_room rfl _ _ 24 rfl 29 j0 3 Try.underlying24 hj hy1 g 0 i c rfl a1 (m - i) (c - (i + 1)) mid rfl hmid HSRC.out hone (by omega) HSP.out ?_
    rw [he])
  all_goals (
    revert HCL HF
    generalize w.drew.setCells g (i * 3) mid = w1
    intro HF HCL
    have hcl := HCL.out
    clear HCL
    go_wp2
    go_ret
    exact ⟨rfl, HF.out⟩)
end Go.Proofs.Ytlcjepnaljfpkaa
namespace Wb
open Go Go.RowKit
theorem slN_own {TA TN : TypeId} {w : World} {X : Nat → Prop} {ks : List Nd} {css : List (List Value)} {lo hi base : Nat} {K : Option Addr} {ck : Nat} (h2 : w.ownsRow base TN 6 (.slice K ks.length ck) ks.length css.flatten) (h6 : kidsO TA TN w X ks css lo hi) : SlN w K ks := by
  rcases h2.2 with ⟨e1, e2⟩ | ⟨g, cap, cur, e1, _, hg, _⟩
  · exact .inl (List.eq_nil_of_length_eq_zero e2)
  · simp only [Value.slice.injEq] at e1
    obtain ⟨rfl, _, rfl⟩ := e1
    refine .inr ⟨_, rfl, blk_in hg, (kidsC_iff w _ _ 0).2 fun k m hm => ?_⟩
    obtain ⟨c, l, hh, c1, _, _, _, _, c6, _⟩ := kidsO_at h6 k m hm
    refine ⟨c, fun j u hu => ?_, ownC_node m c l hh c6⟩
    rw [Nat.zero_add]
    have hj : j < 6 := by
      have := (List.getElem?_eq_some_iff.1 hu).1
      rw [ownC_len c6] at this; exact this
    exact h2.cells (g := g) rfl _ _ ((flat_at (kidsO_len h6).2 k c c1 j hj).trans hu)
theorem cells3_erase : ∀ (l : List Tr) (i : Nat), cells3 (l.eraseIdx i) = (cells3 l).take (i * 3) ++ (cells3 l).drop ((i + 1) * 3)
  | [], i => by simp [cells3]
  | a :: l, 0 => by simp [cells3]
  | a :: l, i + 1 => by
    rw [List.eraseIdx_cons_succ]
    have h := cells3_erase l i
    simp only [cells3, show (i + 1) * 3 = i * 3 + 3 from by omega, show (i + 1 + 1) * 3 = (i + 1) * 3 + 3 from by omega] at h ⊢
    simp [h]
end Wb
namespace Go.Proofs.Ytlcjepnaljfpkaa
open Go.RowKit Wb
theorem attrs_left {e : Nd} {J : List Tr} {q : Addr} {lo hi c2 ca ck : Nat} {A K A2 : Option Addr} {v v2 v3 : World} (h6 : At6 v q (ndC e (.slice A e.attrs.length ca) (.slice K e.kids.length ck))) (hown : ownT v e (ndC e (.slice A e.attrs.length ca) (.slice K e.kids.length ck)) lo hi) (hq : ¬ (lo ≤ q.block ∧ q.block < hi)) (hhi : hi ≤ v.heap.size)
    (hr : RowOnly (.slice A e.attrs.length ca) v v2) (hb : Below v2.heap.size v2 v3) (hs : SafeM (MustI lo hi v.heap.size) v3 (fun u => Sl3 u A2 J)) :
    ChOut (some (e.withAttrs J)) q lo hi v (.returned (.bool true)) (v3.setCell ⟨q.block, q.off + 3, none⟩ (.slice A2 J.length c2)) := by
  obtain ⟨av', kv', css, e1, h1, h2, h3, h4, h5, hko⟩ := (ownC_iff _ _ _ _).1 hown
  simp only [ndC, List.cons.injEq, true_and, and_true] at e1
  obtain ⟨ea, ek⟩ := e1
  subst ea ek
  have h23 := hr.then hb
  have hq2 : (Value.slice A e.attrs.length ca).ownBlock ≠ some q.block := fun x => hq ⟨(own_in h1 x).1, (h4 _ x).1⟩
  have hqb := h23.block q.block h6.lt hq2
  obtain ⟨g, o, cur, T, rfl, hg, hcur⟩ := h6
  have hg3 : v3.heap[g]? = _ := hqb.trans hg
  have hset := blk_set hg3 (o + 3) (.slice A2 J.length c2)
  have hsz : v3.heap.size ≤ (v3.setCell ⟨g, o + 3, none⟩ (.slice A2 J.length c2)).heap.size := by simp [World.setCell]
  have ne : ∀ b, b ≠ g → (v3.setCell ⟨g, o + 3, none⟩ (.slice A2 J.length c2)).heap[b]? = v3.heap[b]? := fun b hb => Below.heap_setCell _ _ _ _ (by simpa using hb)
  have hlen : o + 5 < cur.size := by
    have := hcur 5 (.string e.text) rfl
    exact (Array.getElem?_eq_some_iff.1 this).1
  have cell : ∀ f, (v3.setCell ⟨g, o + 3, none⟩ (.slice A2 J.length c2)).cell? ⟨g, f, none⟩ = (cur.setIfInBounds (o + 3) (.slice A2 J.length c2))[f]? := fun f => by simp [World.cell?, hset]
  refine ⟨⟨h23.os, h23.tape, h23.output, Nat.le_trans h23.size hsz, fun b x y z => (ne b z).trans (h23.block b x (fun k => y ⟨(own_in h1 k).1, (h4 b k).1⟩)), fun f hf => ?_⟩, rfl, ndC (e.withAttrs J) (.slice A2 J.length c2) (.slice K e.kids.length ck), fun j u hu => ?_, fun w2 k1 k2 => ?_⟩
  · rw [cell, Array.getElem?_setIfInBounds_ne (by simp at hf; omega)]
    simp [World.cell?, hg]
  · have hj : j < 6 := (List.getElem?_eq_some_iff.1 hu).1
    show (v3.setCell ⟨g, o + 3, none⟩ (.slice A2 J.length c2)).cell? ⟨g, o + j, none⟩ = some u
    rw [cell]
    by_cases h4 : j = 3
    · subst h4
      rw [Array.getElem?_setIfInBounds_self_of_lt (by omega)]
      simpa [ndC] using hu
    · rw [Array.getElem?_setIfInBounds_ne (by omega)]
      refine hcur j u ?_
      rw [← hu]
      rcases j with _ | _ | _ | _ | _ | _ | j
      all_goals first | rfl | omega
  · have hgl : ¬ (lo ≤ g ∧ g < hi) := hq
    have k1 : ∀ b, MustI lo hi v.heap.size b → b < v3.heap.size → w2.heap[b]? = (v3.setCell ⟨g, o + 3, none⟩ (.slice A2 J.length c2)).heap[b]? := fun b p q => k1 b p (Nat.lt_of_lt_of_le q hsz)
    refine (nodeC_V w2 _ _).2 ⟨A2, c2, K, ck, rfl, hs w2 (fun b p q => ?_) (Nat.le_trans hsz k2), ?_⟩
    · have hbg : b ≠ g := by
        rintro rfl
        rcases p with p | p
        · exact hgl p
        · have := blk_in hg; omega
      exact (k1 b p q).trans (ne b hbg)
    · show SlN w2 K e.kids
      have hs3 := h23.size
      refine slN_own (own_blk h2 fun b hb => ?_) (kidsO_keep _ _ _ _ (fun b p q hx => ?_) hko)
      · have hbi := own_in h2 hb
        have hbh := h5 b hb
        exact (k1 b (.inl ⟨hbi.1, hbh⟩) (by omega)).trans ((ne b (fun x => hgl ⟨by omega, by omega⟩)).trans (h23.block b hbi.2 (fun x => (h4 b x).2 hb)))
      · exact (k1 b (.inl ⟨p, q⟩) (by omega)).trans ((ne b (fun x => hgl ⟨by omega, by omega⟩)).trans (h23.block b (by omega) (fun x => hx (.inl x))))
set_option maxRecDepth 100000 in
set_option maxHeartbeats 4000000 in
theorem drop_clos (nm : ByteArray × ByteArray) (NB : Nat) (W : World) (bN : W.heap[NB]? = some (.cells #[.string nm.1, .string nm.2] 23 (0, 0))) :
    ClosOKq (fun e => e.attrs.length ≤ 1000001) (dropA nm) 38 #[.pointer (some ⟨NB, 0, none⟩)] W := by
  intro v q e cs lo hi hv h6 hown hhi hq hgn hk1
  obtain ⟨av, kv, css, rfl, h1, h2, h3, h4, h5, hko⟩ := (ownC_iff e cs lo hi).1 hown
  obtain ⟨A, ca, rfl⟩ := own_shape h1
  obtain ⟨K, ck, rfl⟩ := own_shape h2
  rw [show ∀ a b : Value, #[a] ++ #[b] = #[a, b] from fun a b => by simp]
  have hqb := h6.lt
  have hN := still_block bN hv
  have c0 := blk_cell hN 0
  have c1 := blk_cell hN 1
  simp only [List.getElem?_toArray, List.getElem?_cons_zero, List.getElem?_cons_succ] at c0 c1
  obtain ⟨q0, q1, q2, q3, q4, q5⟩ := h6.cells
  have hfi := fun (u : World) (hu : Below v.heap.size v u) => pfirst_any A e.attrs ca nm u (Sl3.of_own (own_below h1 hu)) hgn
  obtain ⟨R, hR⟩ : ∃ R, idxA nm e.attrs = R := ⟨_, rfl⟩
  have hge := idxA_ge nm e.attrs
  rw [hR] at hfi hge
  have HSV := Lib.hid (fun (u : World) (hu : Below v.heap.size v u) => (show u.cell? q = some (.int .i64 e.kind) ∧ u.cell? ⟨q.block, q.off + 3, none⟩ = some (.slice A e.attrs.length ca) from by
    obtain ⟨a0, a1, a2, a3, a4, a5⟩ := (h6.below hu).cells
    exact ⟨a0, a3⟩))
  have HFI := Lib.hid hfi
  clear hfi q0 q1 q2 q4 q5 hN
  by_cases hneg : R < 0
  · have hf : dropA nm e = none := by unfold dropA; rw [hR, if_pos hneg]
    rw [hf]
    clear hf h1 h2 h3 h4 h5 hko hown h6 hR hge bN
    go_enter Try.func38, Try.ntmps38
    go_wp2_with fail
    go_region_law (
      go_simp
      go_at_call 37
      refine (HFI.out _ (Below.refl _ v).drew).mono ?_
      rintro e2 w2 ⟨rfl, hb2⟩
      have HB2 := Lib.hid ((Below.refl v.heap.size v).drew.trans hb2)
      clear hb2)
    all_goals (
      go_wp2
      go_ret
      exact ⟨Turned.of_below HB2.out hqb _ _ _, rfl⟩)
  · obtain ⟨i, rfl⟩ : ∃ i : Nat, R = (i : Int) := ⟨R.toNat, by omega⟩
    have hf : dropA nm e = some (e.withAttrs (e.attrs.eraseIdx i)) := by unfold dropA; rw [hR, if_neg hneg, show ((i : Int)).toNat = i from by omega]
    rw [hf]
    obtain ⟨m, hm⟩ : ∃ m, e.attrs.length = m + 1 := ⟨e.attrs.length - 1, by omega⟩
    have him : i ≤ m := by omega
    rcases h1.2 with ⟨_, y⟩ | ⟨g, cap, cur, hAe, hg0, hg, hnc, hcm, hcs, htk⟩
    · omega
    simp only [Value.slice.injEq, true_and] at hAe
    obtain ⟨rfl, rfl⟩ := hAe
    have hone : ∀ u ∈ cur.toList.take ((m + 1) * 3), u.oneCell' = true := by
      rw [← hm, htk]; exact cells3_one _
    have hgi := (h4 g rfl).1
    have hel : (e.attrs.eraseIdx i).length = m := by rw [List.length_eraseIdx_of_lt (by omega)]; omega
    have hdel := fun (u : World) (hu : Below v.heap.size v u) => deleteA_any g m ca i cur u (still_block hg hu) hcs him (by omega) hone
    have hleft := fun (u u3 : World) (cs : List Value) (hu : Below v.heap.size v u) (hr : RowSet g cs 29 u u3) (ht : cs.take (m * 3) = cur.toList.take (i * 3) ++ (cur.toList.drop ((i + 1) * 3)).take ((m - i) * 3)) =>
      (show ChOut (some (e.withAttrs (e.attrs.eraseIdx i))) q lo hi v (.returned (.bool true)) (u3.setCell ⟨q.block, q.off + 3, none⟩ (.slice (some ⟨g, 0, none⟩) m ca)) ∧ u3.cell? ⟨q.block, q.off + 3, none⟩ = some (.slice (some ⟨g, 0, none⟩) e.attrs.length ca) ∧ u3.frozen? ⟨q.block, q.off + 3, none⟩ = false from by
        have hro : RowOnly (.slice (some ⟨g, 0, none⟩) e.attrs.length ca) v u3 := ⟨hr.os.trans hu.os, hr.tape.trans hu.tape, hr.output.trans hu.output, by rw [hr.size]; exact hu.size, fun b x y => (hr.other b (fun z => y (by rw [z]; rfl))).trans (hu.block b x)⟩
        have hsf : SafeM (MustI lo hi v.heap.size) u3 (fun z => Sl3 z (some ⟨g, 0, none⟩) (e.attrs.eraseIdx i)) := by
          intro w2 k1 k2
          have hgw := k1 g (.inl ⟨hg0, hgi⟩) (by rw [hr.size]; exact Nat.lt_of_lt_of_le (blk_in hg) hu.size)
          refine ⟨cells3_length _, fun hp => ⟨_, rfl, by show g < _; have := blk_in hg; have := hu.size; have := hr.size; omega, fun j x hx => ?_⟩⟩
          have hcq : cells3 (e.attrs.eraseIdx i) = cs.take (m * 3) := by
            rw [ht, cells3_erase, ← htk, List.take_take, List.drop_take, Nat.min_eq_left (by omega), show e.attrs.length * 3 - (i + 1) * 3 = (m - i) * 3 from by omega]
          rw [hcq] at hx
          have hxl := (List.getElem?_eq_some_iff.1 hx).1
          rw [List.length_take] at hxl
          rw [List.getElem?_take_of_lt (by omega)] at hx
          rw [Addr.add_lit]
          refine (World.cell?_of_block hgw).trans ?_
          simp [World.cell?, hr.row, hx]
        have h := attrs_left (c2 := ca) h6 hown hq hhi hro (Below.refl _ u3) hsf
        rw [hel] at h
        have hq2 : (Value.slice (some ⟨g, 0, none⟩) e.attrs.length ca).ownBlock ≠ some q.block := fun x => hq ⟨(own_in h1 x).1, (h4 _ x).1⟩
        have h6' := h6.keep (hro.block q.block h6.lt hq2)
        exact ⟨h, h6'.cells.2.2.2.1, h6'.free 3⟩)
    have HD := Lib.hid hdel
    have HL := Lib.hid hleft
    have hwr : IntKind.i64.wrap ((i : Int) + 1) = (i : Int) + 1 := by rw [IntKind.wrap_i64]; omega
    have hi0 : ¬ (i : Int) < 0 := by omega
    rw [hm] at HL q3 HSV HFI
    clear hf h1 h2 h3 h4 h5 hko hown h6 hR hge bN hdel hleft hone hel htk hcs hg hneg hgn hm
    go_enter Try.func38, Try.ntmps38
    go_wp2_with fail
    go_region_law (
      go_simp
      go_at_call 37
      refine (HFI.out _ (Below.refl _ v).drew).mono ?_
      rintro e2 w2 ⟨rfl, hb2⟩
      have HB2 := Lib.hid ((Below.refl v.heap.size v).drew.trans hb2)
      clear hb2)
    all_goals (
      obtain ⟨e0, e3⟩ := HSV.out _ HB2.out
      go_wp2_with fail
      refine (HD.out _ HB2.out).mono ?_
      rintro e2 w3 ⟨rfl, cs, hr, ht⟩
      obtain ⟨l1, l2, l3⟩ := HL.out _ _ _ HB2.out hr ht
      have HF := Lib.hid l1
      clear hr ht l1 e0 e3
      go_wp2
      go_ret
      exact HF.out)
end Go.Proofs.Ytlcjepnaljfpkaa
namespace Wb
open Go Go.RowKit
theorem RowOnly.grown {kv : Value} {w v w' : World} (hb : Below w.heap.size w v) (hg : v.grownBy w' kv.ownBlock) : RowOnly kv w w' :=
  ⟨hg.os.trans hb.os, hg.tape.trans hb.tape, hg.output.trans hb.output, Nat.le_trans hb.size hg.size, fun b x y => (hg.block b (Nat.lt_of_lt_of_le x hb.size) (fun z => y z.symm)).trans (hb.block b x)⟩
theorem cells3_app (l : List Tr) (a : Tr) : cells3 (l ++ [a]) = cells3 l ++ [.string a.1.1, .string a.1.2, .string a.2] := by
  induction l with
  | nil => rfl
  | cons b l ih => simp [cells3] at ih ⊢
end Wb
namespace Go.Proofs.Ytlcjepnaljfpkaa
open Go.RowKit Wb
set_option maxRecDepth 100000 in
set_option maxHeartbeats 4000000 in
theorem set_clos (a : Tr) (AB : Nat) (W : World) (bA : W.heap[AB]? = some (.cells #[.string a.1.1, .string a.1.2, .string a.2] 29 (0, 0))) :
    ClosOKq (fun e => e.attrs.length ≤ 1000000 ∧ idxA a.1 e.attrs < 0) (setA a) 36 #[.pointer (some ⟨AB, 0, none⟩)] W := by
  intro v q e cs lo hi hv h6 hown hhi hq hgn hk1
  obtain ⟨av, kv, css, rfl, h1, h2, h3, h4, h5, hko⟩ := (ownC_iff e cs lo hi).1 hown
  obtain ⟨A, ca, rfl⟩ := own_shape h1
  obtain ⟨K, ck, rfl⟩ := own_shape h2
  rw [show ∀ a b : Value, #[a] ++ #[b] = #[a, b] from fun a b => by simp]
  have hqb := h6.lt
  have hfi := fun (u : World) (hu : Below v.heap.size v u) => pfirst_any A e.attrs ca a.1 u (Sl3.of_own (own_below h1 hu)) (by have := hgn.1; omega)
  obtain ⟨R, hR⟩ : ∃ R, idxA a.1 e.attrs = R := ⟨_, rfl⟩
  have hneg : R < 0 := by rw [← hR]; exact hgn.2
  rw [hR] at hfi
  have hf : setA a e = some (e.withAttrs (e.attrs ++ [a])) := by unfold setA; rw [hR, if_pos hneg]
  rw [hf]
  have hlen := hgn.1
  have hca := cells3_app e.attrs a
  obtain ⟨J, hJ⟩ : ∃ J, e.attrs ++ [a] = J := ⟨_, rfl⟩
  have hJl : J.length = e.attrs.length + 1 := by rw [← hJ]; simp
  rw [hJ] at hca ⊢
  obtain ⟨⟨a1, a2⟩, a3⟩ := a
  simp only at hca bA hfi hR
  have HSV := Lib.hid (fun (u : World) (hu : Below v.heap.size v u) => (show u.cell? ⟨q.block, q.off + 3, none⟩ = some (.slice A e.attrs.length ca) ∧ u.cell? ⟨AB, 0, none⟩ = some (.string a1) ∧ u.cell? ⟨AB, 1, none⟩ = some (.string a2) ∧ u.cell? ⟨AB, 2, none⟩ = some (.string a3) from by
    obtain ⟨_, _, _, b3, _, _⟩ := (h6.below hu).cells
    have hN := still_block bA (hv.trans (hu.mono hv.size))
    have c0 := blk_cell hN 0
    have c1 := blk_cell hN 1
    have c2 := blk_cell hN 2
    simp only [List.getElem?_toArray, List.getElem?_cons_zero, List.getElem?_cons_succ] at c0 c1 c2
    exact ⟨b3, c0, c1, c2⟩))
  have hleft := fun (u : World) (u4 : World) (v4 : Value) (hu : Below v.heap.size v u) (hown4 : u4.ownsRow 0 29 3 v4 (e.attrs.length + 1) (cells3 e.attrs ++ [.string a1, .string a2, .string a3])) (hg4 : u.grownBy u4 (Value.slice A e.attrs.length ca).ownBlock) (hat4 : v4.ownBlock = (Value.slice A e.attrs.length ca).ownBlock ∨ v4.ownBlock = some u.heap.size) =>
    (show (∃ A4 c4, v4 = .slice A4 (e.attrs.length + 1) c4 ∧ ChOut (some (e.withAttrs J)) q lo hi v (.returned (.bool true)) (u4.setCell ⟨q.block, q.off + 3, none⟩ (.slice A4 (e.attrs.length + 1) c4))) ∧ u4.cell? ⟨q.block, q.off + 3, none⟩ = some (.slice A e.attrs.length ca) ∧ u4.frozen? ⟨q.block, q.off + 3, none⟩ = false from by
      have hro : RowOnly (.slice A e.attrs.length ca) v u4 := RowOnly.grown hu hg4
      obtain ⟨A4, c4, rfl⟩ := own_shape hown4
      have hsf : SafeM (MustI lo hi v.heap.size) u4 (fun z => Sl3 z A4 J) := by
        intro w2 k1 k2
        rw [← hca] at hown4
        rw [← hJl] at hown4
        refine Sl3.of_own (own_blk hown4 fun b hb => k1 b ?_ (own_in hown4 hb).2)
        rcases hat4 with h | h
        · rw [hJl] at hb
          rw [hb] at h
          exact .inl ⟨(own_in h1 h.symm).1, (h4 b h.symm).1⟩
        · rw [hJl] at hb
          rw [hb] at h
          injection h with h
          exact .inr (by rw [h]; exact hu.size)
      have h := attrs_left (c2 := c4) h6 hown hq hhi hro (Below.refl _ u4) hsf
      rw [hJl] at h
      have hq2 : (Value.slice A e.attrs.length ca).ownBlock ≠ some q.block := fun x => hq ⟨(own_in h1 x).1, (h4 _ x).1⟩
      have h6' := h6.keep (hro.block q.block h6.lt hq2)
      exact ⟨⟨A4, c4, rfl, h⟩, h6'.cells.2.2.2.1, h6'.free 3⟩)
  have HL := Lib.hid hleft
  have HFI := Lib.hid hfi
  have H1 := Lib.hid (fun (u : World) (hu : Below v.heap.size v u) => own_base (own_below h1 hu) (Nat.zero_le _))
  obtain ⟨i0, hi0, hz0, hz1, hz2⟩ := info_parts attr_info
  obtain ⟨q3, c0, c1, c2⟩ := HSV.out v (Below.refl _ _)
  clear hf h2 h3 h4 h5 hko hown h6 hR bA hleft hfi hgn hca hJ hJl
  go_enter Try.func36, Try.ntmps36
  go_upto_region 1 with fail
  go_cut [4] (fun c wx => c = .int .i64 R ∧ Hid (Below v.heap.size v wx))
  case first =>
    clear HL H1
    go_region_law (
      go_simp
      go_at_call 37
      refine (HFI.out _ (Below.refl _ v).drew).mono ?_
      rintro e2 w2 ⟨rfl, hb2⟩
      have HB2 := Lib.hid ((Below.refl v.heap.size v).drew.trans hb2)
      clear hb2)
    all_goals (
      go_wp2_with fail
      go_meet
      exact ⟨rfl, HB2⟩)
  case rest =>
    obtain ⟨rfl, HB2⟩ := hcut
    obtain ⟨w2, rfl⟩ : ∃ w2, w2 = wc := ⟨wc, rfl⟩
    clear q3 c0 c1 c2
    obtain ⟨q3, c0, c1, c2⟩ := HSV.out _ HB2.out
    have hnl : ¬ (0 : Int) ≤ R := by omega
    go_upto_region 4 with fail
    have hown2 := H1.out _ HB2.out
    have HOWN := Lib.hid (hown2.alloc (.cells #[.string a1, .string a2, .string a3] 29))
    have HLIT := Lib.hid (Sl.lit w2 3 [.string a1, .string a2, .string a3] 29 1 rfl)
    have HONE := Lib.hid (show ∀ u ∈ [Value.string a1, .string a2, .string a3], u.oneCell' = true from fun u hu => by
      simp only [List.mem_cons, List.mem_nil_iff, or_false] at hu
      rcases hu with rfl | rfl | rfl <;> rfl)
    have hba := HB2.out.alloc HB2.out.size (.cells #[.string a1, .string a2, .string a3] 29)
    have HBA := Lib.hid hba.drew
    have aq3 : ∀ o, (w2.alloc o).cell? ⟨q.block, q.off + 3, none⟩ = _ := fun o => (HSV.out _ (HB2.out.alloc HB2.out.size o)).1
    have ac0 : ∀ o, (w2.alloc o).cell? ⟨AB, 0, none⟩ = _ := fun o => (HSV.out _ (HB2.out.alloc HB2.out.size o)).2.1
    have ac1 : ∀ o, (w2.alloc o).cell? ⟨AB, 1, none⟩ = _ := fun o => (HSV.out _ (HB2.out.alloc HB2.out.size o)).2.2.1
    have ac2 : ∀ o, (w2.alloc o).cell? ⟨AB, 2, none⟩ = _ := fun o => (HSV.out _ (HB2.out.alloc HB2.out.size o)).2.2.2
    clear hba hown2
    go_region_law (
      refine step_append_sl _ rfl (.tmp 25) (.tmp 27) _ rfl 0 29 i0 _ 3 48 Try.underlying24 hi0 hz0 hz1 hz2 rfl (by omega) _ e.attrs.length (cells3 e.attrs) rfl HOWN.out (some ⟨w2.heap.size, 0, none⟩) 1 1 [.string a1, .string a2, .string a3] rfl HLIT.out HONE.out (by simp only [maxLen]; omega) (by omega) (Nat.zero_le _) ?_
      intro v4 w4 hown4 hg4 hat4
      obtain ⟨⟨A4, c4, rfl, hch⟩, l2, l3⟩ := HL.out _ w4 v4 HBA.out hown4 hg4 hat4
      have HF := Lib.hid hch
      clear hown4 hg4 hat4 hch)
    all_goals (
      go_wp2
      go_ret
      exact HF.out)
end Go.Proofs.Ytlcjepnaljfpkaa
namespace Go.Proofs.Ytlcjepnaljfpkaa
open Go.RowKit Wb
set_option maxRecDepth 100000 in
set_option maxHeartbeats 4000000 in
theorem SetAttr_new (n : Nd) (a : Tr) (A K : Option Addr) (ca ck : Nat) (l : List Int) (PA : Option Addr) (cp : Nat) (w : World) (hV : NodeV w n A K) (hsm : smallN n) (hQ : ∀ e, atP n l = some e → e.attrs.length ≤ 1000000 ∧ idxA a.1 e.attrs < 0) (hP : SlI w PA l) (hcp : l.length ≤ cp) (hl : l.length ≤ 1000000) :
    Calls Try.prog 14 #[ndV n A ca K ck, .agg #[.string a.1.1, .string a.1.2, .string a.2], .slice PA l.length cp] w (NdOut (chP (setA a) n l) w) := by
  obtain ⟨r, hr⟩ : ∃ r, chP (setA a) n l = r := ⟨_, rfl⟩
  rw [hr]
  obtain ⟨hb3, h0, h1, h2, hs3⟩ := three_allocs w (.cells #[.int .i64 n.kind, .string n.name.1, .string n.name.2, .slice A n.attrs.length ca, .slice K n.kids.length ck, .string n.text] 27) (.cells #[.string a.1.1, .string a.1.2, .string a.2] 29) (.cells #[.int .i64 0, .string ⟨#[]⟩, .string ⟨#[]⟩, .slice none 0 0, .slice none 0 0, .string ⟨#[]⟩] 27)
  have HB := Lib.hid hb3
  have H0 := Lib.hid h0
  have H1 := Lib.hid h1
  have H2 := Lib.hid h2
  have HS := Lib.hid hs3
  have HCL := Lib.hid (fun (v : World) (hv : Below w.heap.size w v) (b1 : v.heap[w.heap.size + 1]? = some (.cells #[.string a.1.1, .string a.1.2, .string a.2] 29 (0, 0))) =>
    changed_anyq (fun e => e.attrs.length ≤ 1000000 ∧ idxA a.1 e.attrs < 0) (setA a) 36 #[.pointer (some ⟨w.heap.size + 1, 0, none⟩)] (fun args w => by rfl) n A K ca ck l PA cp v (hV.below hv) hsm hQ (hP.below hv) hcp hl
      (set_clos a (w.heap.size + 1) v b1))
  rw [hr] at HCL
  unfold ndV ndCells at HCL ⊢
  clear hb3 h0 h1 h2 hs3 hV hP hsm hQ hr
  go_enter Try.func14, Try.ntmps14
  go_upto_region 1 with fail
  revert HB H0 H1 H2 HS
  generalize ((w.alloc (.cells #[.int .i64 n.kind, .string n.name.1, .string n.name.2, .slice A n.attrs.length ca, .slice K n.kids.length ck, .string n.text] 27)).alloc (.cells #[.string a.1.1, .string a.1.2, .string a.2] 29)).alloc
    (.cells #[.int .i64 0, .string ⟨#[]⟩, .string ⟨#[]⟩, .slice none 0 0, .slice none 0 0, .string ⟨#[]⟩] 27) = w1
  intro HB H0 H1 H2 HS
  obtain ⟨n0, n1, n2, n3, n4, n5⟩ := cells_of_nd H0.out
  have hcall := HCL.out w1 HB.out H1.out
  clear HCL
  go_wp2_with fail
  refine hcall.mono ?_
  rintro e w4 ⟨hb4, ho⟩
  have HZ4 := Lib.hid (still_block H2.out hb4)
  have HB4 := Lib.hid (HB.out.trans (hb4.mono HB.out.size))
  have z0 := blk_free HZ4.out 0
  have z1 := blk_free HZ4.out 1
  have z2 := blk_free HZ4.out 2
  have z3 := blk_free HZ4.out 3
  have z4 := blk_free HZ4.out 4
  have z5 := blk_free HZ4.out 5
  obtain ⟨y0, y1, y2, y3, y4, y5⟩ := cells_of_nd HZ4.out
  clear n0 n1 n2 n3 n4 n5 hcall hb4
  rcases r with _ | m
  · subst ho
    go_wp2
    refine bodyPost_ret (results_cell2 rfl _ _ (w.heap.size + 2) _ _ _ rfl (six_blk HZ4.out _ _ _ _ _ _) Try.underlying27 rfl node_info2) rfl ?_
    exact ⟨six_below HB4.out (by omega) _ _ _ _ _ _, rfl⟩
  · obtain ⟨A5, ca5, K5, ck5, rfl, hV5⟩ := ho
    have HV5 := Lib.hid hV5
    clear hV5
    unfold ndV ndCells
    go_wp2
    refine bodyPost_ret (results_cell2 rfl _ _ (w.heap.size + 2) _ _ _ rfl (six_blk HZ4.out _ _ _ _ _ _) Try.underlying27 rfl node_info2) rfl ?_
    exact ⟨six_below HB4.out (by omega) _ _ _ _ _ _, A5, ca5, K5, ck5, rfl, out_stored HV5.out (by have := HS.out; omega) (by have := HS.out; omega)⟩
set_option maxRecDepth 100000 in
set_option maxHeartbeats 4000000 in
theorem DropAttr_any (n : Nd) (nm : ByteArray × ByteArray) (A K : Option Addr) (ca ck : Nat) (l : List Int) (PA : Option Addr) (cp : Nat) (w : World) (hV : NodeV w n A K) (hsm : smallN n) (hQ : ∀ e, atP n l = some e → e.attrs.length ≤ 1000001) (hP : SlI w PA l) (hcp : l.length ≤ cp) (hl : l.length ≤ 1000000) :
    Calls Try.prog 15 #[ndV n A ca K ck, .agg #[.string nm.1, .string nm.2], .slice PA l.length cp] w (NdOut (chP (dropA nm) n l) w) := by
  obtain ⟨r, hr⟩ : ∃ r, chP (dropA nm) n l = r := ⟨_, rfl⟩
  rw [hr]
  obtain ⟨hb3, h0, h1, h2, hs3⟩ := three_allocs w (.cells #[.int .i64 n.kind, .string n.name.1, .string n.name.2, .slice A n.attrs.length ca, .slice K n.kids.length ck, .string n.text] 27) (.cells #[.string nm.1, .string nm.2] 23) (.cells #[.int .i64 0, .string ⟨#[]⟩, .string ⟨#[]⟩, .slice none 0 0, .slice none 0 0, .string ⟨#[]⟩] 27)
  have HB := Lib.hid hb3
  have H0 := Lib.hid h0
  have H1 := Lib.hid h1
  have H2 := Lib.hid h2
  have HS := Lib.hid hs3
  have HCL := Lib.hid (fun (v : World) (hv : Below w.heap.size w v) (b1 : v.heap[w.heap.size + 1]? = some (.cells #[.string nm.1, .string nm.2] 23 (0, 0))) =>
    changed_anyq (fun e => e.attrs.length ≤ 1000001) (dropA nm) 38 #[.pointer (some ⟨w.heap.size + 1, 0, none⟩)] (fun args w => by rfl) n A K ca ck l PA cp v (hV.below hv) hsm hQ (hP.below hv) hcp hl
      (drop_clos nm (w.heap.size + 1) v b1))
  rw [hr] at HCL
  unfold ndV ndCells at HCL ⊢
  clear hb3 h0 h1 h2 hs3 hV hP hsm hQ hr
  go_enter Try.func15, Try.ntmps15
  go_upto_region 1 with fail
  revert HB H0 H1 H2 HS
  generalize ((w.alloc (.cells #[.int .i64 n.kind, .string n.name.1, .string n.name.2, .slice A n.attrs.length ca, .slice K n.kids.length ck, .string n.text] 27)).alloc (.cells #[.string nm.1, .string nm.2] 23)).alloc
    (.cells #[.int .i64 0, .string ⟨#[]⟩, .string ⟨#[]⟩, .slice none 0 0, .slice none 0 0, .string ⟨#[]⟩] 27) = w1
  intro HB H0 H1 H2 HS
  obtain ⟨n0, n1, n2, n3, n4, n5⟩ := cells_of_nd H0.out
  have hcall := HCL.out w1 HB.out H1.out
  clear HCL
  go_wp2_with fail
  refine hcall.mono ?_
  rintro e w4 ⟨hb4, ho⟩
  have HZ4 := Lib.hid (still_block H2.out hb4)
  have HB4 := Lib.hid (HB.out.trans (hb4.mono HB.out.size))
  have z0 := blk_free HZ4.out 0
  have z1 := blk_free HZ4.out 1
  have z2 := blk_free HZ4.out 2
  have z3 := blk_free HZ4.out 3
  have z4 := blk_free HZ4.out 4
  have z5 := blk_free HZ4.out 5
  obtain ⟨y0, y1, y2, y3, y4, y5⟩ := cells_of_nd HZ4.out
  clear n0 n1 n2 n3 n4 n5 hcall hb4
  rcases r with _ | m
  · subst ho
    go_wp2
    refine bodyPost_ret (results_cell2 rfl _ _ (w.heap.size + 2) _ _ _ rfl (six_blk HZ4.out _ _ _ _ _ _) Try.underlying27 rfl node_info2) rfl ?_
    exact ⟨six_below HB4.out (by omega) _ _ _ _ _ _, rfl⟩
  · obtain ⟨A5, ca5, K5, ck5, rfl, hV5⟩ := ho
    have HV5 := Lib.hid hV5
    clear hV5
    unfold ndV ndCells
    go_wp2
    refine bodyPost_ret (results_cell2 rfl _ _ (w.heap.size + 2) _ _ _ rfl (six_blk HZ4.out _ _ _ _ _ _) Try.underlying27 rfl node_info2) rfl ?_
    exact ⟨six_below HB4.out (by omega) _ _ _ _ _ _, A5, ca5, K5, ck5, rfl, out_stored HV5.out (by have := HS.out; omega) (by have := HS.out; omega)⟩
end Go.Proofs.Ytlcjepnaljfpkaa
