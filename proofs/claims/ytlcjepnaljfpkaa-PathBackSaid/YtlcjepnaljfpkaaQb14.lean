/- TrTd TrTe TrTf TrS SmA. -/
import Derived.Maps.OwnOps
import Derived.WideKeyEntry
import Derived.Test.YtlcjepnaljfpkaaQb1
import Derived.Test.YtlcjepnaljfpkaaQb2
import Derived.Test.YtlcjepnaljfpkaaQb4
import Derived.Test.YtlcjepnaljfpkaaQb10
namespace Go.Proofs.Ytlcjepnaljfpkaa
open Go.RowKit Wb Go.Lib
set_option maxRecDepth 100000 in
set_option maxHeartbeats 1000000 in
theorem signs_b (s : ByteArray) (w : World) (hs : s.size ≤ 1000000000) :
    Calls Try.prog 56 #[.string s] w fun e w' => e = .returned (.bool (sgB s)) ∧ Below w.heap.size w w' := by
  have hck := check_any s w hs
  by_cases hc : chk s.data.toList = -1
  · obtain ⟨R, hR⟩ : ∃ R, badU s.size s.data.toList 0 = R := ⟨_, rfl⟩
    have hb : sgB s = R.isNone := by unfold sgB; rw [hc, hR]; rfl
    rw [hb]
    rw [hc] at hck
    have HBAD := Lib.hid hR
    clear hc hb hR
    go_enter Try.func56, Try.ntmps56
    go_wp2_with fail
    refine hck.mono ?_
    rintro e w1 ⟨rfl, hb⟩
    have hit : (w1.iter s 0).heap[w1.heap.size]? = some (.stringIter s 0) := World.iter_heap w1 s 0
    have hb1 : Below w.heap.size w (w1.iter s 0) := hb.alloc hb.size _
    have hkb : w.heap.size ≤ w1.heap.size := hb.size
    have HIT := Lib.hid hit
    have HB1 := Lib.hid hb1
    clear hck hit hb1 hb
    go_wp2
    go_loopg [] s.size (fun g wx => ∃ pos : Nat, s.size ≤ pos + g ∧ wx.heap[w1.heap.size]? = some (.stringIter s pos) ∧ Below w.heap.size w wx ∧ Hid (badU g (s.data.toList.drop pos) pos = R))
    case atStart => exact ⟨0, by omega, HIT.out, HB1.out, HBAD⟩
    case round =>
      obtain ⟨pos, hpg, hk, hbw, HI⟩ := hrel
      have HBW := Lib.hid hbw
      by_cases hp : pos < s.size
      · obtain ⟨g, rfl⟩ : ∃ g, gk = g + 1 := ⟨gk - 1, by omega⟩
        have hne : s.data.toList.drop pos ≠ [] := by
          intro e
          have := congrArg List.length e
          rw [List.length_drop, ← Lib.size_eq] at this
          simp at this
          omega
        have hnx := fun (ty : TypeId) => run_next_any_at (P := Try.prog) wr w1.heap.size s pos ty hk hp
        rw [decode_U s pos hp] at hnx
        have hi := HI.out
        rw [show badU (g + 1) (s.data.toList.drop pos) pos = if s.data.toList.drop pos = [] then none else if charB (decU (s.data.toList.drop pos)).1 = true then badU g ((s.data.toList.drop pos).drop (decU (s.data.toList.drop pos)).2) (pos + (decU (s.data.toList.drop pos)).2) else some pos from rfl, if_neg hne, List.drop_drop] at hi
        have hdp := decU_pos (s.data.toList.drop pos)
        generalize hRR : (decU (s.data.toList.drop pos)).1 = RR at *
        generalize hW : (decU (s.data.toList.drop pos)).2 = W at *
        have HI3 := Lib.hid (iterAt_heap wr w1.heap.size s pos (pos + W) hk)
        have HB3 := Lib.hid (below_iterAt HBW.out hkb s (pos + W))
        cases hcb : charB (RR : Int) with
        | true =>
          rw [if_pos hcb] at hi
          have HI2 := Lib.hid hi
          clear hi hk hbw hRR hW hne HI hp
          go_wp2_with fail
          refine (char_any (RR : Int) _).mono ?_
          rintro e w3 ⟨rfl, hb3⟩
          rw [hcb]
          have HB4 := Lib.hid (HB3.out.trans (hb3.mono HB3.out.size))
          have HI4 := Lib.hid ((hb3.block _ (Array.getElem?_eq_some_iff.1 HI3.out).1).trans HI3.out)
          clear hnx hb3
          go_wp2
          go_roundg g
          case measure => omega
          case rel => exact ⟨pos + W, by omega, HI4.out, HB4.out, HI2⟩
        | false =>
          rw [if_neg (by rw [hcb]; decide)] at hi
          have HRF : Hid (R.isNone = false) := Lib.hid (by rw [← hi]; rfl)
          clear hi hk hbw hRR hW hne HI hp
          go_wp2_with fail
          refine (char_any (RR : Int) _).mono ?_
          rintro e w3 ⟨rfl, hb3⟩
          rw [hcb]
          have HB4 := Lib.hid (HB3.out.trans (hb3.mono HB3.out.size))
          clear hnx hb3
          go_wp2
          go_ret
          exact ⟨by rw [HRF.out]; rfl, HB4.out⟩
      · have hnx := fun (ty : TypeId) => run_next_end_at (P := Try.prog) wr w1.heap.size s pos ty hk hp
        have hdr : s.data.toList.drop pos = [] := List.drop_eq_nil_of_le (by rw [← Lib.size_eq]; omega)
        have HRT : Hid (R.isNone = true) := Lib.hid (by
          rw [← HI.out, hdr]
          cases gk <;> rfl)
        clear hk hbw hdr
        go_wp2
        go_ret
        exact ⟨by rw [HRT.out]; rfl, HBW.out⟩
  · have hb : sgB s = false := by
      unfold sgB
      rw [show (chk s.data.toList == -1) = false from by simpa using hc]
      rfl
    have h0 : (0 : Int) ≤ chk s.data.toList := by
      rcases chk_bd s.data.toList with h | h
      · exact absurd h hc
      · exact h.1
    rw [hb]
    clear hb hc
    generalize chk s.data.toList = ck at *
    go_enter Try.func56, Try.ntmps56
    go_wp2_with fail
    refine hck.mono ?_
    rintro e w1 ⟨rfl, hb⟩
    clear hck
    go_wp2
    go_ret
    exact ⟨rfl, hb⟩
theorem rname_b (n : Pr) (w : World) (h1 : n.1.size ≤ 1000000000) (h2 : n.2.size ≤ 1000000000) :
    Calls Try.prog 44 #[.agg #[.string n.1, .string n.2]] w fun e w' => e = .returned (.bool (nmB n)) ∧ Below w.heap.size w w' := by
  obtain ⟨sp, lo⟩ := n
  simp only at h1 h2 ⊢
  have hnb : nmB (sp, lo) = (nameB lo.data.toList && (sgB sp && !(eqT sp sXMLNS))) := rfl
  have hnm := name_any lo (w.alloc (.cells #[.string sp, .string lo] 23)) h2
  have HS := Lib.hid (fun (w2 : World) => signs_b sp w2 h1)
  have hxl : sXMLNS.toList = [104, 116, 116, 112, 58, 47, 47, 119, 119, 119, 46, 119, 51, 46, 111, 114, 103, 47, 50, 48, 48, 48, 47, 120, 109, 108, 110, 115, 47] := by
    rw [ByteArray.toList_eq]; rfl
  have hx' : (sp.toList == [104, 116, 116, 112, 58, 47, 47, 119, 119, 119, 46, 119, 51, 46, 111, 114, 103, 47, 50, 48, 48, 48, 47, 120, 109, 108, 110, 115, 47]) = eqT sp sXMLNS := by unfold eqT; rw [hxl]
  have hblk := heap_alloc_new w (.cells #[.string sp, .string lo] 23)
  have HB := Lib.hid hblk
  rw [hnb]
  clear hblk hxl hnb
  generalize nameB lo.data.toList = b1 at *
  generalize sgB sp = b2 at *
  generalize eqT sp sXMLNS = b3 at *
  go_enter Try.func44, Try.ntmps44
  go_wp2_with fail
  refine hnm.mono ?_
  rintro e w2 ⟨rfl, hb2⟩
  have hB2 := still_block HB.out hb2
  have c0 := blk_cell hB2 0
  simp only [List.getElem?_toArray, List.getElem?_cons_zero] at c0
  have HB2 := Lib.hid hB2
  have HW2 := Lib.hid (((Below.refl _ w).alloc (Nat.le_refl _) (.cells #[.string sp, .string lo] 23)).trans (hb2.mono (by simp)))
  clear hB2 hb2 hnm
  cases b1
  · go_wp2
    go_ret
    exact ⟨rfl, HW2.out⟩
  · go_wp2_with fail
    refine (HS.out _).mono ?_
    rintro e w3 ⟨rfl, hb3⟩
    have hB3 := still_block HB2.out hb3
    have c0' := blk_cell hB3 0
    simp only [List.getElem?_toArray, List.getElem?_cons_zero] at c0'
    have HW3 := Lib.hid (HW2.out.trans (hb3.mono HW2.out.size))
    clear hB3 hb3 c0
    cases b2
    · go_wp2
      go_ret
      exact ⟨rfl, HW3.out⟩
    · cases b3
      · go_wp2
        go_ret
        exact ⟨rfl, HW3.out⟩
      · go_wp2
        go_ret
        exact ⟨rfl, HW3.out⟩
set_option maxRecDepth 100000 in
set_option maxHeartbeats 2000000 in
theorem rtext_b (n : Nd) (A K : Option Addr) (ca ck : Nat) (w : World) (hz : n.text.size ≤ 1000000000) (hla : n.attrs.length ≤ 1000000) (hlk : n.kids.length ≤ 1000000) :
    Calls Try.prog 43 #[ndV n A ca K ck] w fun e w' => e = .returned (.bool (txB n)) ∧ Below w.heap.size w w' := by
  obtain ⟨k, ⟨sp, lo⟩, al, ks, t⟩ := n
  simp only [Nd.text, Nd.attrs, Nd.kids] at hz hla hlk
  have htx : txB (.mk k (sp, lo) al ks t) = (decide (k = 2) && (!(eqT t sE) && (sgB t && (eqP (sp, lo) (sE, sE) && (al.isEmpty && ks.isEmpty))))) := rfl
  rw [htx]
  unfold ndV ndCells
  simp only [Nd.kind, Nd.name, Nd.attrs, Nd.kids, Nd.text]
  have hblk := heap_alloc_new w (.cells #[.int .i64 k, .string sp, .string lo, .slice A al.length ca, .slice K ks.length ck, .string t] 27)
  have HB := Lib.hid hblk
  have hsg := signs_b t (w.alloc (.cells #[.int .i64 k, .string sp, .string lo, .slice A al.length ca, .slice K ks.length ck, .string t] 27)) hz
  have HBW := Lib.hid ((Below.refl _ w).alloc (Nat.le_refl _) (.cells #[.int .i64 k, .string sp, .string lo, .slice A al.length ca, .slice K ks.length ck, .string t] 27))
  have HKY := Lib.hid (fun w2 => key_any sp lo w2)
  have heq := fun w2 => eq_arr sp lo ⟨#[]⟩ ⟨#[]⟩ w2
  have hpe : (sp.toList == (⟨#[]⟩ : ByteArray).toList && lo.toList == (⟨#[]⟩ : ByteArray).toList) = eqP (sp, lo) (sE, sE) := rfl
  rw [hpe] at heq
  have het : t.toList.isEmpty = eqT t sE := empty_eq t
  have hale : al.isEmpty = decide (al.length = 0) := by cases al <;> simp
  have hkse : ks.isEmpty = decide (ks.length = 0) := by cases ks <;> simp
  rw [hale, hkse]
  clear hblk htx hpe hale hkse
  generalize eqP (sp, lo) (sE, sE) = b4 at *
  generalize eqT t sE = b2 at *
  generalize sgB t = b3 at *
  generalize al.length = la at *
  generalize ks.length = lk at *
  by_cases hk2 : k = 2
  · subst hk2
    rw [show decide ((2 : Int) = 2) = true from rfl, Bool.true_and]
    cases b2
    · go_enter Try.func43, Try.ntmps43
      go_wp2_with fail
      refine hsg.mono ?_
      rintro e w2 ⟨rfl, hb2⟩
      have hB2 := still_block HB.out hb2
      have c1 := blk_cell hB2 1
      have c2 := blk_cell hB2 2
      simp only [List.getElem?_toArray, List.getElem?_cons_zero, List.getElem?_cons_succ] at c1 c2
      have HB2 := Lib.hid hB2
      have HW2 := Lib.hid (HBW.out.trans (hb2.mono (by simp)))
      clear hB2 hb2 hsg
      cases b3
      · go_wp2
        go_ret
        exact ⟨rfl, HW2.out⟩
      · go_wp2_with fail
        refine (HKY.out _).mono ?_
        rintro e w3 ⟨rfl, hb3⟩
        have hB3 := still_block HB2.out hb3
        have c3 := blk_cell hB3 3
        have c4 := blk_cell hB3 4
        simp only [List.getElem?_toArray, List.getElem?_cons_zero, List.getElem?_cons_succ] at c3 c4
        have HW3 := Lib.hid (HW2.out.trans (hb3.mono HW2.out.size))
        clear hB3 hb3 c1 c2
        cases b4
        · go_wp2
          go_ret
          exact ⟨rfl, HW3.out⟩
        · by_cases ha0 : la = 0
          · subst ha0
            by_cases hk0 : lk = 0
            · subst hk0
              go_wp2
              go_ret
              exact ⟨rfl, HW3.out⟩
            · have hkf : ((lk : Int) == 0) = false := by simp; omega
              go_wp2
              go_ret
              exact ⟨by simp, HW3.out⟩
          · have haf : ((la : Int) == 0) = false := by simp; omega
            go_wp2
            go_ret
            exact ⟨by simp [ha0], HW3.out⟩
    · go_enter Try.func43, Try.ntmps43
      go_wp2
      go_ret
      exact ⟨rfl, HBW.out⟩
  · have hkf : (k == 2) = false := by simpa using hk2
    rw [decide_eq_false hk2, Bool.false_and]
    go_enter Try.func43, Try.ntmps43
    go_wp2
    go_ret
    exact ⟨rfl, HBW.out⟩
end Go.Proofs.Ytlcjepnaljfpkaa
namespace Wb
theorem atsB_drop {l : List Tr} {k : Nat} {x : Tr} (seen : List Pr) (h : l[k]? = some x) : atsB seen (l.drop k) = (atB seen x && atsB (seen ++ [x.1]) (l.drop (k + 1))) := by
  obtain ⟨hk, e⟩ := List.getElem?_eq_some_iff.1 h
  rw [List.drop_eq_getElem_cons hk, e, atsB]
end Wb
namespace Go.Proofs.Ytlcjepnaljfpkaa
open Go.RowKit Wb Go.Maps
set_option maxRecDepth 100000 in
set_option maxHeartbeats 8000000 in
theorem rats_b (A : Option Addr) (l : List Tr) (c : Nat) (w : World) (hll : l.length ≤ 1000000) (hz : AtsSz l) (hA : Sl3 w A l) :
    Calls Try.prog 45 #[.slice A l.length c] w fun e w' => e = .returned (.bool (attrsB l)) ∧ Below w.heap.size w w' := by
  by_cases h32 : l.length ≤ 32
  · obtain ⟨R, hR⟩ : ∃ R, atsB [] l = R := ⟨_, rfl⟩
    have hab : attrsB l = R := by unfold attrsB; rw [decide_eq_true h32, hR]; rfl
    rw [hab]
    have hmm := @run_makeMap Try.prog
    have h32' : ¬ (32 : Int) < (l.length : Int) := by omega
    have HR := Lib.hid hR
    have HZ := Lib.hid hz
    clear hz hR hab
    go_enter Try.func45, Try.ntmps45
    go_wp2
    go_loopw [15] (fun vi wr => ∃ k : Nat, k ≤ l.length ∧ vi = .int .i64 k ∧ Hid (SetA wr w.heap.size k ((l.take k).map (·.1))) ∧ Hid (atsB ((l.take k).map (·.1)) (l.drop k) = R) ∧ Hid (Below w.heap.size w wr)) (fun vi _ => ((l.length : Int) - intOf vi).toNat)
    case atStart => exact ⟨0, by omega, rfl, Lib.hid (SetA.made w), Lib.hid (by simpa using HR.out), Lib.hid ((Below.refl _ _).alloc (Nat.le_refl _) _)⟩
    case round =>
      obtain ⟨k, hk, rfl, HS, HT, HB⟩ := hrel
      by_cases h0 : k < l.length
      · obtain ⟨⟨⟨a1, a2⟩, a3⟩, he⟩ : ∃ x, l[k]? = some x := ⟨l[k], List.getElem?_eq_getElem h0⟩
        obtain ⟨ad, rfl, had, c1, c2, c3⟩ := (hA.below HB.out).at_ he
        simp only at c1 c2 c3
        have hmem := List.mem_of_getElem? he
        obtain ⟨z1, z2, z3⟩ := HZ.out _ hmem
        simp only at z1 z2 z3
        have k1 : a1.size ≤ maxLen := by simp only [maxLen]; omega
        have k2 : a2.size ≤ maxLen := by simp only [maxLen]; omega
        have htk : (l.take (k + 1)).map (·.1) = (l.take k).map (·.1) ++ [(a1, a2)] := by
          rw [List.take_add_one, he]; simp
        have hst := HT.out
        rw [atsB_drop _ he] at hst
        have hatb : atB ((l.take k).map (·.1)) ((a1, a2), a3) = (!(((l.take k).map (·.1)).any (fun y => eqP y (a1, a2))) && (!(eqP (a1, a2) (sE, sXmlns)) && (nmB (a1, a2) && sgB a3))) := rfl
        rw [hatb] at hst
        have HST := Lib.hid hst
        obtain ⟨D, hown, hsz, hhas⟩ := HS.out
        have hkey := arr_key (a1, a2) k1 k2
        have hhf : has D (litN (a1, a2)) = (((l.take k).map (·.1)).any (fun y => eqP y (a1, a2))) := hhas (a1, a2) k1 k2
        have HHAS := Lib.hid hhas
        have HSZ := Lib.hid hsz
        have HM := Lib.hid hown.isMap
        have HTK := Lib.hid htk
        have heq := fun w2 => eq_arr a1 a2 ⟨#[]⟩ ⟨#[120, 109, 108, 110, 115]⟩ w2
        have hne : (a1.toList == (⟨#[]⟩ : ByteArray).toList && a2.toList == (⟨#[120, 109, 108, 110, 115]⟩ : ByteArray).toList) = eqP (a1, a2) (sE, sXmlns) := rfl
        rw [hne] at heq
        have HKY := Lib.hid (fun w2 => key_any a1 a2 w2)
        have HNM := Lib.hid (fun w2 => rname_b (a1, a2) w2 z1 z2)
        have HSG := Lib.hid (fun w2 => signs_b a3 w2 z3)
        clear hne hhas hsz htk hmem had hatb hst HT
        generalize hq1 : (((l.take k).map (·.1)).any (fun y => eqP y (a1, a2))) = q1 at *
        generalize hq2 : eqP (a1, a2) (sE, sXmlns) = q2 at *
        generalize hq3 : nmB (a1, a2) = q3 at *
        generalize hq4 : sgB a3 = q4 at *
        clear he
        go_wp2_with fail
        refine (HKY.out _).mono ?_
        rintro e w2 ⟨rfl, hb2⟩
        have hba : Below wr.heap.size wr (wr.alloc (.cells #[.string a1, .string a2, .string a3] 29)) := (Below.refl _ wr).alloc (Nat.le_refl _) _
        have hbr : Below wr.heap.size wr w2 := hba.trans (hb2.mono (by simp))
        have hown2 := map_below hown hbr
        have hB5 := still_block (heap_alloc_new wr (.cells #[.string a1, .string a2, .string a3] 29)) hb2
        have h5l : wr.heap.size < w2.heap.size := blk_in hB5
        have n0 := blk_cell hB5 0
        have n1 := blk_cell hB5 1
        simp only [List.getElem?_toArray, List.getElem?_cons_zero, List.getElem?_cons_succ] at n0 n1
        have q : ∀ o o2 j, ((w2.alloc o).alloc o2).cell? ⟨wr.heap.size, j, none⟩ = w2.cell? ⟨wr.heap.size, j, none⟩ := fun o o2 j =>
          World.cell?_of_block (w := w2) ((Below.heap_alloc (w2.alloc o) o2 _ (by simp; omega)).trans (Below.heap_alloc w2 o _ h5l))
        have q0 : ∀ o o2, ((w2.alloc o).alloc o2).cell? ⟨wr.heap.size, 0, none⟩ = _ := fun o o2 => (q o o2 0).trans n0
        have q1' : ∀ o o2, ((w2.alloc o).alloc o2).cell? ⟨wr.heap.size, 1, none⟩ = _ := fun o o2 => (q o o2 1).trans n1
        have HB5 := Lib.hid hB5
        have HOWN2 := Lib.hid hown2
        have HBR := Lib.hid hbr
        have HBW2 : ∀ o o2, Hid (Below w.heap.size w ((w2.alloc o).alloc o2)) := fun o o2 => Lib.hid (((HB.out.trans (hbr.mono HB.out.size)).alloc (Nat.le_trans HB.out.size hbr.size) o).alloc (by have := HB.out.size; have := hbr.size; simp; omega) o2)
        clear hB5 n0 n1 q hb2 hba hown hbr
        cases q1
        · cases q2
          · go_wp2_with (at_lookup; refine wpList_lookup_own_unit _ rfl _ _ _ rfl 65 84 arr_law Try.underlying83 (zero_unit _) w.heap.size k D rfl (HOWN2.out.alloc _) _ _ rfl hkey ?_)
            refine (HNM.out _).mono ?_
            rintro e w3 ⟨rfl, hb3⟩
            have hb3w : Below w2.heap.size w2 w3 := (((Below.refl _ w2).alloc (Nat.le_refl _) (.cells #[.string a1, .string a2] 65)).alloc (by simp) (.cells #[] 84)).trans (hb3.mono (by simp; omega))
            have hB53 := still_block HB5.out hb3w
            have hB63 : w3.heap[w2.heap.size]? = some (.cells #[.string a1, .string a2] 65 (0, 0)) := by
              rw [hb3.block _ (by simp; omega), Below.heap_alloc _ _ _ (by simp)]
              exact heap_alloc_new w2 (.cells #[.string a1, .string a2] 65)
            have m2 := blk_cell hB53 2
            simp only [List.getElem?_toArray, List.getElem?_cons_zero, List.getElem?_cons_succ] at m2
            have HB63 := Lib.hid hB63
            have HBR3 := Lib.hid (HBR.out.trans (hb3w.mono HBR.out.size))
            have HBW3 := Lib.hid (HB.out.trans (HBR3.out.mono HB.out.size))
            have HOWN3 := Lib.hid (map_below HOWN2.out hb3w)
            clear hB53 hB63 hb3 hb3w q0 q1'
            cases q3
            · go_wp2
              go_ret
              exact ⟨by rw [← HST.out]; rfl, HBW3.out⟩
            · go_wp2_with fail
              refine (HSG.out _).mono ?_
              rintro e w4 ⟨rfl, hb4⟩
              have hB64 := still_block HB63.out hb4
              have e0 := blk_cell hB64 0
              have e1 := blk_cell hB64 1
              simp only [List.getElem?_toArray, List.getElem?_cons_zero, List.getElem?_cons_succ] at e0 e1
              have hown4 := map_below HOWN3.out hb4
              have HBR4 := Lib.hid (HBR3.out.trans (hb4.mono HBR3.out.size))
              have HBW4 := Lib.hid (HB.out.trans (HBR4.out.mono HB.out.size))
              clear hB64 hb4 m2
              cases q4
              · go_wp2
                go_ret
                exact ⟨by rw [← HST.out]; rfl, HBW4.out⟩
              · go_wp2_with (at_mapUpdate; refine wpList_mapUpdate_own _ rfl _ _ _ _ rfl 65 84 arr_law Try.underlying83 unitElem w.heap.size k D rfl hown4 (by simp only [maxLen]; omega) _ _ (litN (a1, a2)) rfl rfl hkey (.agg []) [] unitElem_mk ?_; intro w5 hown5 hg5)
                have HS5 : Hid (SetA w5 w.heap.size (k + 1) ((l.take (k + 1)).map (·.1))) := Lib.hid (by rw [HTK.out]; exact SetA.put hown5 HM.out HSZ.out k1 k2 HHAS.out)
                have HB5' : Hid (Below w.heap.size w w5) := Lib.hid (HBW4.out.grown hg5 HBW4.out.size (by simp))
                have HT5 : Hid (atsB ((l.take (k + 1)).map (·.1)) (l.drop (k + 1)) = R) := Lib.hid (by rw [HTK.out, ← HST.out]; rfl)
                clear hown5 hg5 hown4
                go_roundw
                case rel => exact ⟨k + 1, by omega, by go_num, HS5, HT5, HB5'⟩
                case measure => simp [intOf]; omega
          · go_wp2_with (at_lookup; refine wpList_lookup_own_unit _ rfl _ _ _ rfl 65 84 arr_law Try.underlying83 (zero_unit _) w.heap.size k D rfl (HOWN2.out.alloc _) _ _ rfl hkey ?_)
            go_wp2
            go_ret
            exact ⟨by rw [← HST.out]; rfl, (HBW2 _ _).out⟩
        · go_wp2_with (at_lookup; refine wpList_lookup_own_unit _ rfl _ _ _ rfl 65 84 arr_law Try.underlying83 (zero_unit _) w.heap.size k D rfl (HOWN2.out.alloc _) _ _ rfl hkey ?_)
          go_wp2
          go_ret
          exact ⟨by rw [← HST.out]; rfl, (HBW2 _ _).out⟩
      · have : k = l.length := by omega
        subst this
        have HRT : Hid (R = true) := Lib.hid (by
          rw [← HT.out, List.drop_length]
          rfl)
        clear HT
        go_wp2
        go_ret
        exact ⟨by rw [HRT.out]; rfl, HB.out⟩
  · have hab : attrsB l = false := by unfold attrsB; rw [decide_eq_false h32]; rfl
    rw [hab]
    have h32' : (32 : Int) < (l.length : Int) := by omega
    clear hz hab h32
    go_enter Try.func45, Try.ntmps45
    go_wp2
    go_ret
    exact ⟨rfl, Below.refl _ _⟩
end Go.Proofs.Ytlcjepnaljfpkaa
namespace Go.Proofs.Ytlcjepnaljfpkaa
open Go.RowKit Wb
theorem drop_atN {l : List Nd} {k : Nat} {x : Nd} (h : l[k]? = some x) : l.drop k = x :: l.drop (k + 1) := by
  obtain ⟨hk, e⟩ := List.getElem?_eq_some_iff.1 h
  rw [List.drop_eq_getElem_cons hk, e]
set_option maxRecDepth 100000 in
set_option maxHeartbeats 8000000 in
theorem right_b (W0 : World) (Cb : Nat) (hCb : W0.heap.size ≤ Cb) (n : Nd) : ∀ (d c : Nat) (A K : Option Addr) (ca ck : Nat) (w : World), szN n → smallN n → c ≤ 2000 → d ≤ 1000 → NodeV W0 n A K → Below W0.heap.size W0 w → w.heap[Cb]? = some (.cells #[.int .i64 (c : Int)] 53 (0, 0)) →
    Calls Try.prog 22 #[.pointer (some ⟨Cb, 0, none⟩), ndV n A ca K ck, .int .i64 (d : Int)] w fun e w' => e = .returned (.bool (rgN n d c).1) ∧ w'.heap[Cb]? = some (.cells #[.int .i64 ((rgN n d c).2 : Int)] 53 (0, 0)) ∧ Below W0.heap.size W0 w' ∧ Keep (fun k => k = Cb) w w' := by
  induction n using Nd.induct with
  | h n ih =>
    intro d c A K ca ck w hsz hsm hc hd hV hB0 hC
    have hCl : Cb < w.heap.size := blk_in hC
    obtain ⟨r1, r2, hr⟩ : ∃ r1 r2, rgN n d c = (r1, r2) := ⟨_, _, rfl⟩
    rw [hr]
    obtain ⟨kd, ⟨sp, lo⟩, al, ks, tx⟩ := n
    have hrg : rgN (.mk kd (sp, lo) al ks tx) d c = if 2000 < c + 1 then (false, c + 1) else if kd ≠ 1 then (txB (.mk kd (sp, lo) al ks tx), c + 1) else if elB (sp, lo) al tx d = false then (false, c + 1) else rgKs ks 0 (d + 1) (c + 1) := by rw [rgN]
    rw [hr] at hrg
    have HRG := Lib.hid hrg
    clear hrg hr
    have hsk := ((smallN_is _).1 hsm).2.2
    have hskl : ks.length ≤ 1000000 := ((smallN_is _).1 hsm).2.1
    have hsal : al.length ≤ 1000000 := ((smallN_is _).1 hsm).1
    unfold ndV ndCells
    simp only [Nd.kind, Nd.name, Nd.attrs, Nd.kids, Nd.text] at *
    have hca : (w.alloc (.cells #[.int .i64 kd, .string sp, .string lo, .slice A al.length ca, .slice K ks.length ck, .string tx] 27)).heap[Cb]? = _ := (Below.heap_alloc w _ _ hCl).trans hC
    have hNb := heap_alloc_new w (.cells #[.int .i64 kd, .string sp, .string lo, .slice A al.length ca, .slice K ks.length ck, .string tx] 27)
    have hka : Keep (fun k => k = Cb) w (w.alloc (.cells #[.int .i64 kd, .string sp, .string lo, .slice A al.length ca, .slice K ks.length ck, .string tx] 27)) := Keep.of_below _ ((Below.refl _ w).alloc (Nat.le_refl _) _)
    have hb0 := hB0.alloc hB0.size (.cells #[.int .i64 kd, .string sp, .string lo, .slice A al.length ca, .slice K ks.length ck, .string tx] 27)
    have HCA := Lib.hid hca
    have HNB := Lib.hid hNb
    have HKA := Lib.hid hka
    have HBA := Lib.hid hb0
    have IH := Lib.hid ih
    have HV := Lib.hid hV
    have HSK := Lib.hid hsk
    have hcb : (0 : Int) ≤ (c : Int) := by omega
    have hcb2 : (c : Int) ≤ 2000 := by omega
    have hdb : (0 : Int) ≤ (d : Int) := by omega
    have hdb2 : (d : Int) ≤ 1000 := by omega
    clear hka hb0 hca hNb hC hB0 ih hV hsk hsm
    go_enter Try.func22, Try.ntmps22
    go_upto_region 1 with fail
    revert HBA; revert HKA; revert HNB; revert HCA
    generalize (w.alloc (.cells #[.int .i64 kd, .string sp, .string lo, .slice A al.length ca, .slice K ks.length ck, .string tx] 27)) = wa
    intro HCA HNB HKA HBA
    generalize hN : w.heap.size = N at *
    have hNC : N ≠ Cb := by omega
    have e0 : wa.cell? ⟨Cb, 0, none⟩ = some (.int .i64 (c : Int)) := blk_cell HCA.out 0
    have f0 : wa.frozen? ⟨Cb, 0, none⟩ = false := blk_free HCA.out 0
    go_upto_region 2 with fail
    have HC1 : Hid ((wa.setCell ⟨Cb, 0, none⟩ (.int .i64 ((c : Int) + 1))).heap[Cb]? = some (.cells #[.int .i64 ((c : Int) + 1)] 53 (0, 0))) := Lib.hid (blk_set HCA.out 0 _)
    have HN1 : Hid ((wa.setCell ⟨Cb, 0, none⟩ (.int .i64 ((c : Int) + 1))).heap[N]? = _) := Lib.hid ((Below.heap_setCell _ _ _ _ hNC).trans HNB.out)
    have HK1 : Hid (Keep (fun k => k = Cb) w (wa.setCell ⟨Cb, 0, none⟩ (.int .i64 ((c : Int) + 1)))) := Lib.hid (HKA.out.setCell (p := ⟨Cb, 0, none⟩) rfl _)
    have HB1 : Hid (Below W0.heap.size W0 (wa.setCell ⟨Cb, 0, none⟩ (.int .i64 ((c : Int) + 1)))) := Lib.hid (HBA.out.setCell (p := ⟨Cb, 0, none⟩) hCb _)
    clear e0 f0 HCA HNB HKA HBA
    revert HB1; revert HK1; revert HN1; revert HC1
    generalize (wa.setCell ⟨Cb, 0, none⟩ (.int .i64 ((c : Int) + 1))) = wb
    intro HC1 HN1 HK1 HB1
    have e0 : wb.cell? ⟨Cb, 0, none⟩ = some (.int .i64 ((c : Int) + 1)) := blk_cell HC1.out 0
    have t0 := blk_cell HN1.out 0
    have t1 := blk_cell HN1.out 1
    have t2 := blk_cell HN1.out 2
    have t3 := blk_cell HN1.out 3
    have t4 := blk_cell HN1.out 4
    have t5 := blk_cell HN1.out 5
    simp only [List.getElem?_toArray, List.getElem?_cons_zero, List.getElem?_cons_succ] at t0 t1 t2 t3 t4 t5
    have hwl : Cb < wb.heap.size := blk_in HC1.out
    have hcast : ((c + 1 : Nat) : Int) = (c : Int) + 1 := by omega
    by_cases h20 : 2000 < c + 1
    · have hR := HRG.out.trans (if_pos h20)
      obtain ⟨rfl, rfl⟩ := Prod.mk.inj hR
      have hcb3 : (2000 : Int) < (c : Int) + 1 := by omega
      clear hR HRG t0 t1 t2 t3 t4 t5
      go_wp2
      go_ret
      exact ⟨rfl, by (try rw [hcast]); exact HC1.out, HB1.out, HK1.out⟩
    · have hR := HRG.out.trans (if_neg h20)
      have hcb3 : ¬ (2000 : Int) < (c : Int) + 1 := by omega
      by_cases hkd : kd = 1
      · subst hkd
        replace hR := hR.trans (if_neg (show ¬ ((1 : Int) ≠ 1) from fun h => h rfl))
        obtain ⟨hsz1, hsz2, hsz3, _, hsz5⟩ := hsz
        have hszk := (szKs_iff ks).1 hsz5
        have hse : tx.toList.isEmpty = eqT tx sE := empty_eq tx
        have hel : elB (sp, lo) al tx d = (decide (d ≤ 24) && (eqT tx sE && (nmB (sp, lo) && attrsB al))) := rfl
        rw [hel] at hR
        have hrn := rname_b (sp, lo) wb hsz1 hsz2
        have HRA := Lib.hid (fun (w2 : World) (h : Below W0.heap.size W0 w2) => rats_b A al ca w2 hsal hsz3 (HV.out.1.below h))
        generalize eqT tx sE = b2 at *
        generalize nmB (sp, lo) = b3 at *
        generalize attrsB al = b4 at *
        have HR := Lib.hid hR
        clear hR hel HRG
        by_cases hd24 : d ≤ 24
        · have hd24' : ¬ (24 : Int) < (d : Int) := by omega
          rw [decide_eq_true hd24, Bool.true_and] at HR
          cases b2
          · obtain ⟨rfl, rfl⟩ := Prod.mk.inj HR.out
            clear HR hrn HRA
            go_wp2
            go_ret
            exact ⟨rfl, by (try rw [hcast]); exact HC1.out, HB1.out, HK1.out⟩
          · go_wp2_with fail
            refine hrn.mono ?_
            rintro e w2 ⟨rfl, hb2⟩
            have hB2 := Lib.hid (HB1.out.trans (hb2.mono HB1.out.size))
            have hN2 := Lib.hid (still_block HN1.out hb2)
            have hC2 := Lib.hid (still_block HC1.out hb2)
            have hK2 := Lib.hid (HK1.out.trans (Keep.of_below _ hb2))
            have a3 := blk_cell hN2.out 3
            simp only [List.getElem?_toArray, List.getElem?_cons_zero, List.getElem?_cons_succ] at a3
            clear t0 t1 t2 t3 t4 t5 e0 hb2 hrn HN1 HC1 HK1 HB1
            cases b3
            · obtain ⟨rfl, rfl⟩ := Prod.mk.inj HR.out
              clear HR HRA
              go_wp2
              go_ret
              exact ⟨rfl, by (try rw [hcast]); exact hC2.out, hB2.out, hK2.out⟩
            · go_wp2_with fail
              refine (HRA.out _ hB2.out).mono ?_
              rintro e w3 ⟨rfl, hb3⟩
              have hB3 := Lib.hid (hB2.out.trans (hb3.mono hB2.out.size))
              have hN3 := Lib.hid (still_block hN2.out hb3)
              have hC3 := Lib.hid (still_block hC2.out hb3)
              have hK3 := Lib.hid (hK2.out.trans (Keep.of_below _ hb3))
              have b4' := blk_cell hN3.out 4
              simp only [List.getElem?_toArray, List.getElem?_cons_zero, List.getElem?_cons_succ] at b4'
              clear a3 hb3 hN2 hC2 hK2 hB2 HRA
              cases b4
              · obtain ⟨rfl, rfl⟩ := Prod.mk.inj HR.out
                clear HR
                go_wp2
                go_ret
                exact ⟨rfl, by (try rw [hcast]); exact hC3.out, hB3.out, hK3.out⟩
              · have HRK : Hid ((r1, r2) = rgKs ks 0 (d + 1) (c + 1)) := Lib.hid (HR.out.trans (if_neg (by simp)))
                have HSZ := Lib.hid hszk
                have HVK := Lib.hid HV.out.2
                clear HR hszk hsz1 hsz2 hsz3 hsz5 HV hse
                go_wp2
                go_loopw [7, 46] (fun va vi wr => ∃ (i : Nat) (la : Int) (ci : Nat), i ≤ ks.length ∧ vi = .int .i64 i ∧ va = .int .i64 la ∧ ci ≤ 2000 ∧ Hid ((r1, r2) = rgKs (ks.drop i) la (d + 1) ci) ∧ Hid (wr.heap[Cb]? = some (.cells #[.int .i64 (ci : Int)] 53 (0, 0))) ∧ Hid (Below W0.heap.size W0 wr) ∧ Hid (Keep (fun k => k = Cb) w wr)) (fun _ vi _ => ((ks.length : Int) - intOf vi).toNat)
                case atStart => exact ⟨0, 0, c + 1, by omega, rfl, rfl, by omega, HRK, Lib.hid (by rw [hC3.out, hcast]), hB3, hK3⟩
                case round =>
                  obtain ⟨i, la, ci, hi, rfl, rfl, hci, HRr, HCr, HBr, HKr⟩ := hrel
                  by_cases h0 : i < ks.length
                  · obtain ⟨x, he⟩ : ∃ x, ks[i]? = some x := ⟨ks[i], List.getElem?_eq_getElem h0⟩
                    obtain ⟨ad, A1, ca1, K1, ck1, rfl, had, d0, d1, d2, d3, d4, d5, hA1, hK1⟩ := HVK.out.at_ he
                    have cell : ∀ j o, W0.cell? ⟨(ad.add (i * 6)).block, o, none⟩ = j → wr.cell? ⟨(ad.add (i * 6)).block, o, none⟩ = j := fun j o h => (HBr.out.cell (by rw [add_block]; exact had)).trans h
                    have d0' : wr.cell? (ad.add (i * 6)) = _ := (HBr.out.cell (by rw [add_block]; exact had)).trans d0
                    have d1' := cell _ _ d1
                    have d2' := cell _ _ d2
                    have d3' := cell _ _ d3
                    have d4' := cell _ _ d4
                    have d5' := cell _ _ d5
                    have hmem := List.mem_of_getElem? he
                    have hCrl : Cb < wr.heap.size := blk_in HCr.out
                    have hIH := IH.out x hmem (d + 1) ci A1 K1 ca1 ck1 (wr.alloc (.cells (ndCells x.kind x.name A1 x.attrs.length ca1 K1 x.kids.length ck1 x.text).toArray 27)) (HSZ.out x hmem) (HSK.out x hmem) hci (by omega) ⟨hA1, hK1⟩ (HBr.out.alloc HBr.out.size _) ((Below.heap_alloc wr _ _ hCrl).trans HCr.out)
                    have hgi := rg_iff x (d + 1) ci
                    have hst := HRr.out
                    rw [drop_atN he, rgKs_cons] at hst
                    have HST := Lib.hid hst
                    have HCa := Lib.hid ((Below.heap_alloc wr (.cells (ndCells x.kind x.name A1 x.attrs.length ca1 K1 x.kids.length ck1 x.text).toArray 27) _ hCrl).trans HCr.out)
                    have HBa := Lib.hid (HBr.out.alloc HBr.out.size (.cells (ndCells x.kind x.name A1 x.attrs.length ca1 K1 x.kids.length ck1 x.text).toArray 27))
                    have HKa : Hid (Keep (fun k => k = Cb) w (wr.alloc (.cells (ndCells x.kind x.name A1 x.attrs.length ca1 K1 x.kids.length ck1 x.text).toArray 27))) := Lib.hid (HKr.out.trans (Keep.of_below _ ((Below.refl _ wr).alloc (Nat.le_refl _) _)))
                    have HW := Lib.hid (heap_alloc_new wr (.cells (ndCells x.kind x.name A1 x.attrs.length ca1 K1 x.kids.length ck1 x.text).toArray 27))
                    unfold ndV ndCells at hIH
                    unfold ndCells at HW HCa HBa HKa
                    have hNk : wr.heap.size ≠ Cb := by omega
                    obtain ⟨g1, g2, hg⟩ : ∃ g1 g2, rgN x (d + 1) ci = (g1, g2) := ⟨_, _, rfl⟩
                    rw [hg] at hIH hgi HST
                    simp only at hIH hgi
                    have HGI := Lib.hid (fun h : g1 = true => (⟨hgi.2 h, (hgi.1.1 h).2⟩ : g2 = ci + costN x ∧ ci + costN x ≤ 2000))
                    clear d0 d1 d2 d3 d4 d5 cell had hA1 hK1 he hst hmem hg hgi HRr
                    by_cases hl2 : la = 2
                    · subst hl2
                      by_cases hx2 : x.kind = 2
                      · rw [if_pos ⟨rfl, hx2⟩] at HST
                        obtain ⟨rfl, rfl⟩ := Prod.mk.inj HST.out
                        rw [hx2] at d0'
                        rw [hx2] at HCa HBa HKa
                        clear hIH HST HGI HW
                        go_wp2
                        go_ret
                        exact ⟨rfl, HCa.out, HBa.out, HKa.out⟩
                      · rw [if_neg (fun h => hx2 h.2)] at HST
                        have hkx : (x.kind == 2) = false := by simpa using hx2
                        cases g1
                        · rw [if_neg (by simp)] at HST
                          obtain ⟨rfl, rfl⟩ := Prod.mk.inj HST.out
                          clear HST HGI
                          go_wp2_with fail
                          refine hIH.mono ?_
                          rintro e w4 ⟨rfl, hc4, hb4, hk4⟩
                          have HK4 := Lib.hid (HKa.out.trans hk4)
                          have HC4 := Lib.hid hc4
                          have HB4 := Lib.hid hb4
                          clear hIH hc4 hb4 hk4 d0' d1' d2' d3' d4' d5'
                          go_wp2
                          go_ret
                          exact ⟨rfl, HC4.out, HB4.out, HK4.out⟩
                        · rw [if_pos rfl] at HST
                          go_wp2_with fail
                          refine hIH.mono ?_
                          rintro e w4 ⟨rfl, hc4, hb4, hk4⟩
                          have hw4 := (hk4.block _ (blk_in HW.out) hNk).trans HW.out
                          have g0 := blk_cell hw4 0
                          simp only [List.getElem?_toArray, List.getElem?_cons_zero] at g0
                          have HC4 := Lib.hid hc4
                          have HB4 := Lib.hid hb4
                          have HK4 := Lib.hid (HKa.out.trans hk4)
                          have HG2 : Hid (g2 ≤ 2000) := Lib.hid (by obtain ⟨q1, q2⟩ := HGI.out (by trivial); omega)
                          clear hc4 hb4 hk4 hw4 hIH d0' d1' d2' d3' d4' d5' HGI
                          go_wp2
                          go_roundw
                          case rel => exact ⟨i + 1, x.kind, g2, by omega, by go_num, rfl, HG2.out, HST, HC4, HB4, HK4⟩
                          case measure => simp [intOf]; omega
                    · have hlf : (la == 2) = false := by simpa using hl2
                      rw [if_neg (fun h => hl2 h.1)] at HST
                      cases g1
                      · rw [if_neg (by simp)] at HST
                        obtain ⟨rfl, rfl⟩ := Prod.mk.inj HST.out
                        clear HST HGI
                        go_wp2_with fail
                        refine hIH.mono ?_
                        rintro e w4 ⟨rfl, hc4, hb4, hk4⟩
                        have HK4 := Lib.hid (HKa.out.trans hk4)
                        have HC4 := Lib.hid hc4
                        have HB4 := Lib.hid hb4
                        clear hIH hc4 hb4 hk4 d0' d1' d2' d3' d4' d5'
                        go_wp2
                        go_ret
                        exact ⟨rfl, HC4.out, HB4.out, HK4.out⟩
                      · rw [if_pos rfl] at HST
                        go_wp2_with fail
                        refine hIH.mono ?_
                        rintro e w4 ⟨rfl, hc4, hb4, hk4⟩
                        have hw4 := (hk4.block _ (blk_in HW.out) hNk).trans HW.out
                        have g0 := blk_cell hw4 0
                        simp only [List.getElem?_toArray, List.getElem?_cons_zero] at g0
                        have HC4 := Lib.hid hc4
                        have HB4 := Lib.hid hb4
                        have HK4 := Lib.hid (HKa.out.trans hk4)
                        have HG2 : Hid (g2 ≤ 2000) := Lib.hid (by obtain ⟨q1, q2⟩ := HGI.out (by trivial); omega)
                        clear hc4 hb4 hk4 hw4 hIH d0' d1' d2' d3' d4' d5' HGI
                        go_wp2
                        go_roundw
                        case rel => exact ⟨i + 1, x.kind, g2, by omega, by go_num, rfl, HG2.out, HST, HC4, HB4, HK4⟩
                        case measure => simp [intOf]; omega
                  · have : i = ks.length := by omega
                    subst this
                    have hfin := HRr.out
                    rw [List.drop_length] at hfin
                    rw [show rgKs [] la (d + 1) ci = (true, ci) from rfl] at hfin
                    obtain ⟨rfl, rfl⟩ := Prod.mk.inj hfin
                    clear hfin HRr
                    go_wp2
                    go_ret
                    exact ⟨rfl, HCr.out, HBr.out, HKr.out⟩
        · have hd24' : (24 : Int) < (d : Int) := by omega
          rw [decide_eq_false hd24, Bool.false_and, if_pos rfl] at HR
          obtain ⟨rfl, rfl⟩ := Prod.mk.inj HR.out
          clear HR hrn HRA
          go_wp2
          go_ret
          exact ⟨rfl, by (try rw [hcast]); exact HC1.out, HB1.out, HK1.out⟩
      · have hkf : (kd == 1) = false := by simpa using hkd
        replace hR := hR.trans (if_pos hkd)
        obtain ⟨rfl, rfl⟩ := Prod.mk.inj hR
        have htx := rtext_b (.mk kd (sp, lo) al ks tx) A K ca ck wb hsz.2.2.2.1 hsal hskl
        unfold ndV ndCells at htx
        simp only [Nd.kind, Nd.name, Nd.attrs, Nd.kids, Nd.text] at htx
        obtain ⟨bt, hbt⟩ : ∃ bt, txB (.mk kd (sp, lo) al ks tx) = bt := ⟨_, rfl⟩
        rw [hbt] at htx
        have HBT := Lib.hid hbt
        clear hbt
        clear hsz IH HV HRG hR
        go_wp2_with fail
        refine htx.mono ?_
        rintro e w3 ⟨rfl, hb3⟩
        go_wp2
        go_ret
        refine ⟨by rw [HBT.out]; rfl, ?_, HB1.out.trans (hb3.mono HB1.out.size), HK1.out.trans (Keep.of_below _ hb3)⟩
        (try rw [hcast])
        exact (hb3.block _ hwl).trans HC1.out
theorem Right_b (n : Nd) (A K : Option Addr) (ca ck : Nat) (w : World) (hsz : szN n) (hsm : smallN n) (hV : NodeV w n A K) :
    Calls Try.prog 7 #[ndV n A ca K ck] w fun e w' => e = .returned (.bool (rightB n)) ∧ Below w.heap.size w w' := by
  by_cases hk : n.kind = 1
  · have hb2 : Below w.heap.size w ((w.alloc (.cells (ndCells n.kind n.name A n.attrs.length ca K n.kids.length ck n.text).toArray 27)).alloc (.cells #[.int .i64 0] 53)) := ((Below.refl _ w).alloc (Nat.le_refl _) _).alloc (by simp) _
    have hcb : ((w.alloc (.cells (ndCells n.kind n.name A n.attrs.length ca K n.kids.length ck n.text).toArray 27)).alloc (.cells #[.int .i64 0] 53)).heap[w.heap.size + 1]? = some (.cells #[.int .i64 ((0 : Nat) : Int)] 53 (0, 0)) := by
      have := heap_alloc_new (w.alloc (.cells (ndCells n.kind n.name A n.attrs.length ca K n.kids.length ck n.text).toArray 27)) (.cells #[.int .i64 0] 53)
      simpa using this
    have hr := right_b w (w.heap.size + 1) (by omega) n 1 0 A K ca ck _ hsz hsm (by omega) (by omega) hV hb2 hcb
    have hrb : rightB n = (rgN n 1 0).1 := by unfold rightB; rw [decide_eq_true hk, Bool.true_and]
    rw [hrb]
    generalize (rgN n 1 0).1 = b at *
    generalize (rgN n 1 0).2 = c2 at *
    obtain ⟨kd, ⟨sp, lo⟩, al, ks, tx⟩ := n
    simp only [Nd.kind] at hk
    subst hk
    unfold ndV ndCells at hr ⊢
    simp only [Nd.kind, Nd.name, Nd.attrs, Nd.kids, Nd.text] at hr ⊢
    clear hb2 hcb hV hsz hsm hrb
    go_enter Try.func7, Try.ntmps7
    go_wp2_with fail
    refine hr.mono ?_
    rintro e w3 ⟨rfl, _, hb3, _⟩
    go_wp2
    go_ret
    exact ⟨rfl, hb3⟩
  · have hrb : rightB n = false := by unfold rightB; rw [decide_eq_false hk, Bool.false_and]
    rw [hrb]
    obtain ⟨kd, ⟨sp, lo⟩, al, ks, tx⟩ := n
    simp only [Nd.kind] at hk
    have hkf : (kd == 1) = false := by simpa using hk
    unfold ndV ndCells
    simp only [Nd.kind, Nd.name, Nd.attrs, Nd.kids, Nd.text]
    clear hV hsz hsm hrb hk
    go_enter Try.func7, Try.ntmps7
    go_wp2
    go_ret
    exact ⟨rfl, ((Below.refl _ w).alloc (Nat.le_refl _) _).alloc (by simp) _⟩
end Go.Proofs.Ytlcjepnaljfpkaa
namespace Wb
def cntA (x : Tr) (l : List Tr) : Nat := l.countP fun y => decide (y = x)
theorem cntA_cons (x y : Tr) (l : List Tr) : cntA x (y :: l) = cntA x l + if y = x then 1 else 0 := by
  unfold cntA
  rw [List.countP_cons]
  simp
theorem cntA_perm {a b : List Tr} (h : a.Perm b) (x : Tr) : cntA x a = cntA x b := h.countP_eq _
def permA (a b : List Tr) : Bool := decide (a.length = b.length) && b.all fun x => decide (cntA x b ≤ cntA x a)
theorem perm_of_le : ∀ (b a : List Tr), a.length = b.length → (∀ x ∈ b, cntA x b ≤ cntA x a) → a.Perm b
  | [], a, hl, _ => by
    have : a = [] := List.eq_nil_of_length_eq_zero (by simpa using hl)
    rw [this]
  | x :: b, a, hl, h => by
    have hx := h x (by simp)
    rw [cntA_cons, if_pos rfl] at hx
    have hm : x ∈ a := by
      have : 0 < cntA x a := by omega
      obtain ⟨y, hy, e⟩ := List.countP_pos_iff.1 this
      rw [← of_decide_eq_true e]; exact hy
    obtain ⟨s, t, rfl⟩ := List.append_of_mem hm
    have hp : (s ++ x :: t).Perm (x :: (s ++ t)) := List.perm_middle
    refine hp.trans (List.Perm.cons x (perm_of_le b (s ++ t) ?_ fun y hy => ?_))
    · have := hp.length_eq
      simp only [List.length_cons] at this hl
      omega
    · have h1 := h y (by simp [hy])
      rw [cntA_perm hp y, cntA_cons, cntA_cons] at h1
      omega
theorem permA_iff (a b : List Tr) : permA a b = true ↔ a.Perm b := by
  unfold permA
  rw [Bool.and_eq_true, decide_eq_true_eq, List.all_eq_true]
  constructor
  · rintro ⟨h1, h2⟩
    exact perm_of_le b a h1 (fun x hx => of_decide_eq_true (h2 x hx))
  · intro h
    exact ⟨h.length_eq, fun x _ => decide_eq_true (by rw [cntA_perm h x]; exact Nat.le_refl _)⟩
mutual
def sameN : Nd → Nd → Bool
  | .mk k n asz ks t, b => decide (k = b.kind) && eqP n b.name && eqT t b.text && permA asz b.attrs && sameKs ks b.kids
def sameKs : List Nd → List Nd → Bool
  | [], l => l.isEmpty
  | k :: ks, l => match l with
    | [] => false
    | j :: js => sameN k j && sameKs ks js
end
theorem sameN_is (a b : Nd) : sameN a b = (decide (a.kind = b.kind) && eqP a.name b.name && eqT a.text b.text && permA a.attrs b.attrs && sameKs a.kids b.kids) := by
  cases a; rfl
theorem sameKs_iff : ∀ (a b : List Nd), sameKs a b = true ↔ a.length = b.length ∧ ∀ (i : Nat) (x y : Nd), a[i]? = some x → b[i]? = some y → sameN x y = true
  | [], b => by
    unfold sameKs
    cases b <;> simp
  | k :: ks, [] => by
    unfold sameKs
    simp
  | k :: ks, j :: js => by
    unfold sameKs
    rw [Bool.and_eq_true, sameKs_iff ks js]
    constructor
    · rintro ⟨h1, h2, h3⟩
      refine ⟨by simp [h2], fun i x y hx hy => ?_⟩
      cases i with
      | zero =>
        simp only [List.getElem?_cons_zero, Option.some.injEq] at hx hy
        subst hx hy
        exact h1
      | succ i => exact h3 i x y (by simpa using hx) (by simpa using hy)
    · rintro ⟨h1, h2⟩
      exact ⟨h2 0 k j rfl rfl, by simpa using h1, fun i x y hx hy => h2 (i + 1) x y (by simpa using hx) (by simpa using hy)⟩
theorem sameN_iff (a b : Nd) : sameN a b = true ↔ a.kind = b.kind ∧ a.name = b.name ∧ a.text = b.text ∧ a.attrs.Perm b.attrs ∧ a.kids.length = b.kids.length ∧ ∀ (i : Nat) (x y : Nd), a.kids[i]? = some x → b.kids[i]? = some y → sameN x y = true := by
  rw [sameN_is]
  simp only [Bool.and_eq_true, decide_eq_true_eq]
  rw [eqP_iff, eqT_iff, permA_iff, sameKs_iff]
  constructor
  · rintro ⟨⟨⟨⟨h1, h2⟩, h3⟩, h4⟩, h5, h6⟩; exact ⟨h1, h2, h3, h4, h5, h6⟩
  · rintro ⟨h1, h2, h3, h4, h5, h6⟩; exact ⟨⟨⟨⟨h1, h2⟩, h3⟩, h4⟩, h5, h6⟩
theorem sameN_refl (a : Nd) : sameN a a = true := by
  induction a using Nd.induct with
  | h a ih =>
    rw [sameN_iff]
    refine ⟨rfl, rfl, rfl, List.Perm.refl _, rfl, fun i x y hx hy => ?_⟩
    rw [hx] at hy
    simp only [Option.some.injEq] at hy
    subst hy
    exact ih x (List.mem_of_getElem? hx)
end Wb
namespace Wb
theorem cntA_take {l : List Tr} {k : Nat} {y : Tr} (h : l[k]? = some y) (x : Tr) : cntA x (l.take (k + 1)) = cntA x (l.take k) + if y = x then 1 else 0 := by
  rw [List.take_add_one, h]
  unfold cntA
  rw [List.countP_append]
  simp
end Wb
namespace Wb
open Go Go.Maps Go.MapKept Go.ChangeMaps Go.WideElems Go.WideMaps
end Wb
namespace Go.Proofs.Ytlcjepnaljfpkaa
open Go.RowKit Wb Go.Maps
end Go.Proofs.Ytlcjepnaljfpkaa
