/- TrTe. -/
import Derived.Test.YtlcjepnaljfpkaaGreatDoorQp46
namespace Wb
theorem atsB_drop {l : List Tr} {k : Nat} {x : Tr} (seen : List Pr) (h : l[k]? = some x) : atsB seen (l.drop k) = (atB seen x && atsB (seen ++ [x.1]) (l.drop (k + 1))) := by
  obtain ⟨hk, e⟩ := List.getElem?_eq_some_iff.1 h
  rw [List.drop_eq_getElem_cons hk, e, atsB]
end Wb
namespace Go.Proofs.YtlcjepnaljfpkaaGreatDoor
open Go.RowKit Wb Go.Maps
set_option maxRecDepth 100000 in
set_option maxHeartbeats 8000000 in
theorem rats_b (A : Option Addr) (l : List Tr) (c : Nat) (w : World) (hll : l.length ≤ 1000000) (hz : AtsSz l) (hA : Sl3 w A l) :
    Calls Tryz.prog 86 #[.slice A l.length c] w fun e w' => e = .returned (.bool (attrsB l)) ∧ Below w.heap.size w w' := by
  by_cases h32 : l.length ≤ 32
  · obtain ⟨R, hR⟩ : ∃ R, atsB [] l = R := ⟨_, rfl⟩
    have hab : attrsB l = R := by unfold attrsB; rw [decide_eq_true h32, hR]; rfl
    rw [hab]
    have hmm := @run_makeMap Tryz.prog
    have h32' : ¬ (32 : Int) < (l.length : Int) := by omega
    have HR := Lib.hid hR
    have HZ := Lib.hid hz
    clear hz hR hab
    go_enter Tryz.func86, Tryz.ntmps86
    go_wp2
    go_loopw [15] (fun vi wr => ∃ k : Nat, k ≤ l.length ∧ vi = .int .i64 k ∧ Hid (SetA wr w.heap.size k ((l.take k).map (·.1))) ∧ Hid (atsB ((l.take k).map (·.1)) (l.drop k) = R) ∧ Hid (Below w.heap.size w wr)) (fun vi _ => ((l.length : Int) - intOf vi).toNat)
    case atStart => exact ⟨0, by omega, rfl, Lib.hid (SetA.made w), Lib.hid (by simpa using HR.out), Lib.hid ((Below.refl _ _).alloc (Nat.le_refl _) _)⟩
    case round =>
      obtain ⟨k, hk, rfl, HS, HT, HB⟩ := hrel
      by_cases h0 : k < l.length
      · obtain ⟨⟨⟨a1, a2⟩, a3⟩, he⟩ : ∃ x, l[k]? = some x := ⟨l[k], List.getElem?_eq_getElem h0⟩
        obtain ⟨ad, rfl, had, c1, c2, c3⟩ := (hA.below HB.out).at_ he
        simp only at c1 c2 c3
        have hmem := List.mem_of_getElem? he
        obtain ⟨z1, z2, z3⟩ := HZ.out _ hmem
        simp only at z1 z2 z3
        have k1 : a1.size ≤ maxLen := by simp only [maxLen]; omega
        have k2 : a2.size ≤ maxLen := by simp only [maxLen]; omega
        have htk : (l.take (k + 1)).map (·.1) = (l.take k).map (·.1) ++ [(a1, a2)] := by
          rw [List.take_add_one, he]; simp
        have hst := HT.out
        rw [atsB_drop _ he] at hst
        have hatb : atB ((l.take k).map (·.1)) ((a1, a2), a3) = (!(((l.take k).map (·.1)).any (fun y => eqP y (a1, a2))) && (!(eqP (a1, a2) (sE, sXmlns)) && (nmB (a1, a2) && sgB a3))) := rfl
        rw [hatb] at hst
        have HST := Lib.hid hst
        obtain ⟨D, hown, hsz, hhas⟩ := HS.out
        have hkey := arr_key (a1, a2) k1 k2
        have hhf : has D (litN (a1, a2)) = (((l.take k).map (·.1)).any (fun y => eqP y (a1, a2))) := hhas (a1, a2) k1 k2
        have HHAS := Lib.hid hhas
        have HSZ := Lib.hid hsz
        have HM := Lib.hid hown.isMap
        have HTK := Lib.hid htk
        have heq := fun w2 => eq_arr a1 a2 ⟨#[]⟩ ⟨#[120, 109, 108, 110, 115]⟩ w2
        have hne : (a1.toList == (⟨#[]⟩ : ByteArray).toList && a2.toList == (⟨#[120, 109, 108, 110, 115]⟩ : ByteArray).toList) = eqP (a1, a2) (sE, sXmlns) := rfl
        rw [hne] at heq
        have HKY := Lib.hid (fun w2 => key_any a1 a2 w2)
        have HNM := Lib.hid (fun w2 => rname_b (a1, a2) w2 z1 z2)
        have HSG := Lib.hid (fun w2 => signs_b a3 w2 z3)
        clear hne hhas hsz htk hmem had hatb hst HT
        generalize hq1 : (((l.take k).map (·.1)).any (fun y => eqP y (a1, a2))) = q1 at *
        generalize hq2 : eqP (a1, a2) (sE, sXmlns) = q2 at *
        generalize hq3 : nmB (a1, a2) = q3 at *
        generalize hq4 : sgB a3 = q4 at *
        clear he
        go_wp2_with fail
        refine (HKY.out _).mono ?_
        rintro e w2 ⟨rfl, hb2⟩
        have hba : Below wr.heap.size wr (wr.alloc (.cells #[.string a1, .string a2, .string a3] 66)) := (Below.refl _ wr).alloc (Nat.le_refl _) _
        have hbr : Below wr.heap.size wr w2 := hba.trans (hb2.mono (by simp))
        have hown2 := map_below hown hbr
        have hB5 := still_block (heap_alloc_new wr (.cells #[.string a1, .string a2, .string a3] 66)) hb2
        have h5l : wr.heap.size < w2.heap.size := blk_in hB5
        have n0 := blk_cell hB5 0
        have n1 := blk_cell hB5 1
        simp only [List.getElem?_toArray, List.getElem?_cons_zero, List.getElem?_cons_succ] at n0 n1
        have q : ∀ o o2 j, ((w2.alloc o).alloc o2).cell? ⟨wr.heap.size, j, none⟩ = w2.cell? ⟨wr.heap.size, j, none⟩ := fun o o2 j =>
          World.cell?_of_block (w := w2) ((Below.heap_alloc (w2.alloc o) o2 _ (by simp; omega)).trans (Below.heap_alloc w2 o _ h5l))
        have q0 : ∀ o o2, ((w2.alloc o).alloc o2).cell? ⟨wr.heap.size, 0, none⟩ = _ := fun o o2 => (q o o2 0).trans n0
        have q1' : ∀ o o2, ((w2.alloc o).alloc o2).cell? ⟨wr.heap.size, 1, none⟩ = _ := fun o o2 => (q o o2 1).trans n1
        have HB5 := Lib.hid hB5
        have HOWN2 := Lib.hid hown2
        have HBR := Lib.hid hbr
        have HBW2 : ∀ o o2, Hid (Below w.heap.size w ((w2.alloc o).alloc o2)) := fun o o2 => Lib.hid (((HB.out.trans (hbr.mono HB.out.size)).alloc (Nat.le_trans HB.out.size hbr.size) o).alloc (by have := HB.out.size; have := hbr.size; simp; omega) o2)
        clear hB5 n0 n1 q hb2 hba hown hbr
        cases q1
        · cases q2
          · go_wp2_with (at_lookup; refine wpList_lookup_own_unit _ rfl _ _ _ rfl 153 156 arr_law Tryz.underlying155 (zero_unit _) w.heap.size k D rfl (HOWN2.out.alloc _) _ _ rfl hkey ?_)
            refine (HNM.out _).mono ?_
            rintro e w3 ⟨rfl, hb3⟩
            have hb3w : Below w2.heap.size w2 w3 := (((Below.refl _ w2).alloc (Nat.le_refl _) (.cells #[.string a1, .string a2] 153)).alloc (by simp) (.cells #[] 156)).trans (hb3.mono (by simp; omega))
            have hB53 := still_block HB5.out hb3w
            have hB63 : w3.heap[w2.heap.size]? = some (.cells #[.string a1, .string a2] 153 (0, 0)) := by
              rw [hb3.block _ (by simp; omega), Below.heap_alloc _ _ _ (by simp)]
              exact heap_alloc_new w2 (.cells #[.string a1, .string a2] 153)
            have m2 := blk_cell hB53 2
            simp only [List.getElem?_toArray, List.getElem?_cons_zero, List.getElem?_cons_succ] at m2
            have HB63 := Lib.hid hB63
            have HBR3 := Lib.hid (HBR.out.trans (hb3w.mono HBR.out.size))
            have HBW3 := Lib.hid (HB.out.trans (HBR3.out.mono HB.out.size))
            have HOWN3 := Lib.hid (map_below HOWN2.out hb3w)
            clear hB53 hB63 hb3 hb3w q0 q1'
            cases q3
            · go_wp2
              go_ret
              exact ⟨by rw [← HST.out]; rfl, HBW3.out⟩
            · go_wp2_with fail
              refine (HSG.out _).mono ?_
              rintro e w4 ⟨rfl, hb4⟩
              have hB64 := still_block HB63.out hb4
              have e0 := blk_cell hB64 0
              have e1 := blk_cell hB64 1
              simp only [List.getElem?_toArray, List.getElem?_cons_zero, List.getElem?_cons_succ] at e0 e1
              have hown4 := map_below HOWN3.out hb4
              have HBR4 := Lib.hid (HBR3.out.trans (hb4.mono HBR3.out.size))
              have HBW4 := Lib.hid (HB.out.trans (HBR4.out.mono HB.out.size))
              clear hB64 hb4 m2
              cases q4
              · go_wp2
                go_ret
                exact ⟨by rw [← HST.out]; rfl, HBW4.out⟩
              · go_wp2_with (at_mapUpdate; refine wpList_mapUpdate_own _ rfl _ _ _ _ rfl 153 156 arr_law Tryz.underlying155 unitElem w.heap.size k D rfl hown4 (by simp only [maxLen]; omega) _ _ (litN (a1, a2)) rfl rfl hkey (.agg []) [] unitElem_mk ?_; intro w5 hown5 hg5)
                have HS5 : Hid (SetA w5 w.heap.size (k + 1) ((l.take (k + 1)).map (·.1))) := Lib.hid (by rw [HTK.out]; exact SetA.put hown5 HM.out HSZ.out k1 k2 HHAS.out)
                have HB5' : Hid (Below w.heap.size w w5) := Lib.hid (HBW4.out.grown hg5 HBW4.out.size (by simp))
                have HT5 : Hid (atsB ((l.take (k + 1)).map (·.1)) (l.drop (k + 1)) = R) := Lib.hid (by rw [HTK.out, ← HST.out]; rfl)
                clear hown5 hg5 hown4
                go_roundw
                case rel => exact ⟨k + 1, by omega, by go_num, HS5, HT5, HB5'⟩
                case measure => simp [intOf]; omega
          · go_wp2_with (at_lookup; refine wpList_lookup_own_unit _ rfl _ _ _ rfl 153 156 arr_law Tryz.underlying155 (zero_unit _) w.heap.size k D rfl (HOWN2.out.alloc _) _ _ rfl hkey ?_)
            go_wp2
            go_ret
            exact ⟨by rw [← HST.out]; rfl, (HBW2 _ _).out⟩
        · go_wp2_with (at_lookup; refine wpList_lookup_own_unit _ rfl _ _ _ rfl 153 156 arr_law Tryz.underlying155 (zero_unit _) w.heap.size k D rfl (HOWN2.out.alloc _) _ _ rfl hkey ?_)
          go_wp2
          go_ret
          exact ⟨by rw [← HST.out]; rfl, (HBW2 _ _).out⟩
      · have : k = l.length := by omega
        subst this
        have HRT : Hid (R = true) := Lib.hid (by
          rw [← HT.out, List.drop_length]
          rfl)
        clear HT
        go_wp2
        go_ret
        exact ⟨by rw [HRT.out]; rfl, HB.out⟩
  · have hab : attrsB l = false := by unfold attrsB; rw [decide_eq_false h32]; rfl
    rw [hab]
    have h32' : (32 : Int) < (l.length : Int) := by omega
    clear hz hab h32
    go_enter Tryz.func86, Tryz.ntmps86
    go_wp2
    go_ret
    exact ⟨rfl, Below.refl _ _⟩
end Go.Proofs.YtlcjepnaljfpkaaGreatDoor
