/- TrTb. -/
import Derived.Test.YtlcjepnaljfpkaaGreatDoorQp22
import Derived.Test.YtlcjepnaljfpkaaGreatDoorQp31
namespace Go.Proofs.YtlcjepnaljfpkaaGreatDoor
open Go.RowKit Wb Go.Maps
theorem arr_row : (153 : TypeId) < Tryz.prog.types.size := of_decide_eq_true (by kernel_rfl)
theorem arr_wide : (match Tryz.prog.underlying 153 with | some (.array _ _) | some (.struct _) => true | _ => false) = true := by kernel_rfl
set_option maxRecDepth 1000000 in
theorem arr_law : Keyed Tryz.prog 153 := Keyed.of_law (deep_law_laid laidOut (m := 3) (by omega) arr_row (by kernel_rfl) arr_wide)
theorem arr_kt : Tryz.prog.keyType 153 = true := by kernel_rfl
theorem arr_cells : Tryz.prog.cellsOf 153 = 2 := by kernel_rfl
theorem arr_key (x : Pr) (h1 : x.1.size ≤ maxLen) (h2 : x.2.size ≤ maxLen) : keyOf Tryz.prog 153 (.agg #[.string x.1, .string x.2]) = some (litN x) := by
  have hf : (Value.agg #[.string x.1, .string x.2]).formed Tryz.prog 153 = true := by
    simp [Value.formed, Tryz.underlying153, arr_cells]
  unfold keyOf
  rw [Tryz.underlying153]
  simp only [arr_kt, hf, Bool.and_self, if_true]
  obtain ⟨m, hm⟩ : ∃ m, Tryz.prog.types.size + 1 = m + 2 := ⟨Tryz.prog.types.size - 1, by have := many_types; omega⟩
  rw [hm]
  unfold Program.keyLits
  rw [Tryz.underlying153]
  simp [Value.cells, arr_cells, str_cells, key_str _ _ h1, key_str _ _ h2, litN, show List.range 2 = [0, 1] from rfl]
def SetA (w : World) (b n : Nat) (l : List Pr) : Prop :=
  ∃ D : DataW Unit, w.ownsMap Tryz.prog 153 unitElem b n D ∧ (∀ y ∈ l, y.1.size ≤ maxLen ∧ y.2.size ≤ maxLen) ∧
    ∀ x : Pr, x.1.size ≤ maxLen → x.2.size ≤ maxLen → Maps.has D (litN x) = l.any (fun y => eqP y x)
theorem SetA.made (w : World) : SetA (w.alloc (.map #[] 0)) w.heap.size 0 [] :=
  ⟨.map [], World.ownsMap_made _ _ _ _, by simp, fun x _ _ => by simp [has_eq]⟩
theorem SetA.put {w : World} {b n : Nat} {l : List Pr} {D : DataW Unit} {x : Pr} (hown : w.ownsMap Tryz.prog 153 unitElem b n (D.put (litN x) (.agg []))) (hD : IsMap D)
    (hsz : ∀ y ∈ l, y.1.size ≤ maxLen ∧ y.2.size ≤ maxLen) (h1 : x.1.size ≤ maxLen) (h2 : x.2.size ≤ maxLen)
    (hhas : ∀ x : Pr, x.1.size ≤ maxLen → x.2.size ≤ maxLen → Maps.has D (litN x) = l.any (fun y => eqP y x)) : SetA w b n (l ++ [x]) := by
  refine ⟨_, hown, ?_, fun y k1 k2 => ?_⟩
  · intro y hy
    rcases List.mem_append.1 hy with h | h
    · exact hsz y h
    · rw [List.mem_singleton.1 h]; exact ⟨h1, h2⟩
  · rw [List.any_append, ← hhas y k1 k2]
    by_cases e : y = x
    · subst e
      rw [has_put_same hD (show WideAt.IsKeyLit (litN y) from trivial), List.any_cons, (eqP_iff y y).2 rfl]
      simp
    · rw [has_put_other (fun h => e (litN_inj k1 k2 h1 h2 h))]
      have : eqP x y = false := by
        cases h : eqP x y
        · rfl
        · exact absurd ((eqP_iff _ _).1 h).symm e
      simp [this]
theorem map_below {w w2 : World} {b n : Nat} {D : DataW Unit} (h : w.ownsMap Tryz.prog 153 unitElem b n D) (hb : Below w.heap.size w w2) : w2.ownsMap Tryz.prog 153 unitElem b n D := by
  obtain ⟨es, clock, h1, h2⟩ := h
  exact ⟨es, clock, still_block h1 hb, h2⟩
def AtsSz (l : List Tr) : Prop := ∀ a ∈ l, a.1.1.size ≤ 1000000000 ∧ a.1.2.size ≤ 1000000000 ∧ a.2.size ≤ 1000000000
set_option maxRecDepth 100000 in
set_option maxHeartbeats 4000000 in
theorem rattrs_ok (A : Option Addr) (l : List Tr) (c : Nat) (w : World) (h : attrsOK l) (hz : AtsSz l) (hA : Sl3 w A l) :
    Calls Tryz.prog 86 #[.slice A l.length c] w fun e w' => e = .returned (.bool true) ∧ Below w.heap.size w w' := by
  obtain ⟨h32, hpw, heach⟩ := h
  have hmm := @run_makeMap Tryz.prog
  have h32' : ¬ (32 : Int) < (l.length : Int) := by omega
  have HPW := Lib.hid hpw
  have HEA := Lib.hid heach
  have HZ := Lib.hid hz
  clear hpw heach hz
  go_enter Tryz.func86, Tryz.ntmps86
  go_wp2
  go_loopw [15] (fun vi wr => ∃ k : Nat, k ≤ l.length ∧ vi = .int .i64 k ∧ Hid (SetA wr w.heap.size k ((l.take k).map (·.1))) ∧ Hid (Below w.heap.size w wr)) (fun vi _ => ((l.length : Int) - intOf vi).toNat)
  case atStart => exact ⟨0, by omega, rfl, Lib.hid (SetA.made w), Lib.hid ((Below.refl _ _).alloc (Nat.le_refl _) _)⟩
  case round =>
    obtain ⟨k, hk, rfl, HS, HB⟩ := hrel
    by_cases h0 : k < l.length
    · obtain ⟨⟨⟨a1, a2⟩, a3⟩, he⟩ : ∃ x, l[k]? = some x := ⟨l[k], List.getElem?_eq_getElem h0⟩
      obtain ⟨ad, rfl, had, c1, c2, c3⟩ := (hA.below HB.out).at_ he
      simp only at c1 c2 c3
      have hmem := List.mem_of_getElem? he
      obtain ⟨hn, hx, ht⟩ := HEA.out _ hmem
      obtain ⟨z1, z2, z3⟩ := HZ.out _ hmem
      simp only at hn hx ht z1 z2 z3
      have k1 : a1.size ≤ maxLen := by simp only [maxLen]; omega
      have k2 : a2.size ≤ maxLen := by simp only [maxLen]; omega
      have hnew : ((l.take k).map (·.1)).any (fun y => eqP y (a1, a2)) = false := by
        rw [Bool.eq_false_iff]
        intro h
        rw [List.any_eq_true] at h
        obtain ⟨y, hy, hey⟩ := h
        have hy2 := (eqP_iff _ _).1 hey
        subst hy2
        obtain ⟨z, hz1, hz2⟩ := List.mem_map.1 hy
        obtain ⟨i, hi, hzi⟩ := List.mem_iff_getElem.1 hz1
        rw [List.length_take] at hi
        rw [List.getElem_take] at hzi
        have hp := List.pairwise_iff_getElem.1 HPW.out i k (by rw [List.length_map]; omega) (by rw [List.length_map]; omega) (by omega)
        rw [List.getElem_map, List.getElem_map, hzi, hz2] at hp
        obtain ⟨_, e⟩ := List.getElem?_eq_some_iff.1 he
        rw [e] at hp
        exact hp rfl
      have htk : (l.take (k + 1)).map (·.1) = (l.take k).map (·.1) ++ [(a1, a2)] := by
        rw [List.take_add_one, he]; simp
      obtain ⟨D, hown, hsz, hhas⟩ := HS.out
      have hkey := arr_key (a1, a2) k1 k2
      have hhf : has D (litN (a1, a2)) = false := by rw [hhas (a1, a2) k1 k2, hnew]
      have HHAS := Lib.hid hhas
      have HSZ := Lib.hid hsz
      have HM := Lib.hid hown.isMap
      have HTK := Lib.hid htk
      have heq := fun w2 => eq_arr a1 a2 ⟨#[]⟩ ⟨#[120, 109, 108, 110, 115]⟩ w2
      have hne : (a1.toList == (⟨#[]⟩ : ByteArray).toList && a2.toList == (⟨#[120, 109, 108, 110, 115]⟩ : ByteArray).toList) = false := by
        rw [Bool.eq_false_iff]
        intro h
        rw [Bool.and_eq_true] at h
        exact hx (Prod.ext ((eqT_iff a1 sE).1 h.1) ((eqT_iff a2 sXmlns).1 h.2))
      rw [hne] at heq
      have HKY := Lib.hid (fun w2 => key_any a1 a2 w2)
      have HNM := Lib.hid (fun w2 => rname_ok (a1, a2) w2 hn z1 z2)
      have HSG := Lib.hid (fun w2 => signs_ok a3 w2 z3 ht)
      clear hne hhas hsz htk hnew hx hn ht hmem he had
      go_wp2_with fail
      refine (HKY.out _).mono ?_
      rintro e w2 ⟨rfl, hb2⟩
      have hba : Below wr.heap.size wr (wr.alloc (.cells #[.string a1, .string a2, .string a3] 66)) := (Below.refl _ wr).alloc (Nat.le_refl _) _
      have hbr : Below wr.heap.size wr w2 := hba.trans (hb2.mono (by simp))
      have hown2 := map_below hown hbr
      have hB5 := still_block (heap_alloc_new wr (.cells #[.string a1, .string a2, .string a3] 66)) hb2
      have h5l : wr.heap.size < w2.heap.size := blk_in hB5
      have n0 := blk_cell hB5 0
      have n1 := blk_cell hB5 1
      simp only [List.getElem?_toArray, List.getElem?_cons_zero, List.getElem?_cons_succ] at n0 n1
      have q : ∀ o o2 j, ((w2.alloc o).alloc o2).cell? ⟨wr.heap.size, j, none⟩ = w2.cell? ⟨wr.heap.size, j, none⟩ := fun o o2 j =>
        World.cell?_of_block (w := w2) ((Below.heap_alloc (w2.alloc o) o2 _ (by simp; omega)).trans (Below.heap_alloc w2 o _ h5l))
      have q0 : ∀ o o2, ((w2.alloc o).alloc o2).cell? ⟨wr.heap.size, 0, none⟩ = _ := fun o o2 => (q o o2 0).trans n0
      have q1 : ∀ o o2, ((w2.alloc o).alloc o2).cell? ⟨wr.heap.size, 1, none⟩ = _ := fun o o2 => (q o o2 1).trans n1
      have HB5 := Lib.hid hB5
      have HOWN2 := Lib.hid hown2
      have HBR := Lib.hid hbr
      clear hB5 n0 n1 q hb2 hba hown hbr
      go_wp2_with (at_lookup; refine wpList_lookup_own_unit _ rfl _ _ _ rfl 153 156 arr_law Tryz.underlying155 (zero_unit _) w.heap.size k D rfl (HOWN2.out.alloc _) _ _ rfl hkey ?_)
      refine (HNM.out _).mono ?_
      rintro e w3 ⟨rfl, hb3⟩
      have hb3w : Below w2.heap.size w2 w3 := (((Below.refl _ w2).alloc (Nat.le_refl _) (.cells #[.string a1, .string a2] 153)).alloc (by simp) (.cells #[] 156)).trans (hb3.mono (by simp; omega))
      have hB53 := still_block HB5.out hb3w
      have hB63 : w3.heap[w2.heap.size]? = some (.cells #[.string a1, .string a2] 153 (0, 0)) := by
        rw [hb3.block _ (by simp; omega), Below.heap_alloc _ _ _ (by simp)]
        exact heap_alloc_new w2 (.cells #[.string a1, .string a2] 153)
      have m2 := blk_cell hB53 2
      simp only [List.getElem?_toArray, List.getElem?_cons_zero, List.getElem?_cons_succ] at m2
      have HB63 := Lib.hid hB63
      have HBR3 := Lib.hid (HBR.out.trans (hb3w.mono HBR.out.size))
      have HOWN3 := Lib.hid (map_below HOWN2.out hb3w)
      clear hB53 hB63 hb3 hb3w q0 q1
      go_wp2_with fail
      refine (HSG.out _).mono ?_
      rintro e w4 ⟨rfl, hb4⟩
      have hB64 := still_block HB63.out hb4
      have e0 := blk_cell hB64 0
      have e1 := blk_cell hB64 1
      simp only [List.getElem?_toArray, List.getElem?_cons_zero, List.getElem?_cons_succ] at e0 e1
      have hown4 := map_below HOWN3.out hb4
      have HBR4 := Lib.hid (HBR3.out.trans (hb4.mono HBR3.out.size))
      have HBW4 := Lib.hid (HB.out.trans (HBR4.out.mono HB.out.size))
      clear hB64 hb4 m2
      go_wp2_with (at_mapUpdate; refine wpList_mapUpdate_own _ rfl _ _ _ _ rfl 153 156 arr_law Tryz.underlying155 unitElem w.heap.size k D rfl hown4 (by simp only [maxLen]; omega) _ _ (litN (a1, a2)) rfl rfl hkey (.agg []) [] unitElem_mk ?_; intro w5 hown5 hg5)
      have HS5 : Hid (SetA w5 w.heap.size (k + 1) ((l.take (k + 1)).map (·.1))) := Lib.hid (by rw [HTK.out]; exact SetA.put hown5 HM.out HSZ.out k1 k2 HHAS.out)
      have HB5' : Hid (Below w.heap.size w w5) := Lib.hid (HBW4.out.grown hg5 HBW4.out.size (by simp))
      clear hown5 hg5 hown4
      go_roundw
      case rel => exact ⟨k + 1, by omega, by go_num, HS5, HB5'⟩
      case measure => simp [intOf]; omega
    · have : k = l.length := by omega
      subst this
      go_wp2
      go_ret
      exact ⟨rfl, HB.out⟩
end Go.Proofs.YtlcjepnaljfpkaaGreatDoor
