/- SbD. -/
import Derived.Test.YtbdamneophbnnaaGreatDoorCU15
namespace Wb
theorem num_dgN {i : Nat} (h : i < 32) : numT i = 110 :: dgN (i + 1) := by
  unfold numT
  rw [dgN_digT ⟨i, by omega⟩]
theorem idx_first {x : ByteArray} : ∀ {l : List ByteArray} {k : Nat}, l[k]? = some x → (∀ (j : Nat) (y : ByteArray), j < k → l[j]? = some y → y ≠ x) → idxB x l = k
  | [], k, h, _ => by simp at h
  | y :: l, 0, h, _ => by
    simp only [List.getElem?_cons_zero, Option.some.injEq] at h
    unfold idxB
    rw [if_pos h]
  | y :: l, k + 1, h, hn => by
    unfold idxB
    rw [if_neg (hn 0 y (by omega) rfl), idx_first (l := l) (k := k) (by simpa using h) fun j z hj hz => hn (j + 1) z (by omega) (by simpa using hz)]
theorem not_mem {x : ByteArray} {l : List ByteArray} (h : ∀ (j : Nat) (y : ByteArray), l[j]? = some y → y ≠ x) : hasB l x = false := by
  cases hb : hasB l x with
  | false => rfl
  | true =>
    obtain ⟨j, hj, e⟩ := List.getElem_of_mem ((hasB_iff _ _).1 hb)
    exact absurd e (h j _ (List.getElem?_eq_getElem hj))
end Wb
namespace Go.Proofs.YtbdamneophbnnaaGreatDoor
open Go.RowKit Wb
theorem own1 {w : World} {base n : Nat} {e : TypeId} {v : Value} {xs : List Value} (l : List ByteArray) (h : w.ownsRow base e 1 v n xs) (hn : n = l.length) (hx : xs = cells1 l) : ∃ A c, v = .slice A l.length c ∧ Sl1 w A l := by
  subst hn
  subst hx
  obtain ⟨A, c, rfl⟩ := own_shape h
  exact ⟨A, c, rfl, Sl.of_own h⟩
def NameOut (o : Except Int (List UInt8 × List ByteArray)) (A : Option Addr) (n c : Nat) (w : World) (e : Ending) (w' : World) : Prop :=
  Below w.heap.size w w' ∧ ((∀ k, o = .error k → e = .returned (.tuple #[.string ⟨#[]⟩, .slice A n c, .int .i64 k])) ∧
    ∀ t l, o = .ok (t, l) → ∃ C k, e = .returned (.tuple #[.string (mkT t), .slice C l.length k, .int .i64 0]) ∧ Sl1 w' C l)
theorem NameOut.bad {A : Option Addr} {n c : Nat} {k : Int} {w w' : World} (hb : Below w.heap.size w w') : NameOut (.error k) A n c w (.returned (.tuple #[.string ⟨#[]⟩, .slice A n c, .int .i64 k])) w' :=
  ⟨hb, fun k' h => (by injection h with h; rw [h]), fun t l h => (by cases h)⟩
theorem NameOut.good {A C : Option Addr} {n c k : Nat} {t : List UInt8} {l : List ByteArray} {w w' : World} (hb : Below w.heap.size w w') (hC : Sl1 w' C l) : NameOut (.ok (t, l)) A n c w (.returned (.tuple #[.string (mkT t), .slice C l.length k, .int .i64 0])) w' :=
  ⟨hb, fun k' h => (by cases h), fun t' l' h => (by injection h with h; injection h with h1 h2; subst h1 h2; exact ⟨C, k, rfl, hC⟩)⟩
set_option maxRecDepth 100000 in
set_option maxHeartbeats 8000000 in
theorem rsname_any (n1 n2 plain : ByteArray) (A : Option Addr) (sp : List ByteArray) (c : Nat) (w : World) (hA : Sl1 w A sp) (hsp : sp.length ≤ 16) (h1 : n1.size ≤ 1000000) (h2 : n2.size ≤ 1000000) :
    Calls Tryz.prog 83 #[.agg #[.string n1, .string n2], .string plain, .slice A sp.length c] w (NameOut (nameT (n1, n2) plain sp) A sp.length c w) := by
  obtain ⟨o, ho⟩ : ∃ o, nameT (n1, n2) plain sp = o := ⟨_, rfl⟩
  rw [ho]
  unfold nameT at ho
  simp only at ho
  have t0 : (n1.toList == plain.toList) = eqT n1 plain := rfl
  have t3 : (n1.toList == [104, 116, 116, 112, 58, 47, 47, 119, 119, 119, 46, 119, 51, 46, 111, 114, 103, 47, 88, 77, 76, 47, 49, 57, 57, 56, 47, 110, 97, 109, 101, 115, 112, 97, 99, 101]) = eqT n1 sXML := lit_of n1 sXML _ rfl
  have t4 : (n1.toList == [104, 116, 116, 112, 58, 47, 47, 119, 119, 119, 46, 119, 51, 46, 111, 114, 103, 47, 50, 48, 48, 48, 47, 120, 109, 108, 110, 115, 47]) = eqT n1 sXMLNS := lit_of n1 sXMLNS _ rfl
  have t5 : n1.toList.isEmpty = eqT n1 sE := empty_eq n1
  have hb0 := (Below.refl w.heap.size w).alloc (Nat.le_refl _) (.cells #[.string n1, .string n2] 44)
  have c0 : (w.alloc (.cells #[.string n1, .string n2] 44)).cell? ⟨w.heap.size, 0, none⟩ = some (.string n1) := blk_cell (heap_alloc_new w _) 0
  have c1 : (w.alloc (.cells #[.string n1, .string n2] 44)).cell? ⟨w.heap.size, 1, none⟩ = some (.string n2) := blk_cell (heap_alloc_new w _) 1
  have hlt : w.heap.size < (w.alloc (.cells #[.string n1, .string n2] 44)).heap.size := by simp
  have HA := Lib.hid (hA.below hb0)
  have hnm := fun v => rname_any n2 v (by omega)
  generalize hwb : w.alloc (.cells #[.string n1, .string n2] 44) = wb at *
  cases hn : nameB n2.data.toList
  · rw [if_pos hn] at ho
    have HO := Lib.hid ho
    rw [hn] at hnm
    clear ho hn t0 t3 t4 t5
    go_enter Tryz.func83, Tryz.ntmps83
    go_wp2_with fail
    (try rw [hwb])
    refine (hnm _).mono ?_
    rintro e w2 ⟨rfl, hb2⟩
    have HB2 := Lib.hid (hb0.trans (hb2.mono hb0.size))
    clear hnm hb2 hb0
    go_wp2
    go_ret3
    rw [← HO.out]
    exact NameOut.bad HB2.out
  · rw [if_neg (by rw [hn]; decide)] at ho
    rw [hn] at hnm
    by_cases e1 : n1 = plain
    · rw [if_pos e1] at ho
      rw [(eqT_iff _ _).2 e1] at t0
      have HO := Lib.hid ho
      clear ho hn t3 t4 t5 e1
      go_enter Tryz.func83, Tryz.ntmps83
      go_wp2_with fail
      (try rw [hwb])
      refine (hnm _).mono ?_
      rintro e w2 ⟨rfl, hb2⟩
      have HB2 := Lib.hid (hb0.trans (hb2.mono hb0.size))
      have HA2 := Lib.hid (HA.out.below hb2)
      have d0 := (hb2.cell (p := ⟨w.heap.size, 0, none⟩) hlt).trans c0
      have d1 := (hb2.cell (p := ⟨w.heap.size, 1, none⟩) hlt).trans c1
      clear hnm hb2 hb0 c0 c1
      go_wp2
      go_ret3
      rw [← HO.out]
      have hr : n2 = mkT n2.data.toList := (to_list n2).symm
      conv => arg 6; rw [hr]
      exact NameOut.good HB2.out HA2.out
    · rw [if_neg e1] at ho
      rw [eqT_false.2 e1] at t0
      by_cases e2 : n1 = sXML
      · rw [if_pos e2] at ho
        rw [(eqT_iff _ _).2 e2] at t3
        have HO := Lib.hid ho
        have g1 : ¬ 9223372036854775807 < (⟨#[120, 109, 108, 58]⟩ : ByteArray).size + n2.size := by have : (⟨#[120, 109, 108, 58]⟩ : ByteArray).size = 4 := rfl; omega
        have hr : (⟨#[120, 109, 108, 58]⟩ : ByteArray) ++ n2 = mkT (sXmlK ++ n2.data.toList) := by
          rw [← mkT_app]
          have : mkT n2.data.toList = n2 := to_list n2
          rw [this]
          rfl
        have g2 : ¬ 9223372036854775807 < 4 + n2.size := by omega
        clear ho hn t4 t5 e1 e2
        go_enter Tryz.func83, Tryz.ntmps83
        go_wp2_with fail
        (try rw [hwb])
        refine (hnm _).mono ?_
        rintro e w2 ⟨rfl, hb2⟩
        have HB2 := Lib.hid (hb0.trans (hb2.mono hb0.size))
        have HA2 := Lib.hid (HA.out.below hb2)
        have d0 := (hb2.cell (p := ⟨w.heap.size, 0, none⟩) hlt).trans c0
        have d1 := (hb2.cell (p := ⟨w.heap.size, 1, none⟩) hlt).trans c1
        have hlt2 : w.heap.size < w2.heap.size := Nat.lt_of_lt_of_le hlt hb2.size
        clear hnm hb2 hb0 c0 c1
        go_wp2
        go_ret3
        rw [← HO.out]
        exact NameOut.good HB2.out HA2.out
      · rw [if_neg e2] at ho
        rw [eqT_false.2 e2] at t3
        have ix := fun v => index_any n1 ⟨#[41]⟩ 0 v (by omega) (by decide) (by omega)
        have sg := fun v => rsigns_any n1 v (by omega)
        have IX := Lib.hid ix
        have SG := Lib.hid sg
        clear ix sg
        by_cases e3 : n1 = sE ∨ n1 = sXMLNS ∨ (41 : UInt8) ∈ n1.data.toList ∨ sgB n1 = false
        · rw [if_pos e3] at ho
          have HO := Lib.hid ho
          clear ho
          by_cases f1 : n1 = sE
          · have p1 := nil_of n1 ((eqT_iff _ _).2 f1)
            have p2 := ne_empty plain (eqT_false.2 fun h => e1 (f1.trans h.symm))
            rw [(eqT_iff _ _).2 f1] at t5
            clear hn t4 e1 e2 e3 f1 IX SG
            go_enter Tryz.func83, Tryz.ntmps83
            go_wp2_with fail
            (try rw [hwb])
            refine (hnm _).mono ?_
            rintro e w2 ⟨rfl, hb2⟩
            have HB2 := Lib.hid (hb0.trans (hb2.mono hb0.size))
            have HA2 := Lib.hid (HA.out.below hb2)
            have d0 := (hb2.cell (p := ⟨w.heap.size, 0, none⟩) hlt).trans c0
            have d1 := (hb2.cell (p := ⟨w.heap.size, 1, none⟩) hlt).trans c1
            have hlt2 : w.heap.size < w2.heap.size := Nat.lt_of_lt_of_le hlt hb2.size
            clear hnm hb2 hb0 c0 c1
            go_wp2
            go_ret3
            rw [← HO.out]
            exact NameOut.bad HB2.out
          · have p1 := ne_nil n1 (eqT_false.2 f1)
            rw [eqT_false.2 f1] at t5
            by_cases f2 : n1 = sXMLNS
            · rw [(eqT_iff _ _).2 f2] at t4
              clear hn e1 e2 e3 f1 f2 IX SG
              go_enter Tryz.func83, Tryz.ntmps83
              go_wp2_with fail
              (try rw [hwb])
              refine (hnm _).mono ?_
              rintro e w2 ⟨rfl, hb2⟩
              have HB2 := Lib.hid (hb0.trans (hb2.mono hb0.size))
              have HA2 := Lib.hid (HA.out.below hb2)
              have d0 := (hb2.cell (p := ⟨w.heap.size, 0, none⟩) hlt).trans c0
              have d1 := (hb2.cell (p := ⟨w.heap.size, 1, none⟩) hlt).trans c1
              have hlt2 : w.heap.size < w2.heap.size := Nat.lt_of_lt_of_le hlt hb2.size
              clear hnm hb2 hb0 c0 c1
              go_wp2
              go_ret3
              rw [← HO.out]
              exact NameOut.bad HB2.out
            · rw [eqT_false.2 f2] at t4
              by_cases f3 : (41 : UInt8) ∈ n1.data.toList
              · clear hn e1 e2 e3 f1 f2 SG
                go_enter Tryz.func83, Tryz.ntmps83
                go_wp2_with fail
                (try rw [hwb])
                refine (hnm _).mono ?_
                rintro e w2 ⟨rfl, hb2⟩
                have HB2 := Lib.hid (hb0.trans (hb2.mono hb0.size))
                have HA2 := Lib.hid (HA.out.below hb2)
                have d0 := (hb2.cell (p := ⟨w.heap.size, 0, none⟩) hlt).trans c0
                have d1 := (hb2.cell (p := ⟨w.heap.size, 1, none⟩) hlt).trans c1
                have hlt2 : w.heap.size < w2.heap.size := Nat.lt_of_lt_of_le hlt hb2.size
                clear hnm hb2 hb0 c0 c1
                go_wp2_with fail
                refine (IX.out _).mono ?_
                rintro e w3 ⟨r, rfl, hr, rfl⟩
                have hr0 : 0 ≤ r := by
                  rcases idx_list hr with ⟨_, h⟩ | ⟨k, rfl, _⟩
                  · exact absurd rfl (h 41 (by rw [List.drop_zero]; exact f3))
                  · omega
                clear hr f3 IX
                go_wp2
                go_ret3
                rw [← HO.out]
                exact NameOut.bad HB2.out
              · have f4 : sgB n1 = false := by
                  rcases e3 with h | h | h | h
                  · exact absurd h f1
                  · exact absurd h f2
                  · exact absurd h f3
                  · exact h
                clear hn e1 e2 e3 f1 f2
                go_enter Tryz.func83, Tryz.ntmps83
                go_wp2_with fail
                (try rw [hwb])
                refine (hnm _).mono ?_
                rintro e w2 ⟨rfl, hb2⟩
                have HB2 := Lib.hid (hb0.trans (hb2.mono hb0.size))
                have HA2 := Lib.hid (HA.out.below hb2)
                have d0 := (hb2.cell (p := ⟨w.heap.size, 0, none⟩) hlt).trans c0
                have d1 := (hb2.cell (p := ⟨w.heap.size, 1, none⟩) hlt).trans c1
                have hlt2 : w.heap.size < w2.heap.size := Nat.lt_of_lt_of_le hlt hb2.size
                clear hnm hb2 hb0 c0 c1
                go_wp2_with fail
                refine (IX.out _).mono ?_
                rintro e w3 ⟨r, rfl, hr, rfl⟩
                have hr0 : ¬ 0 ≤ r := by
                  rcases idx_list hr with ⟨rfl, _⟩ | ⟨k, rfl, _, _, h, _⟩
                  · decide
                  · exfalso
                    apply f3
                    rw [List.drop_zero] at h
                    rw [h]
                    simp
                clear hr f3 IX
                go_wp2_with fail
                refine (SG.out _).mono ?_
                rintro e w4 ⟨rfl, hb4⟩
                have HB4 := Lib.hid (HB2.out.trans (hb4.mono HB2.out.size))
                rw [f4]
                clear hb4 SG f4
                go_wp2
                go_ret3
                rw [← HO.out]
                exact NameOut.bad HB4.out
        · rw [if_neg e3] at ho
          have HO := Lib.hid ho
          clear ho
          simp only [not_or] at e3
          obtain ⟨f1, f2, f3, f4⟩ := e3
          have f4 : sgB n1 = true := by simpa using f4
          have p1 := ne_nil n1 (eqT_false.2 f1)
          rw [eqT_false.2 f1] at t5
          rw [eqT_false.2 f2] at t4
          clear hn e1 e2 f1 f2
          go_enter Tryz.func83, Tryz.ntmps83
          go_wp2_with fail
          (try rw [hwb])
          refine (hnm _).mono ?_
          rintro e w2 ⟨rfl, hb2⟩
          have HB2 := Lib.hid (hb0.trans (hb2.mono hb0.size))
          have HA2 := Lib.hid (HA.out.below hb2)
          have d0 := (hb2.cell (p := ⟨w.heap.size, 0, none⟩) hlt).trans c0
          have d1 := (hb2.cell (p := ⟨w.heap.size, 1, none⟩) hlt).trans c1
          have hlt2 : w.heap.size < w2.heap.size := Nat.lt_of_lt_of_le hlt hb2.size
          clear hnm hb2 hb0 c0 c1
          go_wp2_with fail
          refine (IX.out _).mono ?_
          rintro e w3 ⟨r, rfl, hr, rfl⟩
          have hr0 : ¬ 0 ≤ r := by
            rcases idx_list hr with ⟨rfl, _⟩ | ⟨k, rfl, _, _, h, _⟩
            · decide
            · exfalso
              apply f3
              rw [List.drop_zero] at h
              rw [h]
              simp
          clear hr f3 IX
          go_wp2_with fail
          refine (SG.out _).mono ?_
          rintro e w4 ⟨rfl, hb4⟩
          have HB4 := Lib.hid (HB2.out.trans (hb4.mono HB2.out.size))
          have HA4 := Lib.hid (HA2.out.below hb4)
          have HD0 := Lib.hid ((hb4.cell (p := ⟨w.heap.size, 0, none⟩) hlt2).trans d0)
          have HD1 := Lib.hid ((hb4.cell (p := ⟨w.heap.size, 1, none⟩) hlt2).trans d1)
          have hlt4 : w.heap.size < w4.heap.size := Nat.lt_of_lt_of_le hlt2 hb4.size
          rw [f4]
          clear hb4 SG f4 d0 d1 HA2 HB2 t0 t3 t4 t5 HA
          go_wp2
          go_loopw [9] (fun v9 wr => ∃ i : Nat, i ≤ sp.length ∧ v9 = .int .i64 i ∧ Hid (∀ (j : Nat) (y : ByteArray), j < i → sp[j]? = some y → y ≠ n1) ∧ Hid (Below w4.heap.size w4 wr)) (fun v9 _ => sp.length - (intOf v9).toNat)
          case atStart => exact ⟨0, by omega, rfl, Lib.hid (fun j y h => absurd h (by omega)), Lib.hid (Below.refl _ _)⟩
          case round =>
            obtain ⟨i, hi, rfl, HN, HB⟩ := hrel
            have HAr := Lib.hid (HA4.out.below HB.out)
            have d0 := (HB.out.cell (p := ⟨w.heap.size, 0, none⟩) hlt4).trans HD0.out
            have d1 := (HB.out.cell (p := ⟨w.heap.size, 1, none⟩) hlt4).trans HD1.out
            have HBr := Lib.hid (HB4.out.trans (HB.out.mono HB4.out.size))
            by_cases h0 : i < sp.length
            · obtain ⟨x, hx⟩ : ∃ x, sp[i]? = some x := ⟨sp[i], List.getElem?_eq_getElem h0⟩
              obtain ⟨ad, rfl, had, hcx⟩ := HAr.out.at_ hx
              have i1 : (0 : Int) ≤ (i : Int) := by omega
              have i2 : (i : Int) < (sp.length : Int) := by omega
              cases hq : (x.toList == n1.toList) with
              | false =>
                have HN2 : Hid (∀ (j : Nat) (y : ByteArray), j < i + 1 → sp[j]? = some y → y ≠ n1) := Lib.hid (fun j y hj hy => by
                  by_cases e : j = i
                  · subst e
                    rw [hx] at hy
                    injection hy with hy
                    subst hy
                    exact eqT_false.1 hq
                  · exact HN.out j y (by omega) hy)
                clear hx HN
                go_wp2_with fail
                go_region
                go_wp2
                go_roundw
                case rel => exact ⟨i + 1, by omega, by go_num, HN2, Lib.hid HB.out.drew⟩
                case measure => simp [intOf]; omega
              | true =>
                have hxn : x = n1 := (eqT_iff _ _).1 hq
                have hid : idxB n1 sp = i := idx_first (by rw [hx, hxn]) HN.out
                have hha : hasB sp n1 = true := (hasB_iff _ _).2 (List.mem_of_getElem? (hx.trans (by rw [hxn])))
                have ho2 := HO.out
                rw [if_pos hha, hid] at ho2
                have HO2 := Lib.hid ho2
                have dg := fun v => sdigits_any (i + 1) v (by omega) (by omega)
                have hr2 : (((⟨#[110]⟩ : ByteArray) ++ mkT (dgN (i + 1))) ++ ⟨#[58]⟩) ++ n2 = mkT (numT i ++ 58 :: n2.data.toList) := by
                  have h3 : mkT n2.data.toList = n2 := to_list n2
                  rw [num_dgN (by omega)]
                  conv => lhs; rw [← h3]
                  rw [show (⟨#[110]⟩ : ByteArray) = mkT [110] from rfl, show (⟨#[58]⟩ : ByteArray) = mkT [58] from rfl, mkT_app, mkT_app, mkT_app]
                  simp
                have hds : (mkT (dgN (i + 1))).size ≤ 3 := by rw [mkT_size]; exact dgN_le _ 3 (by omega)
                generalize mkT (dgN (i + 1)) = D at *
                have w1 : IntKind.i64.wrap ((i : Int) + 1) = (((i + 1 : Nat)) : Int) := by rw [IntKind.wrap_i64]; omega
                have g1 : ¬ 9223372036854775807 < 1 + D.size := by omega
                have g2 : ¬ 9223372036854775807 < 1 + D.size + 1 := by omega
                have g3 : ¬ 9223372036854775807 < 1 + D.size + 1 + n2.size := by omega
                clear hxn hid hha ho2 hx HO HN
                go_wp2_with fail
                go_region
                have hltr : w.heap.size < wr.drew.drew.heap.size := Nat.lt_of_lt_of_le hlt4 HB.out.size
                go_upto_region 13 with fail
                (try simp only [List.append])
                refine wp_region_held_drew (S := (fun u => u.cell? ⟨w.heap.size, 1, none⟩ = some (.string n2))) (by kernel_rfl) (d1) (fun hHeld => ?_)
                refine takeW 0 ?_
                refine takeW 1 ?_
                refine takeW 5 ?_
                refine takeW 6 ?_
                (try simp only [Act.put, List.setIfInBounds_toArray, List.set_cons_zero, List.set_cons_succ])
                refine takeW 8 ?_
                (try simp only [Act.put, List.setIfInBounds_toArray, List.set_cons_zero, List.set_cons_succ])
                refine wpAnyH_ready (rs := [2]) (by kernel_rfl) (by simp) ?_
                refine AllReadyH.cons rfl (fun K2 hK2 => ?_) AllReadyH.nil
                go_simp
                refine (dg _).mono ?_
                rintro e w6 ⟨rfl, hb6⟩
                have HB6 : Hid (Below w.heap.size w w6) := Lib.hid (HBr.out.drew.drew.trans (hb6.mono HBr.out.drew.drew.size))
                have HA6 : Hid (Sl1 w6 (some ad) sp) := Lib.hid (Sl1.below (show Sl1 wr.drew.drew (some ad) sp from HAr.out) hb6)
                refine hK2.out _ _ ((hb6.cell (p := ⟨w.heap.size, 1, none⟩) hltr).trans d1) (fun hHeld2 => ?_)
                refine takeW 3 ?_
                refine takeW 4 ?_
                refine takeW 7 ?_
                (try simp only [Act.put, List.setIfInBounds_toArray, List.set_cons_zero, List.set_cons_succ])
                refine takeW 9 ?_
                refine takeW 10 ?_
                refine takeW 11 ?_
                (try simp only [Act.put, List.setIfInBounds_toArray, List.set_cons_zero, List.set_cons_succ])
                refine wpAnyH_done (by kernel_rfl) ?_ _
                go_wp2
                go_ret3
                rw [← HO2.out]
                exact NameOut.good HB6.out HA6.out
            · have hno : hasB sp n1 = false := not_mem fun j y hy => HN.out j y (by
                have := (List.getElem?_eq_some_iff.1 hy).1
                omega) hy
              have ho2 := HO.out
              rw [if_neg (by rw [hno]; decide)] at ho2
              obtain rfl : i = sp.length := by omega
              by_cases h16 : 16 ≤ sp.length
              · rw [if_pos h16] at ho2
                have HO2 := Lib.hid ho2
                have q1 : ((sp.length : Int) == 16) = true := by rw [beq_iff_eq]; omega
                clear ho2 hno HO HN
                go_wp2
                go_ret3
                rw [← HO2.out]
                exact NameOut.bad HBr.out
              · rw [if_neg h16] at ho2
                have HO2 := Lib.hid ho2
                have q1 : ((sp.length : Int) == 16) = false := by rw [beq_eq_false_iff_ne]; omega
                clear ho2 hno HO HN
                go_upto_region 16 with fail
                go_cut [2] from 76 (fun v2 wx => ∃ C k, v2 = .slice C (sp ++ [n1]).length k ∧ Hid (Sl1 wx C (sp ++ [n1])) ∧ Hid (Below wr.heap.size wr wx))
                case first =>
                  obtain ⟨uc, huc⟩ : ∃ uc, wr.drew = uc := ⟨_, rfl⟩
                  have hus : uc.heap.size = wr.heap.size := by rw [← huc]; rfl
                  have HBu : Hid (Below wr.heap.size wr uc) := Lib.hid (by rw [← huc]; exact (Below.refl _ _).drew)
                  have HAu : Hid (Sl1 uc A sp) := Lib.hid (by rw [← huc]; exact HAr.out)
                  have hltr : w.heap.size < wr.heap.size := Nat.lt_of_lt_of_le hlt4 HB.out.size
                  obtain ⟨i0, hi, hz0, hz1, hz2⟩ := info_parts txt_string
                  have hmx : 0 + sp.length ≤ maxLen := by simp only [maxLen]; omega
                  have hmx2 : 0 + sp.length + 1 ≤ maxLen := by simp only [maxLen]; omega
                  (try simp only [List.append])
                  refine wp_region_held_drew (S := (fun u => u.cell? ⟨w.heap.size, 0, none⟩ = some (.string n1))) (by kernel_rfl) (d0) (fun hHeld => ?_)
                  refine takeW 1 ?_
                  refine takeW 3 ?_
                  refine takeW 4 ?_
                  (try simp only [Act.put, List.setIfInBounds_toArray, List.set_cons_zero, List.set_cons_succ])
                  refine wpAnyH_ready (rs := [0, 5]) (by kernel_rfl) (by simp) ?_
                  refine AllReadyH.cons rfl (fun K2 hK2 => ?_) (AllReadyH.cons rfl (fun K2 hK2 => ?_) AllReadyH.nil)
                  · go_simp
                    (try rw [huc])
                    obtain ⟨gE, hgE⟩ : ∃ g, uc.heap.size = g := ⟨_, rfl⟩
                    obtain ⟨ud, hud⟩ : ∃ ud, uc.alloc (.cells #[] 9) = ud := ⟨_, rfl⟩
                    have hbd : Below uc.heap.size uc ud := by rw [← hud]; exact (Below.refl _ _).alloc (Nat.le_refl _) _
                    have HE : Hid (ud.ownsRow wr.heap.size 9 1 (.slice (some ⟨gE, 0, none⟩) 0 0) 0 []) := Lib.hid (by rw [← hud, ← hgE]; exact World.ownsRow_lit uc #[] 0 HBu.out.size (Nat.zero_le _) rfl)
                    have HlE : Hid (gE < ud.heap.size) := Lib.hid (by rw [← hud, ← hgE]; simp)
                    (try have HNE : Hid (gS ≠ gE) := Lib.hid (by have := HlS.out; omega))
                    (try replace HL := Lib.hid (HL.out.below hbd))
                    replace HAu := Lib.hid (HAu.out.below hbd)
                    replace HBu := Lib.hid (HBu.out.trans (hbd.mono HBu.out.size))
                    rw [hud]
                    first
                      | rw [hgE]
                      | (rw [hus] at hgE; rw [hgE])
                    clear hud hbd hgE
                    (try clear hus huc)
                    (try clear uc)
                    rename World => uc
                    refine hK2.out _ _ ((HBu.out.cell (p := ⟨w.heap.size, 0, none⟩) hltr).trans d0) (fun _ => ?_)
                    (try simp only [Act.put, List.setIfInBounds_toArray, List.set_cons_zero, List.set_cons_succ])
                    refine wpAnyH_ready (rs := [2, 5]) (by kernel_rfl) (by simp) ?_
                    refine AllReadyH.cons rfl (fun K2 hK2 => ?_) (AllReadyH.cons rfl (fun K2 hK2 => ?_) AllReadyH.nil)
                    · skip
                      refine step_append_sl _ rfl (.tmp 76) (.tmp 77) _ rfl wr.heap.size 9 i0 _ 1 16 Tryz.underlying54 hi hz0 hz1 hz2 rfl (by omega) _ 0 [] rfl HE.out A sp.length c (cells1 sp) rfl HAu.out (cells1_one sp) hmx (by omega) HBu.out.size ?_
                      intro v5 u5 hown5 hg5 hat5
                      have HOWN := Lib.hid hown5
                      (try replace HL := Lib.hid (HL.out.grown hg5 (fun _ ad e he => by
                        injection e with e
                        subst e
                        exact HNE.out (Option.some.inj (show some gS = some gE from he)))))
                      have hb5 := HBu.out.grown hg5 HBu.out.size (fun g hg => (HE.out.lt g hg).1)
                      replace HBu := Lib.hid hb5
                      clear HAu hg5 hat5 hb5 hown5 HE
                      change K2 (Act.put _ (some 78) v5) u5
                      (try clear uc)
                      rename World => uc
                      refine hK2.out _ _ ((HBu.out.cell (p := ⟨w.heap.size, 0, none⟩) hltr).trans d0) (fun _ => ?_)
                      (try simp only [Act.put, List.setIfInBounds_toArray, List.set_cons_zero, List.set_cons_succ])
                      refine wpAnyH_ready (rs := [5]) (by kernel_rfl) (by simp) ?_
                      refine AllReadyH.cons rfl (fun K2 hK2 => ?_) AllReadyH.nil
                      go_simp
                      (try rw [huc])
                      obtain ⟨gS, hgS⟩ : ∃ g, uc.heap.size = g := ⟨_, rfl⟩
                      obtain ⟨ud, hud⟩ : ∃ ud, uc.alloc (.cells #[.string n1] 9) = ud := ⟨_, rfl⟩
                      have hbd : Below uc.heap.size uc ud := by rw [← hud]; exact (Below.refl _ _).alloc (Nat.le_refl _) _
                      have HL : Hid (Sl ud 1 (some ⟨gS, 0, none⟩) 1 [.string n1]) := Lib.hid (by rw [← hud, ← hgS]; exact Sl.lit uc 1 [.string n1] _ 1 rfl)
                      have HlS : Hid (gS < ud.heap.size) := Lib.hid (by rw [← hud, ← hgS]; simp)
                      (try have HNE : Hid (gS ≠ gE) := Lib.hid (by have := HlE.out; omega))
                      (try replace HE := Lib.hid (own_below HE.out hbd))
                      (try replace HOWN := Lib.hid (own_below HOWN.out hbd))
                      (try replace HAu := Lib.hid (HAu.out.below hbd))
                      replace HBu := Lib.hid (HBu.out.trans (hbd.mono HBu.out.size))
                      rw [hud]
                      first
                        | rw [hgS]
                        | (rw [hus] at hgS; rw [hgS])
                      clear hud hbd hgS
                      (try clear hus huc)
                      (try clear uc)
                      rename World => uc
                      refine hK2.out _ _ ((HBu.out.cell (p := ⟨w.heap.size, 0, none⟩) hltr).trans d0) (fun _ => ?_)
                      (try simp only [Act.put, List.setIfInBounds_toArray, List.set_cons_zero, List.set_cons_succ])
                      refine wpAnyH_ready (rs := [6]) (by kernel_rfl) (by simp) ?_
                      refine AllReadyH.cons rfl (fun K2 hK2 => ?_) AllReadyH.nil
                      skip
                      refine step_append_sl _ rfl (.tmp 78) (.tmp 81) _ rfl wr.heap.size 9 i0 _ 1 16 Tryz.underlying54 hi hz0 hz1 hz2 rfl (by omega) v5 (0 + sp.length) ([] ++ cells1 sp) rfl HOWN.out (some ⟨gS, 0, none⟩) 1 1 [.string n1] rfl HL.out (cells1_one [n1]) hmx2 (by omega) HBu.out.size ?_
                      intro v6 u6' hown6 hg6 hat6
                      have HO6 := Lib.hid hown6
                      have hb6 := HBu.out.grown hg6 HBu.out.size (fun g hg => (HOWN.out.lt g hg).1)
                      replace HBu := Lib.hid hb6
                      clear hg6 hat6 hb6 hown6
                      change K2 (Act.put _ (some 82) v6) u6'
                      (try clear uc)
                      rename World => uc
                      refine hK2.out _ _ ((HBu.out.cell (p := ⟨w.heap.size, 0, none⟩) hltr).trans d0) (fun _ => ?_)
                      refine takeW 7 ?_
                      (try simp only [Act.put, List.setIfInBounds_toArray, List.set_cons_zero, List.set_cons_succ])
                      refine wpAnyH_done (by kernel_rfl) ?_ _
                      obtain ⟨C, kk, rfl, hC⟩ := own1 (sp ++ [n1]) HO6.out (by simp) (by simp [cells1])
                      have HC := Lib.hid hC
                      clear hC HO6
                      go_wp2_with fail
                      go_meet
                      case rel => exact ⟨C, kk, rfl, HC, HBu⟩
                    · go_simp
                      (try rw [huc])
                      obtain ⟨gS, hgS⟩ : ∃ g, uc.heap.size = g := ⟨_, rfl⟩
                      obtain ⟨ud, hud⟩ : ∃ ud, uc.alloc (.cells #[.string n1] 9) = ud := ⟨_, rfl⟩
                      have hbd : Below uc.heap.size uc ud := by rw [← hud]; exact (Below.refl _ _).alloc (Nat.le_refl _) _
                      have HL : Hid (Sl ud 1 (some ⟨gS, 0, none⟩) 1 [.string n1]) := Lib.hid (by rw [← hud, ← hgS]; exact Sl.lit uc 1 [.string n1] _ 1 rfl)
                      have HlS : Hid (gS < ud.heap.size) := Lib.hid (by rw [← hud, ← hgS]; simp)
                      (try have HNE : Hid (gS ≠ gE) := Lib.hid (by have := HlE.out; omega))
                      (try replace HE := Lib.hid (own_below HE.out hbd))
                      (try replace HOWN := Lib.hid (own_below HOWN.out hbd))
                      (try replace HAu := Lib.hid (HAu.out.below hbd))
                      replace HBu := Lib.hid (HBu.out.trans (hbd.mono HBu.out.size))
                      rw [hud]
                      first
                        | rw [hgS]
                        | (rw [hus] at hgS; rw [hgS])
                      clear hud hbd hgS
                      (try clear hus huc)
                      (try clear uc)
                      rename World => uc
                      refine hK2.out _ _ ((HBu.out.cell (p := ⟨w.heap.size, 0, none⟩) hltr).trans d0) (fun _ => ?_)
                      (try simp only [Act.put, List.setIfInBounds_toArray, List.set_cons_zero, List.set_cons_succ])
                      refine wpAnyH_ready (rs := [2]) (by kernel_rfl) (by simp) ?_
                      refine AllReadyH.cons rfl (fun K2 hK2 => ?_) AllReadyH.nil
                      skip
                      refine step_append_sl _ rfl (.tmp 76) (.tmp 77) _ rfl wr.heap.size 9 i0 _ 1 16 Tryz.underlying54 hi hz0 hz1 hz2 rfl (by omega) _ 0 [] rfl HE.out A sp.length c (cells1 sp) rfl HAu.out (cells1_one sp) hmx (by omega) HBu.out.size ?_
                      intro v5 u5 hown5 hg5 hat5
                      have HOWN := Lib.hid hown5
                      (try replace HL := Lib.hid (HL.out.grown hg5 (fun _ ad e he => by
                        injection e with e
                        subst e
                        exact HNE.out (Option.some.inj (show some gS = some gE from he)))))
                      have hb5 := HBu.out.grown hg5 HBu.out.size (fun g hg => (HE.out.lt g hg).1)
                      replace HBu := Lib.hid hb5
                      clear HAu hg5 hat5 hb5 hown5 HE
                      change K2 (Act.put _ (some 78) v5) u5
                      (try clear uc)
                      rename World => uc
                      refine hK2.out _ _ ((HBu.out.cell (p := ⟨w.heap.size, 0, none⟩) hltr).trans d0) (fun _ => ?_)
                      (try simp only [Act.put, List.setIfInBounds_toArray, List.set_cons_zero, List.set_cons_succ])
                      refine wpAnyH_ready (rs := [6]) (by kernel_rfl) (by simp) ?_
                      refine AllReadyH.cons rfl (fun K2 hK2 => ?_) AllReadyH.nil
                      skip
                      refine step_append_sl _ rfl (.tmp 78) (.tmp 81) _ rfl wr.heap.size 9 i0 _ 1 16 Tryz.underlying54 hi hz0 hz1 hz2 rfl (by omega) v5 (0 + sp.length) ([] ++ cells1 sp) rfl HOWN.out (some ⟨gS, 0, none⟩) 1 1 [.string n1] rfl HL.out (cells1_one [n1]) hmx2 (by omega) HBu.out.size ?_
                      intro v6 u6' hown6 hg6 hat6
                      have HO6 := Lib.hid hown6
                      have hb6 := HBu.out.grown hg6 HBu.out.size (fun g hg => (HOWN.out.lt g hg).1)
                      replace HBu := Lib.hid hb6
                      clear hg6 hat6 hb6 hown6
                      change K2 (Act.put _ (some 82) v6) u6'
                      (try clear uc)
                      rename World => uc
                      refine hK2.out _ _ ((HBu.out.cell (p := ⟨w.heap.size, 0, none⟩) hltr).trans d0) (fun _ => ?_)
                      (try simp only [Act.put, List.setIfInBounds_toArray, List.set_cons_zero, List.set_cons_succ])
                      refine takeW 7 ?_
                      (try simp only [Act.put, List.setIfInBounds_toArray, List.set_cons_zero, List.set_cons_succ])
                      refine wpAnyH_done (by kernel_rfl) ?_ _
                      obtain ⟨C, kk, rfl, hC⟩ := own1 (sp ++ [n1]) HO6.out (by simp) (by simp [cells1])
                      have HC := Lib.hid hC
                      clear hC HO6
                      go_wp2_with fail
                      go_meet
                      case rel => exact ⟨C, kk, rfl, HC, HBu⟩
                  · go_simp
                    (try rw [huc])
                    obtain ⟨gS, hgS⟩ : ∃ g, uc.heap.size = g := ⟨_, rfl⟩
                    obtain ⟨ud, hud⟩ : ∃ ud, uc.alloc (.cells #[.string n1] 9) = ud := ⟨_, rfl⟩
                    have hbd : Below uc.heap.size uc ud := by rw [← hud]; exact (Below.refl _ _).alloc (Nat.le_refl _) _
                    have HL : Hid (Sl ud 1 (some ⟨gS, 0, none⟩) 1 [.string n1]) := Lib.hid (by rw [← hud, ← hgS]; exact Sl.lit uc 1 [.string n1] _ 1 rfl)
                    have HlS : Hid (gS < ud.heap.size) := Lib.hid (by rw [← hud, ← hgS]; simp)
                    (try have HNE : Hid (gS ≠ gE) := Lib.hid (by have := HlE.out; omega))
                    (try replace HE := Lib.hid (own_below HE.out hbd))
                    (try replace HOWN := Lib.hid (own_below HOWN.out hbd))
                    (try replace HAu := Lib.hid (HAu.out.below hbd))
                    replace HBu := Lib.hid (HBu.out.trans (hbd.mono HBu.out.size))
                    rw [hud]
                    first
                      | rw [hgS]
                      | (rw [hus] at hgS; rw [hgS])
                    clear hud hbd hgS
                    (try clear hus huc)
                    (try clear uc)
                    rename World => uc
                    refine hK2.out _ _ ((HBu.out.cell (p := ⟨w.heap.size, 0, none⟩) hltr).trans d0) (fun _ => ?_)
                    (try simp only [Act.put, List.setIfInBounds_toArray, List.set_cons_zero, List.set_cons_succ])
                    refine wpAnyH_ready (rs := [0]) (by kernel_rfl) (by simp) ?_
                    refine AllReadyH.cons rfl (fun K2 hK2 => ?_) AllReadyH.nil
                    go_simp
                    (try rw [huc])
                    obtain ⟨gE, hgE⟩ : ∃ g, uc.heap.size = g := ⟨_, rfl⟩
                    obtain ⟨ud, hud⟩ : ∃ ud, uc.alloc (.cells #[] 9) = ud := ⟨_, rfl⟩
                    have hbd : Below uc.heap.size uc ud := by rw [← hud]; exact (Below.refl _ _).alloc (Nat.le_refl _) _
                    have HE : Hid (ud.ownsRow wr.heap.size 9 1 (.slice (some ⟨gE, 0, none⟩) 0 0) 0 []) := Lib.hid (by rw [← hud, ← hgE]; exact World.ownsRow_lit uc #[] 0 HBu.out.size (Nat.zero_le _) rfl)
                    have HlE : Hid (gE < ud.heap.size) := Lib.hid (by rw [← hud, ← hgE]; simp)
                    (try have HNE : Hid (gS ≠ gE) := Lib.hid (by have := HlS.out; omega))
                    (try replace HL := Lib.hid (HL.out.below hbd))
                    replace HAu := Lib.hid (HAu.out.below hbd)
                    replace HBu := Lib.hid (HBu.out.trans (hbd.mono HBu.out.size))
                    rw [hud]
                    first
                      | rw [hgE]
                      | (rw [hus] at hgE; rw [hgE])
                    clear hud hbd hgE
                    (try clear hus huc)
                    (try clear uc)
                    rename World => uc
                    refine hK2.out _ _ ((HBu.out.cell (p := ⟨w.heap.size, 0, none⟩) hltr).trans d0) (fun _ => ?_)
                    (try simp only [Act.put, List.setIfInBounds_toArray, List.set_cons_zero, List.set_cons_succ])
                    refine wpAnyH_ready (rs := [2]) (by kernel_rfl) (by simp) ?_
                    refine AllReadyH.cons rfl (fun K2 hK2 => ?_) AllReadyH.nil
                    skip
                    refine step_append_sl _ rfl (.tmp 76) (.tmp 77) _ rfl wr.heap.size 9 i0 _ 1 16 Tryz.underlying54 hi hz0 hz1 hz2 rfl (by omega) _ 0 [] rfl HE.out A sp.length c (cells1 sp) rfl HAu.out (cells1_one sp) hmx (by omega) HBu.out.size ?_
                    intro v5 u5 hown5 hg5 hat5
                    have HOWN := Lib.hid hown5
                    (try replace HL := Lib.hid (HL.out.grown hg5 (fun _ ad e he => by
                      injection e with e
                      subst e
                      exact HNE.out (Option.some.inj (show some gS = some gE from he)))))
                    have hb5 := HBu.out.grown hg5 HBu.out.size (fun g hg => (HE.out.lt g hg).1)
                    replace HBu := Lib.hid hb5
                    clear HAu hg5 hat5 hb5 hown5 HE
                    change K2 (Act.put _ (some 78) v5) u5
                    (try clear uc)
                    rename World => uc
                    refine hK2.out _ _ ((HBu.out.cell (p := ⟨w.heap.size, 0, none⟩) hltr).trans d0) (fun _ => ?_)
                    (try simp only [Act.put, List.setIfInBounds_toArray, List.set_cons_zero, List.set_cons_succ])
                    refine wpAnyH_ready (rs := [6]) (by kernel_rfl) (by simp) ?_
                    refine AllReadyH.cons rfl (fun K2 hK2 => ?_) AllReadyH.nil
                    skip
                    refine step_append_sl _ rfl (.tmp 78) (.tmp 81) _ rfl wr.heap.size 9 i0 _ 1 16 Tryz.underlying54 hi hz0 hz1 hz2 rfl (by omega) v5 (0 + sp.length) ([] ++ cells1 sp) rfl HOWN.out (some ⟨gS, 0, none⟩) 1 1 [.string n1] rfl HL.out (cells1_one [n1]) hmx2 (by omega) HBu.out.size ?_
                    intro v6 u6' hown6 hg6 hat6
                    have HO6 := Lib.hid hown6
                    have hb6 := HBu.out.grown hg6 HBu.out.size (fun g hg => (HOWN.out.lt g hg).1)
                    replace HBu := Lib.hid hb6
                    clear hg6 hat6 hb6 hown6
                    change K2 (Act.put _ (some 82) v6) u6'
                    (try clear uc)
                    rename World => uc
                    refine hK2.out _ _ ((HBu.out.cell (p := ⟨w.heap.size, 0, none⟩) hltr).trans d0) (fun _ => ?_)
                    refine takeW 7 ?_
                    (try simp only [Act.put, List.setIfInBounds_toArray, List.set_cons_zero, List.set_cons_succ])
                    refine wpAnyH_done (by kernel_rfl) ?_ _
                    obtain ⟨C, kk, rfl, hC⟩ := own1 (sp ++ [n1]) HO6.out (by simp) (by simp [cells1])
                    have HC := Lib.hid hC
                    clear hC HO6
                    go_wp2_with fail
                    go_meet
                    case rel => exact ⟨C, kk, rfl, HC, HBu⟩
                case rest =>
                  obtain ⟨C, kk, rfl, HC, HBc⟩ := hcut
                  have hln : (sp ++ [n1]).length = sp.length + 1 := by simp
                  have d1c := (HBc.out.cell (p := ⟨w.heap.size, 1, none⟩) (Nat.lt_of_lt_of_le hlt4 HB.out.size)).trans d1
                  have HBw := Lib.hid (HBr.out.trans (HBc.out.mono HBr.out.size))
                  have hltc : w.heap.size < wc.drew.heap.size := Nat.lt_of_lt_of_le (Nat.lt_of_lt_of_le hlt4 HB.out.size) HBc.out.size
                  have dg := fun v => sdigits_any (sp.length + 1) v (by omega) (by omega)
                  have hr2 : (((⟨#[110]⟩ : ByteArray) ++ mkT (dgN (sp.length + 1))) ++ ⟨#[58]⟩) ++ n2 = mkT (numT sp.length ++ 58 :: n2.data.toList) := by
                    have h3 : mkT n2.data.toList = n2 := to_list n2
                    rw [num_dgN (by omega)]
                    conv => lhs; rw [← h3]
                    rw [show (⟨#[110]⟩ : ByteArray) = mkT [110] from rfl, show (⟨#[58]⟩ : ByteArray) = mkT [58] from rfl, mkT_app, mkT_app, mkT_app]
                    simp
                  have hds : (mkT (dgN (sp.length + 1))).size ≤ 3 := by rw [mkT_size]; exact dgN_le _ 3 (by omega)
                  generalize mkT (dgN (sp.length + 1)) = D at *
                  have g1 : ¬ 9223372036854775807 < 1 + D.size := by omega
                  have g2 : ¬ 9223372036854775807 < 1 + D.size + 1 := by omega
                  have g3 : ¬ 9223372036854775807 < 1 + D.size + 1 + n2.size := by omega
                  rw [← hln] at dg
                  generalize sp ++ [n1] = sp2 at *
                  clear HAr HB HBr HB4 HA4 d0 hln
                  go_upto_region 17 with fail
                  (try simp only [List.append])
                  refine wp_region_held_drew (S := (fun u => u.cell? ⟨w.heap.size, 1, none⟩ = some (.string n2))) (by kernel_rfl) (d1c) (fun hHeld => ?_)
                  refine takeW 0 ?_
                  refine takeW 1 ?_
                  refine takeW 5 ?_
                  refine takeW 6 ?_
                  (try simp only [Act.put, List.setIfInBounds_toArray, List.set_cons_zero, List.set_cons_succ])
                  refine takeW 8 ?_
                  (try simp only [Act.put, List.setIfInBounds_toArray, List.set_cons_zero, List.set_cons_succ])
                  refine wpAnyH_ready (rs := [2]) (by kernel_rfl) (by simp) ?_
                  refine AllReadyH.cons rfl (fun K2 hK2 => ?_) AllReadyH.nil
                  go_simp
                  refine (dg _).mono ?_
                  rintro e w6 ⟨rfl, hb6⟩
                  have HB6 : Hid (Below w.heap.size w w6) := Lib.hid (HBw.out.drew.trans (hb6.mono HBw.out.drew.size))
                  have HA6 : Hid (Sl1 w6 C sp2) := Lib.hid (Sl1.below (show Sl1 wc.drew C sp2 from HC.out) hb6)
                  refine hK2.out _ _ ((hb6.cell (p := ⟨w.heap.size, 1, none⟩) hltc).trans d1c) (fun hHeld2 => ?_)
                  refine takeW 3 ?_
                  refine takeW 4 ?_
                  refine takeW 7 ?_
                  (try simp only [Act.put, List.setIfInBounds_toArray, List.set_cons_zero, List.set_cons_succ])
                  refine takeW 9 ?_
                  refine takeW 10 ?_
                  refine takeW 11 ?_
                  (try simp only [Act.put, List.setIfInBounds_toArray, List.set_cons_zero, List.set_cons_succ])
                  refine wpAnyH_done (by kernel_rfl) ?_ _
                  go_wp2
                  go_ret3
                  rw [← HO2.out]
                  exact NameOut.good HB6.out HA6.out
end Go.Proofs.YtbdamneophbnnaaGreatDoor
