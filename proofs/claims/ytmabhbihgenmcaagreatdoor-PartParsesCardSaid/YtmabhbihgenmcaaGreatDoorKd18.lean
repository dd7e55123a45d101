/- QcI LxAa Take. -/
import Derived.Test.YtmabhbihgenmcaaGreatDoorRows
import Derived.Laws.BytesString
import Derived.Lib.Strings
import Derived.Deep.AppendSrc
import Derived.Deep.RegionHeld2
import Derived.Test.YtmabhbihgenmcaaGreatDoorKd2
import Derived.Test.YtmabhbihgenmcaaGreatDoorKd3
import Derived.Test.YtmabhbihgenmcaaGreatDoorKd8
import Derived.Test.YtmabhbihgenmcaaGreatDoorKd14
import Derived.Test.YtmabhbihgenmcaaGreatDoorKd15
import Derived.Test.YtmabhbihgenmcaaGreatDoorKd17
namespace Wb
open Go Go.RowKit
theorem printH_eq (l : List Pr) : printH (l.map ofPr) = printX l := by
  unfold printH printX
  rw [List.length_map]
theorem printX_size {l : List Pr} {h : List UInt8} (e : printX l = .ok h) : h.length ≤ 6 * (tot7 l + l.length) + 2 := by
  have := printFs_size _ _ (printX_ok e).2
  rwa [sizeF_tot] at this
theorem partsM_at {b : List UInt8} {L : List PtV} {i : Nat} {x : PtV} (h : L[i]? = some x) : partsM b (ptsOf (L.drop i)) = match printX x.2.1 with
    | .error e => .error e
    | .ok h => preE (delB b ++ 13 :: 10 :: (h ++ (x.2.2.data.toList ++ [13, 10]))) (partsM b (ptsOf (L.drop (i + 1)))) := by
  obtain ⟨hi, e⟩ := List.getElem?_eq_some_iff.1 h
  rw [List.drop_eq_getElem_cons hi, e]
  show partsM b (ptOf x :: ptsOf (L.drop (i + 1))) = _
  rw [partsM]
  have hpe : printH (ptOf x).1 = printX x.2.1 := printH_eq x.2.1
  rw [hpe]
  cases printX x.2.1 with
  | error e => rfl
  | ok h =>
    simp only
    cases partsM b (ptsOf (L.drop (i + 1))) with
    | error e => rfl
    | ok s =>
      unfold preE
      simp [ptOf]
theorem partsM_end (b : List UInt8) (L : List PtV) : partsM b (ptsOf (L.drop L.length)) = .ok (delB b ++ [45, 45, 13, 10]) := by
  rw [List.drop_length]
  rfl
end Wb
namespace Go.Proofs.YtmabhbihgenmcaaGreatDoor
open Go.RowKit Wb
theorem PartZ.z {x : PtV} (h : PartZ x) : PtZ x := by
  obtain ⟨h1, h2, h3⟩ := h
  refine ⟨by omega, by omega, fun f hf => ?_⟩
  have := tot7_mem hf
  omega
set_option maxRecDepth 100000 in
set_option maxHeartbeats 8000000 in
theorem print8_any (b : ByteArray) (A : Option Addr) (L : List PtV) (c : Nat) (w : World) (hb : b.size ≤ 100000) (hS : SlP w A L) (hl : L.length ≤ 60) (hz : ∀ x ∈ L, PartZ x) (hG : GvF w) :
    Calls Tryz.prog 9 #[.string b, .slice A L.length c] w fun e w' => StrOut (printM b.data.toList (ptsOf L)) e ∧ Below w.heap.size w w' := by
  obtain ⟨o, ho⟩ : ∃ o, printM b.data.toList (ptsOf L) = o := ⟨_, rfl⟩
  rw [ho]
  unfold printM at ho
  have hpl : (ptsOf L).length = L.length := List.length_map ..
  rw [hpl, clashL_eq] at ho
  clear hpl
  have hba := (Below.refl w.heap.size w).alloc (Nat.le_refl _) (.cells #[.string b] 9)
  obtain ⟨w1, hw1⟩ : ∃ w1, w.alloc (.cells #[.string b] 9) = w1 := ⟨_, rfl⟩
  have hg : w1.heap[w.heap.size]? = some (.cells #[.string b] 9 (0, 0)) := by
    rw [← hw1]
    exact heap_alloc_new _ _
  rw [hw1] at hba
  have p0 := blk_cell hg 0
  simp only [List.getElem?_toArray, List.getElem?_cons_zero] at p0
  have HS := Lib.hid (hS.below hba)
  have HG := Lib.hid (hG.next hba)
  have HZ := Lib.hid hz
  have HGB := Lib.hid hg
  have HB := Lib.hid hba
  have HW := Lib.hid hw1
  have HO := Lib.hid ho
  have hws := hba.size
  have h1 := isBnd_any b w1 (by omega)
  clear hba hw1 hg hS hG hz ho
  cases hbf : bndF b.data.toList
  · have HE : Hid (o = .error 30) := Lib.hid (by rw [← HO.out, if_pos (.inl hbf)])
    rw [hbf] at h1
    clear hbf HO
    go_enter Tryz.func9, Tryz.ntmps9
    go_upto_region 1 with fail
    rw [HW.out]
    go_wp2_with fail
    refine h1.mono ?_
    rintro e w2 ⟨rfl, hb2⟩
    have HB2 := Lib.hid (HB.out.trans (hb2.mono HB.out.size))
    clear hb2 h1
    go_wp2
    go_ret2
    rw [HE.out]
    exact ⟨rfl, HB2.out⟩
  rw [hbf] at h1
  have h2 := fun (v : World) (hv : Below w1.heap.size w1 v) => contV_any (clashV b.data.toList) 21 #[.pointer (some ⟨w.heap.size, 0, none⟩)] A L c v (HS.out.below hv) (by omega)
    (pt_tells b w.heap.size L v (still_block HGB.out hv) (by omega) (fun x hx => (HZ.out x hx).z) (fun x hx => (HS.out.2 x hx).below hv) (HG.out.next hv))
  cases hcl : L.any (clashV b.data.toList)
  case true =>
    have HE : Hid (o = .error 30) := Lib.hid (by rw [← HO.out, if_pos (.inr hcl)])
    rw [hcl] at h2
    clear hbf HO hcl
    go_enter Tryz.func9, Tryz.ntmps9
    go_upto_region 1 with fail
    rw [HW.out]
    go_wp2_with fail
    refine h1.mono ?_
    rintro e w2 ⟨rfl, hb2⟩
    have HB2 := Lib.hid (HB.out.trans (hb2.mono HB.out.size))
    have h3 := h2 w2 hb2
    clear hb2 h1 h2
    go_wp2_with fail
    refine h3.mono ?_
    rintro e w3 ⟨rfl, hb3⟩
    have HB3 := Lib.hid (HB2.out.trans (hb3.mono HB2.out.size))
    clear hb3 h3
    go_wp2
    go_ret2
    rw [HE.out]
    exact ⟨rfl, HB3.out⟩
  rw [hcl] at h2
  have ho := HO.out
  rw [if_neg (by rw [hbf, hcl]; simp)] at ho
  have HO := Lib.hid ho
  clear hbf hcl ho
  go_enter Tryz.func9, Tryz.ntmps9
  go_upto_region 1 with fail
  rw [HW.out]
  go_wp2_with fail
  refine h1.mono ?_
  rintro e w2 ⟨rfl, hb2⟩
  have HB2 := Lib.hid (HB.out.trans (hb2.mono HB.out.size))
  have HK2 := Lib.hid hb2
  have h3 := h2 w2 hb2
  clear hb2 h1 h2
  go_wp2_with fail
  refine h3.mono ?_
  rintro e w3 ⟨rfl, hb3⟩
  have HB3 := Lib.hid (HB2.out.trans (hb3.mono HB2.out.size))
  have HK3 := Lib.hid (HK2.out.trans (hb3.mono HK2.out.size))
  clear hb3 h3
  by_cases h40 : 40 < L.length
  · have HE : Hid (o = .error 3) := Lib.hid (by rw [← HO.out, if_pos h40])
    go_wp2
    go_ret2
    rw [HE.out]
    exact ⟨rfl, HB3.out⟩
  by_cases h0 : L.length = 0
  · have HE : Hid (o = .error 2) := Lib.hid (by rw [← HO.out, if_neg h40, if_pos h0])
    have hz0 : ((L.length : Int) == 0) = true := by rw [beq_iff_eq]; omega
    go_wp2
    go_ret2
    rw [HE.out]
    exact ⟨rfl, HB3.out⟩
  have hz0 : ((L.length : Int) == 0) = false := by rw [beq_eq_false_iff_ne]; omega
  have HQ0 : Hid (o = partsM b.data.toList (ptsOf L)) := Lib.hid (by rw [← HO.out, if_neg h40, if_neg h0])
  have hb4 := (Below.refl w3.heap.size w3).alloc (Nat.le_refl _) (.cells #[.pointer none, .slice none 0 0] 51)
  have HF := Lib.hid (Lib.fresh_isBuilder 51 5 w3)
  obtain ⟨w4, hw4⟩ : ∃ w4, w3.alloc (.cells #[.pointer none, .slice none 0 0] 51) = w4 := ⟨_, rfl⟩
  rw [hw4] at hb4 HF
  have HW4 := Lib.hid hw4
  have HB4 := Lib.hid (HB3.out.trans (hb4.mono HB3.out.size))
  have HK4 := Lib.hid (HK3.out.trans (hb4.mono HK3.out.size))
  have hs34 := hb4.size
  have hs13 := HK3.out.size
  clear hw4 hb4
  go_upto_region 9 with fail
  rw [HW4.out]
  go_wp2
  have hb2s : (⟨#[45, 45]⟩ : ByteArray).size = 2 := rfl
  have hb2t : (⟨#[13, 10]⟩ : ByteArray).size = 2 := rfl
  obtain ⟨k1, hk1⟩ : ∃ k, (⟨#[45, 45]⟩ : ByteArray) ++ b = k := ⟨_, rfl⟩
  obtain ⟨k2, hk2⟩ : ∃ k, k1 ++ (⟨#[13, 10]⟩ : ByteArray) = k := ⟨_, rfl⟩
  obtain ⟨k4, hk4⟩ : ∃ k, k1 ++ (⟨#[45, 45]⟩ : ByteArray) = k := ⟨_, rfl⟩
  obtain ⟨k5, hk5⟩ : ∃ k, k4 ++ (⟨#[13, 10]⟩ : ByteArray) = k := ⟨_, rfl⟩
  have z1 : k1.size = 2 + b.size := by rw [← hk1, ByteArray.size_append]; rfl
  have z2 : k2.size = k1.size + 2 := by rw [← hk2, ByteArray.size_append]; rfl
  have z4 : k4.size = k1.size + 2 := by rw [← hk4, ByteArray.size_append]; rfl
  have z5 : k5.size = k4.size + 2 := by rw [← hk5, ByteArray.size_append]; rfl
  have l1 : k1.data.toList = delB b.data.toList := by
    rw [← hk1, ByteArray.data_append, Array.toList_append]
    rfl
  have l2 : k2.data.toList = delB b.data.toList ++ [13, 10] := by rw [← hk2, ByteArray.data_append, Array.toList_append, l1]
  have l5 : k5.data.toList = delB b.data.toList ++ [45, 45, 13, 10] := by
    rw [← hk5, ByteArray.data_append, Array.toList_append, ← hk4, ByteArray.data_append, Array.toList_append, l1]
    simp
  have u1 : ¬ 9223372036854775807 < (⟨#[45, 45]⟩ : ByteArray).size + b.size := by omega
  have u2 : ¬ 9223372036854775807 < k1.size + (⟨#[13, 10]⟩ : ByteArray).size := by omega
  have u4 : ¬ 9223372036854775807 < k1.size + (⟨#[45, 45]⟩ : ByteArray).size := by omega
  have u5 : ¬ 9223372036854775807 < k4.size + (⟨#[13, 10]⟩ : ByteArray).size := by omega
  have L2 := Lib.hid l2
  have L5 := Lib.hid l5
  have hbel3 : w.heap.size < w1.heap.size := World.block_lt_of_cell? _ _ p0
  generalize w3.heap.size = g3 at *
  clear l1 l2 l5 hb2s hb2t HO
  go_loopw [28] (fun vi wr => ∃ (i : Nat) (acc : List UInt8), i ≤ L.length ∧ vi = .int .i64 i ∧ acc.length ≤ i * 100000000 ∧ Hid (o = preE acc (partsM b.data.toList (ptsOf (L.drop i)))) ∧ Hid (Lib.IsBuilder 51 5 g3 g3 (Lib.byteCells acc) wr) ∧ Hid (Below w.heap.size w wr) ∧ Hid (Below w1.heap.size w1 wr) ∧ g3 ≤ wr.heap.size) (fun vi _ => L.length - (intOf vi).toNat)
  case atStart => exact ⟨0, [], by omega, rfl, by simp, Lib.hid (by rw [preE_nil, List.drop_zero]; exact HQ0.out), HF, HB4, HK4, hs34⟩
  case round =>
    obtain ⟨i, acc, hi, rfl, hacc, HQ, HBd, HWr, HKr, hgr⟩ := hrel
    have b0 : wr.cell? ⟨w.heap.size, 0, none⟩ = some (.string b) := (HKr.out.cell hbel3).trans p0
    by_cases hi0 : i < L.length
    · obtain ⟨⟨⟨x1, x3⟩, ⟨fs, body⟩⟩, hx⟩ : ∃ x, L[i]? = some x := ⟨L[i], List.getElem?_eq_getElem hi0⟩
      obtain ⟨zb, zl, zt⟩ := HZ.out _ (List.mem_of_getElem? hx)
      obtain ⟨ad, rfl, had, d0, d1, hfs⟩ := (HS.out.below HKr.out).at_ hx
      have hst := HQ.out
      rw [partsM_at hx] at hst
      simp only at zb zl zt d0 d1 hfs hst
      obtain ⟨w5, hw5⟩ : ∃ w5, wr.alloc (.cells #[.slice x1 fs.length x3, .string body] 43) = w5 := ⟨_, rfl⟩
      have hb5 : Below wr.heap.size wr w5 := by rw [← hw5]; exact (Below.refl _ _).alloc (Nat.le_refl _) _
      have hp : w5.heap[wr.heap.size]? = some (.cells #[.slice x1 fs.length x3, .string body] 43 (0, 0)) := by rw [← hw5]; exact heap_alloc_new _ _
      have c0 := blk_cell hp 0
      simp only [List.getElem?_toArray, List.getElem?_cons_zero] at c0
      have hwr := HWr.out.size
      have hkr := HKr.out.size
      have HW5 := Lib.hid (HWr.out.trans (hb5.mono hwr))
      have HK5 := Lib.hid (HKr.out.trans (hb5.mono hkr))
      have HB5 := Lib.hid (isb_below' HBd.out hb5)
      have HP := Lib.hid hp
      have HE5 := Lib.hid hw5
      have b5 : w5.cell? ⟨w.heap.size, 0, none⟩ = some (.string b) := (HK5.out.cell hbel3).trans p0
      have h1 := print_any x1 fs x3 w5 (hfs.below hb5) (by omega) (fun f hf => by have := tot7_mem hf; omega) (HG.out.next HK5.out)
      have hgr5 : g3 ≤ w5.heap.size := Nat.le_trans hgr hb5.size
      clear hx hw5 hb5 hp hfs b0
      go_upto_region 12 with fail
      rw [HE5.out]
      clear HE5
      generalize wr.heap.size = e0 at *
      cases hpx : printX fs with
      | error k =>
        rw [hpx] at hst h1
        have HE : Hid (o = .error k) := Lib.hid hst
        have hk := printX_err hpx
        clear hst hpx
        rcases hk with rfl | rfl | rfl
        all_goals
          go_wp2_with fail
          refine h1.mono ?_
          rintro e w6 ⟨he, hb6⟩
          obtain rfl : e = _ := he
          have HW6 := Lib.hid (HW5.out.trans (hb6.mono HW5.out.size))
          clear hb6 h1
          go_wp2
          go_ret2
          rw [HE.out]
          exact ⟨rfl, HW6.out⟩
      | ok h =>
        rw [hpx] at hst h1
        have hsz := printX_size hpx
        have h1 : Calls Tryz.prog 23 #[.slice x1 fs.length x3] w5 fun e w' => e = .returned (.tuple #[.string (mkB h), .int .i64 0]) ∧ Below w5.heap.size w5 w' := h1
        simp only at hst
        rw [preE_app] at hst
        have HST := Lib.hid hst
        have hmh : (mkB h).size = h.length := mkB_size h
        have hmhl : (mkB h).data.toList = h := rfl
        obtain ⟨k3, hk3⟩ : ∃ k, k2 ++ mkB h = k := ⟨_, rfl⟩
        have z3 : k3.size = k2.size + h.length := by rw [← hk3, ByteArray.size_append, hmh]
        have l3 : k3.data.toList = delB b.data.toList ++ 13 :: 10 :: h := by
          rw [← hk3, ByteArray.data_append, Array.toList_append, L2.out, hmhl]
          simp
        have u3 : ¬ 9223372036854775807 < k2.size + (mkB h).size := by omega
        have L3 := Lib.hid l3
        clear hst hpx l3 hmhl
        generalize mkB h = hB at *
        go_wp2_with fail
        refine h1.mono ?_
        rintro e w6 ⟨rfl, hb6⟩
        have HW6 := Lib.hid (HW5.out.trans (hb6.mono HW5.out.size))
        have HK6 := Lib.hid (HK5.out.trans (hb6.mono HK5.out.size))
        have HB6 := Lib.hid (isb_below' HB5.out hb6)
        have HP6 := Lib.hid (still_block HP.out hb6)
        have hgr6 : g3 ≤ w6.heap.size := Nat.le_trans hgr5 hb6.size
        have b6 : w6.cell? ⟨w.heap.size, 0, none⟩ = some (.string b) := (HK6.out.cell hbel3).trans p0
        have hwr1 := qtwrite_any g3 g3 _ k3 w6 HB6.out (by rw [Lib.byteCells_length]; omega) hgr6
        clear hb6 h1 c0 b5 HB5
        go_wp2_with fail
        refine hwr1.mono ?_
        rintro e w7 ⟨⟨vv, rfl⟩, hB7, hb7, ht7⟩
        have HB7 := Lib.hid hB7
        have HW7 := Lib.hid (HW6.out.trans (hb7.mono (by omega)))
        have HK7 := Lib.hid (HK6.out.trans (hb7.mono (by omega)))
        have hp7 := (ht7 _ _ _ _ (by decide) (by decide) HP6.out).trans HP6.out
        have HP7 := Lib.hid hp7
        have c1 := blk_cell hp7 1
        simp only [List.getElem?_toArray, List.getElem?_cons_zero, List.getElem?_cons_succ] at c1
        have hgr7 : g3 ≤ w7.heap.size := Nat.le_trans hgr6 hb7.size
        have hwr2 := qtwrite_any g3 g3 _ body w7 HB7.out (by rw [List.length_append, Lib.byteCells_length, Lib.strCells_eq, Lib.byteCells_length, ← ba_size]; omega) hgr7
        clear hB7 hb7 ht7 hp7 hwr1 b6
        go_wp2_with fail
        refine hwr2.mono ?_
        rintro e w8 ⟨⟨vv2, rfl⟩, hB8, hb8, ht8⟩
        have HB8 := Lib.hid hB8
        have HW8 := Lib.hid (HW7.out.trans (hb8.mono (by omega)))
        have HK8 := Lib.hid (HK7.out.trans (hb8.mono (by omega)))
        have hgr8 : g3 ≤ w8.heap.size := Nat.le_trans hgr7 hb8.size
        have hwr3 := qtwrite_any g3 g3 _ ⟨#[13, 10]⟩ w8 HB8.out (by
          have : (⟨#[13, 10]⟩ : ByteArray).size = 2 := rfl
          rw [List.length_append, List.length_append, Lib.byteCells_length, Lib.strCells_eq, Lib.byteCells_length, Lib.strCells_eq, Lib.byteCells_length, ← ba_size, ← ba_size]; omega) hgr8
        clear hB8 hb8 ht8 hwr2 c1
        go_wp2_with fail
        refine hwr3.mono ?_
        rintro e w9 ⟨⟨vv3, rfl⟩, hB9, hb9, _⟩
        have HW9 := Lib.hid (HW8.out.trans (hb9.mono (by omega)))
        have HK9 := Lib.hid (HK8.out.trans (hb9.mono (by omega)))
        have hgr9 : g3 ≤ w9.heap.size := Nat.le_trans hgr8 hb9.size
        have HB9 : Hid (Lib.IsBuilder 51 5 g3 g3 (Lib.byteCells (acc ++ (delB b.data.toList ++ 13 :: 10 :: (h ++ (body.data.toList ++ [13, 10]))))) w9) := Lib.hid (by
          have h := hB9
          rw [Lib.strCells_eq, Lib.strCells_eq, Lib.strCells_eq, L3.out, ← Lib.byteCells_append, ← Lib.byteCells_append, ← Lib.byteCells_append] at h
          simpa using h)
        clear hB9 hb9 hwr3
        go_wp2
        go_roundw
        case rel => exact ⟨i + 1, _, by omega, by go_num, by
          have e1 := ba_size b
          have e2 := ba_size body
          rw [List.length_append, List.length_append, delB_len]
          simp only [List.length_cons, List.length_append, List.length_nil]
          omega, HST, HB9, HW9, HK9, hgr9⟩
        case measure => simp [intOf]; omega
    · obtain rfl : i = L.length := by omega
      have HE : Hid (o = .ok (acc ++ (delB b.data.toList ++ [45, 45, 13, 10]))) := Lib.hid (by rw [HQ.out, partsM_end]; rfl)
      have hwr1 := qtwrite_any g3 g3 _ k5 wr HBd.out (by rw [Lib.byteCells_length]; omega) hgr
      go_wp2_with fail
      refine hwr1.mono ?_
      rintro e w7 ⟨⟨vv, rfl⟩, hB7, hb7, _⟩
      have hB8 : Lib.IsBuilder 51 5 g3 g3 (Lib.byteCells (acc ++ (delB b.data.toList ++ [45, 45, 13, 10]))) w7 := by
        have h := hB7
        rw [Lib.strCells_eq, L5.out, ← Lib.byteCells_append] at h
        exact h
      have HW7 := Lib.hid (HWr.out.trans (hb7.mono (by omega)))
      have hgr7 : g3 ≤ w7.heap.size := Nat.le_trans hgr hb7.size
      have k9 := Tryz.Builder_String_any g3 g3 _ w7 hB8 hgr7
      clear hB7 hb7 hwr1 hB8
      go_wp2_with fail
      refine k9.mono ?_
      rintro e w8 ⟨rfl, hb8⟩
      have HW8 := Lib.hid (HW7.out.trans (hb8.mono (by omega)))
      clear hb8 k9
      go_wp2
      go_ret2
      rw [HE.out]
      exact ⟨rfl, HW8.out⟩
end Go.Proofs.YtmabhbihgenmcaaGreatDoor
namespace Go.Proofs.YtmabhbihgenmcaaGreatDoor
open Go.RowKit Wb
def begAt (s : ByteArray) (i : Nat) (t : ByteArray) : Bool := (s.extract i (i + t.size)).toList == t.toList
def begB (s : ByteArray) (at_ : Int) (t : ByteArray) : Bool := decide (0 ≤ at_) && (decide (at_ + t.size ≤ s.size) && begAt s at_.toNat t)
set_option maxHeartbeats 400000 in
theorem begins_any (s t : ByteArray) (at_ : Int) (w : World) (hs : s.size ≤ 1000000000) (ht : t.size ≤ 1000000000) (h1 : -1000000000 ≤ at_) (h2 : at_ ≤ 2000000000) :
    Calls Tryz.prog 37 #[.string s, .int .i64 at_, .string t] w fun e w' => e = .returned (.bool (begB s at_ t)) ∧ w = w' := by
  by_cases h0 : 0 ≤ at_
  · obtain ⟨k, rfl⟩ := Int.eq_ofNat_of_zero_le h0
    by_cases hk : (k : Int) + t.size ≤ s.size
    · cases hb : begAt s k t
      all_goals
        have H : Hid (begB s k t = _) := Lib.hid (show begB s k t = begAt s k t from by unfold begB; rw [decide_eq_true h0, decide_eq_true hk]; simp)
        rw [H.out, hb]
        clear H
        have hq : ((s.extract k (k + t.size)).toList == t.toList) = _ := hb
        clear hb
        have g1 : (t.size : Int) ≤ (s.size : Int) - k := by omega
        go_enter Tryz.func37, Tryz.ntmps37
        go_wp2
        go_ret
        exact ⟨rfl, rfl⟩
    · have H : begB s k t = false := by unfold begB; rw [decide_eq_false hk]; simp
      rw [H]
      clear H
      have g1 : ¬ (t.size : Int) ≤ (s.size : Int) - k := by omega
      go_enter Tryz.func37, Tryz.ntmps37
      go_wp2
      go_ret
      exact ⟨rfl, rfl⟩
  · have H : begB s at_ t = false := by unfold begB; rw [decide_eq_false h0]; simp
    rw [H]
    clear H
    go_enter Tryz.func37, Tryz.ntmps37
    go_wp2
    go_ret
    exact ⟨rfl, rfl⟩
end Go.Proofs.YtmabhbihgenmcaaGreatDoor
namespace Wb
open Go Go.RowKit
theorem op_at {ops : Array Oper} {i : Nat} {oi : Oper} {rest : List Oper} (h : ops.toList.drop i = oi :: rest) : ops[i]? = some oi := by
  have h2 : (ops.toList.drop i)[0]? = some oi := by rw [h]; rfl
  rw [List.getElem?_drop] at h2
  simpa using h2
theorem takeW {P : Program} {md : Region.Mode} {ops : Array Oper} {Q : Exit → Act → World → Prop} {S : World → Prop} {oi : Oper} {rest : List Oper} {v : Value} {fuel : Nat} {listed : Array Bool} {a : Act} {w : World} (i : Nat)
    (h : wpAnyH P md ops Q S fuel (listed.setIfInBounds i true) (a.put oi.dst v) w) (hi : ops.toList.drop i = oi :: rest := by rfl)
    (hy : ∀ w, S w → (execOp a.eval oi).run P w = .ok (.value v) w := by (intro w' hSw; (try dsimp only at hSw); go_simp; (try with_reducible rfl)))
    (hs : Region.noSelect ops = true := by kernel_rfl) (hf : Region.free md ops listed i = true := by kernel_rfl) (hr : (Region.ready md ops listed).contains i = true := by kernel_rfl)
    (hQ : ∀ c a w, Q (.panic c) (a.put oi.dst v) w → Q (.panic c) a w := by exact fun _ _ _ h => h) (hw : Region.wanted oi (yielded ops a.tmps) = true := by rfl) (hS : S w := by assumption) : wpAnyH P md ops Q S (fuel + 1) listed a w :=
  wpAnyH_take (op_at hi) hs hf hr hQ (.inl ⟨hw, hy⟩) hS h
end Wb
