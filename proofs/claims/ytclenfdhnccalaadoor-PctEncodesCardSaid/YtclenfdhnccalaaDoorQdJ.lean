
/- Contract of package pct: Encode. -/
import Derived.Test.YtclenfdhnccalaaDoorQdI
import Derived.Test.YtclenfdhnccalaaDoorBldF
namespace Wb
theorem u8_shr4 (c : UInt8) : ((c.toNat : Int) / 16) = ((c.toNat / 16 : Nat) : Int) := by omega
theorem u8_and4 (c : UInt8) : Go.bits .and .u8 (c.toNat : Int) 15 = ((c.toNat % 16 : Nat) : Int) := by
  have := c.toNat_lt
  rw [u8_and15 _ (by omega) (by omega)]
  omega
end Wb
namespace Go.Proofs.YtclenfdhnccalaaDoor
open Go.RowKit Wb

set_option maxRecDepth 100000 in
set_option maxHeartbeats 8000000 in
theorem encode_any (s keep : ByteArray) (w : World) (hs : s.size ≤ 1000000) (hkp : keep.size ≤ 1000000) :
    Calls Tryd.prog 10 #[.string s, .string keep] w fun e w' => e = .returned (.string ⟨(pctE keep.data.toList s.data.toList).toArray⟩) ∧ Below w.heap.size w w' := by
  have hz := (zero_of_info arr_info).1
  have hi256 := (zero_of_info arr_info).2
  have hkc := fun v => keeping_any keep v hkp
  obtain ⟨ka, hka⟩ : ∃ ka, arrB (fA keep.data.toList) = ka := ⟨_, rfl⟩
  rw [hka] at hkc
  have hsz := arrB_size (fA keep.data.toList)
  have hon := arrB_one (fA keep.data.toList)
  have HAT := Lib.hid (fun c : UInt8 => (show ka[c.toNat]? = some (.bool ((plC c || keep.data.toList.contains c) && c != 37)) from by rw [← hka, arrB_at _ c.toNat_lt, fA_at]))
  rw [hka] at hsz hon
  have hsc := fun v : World => run_storeCells_new (P := Tryd.prog) v 48 (Array.replicate 256 (.bool false)) ka (by rw [hsz]; exact hi256) (by rw [hsz]; simp) hon
  clear hka
  go_enter Tryd.func10, Tryd.ntmps10
  go_wp2_with fail
  refine (hkc _).mono ?_
  rintro e w1 ⟨rfl, hb1⟩
  clear hkc
  go_upto_region 2 with fail
  have hk2 := heap_alloc_new w1 (.cells ka 48)
  have hb2 := hb1.alloc hb1.size (.cells ka 48)
  have hs2 : (w1.alloc (.cells ka 48)).heap.size = w1.heap.size + 1 := by simp
  generalize w1.alloc (.cells ka 48) = w2 at *
  generalize w1.heap.size = gk at *
  have hf3 := Lib.fresh_isBuilder 40 5 w2
  have hb3 := (Below.refl w2.heap.size w2).alloc (Nat.le_refl _) (.cells #[.pointer none, .slice none 0 0] 40)
  go_upto_region 3 with fail
  have hs3 : (w2.alloc (.cells #[.pointer none, .slice none 0 0] 40)).heap.size = w2.heap.size + 1 := by simp
  have HK3 := Lib.hid (still_block hk2 hb3)
  have HB3 := Lib.hid (hb2.trans (hb3.mono hb2.size))
  have hwB : w.heap.size ≤ w2.heap.size := hb2.size
  have hgk : gk < w2.heap.size := by omega
  generalize w2.alloc (.cells #[.pointer none, .slice none 0 0] 40) = w3 at *
  generalize w2.heap.size = B at *
  subst hs2
  clear hk2 hb1 hb2 hb3
  have hb4 := Go.Joins.below_bytesWorld w3.heap.size w3 5 s (Nat.le_refl _)
  have hcv := Lib.run_convert_string_bytes (P := Tryd.prog) w3 9 35 5 s (u := .string) Tryd.underlying9 Tryd.underlying35 Tryd.underlying5
  have HM4 := Lib.hid (Marked.new w3 s)
  have HF4 := Lib.hid (isb_below' hf3 hb4)
  have HK4 := Lib.hid (still_block HK3.out hb4)
  have HB4 := Lib.hid (HB3.out.trans (hb4.mono HB3.out.size))
  have hB4 : gk + 1 ≤ (Lib.bytesWorld w3 5 s).heap.size := by have := hb4.size; omega
  generalize Lib.bytesWorld w3 5 s = w4 at *
  generalize grownCap w3 s.size 0 5 = cp at *
  clear hf3 hb4 HK3 HB3 hs3
  go_wp2
  generalize w3.heap.size = bk at *
  clear hcv hsc hz hi256 hsz hon
  go_loopw [14] (fun v14 wr => ∃ i : Nat, i ≤ s.size ∧ v14 = .int .i64 i ∧ Hid (Lib.IsBuilder 40 5 (gk + 1) (gk + 1) (Lib.byteCells (pctE keep.data.toList (s.data.toList.take i))) wr) ∧ Hid (wr.heap[gk]? = some (.cells ka 48 (0, 0))) ∧ Hid (Marked wr bk s) ∧ Hid (Below w.heap.size w wr) ∧ gk + 1 ≤ wr.heap.size) (fun v14 _ => ((s.size : Int) - intOf v14).toNat)
  case atStart => exact ⟨0, by omega, rfl, Lib.hid (by rw [List.take_zero]; exact HF4.out), HK4, HM4, HB4, hB4⟩
  case round =>
    clear HF4 HK4 HM4 HB4 hB4
    obtain ⟨i, hi, rfl, HF, HK, HM, HB, hBw⟩ := hrel
    by_cases h0 : i < s.size
    · have hil : i < s.data.toList.length := by simpa using h0
      obtain ⟨c, hc⟩ : ∃ c, s.data.toList[i]? = some c := ⟨s.data.toList[i], List.getElem?_eq_getElem hil⟩
      have hcl := HM.out.cell hc
      have hst := enc_step keep.data.toList s.data.toList i hil
      rw [(List.getElem?_eq_some_iff.1 hc).2] at hst
      have hln : (pctE keep.data.toList (s.data.toList.take i)).length ≤ 3 * i := by
        have := pctE_len keep.data.toList (s.data.toList.take i)
        rw [List.length_take] at this
        omega
      have hkc : wr.cell? ⟨gk, c.toNat, none⟩ = some (.bool ((plC c || keep.data.toList.contains c) && c != 37)) := by rw [blk_cell HK.out, HAT.out]
      have hc256 : (c.toNat : Int) < 256 := by have := c.toNat_lt; omega
      unfold pctC at hst
      generalize pctE keep.data.toList (s.data.toList.take i) = acc at *
      have keep1 : ∀ (v v' : World), Hid (Marked v bk s) → Hid (v.heap[gk]? = some (.cells ka 48 (0, 0))) → Hid (Below w.heap.size w v) → Below (gk + 1) v v' → KeepF v v' → Hid (Marked v' bk s) ∧ Hid (v'.heap[gk]? = some (.cells ka 48 (0, 0))) ∧ Hid (Below w.heap.size w v') := fun v v' h1 h2 h3 h4 h5 => ⟨Lib.hid (h1.out.keep h5), Lib.hid ((h4.block gk (by omega)).trans h2.out), Lib.hid (h3.out.trans (h4.mono hwB))⟩
      have KEEP := Lib.hid keep1
      clear keep1 hc hil
      cases hq : ((plC c || keep.data.toList.contains c) && c != 37) with
      | true =>
        rw [hq, if_pos rfl] at hst
        rw [hq] at hkc
        have HST := Lib.hid hst
        have k1 := qfbyte_any (gk + 1) (gk + 1) (Lib.byteCells acc) (c.toNat : Int) wr HF.out (by rw [Lib.byteCells_length]; omega) hBw
        clear hst hq HF
        go_wp2_with fail
        refine k1.mono ?_
        rintro e w5 ⟨⟨v, rfl⟩, hF5, hb5, ht5⟩
        obtain ⟨HM5, HK5, HB5⟩ := KEEP.out _ _ HM HK HB hb5 ht5
        have hBw5 : gk + 1 ≤ w5.heap.size := Nat.le_trans hBw hb5.size
        have HF5 : Hid (Lib.IsBuilder 40 5 (gk + 1) (gk + 1) (Lib.byteCells (acc ++ [c])) w5) := Lib.hid (by rw [Lib.byteCells_append]; exact hF5)
        clear k1 hF5 hb5 ht5 HM HK HB hkc hcl
        go_wp2
        go_roundw
        case rel => exact ⟨i + 1, by omega, by go_num, Lib.hid (by rw [HST.out]; exact HF5.out), HK5, HM5, HB5, hBw5⟩
        case measure => simp [intOf]; omega
      | false =>
        rw [hq, if_neg (by decide)] at hst
        rw [hq] at hkc
        have HST := Lib.hid hst
        have e1 := u8_shr4 c
        have e2 := u8_and4 c
        have hpl : c.toNat / 16 < 16 := by have := c.toNat_lt; omega
        have hql : c.toNat % 16 < 16 := by omega
        generalize c.toNat / 16 = pn at *
        generalize c.toNat % 16 = qn at *
        have x1 := hex_tab pn hpl
        have x2 := hex_tab qn hql
        have l1 : (pn : Int) < 16 := by omega
        have l2 : (qn : Int) < 16 := by omega
        generalize hexG pn = hp at *
        generalize hexG qn = hq' at *
        have k1 := qfbyte_any (gk + 1) (gk + 1) (Lib.byteCells acc) 37 wr HF.out (by rw [Lib.byteCells_length]; omega) hBw
        clear hst hq HF
        go_wp2_with fail
        refine k1.mono ?_
        rintro e w5 ⟨⟨v, rfl⟩, hF5, hb5, ht5⟩
        obtain ⟨HM5, HK5, HB5⟩ := KEEP.out _ _ HM HK HB hb5 ht5
        have hBw5 : gk + 1 ≤ w5.heap.size := Nat.le_trans hBw hb5.size
        have k2 := qfbyte_any (gk + 1) (gk + 1) _ (hp.toNat : Int) w5 hF5 (by rw [List.length_append, Lib.byteCells_length]; simp; omega) hBw5
        clear k1 hF5 hb5 ht5 HM HK HB hkc hcl
        go_wp2_with fail
        refine k2.mono ?_
        rintro e w6 ⟨⟨v6, rfl⟩, hF6, hb6, ht6⟩
        obtain ⟨HM6, HK6, HB6⟩ := KEEP.out _ _ HM5 HK5 HB5 hb6 ht6
        have hBw6 : gk + 1 ≤ w6.heap.size := Nat.le_trans hBw5 hb6.size
        have k3 := qfbyte_any (gk + 1) (gk + 1) _ (hq'.toNat : Int) w6 hF6 (by simp only [List.length_append, Lib.byteCells_length]; simp; omega) hBw6
        clear k2 hF6 hb6 ht6 HM5 HK5 HB5
        go_wp2_with fail
        refine k3.mono ?_
        rintro e w7 ⟨⟨v7, rfl⟩, hF7, hb7, ht7⟩
        obtain ⟨HM7, HK7, HB7⟩ := KEEP.out _ _ HM6 HK6 HB6 hb7 ht7
        have hBw7 : gk + 1 ≤ w7.heap.size := Nat.le_trans hBw6 hb7.size
        have HF7 : Hid (Lib.IsBuilder 40 5 (gk + 1) (gk + 1) (Lib.byteCells (acc ++ [37, hp, hq'])) w7) := Lib.hid (by
          rw [Lib.byteCells_append]
          rw [List.append_assoc, List.append_assoc] at hF7
          exact hF7)
        clear k3 hF7 hb7 ht7 HM6 HK6 HB6
        go_wp2
        go_roundw
        case rel => exact ⟨i + 1, by omega, by go_num, Lib.hid (by rw [HST.out]; exact HF7.out), HK7, HM7, HB7, hBw7⟩
        case measure => simp [intOf]; omega
    · have hF := HF.out
      rw [List.take_of_length_le (by simp; omega)] at hF
      have k1 := Tryd.Builder_String_any (gk + 1) (gk + 1) _ wr hF hBw
      clear hF HF
      go_wp2_with fail
      refine k1.mono ?_
      rintro e w5 ⟨rfl, hb5⟩
      have HB5 := Lib.hid (HB.out.trans (hb5.mono hwB))
      clear k1 hb5
      go_wp2
      go_ret
      exact ⟨rfl, HB5.out⟩
end Go.Proofs.YtclenfdhnccalaaDoor
