
/- Contract of package pct: keeping (an array of 256 bools, by value). -/
import Derived.Test.YtclenfdhnccalaaDoorQdG
import Derived.Deep.WholeRow
import Derived.Deep.MidRow
import Derived.Lib.ConvBytes
import Derived.Lib.SmallJoins
import Derived.Laws.CopyOwn
import Derived.Deep.Cut
namespace Go.Proofs.YtclenfdhnccalaaDoor
open Go.RowKit Wb
theorem arr_info : (Tryd.prog.info? 48).map (fun i => (i.zero, i.size)) = some (some (.agg (Array.replicate 256 (.bool false))), 256) := by kernel_rfl

set_option maxRecDepth 100000 in
set_option maxHeartbeats 8000000 in
theorem keeping_any (keep : ByteArray) (w : World) (hk : keep.size ≤ 1000000) :
    Calls Tryd.prog 22 #[.string keep] w fun e w' => e = .returned (.agg (arrB (fA keep.data.toList))) ∧ Below w.heap.size w w' := by
  have hz := (zero_of_info arr_info).1
  have hi256 := (zero_of_info arr_info).2
  obtain ⟨ka, hka⟩ : ∃ ka, arrB (fA keep.data.toList) = ka := ⟨_, rfl⟩
  rw [hka]
  have HKA := Lib.hid hka
  clear hka
  have HB0 := Lib.hid (((Below.refl w.heap.size w).alloc (Nat.le_refl _) (.cells (Array.replicate 256 (.bool false)) 48)).alloc (by simp) (.cells (Array.replicate 256 (.bool false)) 48))
  have HR0 := Lib.hid (heap_alloc2_old w (.cells (Array.replicate 256 (.bool false)) 48) (.cells (Array.replicate 256 (.bool false)) 48))
  have HK0 := Lib.hid (heap_alloc2_new w (.cells (Array.replicate 256 (.bool false)) 48) (.cells (Array.replicate 256 (.bool false)) 48))
  go_enter Tryd.func22, Tryd.ntmps22
  go_wp2
  go_loopw [7] (fun v7 wr => ∃ i : Nat, i ≤ 256 ∧ v7 = .int .i64 i ∧ Hid (wr.heap[w.heap.size + 1]? = some (.cells (arrB (fP i)) 48 (0, 0))) ∧ Hid (wr.heap[w.heap.size]? = some (.cells (Array.replicate 256 (.bool false)) 48 (0, 0))) ∧ Hid (Below w.heap.size w wr)) (fun v7 _ => (256 - intOf v7).toNat)
  case atStart => exact ⟨0, by omega, rfl, Lib.hid (by rw [fP_zero]; exact HK0.out), HR0, HB0⟩
  case round =>
    obtain ⟨i, hi, rfl, HK, HR, HB⟩ := hrel
    by_cases h0 : i < 256
    · have hp := pplain_any (UInt8.ofNat i) wr
      have e1 : ((UInt8.ofNat i).toNat : Int) = (i : Int) := by rw [UInt8.toNat_ofNat']; omega
      have e2 : IntKind.u8.wrap (i : Int) = (i : Int) := by rw [IntKind.wrap_u8]; omega
      rw [e1] at hp
      have c1 : wr.cell? ⟨w.heap.size + 1, i, none⟩ = some (.bool (fP i i)) := by rw [blk_cell HK.out, arrB_at _ h0]
      have f1 := blk_free HK.out i
      have HK2 := Lib.hid (blk_set HK.out i (.bool (plC (UInt8.ofNat i))))
      have HR2 : Hid ((wr.setCell ⟨w.heap.size + 1, i, none⟩ (.bool (plC (UInt8.ofNat i)))).heap[w.heap.size]? = some (.cells (Array.replicate 256 (.bool false)) 48 (0, 0))) := Lib.hid (by
        rw [heap_setCell_other _ _ _ _ (by show w.heap.size ≠ w.heap.size + 1; omega)]
        exact HR.out)
      have HB2 := Lib.hid (HB.out.setCell (p := ⟨w.heap.size + 1, i, none⟩) (by show w.heap.size ≤ w.heap.size + 1; omega) (.bool (plC (UInt8.ofNat i))))
      have HS := Lib.hid (fP_step h0)
      generalize plC (UInt8.ofNat i) = pl at *
      generalize fP i i = p0 at *
      have h0i : (i : Int) < 256 := by omega
      clear e1 HK HR HB
      go_wp2_with fail
      refine hp.mono ?_
      rintro e w2 ⟨rfl, rfl⟩
      clear hp
      go_wp2
      go_roundw
      case rel => exact ⟨i + 1, by omega, by go_num, Lib.hid (by rw [← HS.out]; exact HK2.out), HR2, HB2⟩
      case measure => simp [intOf]; omega
    · obtain rfl : i = 256 := by omega
      clear hi h0 HB0 HR0 HK0
      have hlt := (Array.getElem?_eq_some_iff.1 HK.out).1
      have hcv := Lib.run_convert_string_bytes (P := Tryd.prog) wr 9 35 5 keep (u := .string) Tryd.underlying9 Tryd.underlying35 Tryd.underlying5
      have hb1 := Go.Joins.below_bytesWorld wr.heap.size wr 5 keep (Nat.le_refl _)
      have HCL := Lib.hid (fun (i : Nat) (c : UInt8) (h : keep.data.toList[i]? = some c) => (show (Lib.bytesWorld wr 5 keep).cell? ⟨wr.heap.size, i, none⟩ = some (.int .u8 (c.toNat : Int)) from by
        have hi := (List.getElem?_eq_some_iff.1 h).1
        rw [Lib.bytesWorld_cell wr 5 keep i (by simpa using hi), List.getD, h]
        rfl))
      have HK1 := Lib.hid (still_block HK.out hb1)
      have HR1 := Lib.hid (still_block HR.out hb1)
      have HB1 := Lib.hid (HB.out.trans (hb1.mono HB.out.size))
      rw [fP_end keep.data.toList] at HK1
      generalize Lib.bytesWorld wr 5 keep = w1 at *
      generalize grownCap wr keep.size 0 5 = cp at *
      clear hb1 HK HR HB
      go_wp2
      generalize wr.heap.size = bk at *
      go_loopw [19] (fun v19 wq => ∃ i : Nat, i ≤ keep.size ∧ v19 = .int .i64 i ∧ Hid (wq.heap[w.heap.size + 1]? = some (.cells (arrB (fK keep.data.toList i)) 48 (0, 0))) ∧ Hid (wq.heap[w.heap.size]? = some (.cells (Array.replicate 256 (.bool false)) 48 (0, 0))) ∧ Hid (Below w.heap.size w wq) ∧ Hid (∀ (i : Nat) (c : UInt8), keep.data.toList[i]? = some c → wq.cell? ⟨bk, i, none⟩ = some (.int .u8 (c.toNat : Int)))) (fun v19 _ => ((keep.size : Int) - intOf v19).toNat)
      case atStart => exact ⟨0, by omega, rfl, HK1, HR1, HB1, HCL⟩
      case round =>
        clear HK1 HR1 HB1 HCL
        obtain ⟨i, hi, rfl, HK, HR, HB, HC⟩ := hrel
        by_cases h0 : i < keep.size
        · obtain ⟨c, hc⟩ : ∃ c, keep.data.toList[i]? = some c := ⟨keep.data.toList[i]'(by simpa using h0), List.getElem?_eq_getElem _⟩
          have hcl := HC.out i c hc
          have c1 : wr.cell? ⟨w.heap.size + 1, c.toNat, none⟩ = some (.bool (fK keep.data.toList i c.toNat)) := by rw [blk_cell HK.out, arrB_at _ c.toNat_lt]
          have f1 := blk_free HK.out c.toNat
          have HK2 := Lib.hid (blk_set HK.out c.toNat (.bool true))
          have HS := Lib.hid (fK_step hc)
          have HR2 : Hid ((wr.setCell ⟨w.heap.size + 1, c.toNat, none⟩ (.bool true)).heap[w.heap.size]? = some (.cells (Array.replicate 256 (.bool false)) 48 (0, 0))) := Lib.hid (by
            rw [heap_setCell_other _ _ _ _ (by show w.heap.size ≠ w.heap.size + 1; omega)]
            exact HR.out)
          have HB2 := Lib.hid (HB.out.setCell (p := ⟨w.heap.size + 1, c.toNat, none⟩) (by show w.heap.size ≤ w.heap.size + 1; omega) (.bool true))
          have HC2 : Hid (∀ (k : Nat) (x : UInt8), keep.data.toList[k]? = some x → (wr.setCell ⟨w.heap.size + 1, c.toNat, none⟩ (.bool true)).cell? ⟨bk, k, none⟩ = some (.int .u8 (x.toNat : Int))) := Lib.hid (fun k x hx => by
            have hh := heap_setCell_other wr ⟨w.heap.size + 1, c.toNat, none⟩ bk (.bool true) (by show bk ≠ w.heap.size + 1; omega)
            rw [← HC.out k x hx]
            simp [World.cell?, hh])
          have hc256 : (c.toNat : Int) < 256 := by have := c.toNat_lt; omega
          generalize fK keep.data.toList i c.toNat = b0 at *
          clear hc HK HR HB HC
          go_wp2
          go_roundw
          case rel => exact ⟨i + 1, by omega, by go_num, Lib.hid (by rw [← HS.out]; exact HK2.out), HR2, HB2, HC2⟩
          case measure => simp [intOf]; omega
        · obtain rfl : i = keep.size := by omega
          clear hi h0
          rw [show keep.size = keep.data.toList.length by simp] at HK
          have c1 : wr.cell? ⟨w.heap.size + 1, 37, none⟩ = some (.bool (fK keep.data.toList keep.data.toList.length 37)) := by rw [blk_cell HK.out, arrB_at _ (by omega)]
          have f1 := blk_free HK.out 37
          have hk2 := blk_set HK.out 37 (.bool false)
          rw [fA_step] at hk2
          have HK2 := Lib.hid hk2
          have HR2 : Hid ((wr.setCell ⟨w.heap.size + 1, 37, none⟩ (.bool false)).heap[w.heap.size]? = some (.cells (Array.replicate 256 (.bool false)) 48 (0, 0))) := Lib.hid (by
            rw [heap_setCell_other _ _ _ _ (by show w.heap.size ≠ w.heap.size + 1; omega)]
            exact HR.out)
          have HB2 := Lib.hid (HB.out.setCell (p := ⟨w.heap.size + 1, 37, none⟩) (by show w.heap.size ≤ w.heap.size + 1; omega) (.bool false))
          generalize fK keep.data.toList keep.data.toList.length 37 = b0 at *
          clear hk2 HK HR HB HC
          have hsz := arrB_size (fA keep.data.toList)
          have hon := arrB_one (fA keep.data.toList)
          rw [HKA.out] at HK2 hsz hon
          go_upto_region 13 with fail
          generalize wr.setCell ⟨w.heap.size + 1, 37, none⟩ (.bool false) = wz at *
          refine wp_region_list ?_
          refine wpList_load_row rfl 48 (.tmp 3) rfl (w.heap.size + 1) rfl 48 ka (0, 0) _ HK2.out Tryd.underlying48 rfl (by rw [hsz]; exact hi256) ?_
          refine wpList_store_row rfl 48 (.tmp 2) (.tmp 27) rfl w.heap.size ka rfl rfl 48 _ HR2.out (by rw [hsz]; exact hi256) (by rw [hsz]; simp) hon ?_
          have HF := Lib.hid (setRow_heap wz w.heap.size _ ka _ _ HR2.out)
          have HB3 := Lib.hid (Go.below_setRow HB2.out (Nat.le_refl _) ka)
          generalize wz.setRow w.heap.size ka = wy at *
          clear HR2 HB2 HK2 c1 f1
          simp only [wpList, Act.put]
          go_wp2
          refine bodyPost_ret (results_cell_row rfl _ _ w.heap.size 48 ka (0, 0) _ rfl HF.out Tryd.underlying48 rfl (by rw [hsz]; exact hi256)) rfl ?_
          exact ⟨rfl, HB3.out⟩
end Go.Proofs.YtclenfdhnccalaaDoor
