
/- Walk: PrintOne. -/
import Derived.Test.YtobmjcompkkeaaaDoorPrT
import Derived.Test.YtobmjcompkkeaaaDoorMgE
import Derived.Test.YtobmjcompkkeaaaDoorSmD
import Derived.Test.YtobmjcompkkeaaaDoorMgV
import Derived.Test.YtobmjcompkkeaaaDoorSmZ
namespace Go.Proofs.YtobmjcompkkeaaaDoor
open Go.RowKit Wb

set_option maxRecDepth 100000 in
set_option maxHeartbeats 4000000 in
theorem one_walk (n m : Nd) (A K B L : Option Addr) (ca ck cb cl : Nat) (w : World) (hVn : NodeV w n A K) (hVm : NodeV w m B L) (hln : lenN 9223372036854775807 n) (hlm : lenN 9223372036854775807 m) :
    Calls Tryd.prog 3 #[ndV n A ca K ck, ndV m B cb L cl] w fun e w' => e = .returned (.bool true) ∧ Below w.heap.size w w' := by
  have hb1 : Below w.heap.size w (w.alloc (.cells (ndCells n.kind n.name A n.attrs.length ca K n.kids.length ck n.text).toArray 27)) := (Below.refl _ w).alloc (Nat.le_refl _) _
  have hb2 : Below w.heap.size w ((w.alloc (.cells (ndCells n.kind n.name A n.attrs.length ca K n.kids.length ck n.text).toArray 27)).alloc (.cells (ndCells m.kind m.name B m.attrs.length cb L m.kids.length cl m.text).toArray 27)) := hb1.alloc (by simp) _
  have hM := heap_alloc_new (w.alloc (.cells (ndCells n.kind n.name A n.attrs.length ca K n.kids.length ck n.text).toArray 27)) (.cells (ndCells m.kind m.name B m.attrs.length cb L m.kids.length cl m.text).toArray 27)
  have hN := (Below.heap_alloc (w.alloc (.cells (ndCells n.kind n.name A n.attrs.length ca K n.kids.length ck n.text).toArray 27)) (.cells (ndCells m.kind m.name B m.attrs.length cb L m.kids.length cl m.text).toArray 27) _ (blk_in (heap_alloc_new w _))).trans (heap_alloc_new w (.cells (ndCells n.kind n.name A n.attrs.length ca K n.kids.length ck n.text).toArray 27))
  have h1 := awake5 ((w.alloc (.cells (ndCells n.kind n.name A n.attrs.length ca K n.kids.length ck n.text).toArray 27)).alloc (.cells (ndCells m.kind m.name B m.attrs.length cb L m.kids.length cl m.text).toArray 27))
  have hVn2 := NodeV.below hVn (hb2.mono (Nat.le_refl _))
  have hVm2 := NodeV.below hVm (hb2.mono (Nat.le_refl _))
  have hs1 : (w.alloc (.cells (ndCells n.kind n.name A n.attrs.length ca K n.kids.length ck n.text).toArray 27)).heap.size = w.heap.size + 1 := by simp
  rw [hs1] at hM
  have hs2 : w.heap.size + 2 = ((w.alloc (.cells (ndCells n.kind n.name A n.attrs.length ca K n.kids.length ck n.text).toArray 27)).alloc (.cells (ndCells m.kind m.name B m.attrs.length cb L m.kids.length cl m.text).toArray 27)).heap.size := by simp
  have HF := Lib.hid (fun (v : World) (hv : NodeV v n A K) => tfew_any n A K ca ck v hv hln)
  have HE := Lib.hid (fun (v : World) (hv : NodeV v m B L) => tfew_any m B L cb cl v hv hlm)
  have HN := Lib.hid hN
  have HM := Lib.hid hM
  have HB := Lib.hid hb2
  have HVN := Lib.hid hVn2
  have HVM := Lib.hid hVm2
  have HS := Lib.hid hs2
  clear hb1 hb2 hM hN hVn2 hVm2 hs1 hs2 hln hlm hVn hVm
  unfold ndV
  unfold ndCells at *
  go_enter Tryd.func3, Tryd.ntmps3
  go_wp2_with fail
  refine h1.mono ?_
  rintro e w3 ⟨rfl, hb3⟩
  have hN3 := still_block HN.out hb3
  have hM3 := still_block HM.out hb3
  have HB3 := Lib.hid (HB.out.trans (hb3.mono HB.out.size))
  have hVn3 := NodeV.below HVN.out hb3
  have hVm3 := NodeV.below HVM.out hb3
  have hge : w.heap.size + 2 ≤ w3.heap.size := by have := hb3.size; have := HS.out; omega
  clear h1 hb3 HN HM HB HVN HVM HS
  have VN := Lib.hid hVn3
  have VM := Lib.hid hVm3
  have CN := Lib.hid (fun (v : World) (h : Below w3.heap.size w3 v) => cells_of_nd ((h.block _ (by omega)).trans hN3))
  have CM := Lib.hid (fun (v : World) (h : Below w3.heap.size w3 v) => cells_of_nd ((h.block _ (by omega)).trans hM3))
  clear hN3 hM3
  have hf := HF.out w3 VN.out
  unfold ndV ndCells at hf
  obtain ⟨n0, n1, n2, n3, n4, n5⟩ := CN.out w3 (Below.refl _ _)
  clear hVn3 hVm3
  by_cases hfn : weighN n 30000 ≤ 30000
  · rw [decide_eq_true hfn] at hf
    go_wp2_with fail
    refine hf.mono ?_
    rintro e w4 ⟨rfl, hb4⟩
    have HB4 := Lib.hid hb4
    clear n0 n1 n2 n3 n4 n5 hf hb4
    have he := HE.out w4 (NodeV.below VM.out HB4.out)
    unfold ndV ndCells at he
    obtain ⟨m0, m1, m2, m3, m4, m5⟩ := CM.out w4 HB4.out
    by_cases hfm : weighN m 30000 ≤ 30000
    · rw [decide_eq_true hfm] at he
      have hsn := few_small n 30000 (by omega) hfn
      have hsm := few_small m 30000 (by omega) hfm
      have hzn := few_sz n 30000 (by omega) hfn
      have hzm := few_sz m 30000 (by omega) hfm
      have HPN := Lib.hid (fun (v : World) (hv : NodeV v n A K) => Print_any n A K ca ck v hzn hsn hv)
      have HPM := Lib.hid (fun (v : World) (hv : NodeV v m B L) => Print_any m B L cb cl v hzm hsm hv)
      have HSM := Lib.hid (fun (v : World) (hn : NodeV v n A K) (hm : NodeV v m B L) => Same_any n m A K B L ca ck cb cl v hzn hzm hsn hsm hn hm)
      go_wp2_with fail
      refine he.mono ?_
      rintro e w5 ⟨rfl, hb5⟩
      have HB5 := Lib.hid (HB4.out.trans (hb5.mono HB4.out.size))
      clear m0 m1 m2 m3 m4 m5 he hb5 HF HE HB4 hsn hsm hzn hzm
      obtain ⟨n0, n1, n2, n3, n4, n5⟩ := CN.out w5 HB5.out
      have hpn := HPN.out w5 (NodeV.below VN.out HB5.out)
      unfold ndV ndCells at hpn
      go_wp2_with fail
      refine hpn.mono ?_
      rintro e w6 ⟨rfl, hb6⟩
      have HB6 := Lib.hid (HB5.out.trans (hb6.mono HB5.out.size))
      clear n0 n1 n2 n3 n4 n5 hpn hb6 HB5
      obtain ⟨m0, m1, m2, m3, m4, m5⟩ := CM.out w6 HB6.out
      have hpm := HPM.out w6 (NodeV.below VM.out HB6.out)
      unfold ndV ndCells at hpm
      go_wp2_with fail
      refine hpm.mono ?_
      rintro e w7 ⟨rfl, hb7⟩
      have HB7 := Lib.hid (HB6.out.trans (hb7.mono HB6.out.size))
      clear m0 m1 m2 m3 m4 m5 hpm hb7 HB6
      obtain ⟨n0, n1, n2, n3, n4, n5⟩ := CN.out w7 HB7.out
      obtain ⟨m0, m1, m2, m3, m4, m5⟩ := CM.out w7 HB7.out
      have hsm := HSM.out w7 (NodeV.below VN.out HB7.out) (NodeV.below VM.out HB7.out)
      unfold ndV ndCells at hsm
      have hlike : sameN n m = true → printR n = printR m := print_like
      have hunl : sameN n m = false → (printR n).2 ≠ 0 ∨ (printR m).2 ≠ 0 ∨ (printR n).1 ≠ (printR m).1 := print_unlike
      have HLIKE := Lib.hid hlike
      have HUNL := Lib.hid hunl
      obtain ⟨x1, x2, hx⟩ : ∃ x1 x2, printR n = (x1, x2) := ⟨_, _, rfl⟩
      obtain ⟨y1, y2, hy⟩ : ∃ y1 y2, printR m = (y1, y2) := ⟨_, _, rfl⟩
      rw [hx, hy] at HLIKE HUNL
      rw [hx, hy]
      clear hlike hunl hx hy
      simp only
      cases hsame : sameN n m with
      | true =>
        rw [hsame] at hsm
        obtain ⟨rfl, rfl⟩ := Prod.mk.inj (HLIKE.out hsame)
        clear HLIKE HUNL
        generalize (ByteArray.mk x1.toArray) = X at *
        have hss : (X.toList == X.toList) = true := beq_self_eq_true _
        go_wp2_with fail
        refine hsm.mono ?_
        rintro e w8 ⟨rfl, hb8⟩
        have HB8 := Lib.hid (HB7.out.trans (hb8.mono HB7.out.size))
        clear hsm hb8
        go_wp2
        go_ret
        exact ⟨rfl, HB3.out.trans (HB8.out.mono HB3.out.size)⟩
      | false =>
        rw [hsame] at hsm
        have hun : x2 ≠ 0 ∨ y2 ≠ 0 ∨ (ByteArray.mk x1.toArray) ≠ ⟨y1.toArray⟩ := by
          rcases HUNL.out hsame with h | h | h
          · exact .inl h
          · exact .inr (.inl h)
          · refine .inr (.inr fun e => h ?_)
            have := congrArg (fun s : ByteArray => s.data.toList) e
            simpa using this
        clear HLIKE HUNL
        generalize (ByteArray.mk x1.toArray) = X at *
        generalize (ByteArray.mk y1.toArray) = Y at *
        go_wp2_with fail
        refine hsm.mono ?_
        rintro e w8 ⟨rfl, hb8⟩
        have HB8 := Lib.hid (HB3.out.trans ((HB7.out.trans (hb8.mono HB7.out.size)).mono HB3.out.size))
        clear hsm hb8
        by_cases hx2 : x2 = 0
        · by_cases hy2 : y2 = 0
          · have hne : (X.toList == Y.toList) = false := by
              rcases hun with h | h | h
              · exact absurd hx2 h
              · exact absurd hy2 h
              · exact eqT_false.2 h
            subst hx2 hy2
            clear hun
            go_wp2
            go_ret
            exact ⟨rfl, HB8.out⟩
          · have hye : (y2 == 0) = false := by simpa using hy2
            subst hx2
            clear hun
            go_wp2
            go_ret
            exact ⟨rfl, HB8.out⟩
        · have hxe : (x2 == 0) = false := by simpa using hx2
          clear hun
          go_wp2
          go_ret
          exact ⟨rfl, HB8.out⟩
    · rw [decide_eq_false hfm] at he
      go_wp2_with fail
      refine he.mono ?_
      rintro e w5 ⟨rfl, hb5⟩
      have HB5 := Lib.hid (HB3.out.trans ((HB4.out.trans (hb5.mono HB4.out.size)).mono HB3.out.size))
      clear m0 m1 m2 m3 m4 m5 he hb5
      go_wp2
      go_ret
      exact ⟨rfl, HB5.out⟩
  · rw [decide_eq_false hfn] at hf
    go_wp2_with fail
    refine hf.mono ?_
    rintro e w4 ⟨rfl, hb4⟩
    have HB4 := Lib.hid (HB3.out.trans (hb4.mono HB3.out.size))
    clear n0 n1 n2 n3 n4 n5 hf hb4
    go_wp2
    go_ret
    exact ⟨rfl, HB4.out⟩
end Go.Proofs.YtobmjcompkkeaaaDoor
