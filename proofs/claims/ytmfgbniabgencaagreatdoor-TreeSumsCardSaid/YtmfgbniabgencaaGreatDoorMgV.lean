
/- Contract: Few. -/
import Derived.Test.YtmfgbniabgencaaGreatDoorTrE
import Derived.Test.YtmfgbniabgencaaGreatDoorMgY
import Derived.Deep.RegionHeld
import Derived.Deep.Cut
namespace Go.Proofs.YtmfgbniabgencaaGreatDoor
open Go.RowKit Wb

set_option maxRecDepth 100000 in
theorem tfew_any (n : Nd) (A K : Option Addr) (ca ck : Nat) (w : World) (hV : NodeV w n A K) (hl : lenN 9223372036854775807 n) :
    Calls Tryz.prog 17 #[ndV n A ca K ck] w fun e w' => e = .returned (.bool (decide (weighN n 30000 ≤ 30000))) ∧ Below w.heap.size w w' := by
  have hI := weigh_any n A K ca ck 30000 (w.alloc (.cells (ndCells n.kind n.name A n.attrs.length ca K n.kids.length ck n.text).toArray 37)) (by omega) (NodeV.below hV ((Below.refl _ w).alloc (Nat.le_refl _) _)) hl
  have hN := heap_alloc_new w (.cells (ndCells n.kind n.name A n.attrs.length ca K n.kids.length ck n.text).toArray 37)
  have HB := Lib.hid ((Below.refl w.heap.size w).alloc (Nat.le_refl _) (.cells (ndCells n.kind n.name A n.attrs.length ca K n.kids.length ck n.text).toArray 37))
  have hsz : w.heap.size ≤ (w.alloc (.cells (ndCells n.kind n.name A n.attrs.length ca K n.kids.length ck n.text).toArray 37)).heap.size := by simp
  unfold ndV ndCells at hI ⊢
  unfold ndCells at hN HB hsz
  have n0 := blk_cell hN 0
  have n1 := blk_cell hN 1
  have n2 := blk_cell hN 2
  have n3 := blk_cell hN 3
  have n4 := blk_cell hN 4
  have n5 := blk_cell hN 5
  simp only [List.getElem?_toArray, List.getElem?_cons_zero, List.getElem?_cons_succ] at n0 n1 n2 n3 n4 n5
  clear hN
  go_enter Tryz.func17, Tryz.ntmps17
  go_wp2_with fail
  refine hI.mono ?_
  rintro e w2 ⟨rfl, hb2⟩
  clear hI
  go_wp2
  go_ret
  exact ⟨by congr 2; simp; omega, HB.out.trans (hb2.mono hsz)⟩
end Go.Proofs.YtmfgbniabgencaaGreatDoor

namespace Go.Proofs.YtmfgbniabgencaaGreatDoor
open Go.RowKit Wb

theorem mk_kind (k : Int) (n : Pr) (a : List Tr) (ks : List Nd) (t : ByteArray) : (Nd.mk k n a ks t).kind = k := rfl
theorem mk_name (k : Int) (n : Pr) (a : List Tr) (ks : List Nd) (t : ByteArray) : (Nd.mk k n a ks t).name = n := rfl
theorem mk_attrs (k : Int) (n : Pr) (a : List Tr) (ks : List Nd) (t : ByteArray) : (Nd.mk k n a ks t).attrs = a := rfl
theorem mk_kids (k : Int) (n : Pr) (a : List Tr) (ks : List Nd) (t : ByteArray) : (Nd.mk k n a ks t).kids = ks := rfl
theorem mk_text (k : Int) (n : Pr) (a : List Tr) (ks : List Nd) (t : ByteArray) : (Nd.mk k n a ks t).text = t := rfl

theorem app_node {tN : TypeId} {w5 : World} {base : Nat} {n m : Nd} {A : Option Addr} {v5 : Value} {css : List (List Value)} {cm : List Value} (hats : Sl3 w5 A n.attrs) (h1 : css.length = n.kids.length)
    (h3 : ∀ (i : Nat) (k : Nd) (cs : List Value), n.kids[i]? = some k → css[i]? = some cs → nodeC w5 k cs) (hcm : nodeC w5 m cm) (h5 : w5.ownsRow base tN 6 v5 (n.kids.length + 1) (css.flatten ++ cm)) :
    ∃ K5 c5, v5 = .slice K5 (n.kids.length + 1) c5 ∧ NodeV w5 (.mk n.kind n.name n.attrs (n.kids ++ [m]) n.text) A K5 := by
  obtain ⟨g, cap, hv, _, hlt⟩ := h5.form (by omega)
  subst hv
  refine ⟨_, _, rfl, hats, .inr ⟨_, rfl, hlt, (kidsC_iff _ _ _ _).2 fun k x hkx => ?_⟩⟩
  simp only [Nd.kids] at hkx
  have hall : ∀ (i : Nat) (k : Nd) (cs : List Value), (n.kids ++ [m])[i]? = some k → (css ++ [cm])[i]? = some cs → nodeC w5 k cs := by
    intro i k cs hk hc
    by_cases hi : i < n.kids.length
    · rw [List.getElem?_append_left hi] at hk
      rw [List.getElem?_append_left (by omega)] at hc
      exact h3 i k cs hk hc
    · rw [List.getElem?_append_right (by omega)] at hk hc
      rw [h1] at hc
      have hj : i - n.kids.length = 0 := by have := (List.getElem?_eq_some_iff.1 hk).1; simp at this; omega
      rw [hj] at hk hc
      simp only [List.getElem?_cons_zero, Option.some.injEq] at hk hc
      subst hk hc
      exact hcm
  have hl : (css ++ [cm]).length = (n.kids ++ [m]).length := by simp [h1]
  have h6 : ∀ cs ∈ css ++ [cm], cs.length = 6 := fun cs hc => by
    obtain ⟨i, hi, e⟩ := List.mem_iff_getElem.1 hc
    exact nodeC_len (hall i ((n.kids ++ [m])[i]'(by omega)) cs (List.getElem?_eq_getElem _) (by rw [← e]; exact List.getElem?_eq_getElem _))
  have hkl : k < (css ++ [cm]).length := by rw [hl]; exact (List.getElem?_eq_some_iff.1 hkx).1
  have hc : (css ++ [cm])[k]? = some (css ++ [cm])[k] := List.getElem?_eq_getElem hkl
  refine ⟨(css ++ [cm])[k], fun j u hu => ?_, hall k x _ hkx hc⟩
  rw [Nat.zero_add]
  have hj : j < 6 := by have := (List.getElem?_eq_some_iff.1 hu).1; rw [h6 _ (List.mem_of_getElem? hc)] at this; exact this
  have hfl : css.flatten ++ cm = (css ++ [cm]).flatten := by simp
  rw [hfl] at h5
  exact h5.cells (g := g) rfl _ _ ((flat_at h6 k _ hc j hj).trans hu)
end Go.Proofs.YtmfgbniabgencaaGreatDoor

namespace Go.Proofs.YtmfgbniabgencaaGreatDoor
open Go.RowKit Wb

/-- The six cells of a node, read. -/
theorem cells_of_nd {w : World} {g : Nat} {k : Int} {p q : ByteArray} {A K : Option Addr} {la ca lk ck : Nat} {t : ByteArray} {ty : TypeId} (h : w.heap[g]? = some (.cells #[.int .i64 k, .string p, .string q, .slice A la ca, .slice K lk ck, .string t] ty (0, 0))) :
    w.cell? ⟨g, 0, none⟩ = some (.int .i64 k) ∧ w.cell? ⟨g, 1, none⟩ = some (.string p) ∧ w.cell? ⟨g, 2, none⟩ = some (.string q) ∧ w.cell? ⟨g, 3, none⟩ = some (.slice A la ca) ∧ w.cell? ⟨g, 4, none⟩ = some (.slice K lk ck) ∧ w.cell? ⟨g, 5, none⟩ = some (.string t) := by
  refine ⟨?_, ?_, ?_, ?_, ?_, ?_⟩ <;> simp [World.cell?, h]

/-- A node without its kids. -/
def bare (n : Nd) : Nd := .mk n.kind n.name n.attrs [] n.text
theorem bare_kind (n : Nd) : (bare n).kind = n.kind := rfl
theorem bare_name (n : Nd) : (bare n).name = n.name := rfl
theorem bare_attrs (n : Nd) : (bare n).attrs = n.attrs := rfl
theorem bare_kids (n : Nd) : (bare n).kids = [] := rfl
theorem bare_text (n : Nd) : (bare n).text = n.text := rfl
theorem bare_cost (n : Nd) : costN (bare n) = 1 ∧ costB (bare n) = ownB n := by
  obtain ⟨k, nm, al, ks, t⟩ := n
  refine ⟨by rw [costN_is]; rfl, by rw [costB_is]; rfl⟩
theorem bare_small {n : Nd} (h : smallN n) : smallN (bare n) := by
  rw [smallN_is] at h ⊢
  exact ⟨h.1, Nat.zero_le _, fun k hk => by cases hk⟩

set_option maxRecDepth 100000 in
set_option maxHeartbeats 2000000 in
theorem sums_walk (n m : Nd) (A K B L : Option Addr) (ca ck cb cl : Nat) (w : World) (hG : Gv w) (hVn : NodeV w n A K) (hVm : NodeV w m B L) (hln : lenN 9223372036854775807 n) (hlm : lenN 9223372036854775807 m) :
    Calls Tryz.prog 5 #[ndV n A ca K ck, ndV m B cb L cl] w fun e w' => e = .returned (.bool true) ∧ Below w.heap.size w w' := by
  have hb1 : Below w.heap.size w (w.alloc (.cells (ndCells n.kind n.name A n.attrs.length ca K n.kids.length ck n.text).toArray 37)) := (Below.refl _ w).alloc (Nat.le_refl _) _
  have hb2 : Below w.heap.size w ((w.alloc (.cells (ndCells n.kind n.name A n.attrs.length ca K n.kids.length ck n.text).toArray 37)).alloc (.cells (ndCells m.kind m.name B m.attrs.length cb L m.kids.length cl m.text).toArray 37)) := hb1.alloc (by simp) _
  have hM := heap_alloc_new (w.alloc (.cells (ndCells n.kind n.name A n.attrs.length ca K n.kids.length ck n.text).toArray 37)) (.cells (ndCells m.kind m.name B m.attrs.length cb L m.kids.length cl m.text).toArray 37)
  have hN := (Below.heap_alloc (w.alloc (.cells (ndCells n.kind n.name A n.attrs.length ca K n.kids.length ck n.text).toArray 37)) (.cells (ndCells m.kind m.name B m.attrs.length cb L m.kids.length cl m.text).toArray 37) _ (blk_in (heap_alloc_new w _))).trans (heap_alloc_new w (.cells (ndCells n.kind n.name A n.attrs.length ca K n.kids.length ck n.text).toArray 37))
  have h1 := awake4 _ (hG.next hb2)
  have hVn2 := NodeV.below hVn (hb2.mono (Nat.le_refl _))
  have hVm2 := NodeV.below hVm (hb2.mono (Nat.le_refl _))
  have hs1 : (w.alloc (.cells (ndCells n.kind n.name A n.attrs.length ca K n.kids.length ck n.text).toArray 37)).heap.size = w.heap.size + 1 := by simp
  rw [hs1] at hM
  have hs2 : w.heap.size + 2 = ((w.alloc (.cells (ndCells n.kind n.name A n.attrs.length ca K n.kids.length ck n.text).toArray 37)).alloc (.cells (ndCells m.kind m.name B m.attrs.length cb L m.kids.length cl m.text).toArray 37)).heap.size := by simp
  have HF := Lib.hid (fun (v : World) (hv : NodeV v n A K) => tfew_any n A K ca ck v hv hln)
  have HE := Lib.hid (fun (v : World) (hv : NodeV v m B L) => tfew_any m B L cb cl v hv hlm)
  have HN := Lib.hid hN
  have HM := Lib.hid hM
  have HB := Lib.hid hb2
  have HVN := Lib.hid hVn2
  have HVM := Lib.hid hVm2
  have HS := Lib.hid hs2
  clear hb1 hb2 hM hN hVn2 hVm2 hs1 hs2 hln hlm hVn hVm hG
  unfold ndV
  unfold ndCells at *
  go_enter Tryz.func5, Tryz.ntmps5
  go_wp2_with fail
  refine h1.mono ?_
  rintro e w3 ⟨rfl, hb3⟩
  have hN3 := still_block HN.out hb3
  have hM3 := still_block HM.out hb3
  have HB3 := Lib.hid (HB.out.trans (hb3.mono HB.out.size))
  have hVn3 := NodeV.below HVN.out hb3
  have hVm3 := NodeV.below HVM.out hb3
  have hge : w.heap.size + 2 ≤ w3.heap.size := by have := hb3.size; have := HS.out; omega
  clear h1 hb3 HN HM HB HVN HVM HS
  have VN := Lib.hid hVn3
  have VM := Lib.hid hVm3
  have CN := Lib.hid (fun (v : World) (h : Below w3.heap.size w3 v) => cells_of_nd ((h.block _ (by omega)).trans hN3))
  have CM := Lib.hid (fun (v : World) (h : Below w3.heap.size w3 v) => cells_of_nd ((h.block _ (by omega)).trans hM3))
  clear hN3 hM3
  have hf := HF.out w3 VN.out
  unfold ndV ndCells at hf
  obtain ⟨n0, n1, n2, n3, n4, n5⟩ := CN.out w3 (Below.refl _ _)
  clear hVn3 hVm3
  by_cases hfn : weighN n 30000 ≤ 30000
  · rw [decide_eq_true hfn] at hf
    go_wp2_with fail
    refine hf.mono ?_
    rintro e w4 ⟨rfl, hb4⟩
    have HB4 := Lib.hid hb4
    clear n0 n1 n2 n3 n4 n5 hf hb4
    have he := HE.out w4 (NodeV.below VM.out HB4.out)
    unfold ndV ndCells at he
    obtain ⟨m0, m1, m2, m3, m4, m5⟩ := CM.out w4 HB4.out
    by_cases hfm : weighN m 30000 ≤ 30000
    · rw [decide_eq_true hfm] at he
      go_wp2_with fail
      refine he.mono ?_
      rintro e w5 ⟨rfl, hb5⟩
      have HB5 := Lib.hid (HB4.out.trans (hb5.mono HB4.out.size))
      clear m0 m1 m2 m3 m4 m5 he hb5
      obtain ⟨n0, n1, n2, n3, n4, n5⟩ := CN.out w5 HB5.out
      by_cases hk : n.kind = 1
      · rw [hk] at n0
        go_upto_region 7 with fail
        have hfs := few_small n 30000 (by omega) hfn
        obtain ⟨_, hfc, _, _⟩ := few_cost n 30000 hfn
        rw [costN_is, costB_is] at hfc
        have hbx := heap_alloc_new w5 (.cells #[.int .i64 1, .string n.name.1, .string n.name.2, .slice A n.attrs.length ca, .slice none 0 0, .string n.text] 37)
        have hb6 : Below w3.heap.size w3 (w5.alloc (.cells #[.int .i64 1, .string n.name.1, .string n.name.2, .slice A n.attrs.length ca, .slice none 0 0, .string n.text] 37)) := HB5.out.alloc HB5.out.size _
        have hwz : w5.heap.size < (w5.alloc (.cells #[.int .i64 1, .string n.name.1, .string n.name.2, .slice A n.attrs.length ca, .slice none 0 0, .string n.text] 37)).heap.size := by simp
        have hg5 := HB5.out.size
        clear n0 n1 n2 n3 n4 n5 HB5 HE HF
        revert hbx hb6 hwz
        generalize (w5.alloc (.cells #[.int .i64 1, .string n.name.1, .string n.name.2, .slice A n.attrs.length ca, .slice none 0 0, .string n.text] 37)) = w6
        intro hbx hb6 hwz
        have HB6 := Lib.hid hb6
        have VN6 := NodeV.below VN.out hb6
        have hc := cost_any (bare n) A none ca 0 w6 ⟨VN6.1, .inl rfl⟩ (bare_small hfs) (by rw [(bare_cost n).1, (bare_cost n).2]; omega)
        rw [(bare_cost n).1, (bare_cost n).2] at hc
        unfold ndV ndCells at hc
        rw [bare_kind, bare_name, bare_attrs, bare_kids, bare_text, List.length_nil] at hc
        rw [hk] at hc
        obtain ⟨n0, n1, n2, n3, n4, n5⟩ := cells_of_nd hbx
        clear hbx hb6 VN6
        go_wp2_with fail
        refine hc.mono ?_
        rintro e w7 ⟨rfl, hb7⟩
        have HB7 := Lib.hid (HB6.out.trans (hb7.mono HB6.out.size))
        clear hc hb7 n0 n1 n2 n3 n4 n5
        have hb7 := HB7.out
        go_wp2
        go_loopw [6, 7] (fun vs vi wr => ∃ k : Nat, k ≤ n.kids.length ∧ vi = .int .i64 k ∧ vs = cst (1 + costNs (n.kids.take k)) (ownB n + costBs (n.kids.take k)) ∧ Below w3.heap.size w3 wr) (fun _ vi _ => ((n.kids.length : Int) - intOf vi).toNat)
        case atStart => exact ⟨0, by omega, rfl, rfl, hb7⟩
        case round =>
          obtain ⟨k, hkl, rfl, rfl, hbr⟩ := hrel
          have n4 := (CN.out _ hbr).2.2.2.2.1
          by_cases h0 : k < n.kids.length
          · obtain ⟨x, he⟩ : ∃ x, n.kids[k]? = some x := ⟨n.kids[k], List.getElem?_eq_getElem h0⟩
            obtain ⟨ad, A1, ca1, K1, ck1, rfl, had, d0, d1, d2, d3, d4, d5, hA1, hK1⟩ := (VN.out.2.below hbr).at_ he
            obtain ⟨t1, t2⟩ := costs_take he
            obtain ⟨t3, t4⟩ := costs_le n.kids (k + 1)
            have hsx := ((smallN_is n).1 hfs).2.2 x (List.mem_of_getElem? he)
            have hI := cost_any x A1 K1 ca1 ck1 wr ⟨hA1, hK1⟩ hsx (by omega)
            have hadd : ∀ (t : TypeId) (w : World), (binOp .add t (cst (1 + costNs (n.kids.take k)) (ownB n + costBs (n.kids.take k))) (cst (costN x) (costB x))).run Tryz.prog w = .ok (cst (1 + costNs (n.kids.take (k + 1))) (ownB n + costBs (n.kids.take (k + 1)))) w := fun t w => by
              rw [cst_add Tryz.prog (by omega) (by omega), t1, t2]
              congr 2 <;> omega
            unfold ndV ndCells at hI
            clear t1 t2 t3 t4 he had hA1 hK1
            go_wp2_with fail
            refine hI.mono ?_
            rintro e w8 ⟨rfl, hb8⟩
            clear hI
            go_wp2
            go_roundw
            case rel => exact ⟨k + 1, by omega, by go_num, rfl, hbr.trans (hb8.mono hbr.size)⟩
            case measure => simp [intOf]; omega
          · have : k = n.kids.length := by omega
            subst this
            rw [List.take_length]
            obtain ⟨n0, n1, n2, n3, n4, n5⟩ := CN.out _ hbr
            have hq := cost_any n A K ca ck wr (NodeV.below VN.out hbr) hfs (by rw [costN_is, costB_is]; omega)
            rw [costN_is, costB_is] at hq
            unfold ndV ndCells at hq
            rw [hk] at hq n0
            have o1 : FloatKind.f64.format.order (dbl (1 + costNs n.kids)) (dbl (1 + costNs n.kids)) = some .eq := by
              have := order_dbl (a := 1 + costNs n.kids) (b := 1 + costNs n.kids) (by omega) (by omega)
              rw [show FloatKind.f64.format = Ieee.double from rfl, this, Int.compare_eq_eq.2 rfl]
            have o2 : FloatKind.f64.format.order (dbl (ownB n + costBs n.kids)) (dbl (ownB n + costBs n.kids)) = some .eq := by
              have := order_dbl (a := ownB n + costBs n.kids) (b := ownB n + costBs n.kids) (by omega) (by omega)
              rw [show FloatKind.f64.format = Ieee.double from rfl, this, Int.compare_eq_eq.2 rfl]
            unfold cst at hq ⊢
            go_wp2_with fail
            refine hq.mono ?_
            rintro e w8 ⟨rfl, hb8⟩
            have HB8 := Lib.hid (hbr.trans (hb8.mono hbr.size))
            clear hq hb8 n0 n1 n2 n3 n4 n5
            obtain ⟨n0, n1, n2, n3, n4, n5⟩ := CN.out _ HB8.out
            rw [hk] at n0
            go_upto_region 14 with fail
            have hcp := copy_any n A K ca ck w8 (NodeV.below VN.out HB8.out) hfs
            unfold ndV ndCells at hcp
            rw [hk] at hcp
            go_wp2_with fail
            refine hcp.mono ?_
            rintro e w9 ⟨hb9, A9, c9, kv9, rfl, hc9⟩
            have hb8s := HB8.out.size
            have hb9s := hb9.size
            have HB9 := Lib.hid (HB8.out.trans (hb9.mono hb8s))
            obtain ⟨css, hcl, hown, hsf⟩ := hc9.kids
            obtain ⟨Kv, cv, hkv⟩ := own_shape hown
            subst hkv
            unfold cpC
            rw [hk]
            clear hcp n0 n1 n2 n3 n4 n5 hbr hb9
            go_upto_region 15 with fail
            have hT := heap_alloc_new w9 (.cells #[.int .i64 1, .string n.name.1, .string n.name.2, .slice A9 n.attrs.length c9, .slice Kv n.kids.length cv, .string n.text] 37)
            have hBT := (Below.refl _ w9).alloc (Nat.le_refl _) (.cells #[.int .i64 1, .string n.name.1, .string n.name.2, .slice A9 n.attrs.length c9, .slice Kv n.kids.length cv, .string n.text] 37)
            have hTz : w9.heap.size < (w9.alloc (.cells #[.int .i64 1, .string n.name.1, .string n.name.2, .slice A9 n.attrs.length c9, .slice Kv n.kids.length cv, .string n.text] 37)).heap.size := by simp
            revert hT hBT hTz
            generalize (w9.alloc (.cells #[.int .i64 1, .string n.name.1, .string n.name.2, .slice A9 n.attrs.length c9, .slice Kv n.kids.length cv, .string n.text] 37)) = w10
            intro hT hBT hTz
            have hB10 := HB9.out.trans (hBT.mono (Nat.le_trans hb8s hb9s))
            obtain ⟨m0, m1, m2, m3, m4, m5⟩ := CM.out w10 hB10
            have t4 := blk_cell hT 4
            simp only [List.getElem?_toArray, List.getElem?_cons_zero, List.getElem?_cons_succ] at t4
            obtain ⟨j0, hj, hy0, hy1, hy2⟩ := info_parts node_info
            have hTa : (w10.alloc (.cells #[.int .i64 m.kind, .string m.name.1, .string m.name.2, .slice B m.attrs.length cb, .slice L m.kids.length cl, .string m.text] 37)).heap[w9.heap.size]? = _ := (Below.heap_alloc w10 _ _ hTz).trans hT
            have hown10 := own_below hown hBT
            have HOWN := Lib.hid (hown10.alloc (.cells #[.int .i64 m.kind, .string m.name.1, .string m.name.2, .slice B m.attrs.length cb, .slice L m.kids.length cl, .string m.text] 37))
            have HLIT := Lib.hid (Sl.lit w10 6 [.int .i64 m.kind, .string m.name.1, .string m.name.2, .slice B m.attrs.length cb, .slice L m.kids.length cl, .string m.text] 37 1 rfl)
            have HONE := Lib.hid (show ∀ u ∈ [Value.int .i64 m.kind, .string m.name.1, .string m.name.2, .slice B m.attrs.length cb, .slice L m.kids.length cl, .string m.text], u.oneCell' = true from fun u hu => by
              simp only [List.mem_cons, List.mem_nil_iff, or_false] at hu
              rcases hu with rfl | rfl | rfl | rfl | rfl | rfl <;> rfl)
            have hkl : n.kids.length ≤ 1000000 := ((smallN_is n).1 hfs).2.1
            have hmax : n.kids.length + 1 ≤ maxLen := by unfold maxLen; omega
            have hbyt : (n.kids.length + 1) * 104 ≤ 140737488355328 := by omega
            have hbas : w8.heap.size ≤ (w10.alloc (.cells #[.int .i64 m.kind, .string m.name.1, .string m.name.2, .slice B m.attrs.length cb, .slice L m.kids.length cl, .string m.text] 37)).heap.size := by simp; omega
            have HTA := Lib.hid hTa
            have HT := Lib.hid hT
            have HC9 := Lib.hid hc9
            have HSF := Lib.hid hsf
            have HOW := Lib.hid hown
            have HBT := Lib.hid hBT
            have HB10 := Lib.hid hB10
            have HCL := Lib.hid hcl
            have HKL := Lib.hid hkl
            clear hT hTa hown10 hc9 hsf hown hBT hB10 hcl hkl
            go_wp2_with (at_builtin; refine wpList_append_sl _ rfl (.tmp 50) (.tmp 52) _ rfl w8.heap.size 37 j0 _ 6 104 Tryz.underlying35 hj hy0 hy1 hy2 rfl (by omega) _ n.kids.length css.flatten rfl HOWN.out (some ⟨w10.heap.size, 0, none⟩) 1 1 [.int .i64 m.kind, .string m.name.1, .string m.name.2, .slice B m.attrs.length cb, .slice L m.kids.length cl, .string m.text] rfl HLIT.out HONE.out hmax hbyt hbas ?_)
            intro v5 w5 hown5 hg5 hat5
            have hTo : some w9.heap.size ≠ (Value.slice Kv n.kids.length cv).ownBlock := fun e => by have := (own_in HOW.out e.symm).2; omega
            have hT5 := grown_block HTA.out hg5 hTo
            have t45 := blk_cell hT5 4
            have f45 := blk_free hT5 4
            simp only [List.getElem?_toArray, List.getElem?_cons_zero, List.getElem?_cons_succ] at t45
            have hKP : Keep (fun k => (Value.slice Kv n.kids.length cv).ownBlock = some k ∨ k = w9.heap.size) w9 (w5.setCell ⟨w9.heap.size, 4, none⟩ v5) :=
              (((Keep.of_below (fun k => (Value.slice Kv n.kids.length cv).ownBlock = some k ∨ k = w9.heap.size) (HBT.out.alloc HBT.out.size (.cells #[.int .i64 m.kind, .string m.name.1, .string m.name.2, .slice B m.attrs.length cb, .slice L m.kids.length cl, .string m.text] 37))).grown hg5 (fun k hv => .inl hv)).setCell (p := ⟨w9.heap.size, 4, none⟩) (.inr rfl) v5)
            have hN11 := blk_set hT5 4 v5
            have hB11 : Below w3.heap.size w3 (w5.setCell ⟨w9.heap.size, 4, none⟩ v5) :=
              ((HB10.out.alloc HB10.out.size _).grown hg5 (Nat.le_trans HB10.out.size (by simp)) (fun k hv => by have := (own_in HOW.out hv).1; omega)).setCell (p := ⟨w9.heap.size, 4, none⟩) (by show w3.heap.size ≤ w9.heap.size; omega) _
            have hv5 : ∀ k, v5.ownBlock = some k → w9.heap.size ≠ k := by
              intro k hv e
              rcases hat5 with h | h
              · rw [h] at hv; exact hTo (by rw [hv, e])
              · rw [h] at hv
                simp only [Option.some.injEq] at hv
                omega
            have hown11 := own_blk (w' := w5.setCell ⟨w9.heap.size, 4, none⟩ v5) hown5 fun k hv => Below.heap_setCell _ _ _ _ (fun e => hv5 k hv e.symm)
            have hats : Sl3 (w5.setCell ⟨w9.heap.size, 4, none⟩ v5) A9 n.attrs := by
              by_cases hal : n.attrs = []
              · rw [hal]; exact Sl3.nil _ _
              · refine Sl.safe HC9.out.ats (fun _ ad e hh => ?_) _ hKP
                rcases hh with hh | hh
                · exact HC9.out.apart hal ad e hh
                · obtain ⟨ad', e', hlt2, _⟩ := HC9.out.ats.2 (List.length_pos_iff.2 hal)
                  rw [e] at e'
                  injection e' with e'
                  subst e'
                  omega
            obtain ⟨K5, c5, hv5e, hNV⟩ := app_node (n := n) (m := m) hats HCL.out (fun i k cs h1 h2 => HSF.out i k cs h1 h2 _ (hKP.mono (fun k hlt h => by
              rcases h with h | h
              · exact .inr (.inl h)
              · omega))) ((nodeC_V _ m _).2 ⟨B, cb, L, cl, rfl, NodeV.below VM.out hB11⟩) hown11
            subst hv5e
            rw [hk] at hNV
            have HNV := Lib.hid hNV
            have HN11 := Lib.hid hN11
            have HB11 := Lib.hid hB11
            clear hNV hN11 hB11 hats hown11 hv5 hKP hown5 hg5 hat5 hT5 hTo HOW HC9 HSF HCL HB10 HBT HT HTA HOWN HLIT HONE hbas m0 m1 m2 m3 m4 m5 t4 hj hy0 hy1 hy2
            go_upto_region 16 with fail
            revert HNV HN11 HB11
            generalize (w5.setCell ⟨w9.heap.size, 4, none⟩ (.slice K5 (n.kids.length + 1) c5)) = w11
            intro HNV HN11 HB11
            obtain ⟨ap1, ap2⟩ := costs_app n.kids [m]
            simp only [costNs, costBs, Nat.add_zero] at ap1 ap2
            have hmN : costN (.mk 1 n.name n.attrs (n.kids ++ [m]) n.text) = 1 + costNs n.kids + costN m := by rw [costN_is, mk_kids]; omega
            have hoB : ownB (.mk 1 n.name n.attrs (n.kids ++ [m]) n.text) = ownB n := by
              obtain ⟨kd, nm, al, ks, tx⟩ := n
              simp only [Nd.kind] at hk
              subst hk
              rfl
            have hmB : costB (.mk 1 n.name n.attrs (n.kids ++ [m]) n.text) = ownB n + costBs n.kids + costB m := by rw [costB_is, hoB, mk_kids]; omega
            have hms := few_small m 30000 (by omega) hfm
            obtain ⟨_, hmc, _, _⟩ := few_cost m 30000 hfm
            have hsm2 : smallN (.mk 1 n.name n.attrs (n.kids ++ [m]) n.text) := by
              rw [smallN_is] at hfs ⊢
              rw [mk_kids, mk_attrs]
              refine ⟨hfs.1, by rw [List.length_append, List.length_singleton]; obtain ⟨_, _, _, h4⟩ := few_cost n 30000 hfn; omega, fun k hk => ?_⟩
              rw [List.mem_append, List.mem_singleton] at hk
              rcases hk with hk | rfl
              · exact hfs.2.2 k hk
              · exact hms
            have HC1 := Lib.hid (fun (v : World) (h : Below w11.heap.size w11 v) => cost_any (.mk 1 n.name n.attrs (n.kids ++ [m]) n.text) A9 K5 c9 c5 v (NodeV.below HNV.out h) hsm2 (by rw [hmN, hmB]; omega))
            have HC2 := Lib.hid (fun (v : World) (h : Below w11.heap.size w11 v) => cost_any m B L cb cl v (NodeV.below VM.out (HB11.out.trans (h.mono HB11.out.size))) hms (by omega))
            unfold ndV ndCells cst at HC1 HC2
            rw [hmN, hmB] at HC1
            simp only [mk_kind, mk_name, mk_attrs, mk_kids, mk_text, List.length_append, List.length_singleton] at HC1
            have hpos := costN_pos m
            have hadd : ∀ (t : TypeId) (w : World), (binOp .add t (.complex .f64 (dbl (1 + costNs n.kids)) (dbl (ownB n + costBs n.kids))) (.complex .f64 (dbl (costN m)) (dbl (costB m)))).run Tryz.prog w = .ok (.complex .f64 (dbl (1 + costNs n.kids + costN m)) (dbl (ownB n + costBs n.kids + costB m))) w := fun t w =>
              cst_add Tryz.prog (by omega) (by omega) t w
            have o1 : FloatKind.f64.format.order (dbl (1 + costNs n.kids + costN m)) (dbl (1 + costNs n.kids + costN m)) = some .eq := by
              have := order_dbl (a := 1 + costNs n.kids + costN m) (b := 1 + costNs n.kids + costN m) (by omega) (by omega)
              rw [show FloatKind.f64.format = Ieee.double from rfl, this, Int.compare_eq_eq.2 rfl]
            have o2 : FloatKind.f64.format.order (dbl (ownB n + costBs n.kids + costB m)) (dbl (ownB n + costBs n.kids + costB m)) = some .eq := by
              have := order_dbl (a := ownB n + costBs n.kids + costB m) (b := ownB n + costBs n.kids + costB m) (by omega) (by omega)
              rw [show FloatKind.f64.format = Ieee.double from rfl, this, Int.compare_eq_eq.2 rfl]
            have g1 : (FloatKind.f64.format.order (dbl (costN m)) 4607182418800017408 == some .gt || FloatKind.f64.format.order (dbl (costN m)) 4607182418800017408 == some .eq) = true := by
              rw [← dbl_one, show FloatKind.f64.format = Ieee.double from rfl, order_dbl (a := costN m) (b := 1) (by omega) (by omega)]
              rcases Nat.lt_or_ge 1 (costN m) with h | h
              · rw [show compare (costN m : Int) ((1 : Nat) : Int) = .gt from by rw [Int.compare_eq_gt]; omega]; rfl
              · rw [show compare (costN m : Int) ((1 : Nat) : Int) = .eq from by rw [Int.compare_eq_eq]; omega]; rfl
            have g2 : (FloatKind.f64.format.order (dbl (costB m)) 0 == some .gt || FloatKind.f64.format.order (dbl (costB m)) 0 == some .eq) = true := by
              rw [show (0 : Nat) = dbl 0 from dbl_zero.symm, show FloatKind.f64.format = Ieee.double from rfl, order_dbl (a := costB m) (b := 0) (by omega) (by omega)]
              rcases Nat.lt_or_ge 0 (costB m) with h | h
              · rw [show compare (costB m : Int) ((0 : Nat) : Int) = .gt from by rw [Int.compare_eq_gt]; omega]; rfl
              · rw [show compare (costB m : Int) ((0 : Nat) : Int) = .eq from by rw [Int.compare_eq_eq]; omega]; rfl
            have HS := Lib.hid (fun (v : World) (h : Below w11.heap.size w11 v) => (⟨cells_of_nd ((h.block _ (blk_in HN11.out)).trans HN11.out), CM.out v (HB11.out.trans (h.mono HB11.out.size)), h⟩ :
              (v.cell? ⟨w9.heap.size, 0, none⟩ = some (.int .i64 1) ∧ v.cell? ⟨w9.heap.size, 1, none⟩ = some (.string n.name.1) ∧ v.cell? ⟨w9.heap.size, 2, none⟩ = some (.string n.name.2) ∧ v.cell? ⟨w9.heap.size, 3, none⟩ = some (.slice A9 n.attrs.length c9) ∧ v.cell? ⟨w9.heap.size, 4, none⟩ = some (.slice K5 (n.kids.length + 1) c5) ∧ v.cell? ⟨w9.heap.size, 5, none⟩ = some (.string n.text)) ∧
              (v.cell? ⟨w.heap.size + 1, 0, none⟩ = some (.int .i64 m.kind) ∧ v.cell? ⟨w.heap.size + 1, 1, none⟩ = some (.string m.name.1) ∧ v.cell? ⟨w.heap.size + 1, 2, none⟩ = some (.string m.name.2) ∧ v.cell? ⟨w.heap.size + 1, 3, none⟩ = some (.slice B m.attrs.length cb) ∧ v.cell? ⟨w.heap.size + 1, 4, none⟩ = some (.slice L m.kids.length cl) ∧ v.cell? ⟨w.heap.size + 1, 5, none⟩ = some (.string m.text)) ∧ Below w11.heap.size w11 v))
            clear ap1 ap2 hmN hmB hoB hsm2 HN11 HNV CM CN VM VN hfc hfs hms hmc hpos hfn hfm
            go_wp2_with fail
            (try simp only [List.append])
            refine wp_region_held_drew (S := (fun v => (v.cell? ⟨w9.heap.size, 0, none⟩ = some (.int .i64 1) ∧ v.cell? ⟨w9.heap.size, 1, none⟩ = some (.string n.name.1) ∧ v.cell? ⟨w9.heap.size, 2, none⟩ = some (.string n.name.2) ∧ v.cell? ⟨w9.heap.size, 3, none⟩ = some (.slice A9 n.attrs.length c9) ∧ v.cell? ⟨w9.heap.size, 4, none⟩ = some (.slice K5 (n.kids.length + 1) c5) ∧ v.cell? ⟨w9.heap.size, 5, none⟩ = some (.string n.text)) ∧ (v.cell? ⟨w.heap.size + 1, 0, none⟩ = some (.int .i64 m.kind) ∧ v.cell? ⟨w.heap.size + 1, 1, none⟩ = some (.string m.name.1) ∧ v.cell? ⟨w.heap.size + 1, 2, none⟩ = some (.string m.name.2) ∧ v.cell? ⟨w.heap.size + 1, 3, none⟩ = some (.slice B m.attrs.length cb) ∧ v.cell? ⟨w.heap.size + 1, 4, none⟩ = some (.slice L m.kids.length cl) ∧ v.cell? ⟨w.heap.size + 1, 5, none⟩ = some (.string m.text)) ∧ Below w11.heap.size w11 v)) (by kernel_rfl) (HS.out _ (Below.refl _ w11).drew) (fun hHeld => ?_)
            refine wpAnyH_take (i := 0) (oi := { dst := some 55, op := Op.load 37 (Operand.tmp 8), type := 37, pos := "law.go:148", after := #[], guard := none }) (v := ?_) rfl (by kernel_rfl) (by kernel_rfl) (by kernel_rfl) (fun _ _ _ h => h) (Or.inl ⟨by rfl, ?_⟩) (by assumption) ?_
            rotate_left
            · intro w' hSw; (try dsimp only at hSw); go_simp; (try with_reducible rfl)
            (try simp only [Act.put, List.setIfInBounds_toArray, List.set_cons_zero, List.set_cons_succ])
            refine wpAnyH_take (i := 2) (oi := { dst := some 57, op := Op.move (Operand.tmp 6), type := 44, pos := "law.go:148", after := #[], guard := none }) (v := ?_) rfl (by kernel_rfl) (by kernel_rfl) (by kernel_rfl) (fun _ _ _ h => h) (Or.inl ⟨by rfl, ?_⟩) (by assumption) ?_
            rotate_left
            · intro w' hSw; (try dsimp only at hSw); go_simp; (try with_reducible rfl)
            (try simp only [Act.put, List.setIfInBounds_toArray, List.set_cons_zero, List.set_cons_succ])
            refine wpAnyH_take (i := 3) (oi := { dst := some 58, op := Op.load 37 (Operand.tmp 3), type := 37, pos := "law.go:148", after := #[], guard := none }) (v := ?_) rfl (by kernel_rfl) (by kernel_rfl) (by kernel_rfl) (fun _ _ _ h => h) (Or.inl ⟨by rfl, ?_⟩) (by assumption) ?_
            rotate_left
            · intro w' hSw; (try dsimp only at hSw); go_simp; (try with_reducible rfl)
            (try simp only [Act.put, List.setIfInBounds_toArray, List.set_cons_zero, List.set_cons_succ])
            refine wpAnyH_ready (rs := [1]) (by kernel_rfl) (by simp) ?_
            refine AllReadyH.cons (o := { dst := some 56, op := Op.call { callee := Callee.value (Operand.func 21), args := #[Operand.tmp 55], argTypes := #[37] }, type := 44, pos := "law.go:148", after := #[{ on := 0, ground := Ground.data }], guard := none }) rfl (fun K2 hK2 => ?_) AllReadyH.nil
            go_simp
            have hbh := hHeld.2.2
            refine (HC1.out _ hbh).mono ?_
            rintro e w2 ⟨rfl, hb2⟩
            refine hK2.out _ _ ?_ (fun hHeld2 => ?_)
            · exact HS.out _ (hbh.trans (hb2.mono hbh.size))
            (try simp only [Act.put, List.setIfInBounds_toArray, List.set_cons_zero, List.set_cons_succ])
            refine wpAnyH_ready (rs := [4]) (by kernel_rfl) (by simp) ?_
            refine AllReadyH.cons (o := { dst := some 59, op := Op.call { callee := Callee.value (Operand.func 21), args := #[Operand.tmp 58], argTypes := #[37] }, type := 44, pos := "law.go:148", after := #[{ on := 3, ground := Ground.data }, { on := 1, ground := Ground.chain }], guard := none }) rfl (fun K2 hK2 => ?_) AllReadyH.nil
            go_simp
            have hbh := hHeld2.2.2
            refine (HC2.out _ hbh).mono ?_
            rintro e w2 ⟨rfl, hb2⟩
            refine hK2.out _ _ ?_ (fun hHeld2 => ?_)
            · exact HS.out _ (hbh.trans (hb2.mono hbh.size))
            (try simp only [Act.put, List.setIfInBounds_toArray, List.set_cons_zero, List.set_cons_succ])
            refine wpAnyH_take (i := 5) (oi := { dst := some 60, op := Op.binOp BinOp.add 44 (Operand.tmp 57) (Operand.tmp 59) 44, type := 44, pos := "law.go:148", after := #[{ on := 2, ground := Ground.data }, { on := 4, ground := Ground.data }], guard := none }) (v := ?_) rfl (by kernel_rfl) (by kernel_rfl) (by kernel_rfl) (fun _ _ _ h => h) (Or.inl ⟨by rfl, ?_⟩) (by assumption) ?_
            rotate_left
            · intro w' hSw; (try dsimp only at hSw); go_simp; (try with_reducible rfl)
            (try simp only [Act.put, List.setIfInBounds_toArray, List.set_cons_zero, List.set_cons_succ])
            refine wpAnyH_take (i := 6) (oi := { dst := some 61, op := Op.binOp BinOp.eql 44 (Operand.tmp 56) (Operand.tmp 60) 44, type := 4, pos := "law.go:148", after := #[{ on := 1, ground := Ground.data }, { on := 5, ground := Ground.data }], guard := none }) (v := ?_) rfl (by kernel_rfl) (by kernel_rfl) (by kernel_rfl) (fun _ _ _ h => h) (Or.inl ⟨by rfl, ?_⟩) (by assumption) ?_
            rotate_left
            · intro w' hSw; (try dsimp only at hSw); go_simp; (try with_reducible rfl)
            (try simp only [Act.put, List.setIfInBounds_toArray, List.set_cons_zero, List.set_cons_succ])
            refine wpAnyH_take (i := 7) (oi := { dst := some 62, op := Op.move (Operand.tmp 61), type := 4, pos := "law.go:148", after := #[{ on := 6, ground := Ground.data }, { on := 4, ground := Ground.chain }], guard := none }) (v := ?_) rfl (by kernel_rfl) (by kernel_rfl) (by kernel_rfl) (fun _ _ _ h => h) (Or.inl ⟨by rfl, ?_⟩) (by assumption) ?_
            rotate_left
            · intro w' hSw; (try dsimp only at hSw); go_simp; (try with_reducible rfl)
            (try simp only [Act.put, List.setIfInBounds_toArray, List.set_cons_zero, List.set_cons_succ])
            refine wpAnyH_take (i := 8) (oi := { dst := some 63, op := Op.load 37 (Operand.tmp 3), type := 37, pos := "law.go:148", after := #[{ on := 7, ground := Ground.guard }], guard := some (7, true) }) (v := ?_) rfl (by kernel_rfl) (by kernel_rfl) (by kernel_rfl) (fun _ _ _ h => h) (Or.inl ⟨by rfl, ?_⟩) (by assumption) ?_
            rotate_left
            · intro w' hSw; (try dsimp only at hSw); go_simp; (try with_reducible rfl)
            (try simp only [Act.put, List.setIfInBounds_toArray, List.set_cons_zero, List.set_cons_succ])
            refine wpAnyH_ready (rs := [9]) (by kernel_rfl) (by simp) ?_
            refine AllReadyH.cons (o := { dst := some 64, op := Op.call { callee := Callee.value (Operand.func 21), args := #[Operand.tmp 63], argTypes := #[37] }, type := 44, pos := "law.go:148", after := #[{ on := 8, ground := Ground.data }, { on := 7, ground := Ground.chain }, { on := 7, ground := Ground.guard }], guard := some (7, true) }) rfl (fun K2 hK2 => ?_) AllReadyH.nil
            go_simp
            have hbh := hHeld2.2.2
            refine (HC2.out _ hbh).mono ?_
            rintro e w2 ⟨rfl, hb2⟩
            refine hK2.out _ _ ?_ (fun hHeld2 => ?_)
            · exact HS.out _ (hbh.trans (hb2.mono hbh.size))
            (try simp only [Act.put, List.setIfInBounds_toArray, List.set_cons_zero, List.set_cons_succ])
            refine wpAnyH_take (i := 10) (oi := { dst := some 65, op := Op.call { callee := Callee.builtin Builtin.real, args := #[Operand.tmp 64], argTypes := #[44] }, type := 46, pos := "law.go:148", after := #[{ on := 9, ground := Ground.data }, { on := 7, ground := Ground.guard }], guard := some (7, true) }) (v := ?_) rfl (by kernel_rfl) (by kernel_rfl) (by kernel_rfl) (fun _ _ _ h => h) (Or.inl ⟨by rfl, ?_⟩) (by assumption) ?_
            rotate_left
            · intro w' hSw; (try dsimp only at hSw); go_simp; (try with_reducible rfl)
            (try simp only [Act.put, List.setIfInBounds_toArray, List.set_cons_zero, List.set_cons_succ])
            refine wpAnyH_take (i := 11) (oi := { dst := some 66, op := Op.binOp BinOp.geq 46 (Operand.tmp 65) (Operand.const (Value.float FloatKind.f64 4607182418800017408)) 46, type := 4, pos := "law.go:148", after := #[{ on := 10, ground := Ground.data }, { on := 7, ground := Ground.guard }], guard := some (7, true) }) (v := ?_) rfl (by kernel_rfl) (by kernel_rfl) (by kernel_rfl) (fun _ _ _ h => h) (Or.inl ⟨by rfl, ?_⟩) (by assumption) ?_
            rotate_left
            · intro w' hSw; (try dsimp only at hSw); go_simp; (try with_reducible rfl)
            (try simp only [Act.put, List.setIfInBounds_toArray, List.set_cons_zero, List.set_cons_succ])
            refine wpAnyH_take (i := 12) (oi := { dst := some 67, op := Op.pick (Operand.tmp 62) (Operand.tmp 66) (Operand.const (Value.bool false)), type := 4, pos := "law.go:148", after := #[{ on := 7, ground := Ground.data }, { on := 11, ground := Ground.data }], guard := none }) (v := ?_) rfl (by kernel_rfl) (by kernel_rfl) (by kernel_rfl) (fun _ _ _ h => h) (Or.inl ⟨by rfl, ?_⟩) (by assumption) ?_
            rotate_left
            · intro w' hSw; (try dsimp only at hSw); go_simp; (try with_reducible rfl)
            (try simp only [Act.put, List.setIfInBounds_toArray, List.set_cons_zero, List.set_cons_succ])
            refine wpAnyH_take (i := 13) (oi := { dst := some 68, op := Op.move (Operand.tmp 67), type := 4, pos := "law.go:148", after := #[{ on := 12, ground := Ground.data }, { on := 9, ground := Ground.chain }], guard := none }) (v := ?_) rfl (by kernel_rfl) (by kernel_rfl) (by kernel_rfl) (fun _ _ _ h => h) (Or.inl ⟨by rfl, ?_⟩) (by assumption) ?_
            rotate_left
            · intro w' hSw; (try dsimp only at hSw); go_simp; (try with_reducible rfl)
            (try simp only [Act.put, List.setIfInBounds_toArray, List.set_cons_zero, List.set_cons_succ])
            refine wpAnyH_take (i := 14) (oi := { dst := some 69, op := Op.load 37 (Operand.tmp 3), type := 37, pos := "law.go:148", after := #[{ on := 13, ground := Ground.guard }], guard := some (13, true) }) (v := ?_) rfl (by kernel_rfl) (by kernel_rfl) (by kernel_rfl) (fun _ _ _ h => h) (Or.inl ⟨by rfl, ?_⟩) (by assumption) ?_
            rotate_left
            · intro w' hSw; (try dsimp only at hSw); go_simp; (try with_reducible rfl)
            (try simp only [Act.put, List.setIfInBounds_toArray, List.set_cons_zero, List.set_cons_succ])
            refine wpAnyH_ready (rs := [15]) (by kernel_rfl) (by simp) ?_
            refine AllReadyH.cons (o := { dst := some 70, op := Op.call { callee := Callee.value (Operand.func 21), args := #[Operand.tmp 69], argTypes := #[37] }, type := 44, pos := "law.go:148", after := #[{ on := 14, ground := Ground.data }, { on := 13, ground := Ground.chain }, { on := 13, ground := Ground.guard }], guard := some (13, true) }) rfl (fun K2 hK2 => ?_) AllReadyH.nil
            go_simp
            have hbh := hHeld2.2.2
            refine (HC2.out _ hbh).mono ?_
            rintro e w2 ⟨rfl, hb2⟩
            refine hK2.out _ _ ?_ (fun hHeld2 => ?_)
            · exact HS.out _ (hbh.trans (hb2.mono hbh.size))
            (try simp only [Act.put, List.setIfInBounds_toArray, List.set_cons_zero, List.set_cons_succ])
            refine wpAnyH_take (i := 16) (oi := { dst := some 71, op := Op.call { callee := Callee.builtin Builtin.imag, args := #[Operand.tmp 70], argTypes := #[44] }, type := 46, pos := "law.go:148", after := #[{ on := 15, ground := Ground.data }, { on := 13, ground := Ground.guard }], guard := some (13, true) }) (v := ?_) rfl (by kernel_rfl) (by kernel_rfl) (by kernel_rfl) (fun _ _ _ h => h) (Or.inl ⟨by rfl, ?_⟩) (by assumption) ?_
            rotate_left
            · intro w' hSw; (try dsimp only at hSw); go_simp; (try with_reducible rfl)
            (try simp only [Act.put, List.setIfInBounds_toArray, List.set_cons_zero, List.set_cons_succ])
            refine wpAnyH_take (i := 17) (oi := { dst := some 72, op := Op.binOp BinOp.geq 46 (Operand.tmp 71) (Operand.const (Value.float FloatKind.f64 0)) 46, type := 4, pos := "law.go:148", after := #[{ on := 16, ground := Ground.data }, { on := 13, ground := Ground.guard }], guard := some (13, true) }) (v := ?_) rfl (by kernel_rfl) (by kernel_rfl) (by kernel_rfl) (fun _ _ _ h => h) (Or.inl ⟨by rfl, ?_⟩) (by assumption) ?_
            rotate_left
            · intro w' hSw; (try dsimp only at hSw); go_simp; (try with_reducible rfl)
            (try simp only [Act.put, List.setIfInBounds_toArray, List.set_cons_zero, List.set_cons_succ])
            refine wpAnyH_take (i := 18) (oi := { dst := some 73, op := Op.pick (Operand.tmp 68) (Operand.tmp 72) (Operand.const (Value.bool false)), type := 4, pos := "law.go:148", after := #[{ on := 13, ground := Ground.data }, { on := 17, ground := Ground.data }], guard := none }) (v := ?_) rfl (by kernel_rfl) (by kernel_rfl) (by kernel_rfl) (fun _ _ _ h => h) (Or.inl ⟨by rfl, ?_⟩) (by assumption) ?_
            rotate_left
            · intro w' hSw; (try dsimp only at hSw); go_simp; (try with_reducible rfl)
            (try simp only [Act.put, List.setIfInBounds_toArray, List.set_cons_zero, List.set_cons_succ])
            refine wpAnyH_take (i := 19) (oi := { dst := some 4, op := Op.assign (Operand.tmp 73), type := 4, pos := "law.go:148", after := #[{ on := 18, ground := Ground.data }, { on := 15, ground := Ground.chain }, { on := 0, ground := Ground.phase }, { on := 1, ground := Ground.phase }, { on := 2, ground := Ground.phase }, { on := 3, ground := Ground.phase }, { on := 4, ground := Ground.phase }, { on := 5, ground := Ground.phase }, { on := 6, ground := Ground.phase }, { on := 7, ground := Ground.phase }, { on := 8, ground := Ground.phase }, { on := 9, ground := Ground.phase }, { on := 10, ground := Ground.phase }, { on := 11, ground := Ground.phase }, { on := 12, ground := Ground.phase }, { on := 13, ground := Ground.phase }, { on := 14, ground := Ground.phase }, { on := 15, ground := Ground.phase }, { on := 16, ground := Ground.phase }, { on := 17, ground := Ground.phase }, { on := 18, ground := Ground.phase }], guard := none }) (v := ?_) rfl (by kernel_rfl) (by kernel_rfl) (by kernel_rfl) (fun _ _ _ h => h) (Or.inl ⟨by rfl, ?_⟩) (by assumption) ?_
            rotate_left
            · intro w' hSw; (try dsimp only at hSw); go_simp; (try with_reducible rfl)
            (try simp only [Act.put, List.setIfInBounds_toArray, List.set_cons_zero, List.set_cons_succ])
            refine wpAnyH_done (by kernel_rfl) ?_ _
            go_wp2
            go_ret
            exact ⟨rfl, HB3.out.trans ((HB11.out.trans (hHeld2.2.2.mono HB11.out.size)).mono HB3.out.size)⟩
      · go_wp2
        go_ret
        exact ⟨rfl, HB3.out.trans (HB5.out.mono HB3.out.size)⟩
    · rw [decide_eq_false hfm] at he
      go_wp2_with fail
      refine he.mono ?_
      rintro e w5 ⟨rfl, hb5⟩
      have HB5 := Lib.hid (HB4.out.trans (hb5.mono HB4.out.size))
      clear m0 m1 m2 m3 m4 m5 he hb5
      go_wp2
      go_ret
      exact ⟨rfl, HB3.out.trans (HB5.out.mono HB3.out.size)⟩
  · rw [decide_eq_false hfn] at hf
    go_wp2_with fail
    refine hf.mono ?_
    rintro e w4 ⟨rfl, hb4⟩
    have HB4 := Lib.hid hb4
    clear n0 n1 n2 n3 n4 n5 hf hb4
    go_wp2
    go_ret
    exact ⟨rfl, HB3.out.trans (HB4.out.mono HB3.out.size)⟩
end Go.Proofs.YtmfgbniabgencaaGreatDoor

