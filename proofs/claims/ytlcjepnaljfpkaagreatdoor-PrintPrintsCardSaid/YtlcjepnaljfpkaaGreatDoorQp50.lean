/- SoE PpW. -/
import Derived.Deep.Cut
import Derived.Test.YtlcjepnaljfpkaaGreatDoorQp11
import Derived.Test.YtlcjepnaljfpkaaGreatDoorQp21
import Derived.Test.YtlcjepnaljfpkaaGreatDoorQp36
import Derived.Test.YtlcjepnaljfpkaaGreatDoorQp37
import Derived.Test.YtlcjepnaljfpkaaGreatDoorQp42
import Derived.Test.YtlcjepnaljfpkaaGreatDoorQp49
namespace Go.Proofs.YtlcjepnaljfpkaaGreatDoor
open Go.RowKit Wb
def EqSelf (x : Nd) : Prop := ∀ (A K B L : Option Addr) (ca ck cb cl : Nat) (w : World), smallN x → NodeV w x A K → NodeV w x B L →
  Calls Tryz.prog 18 #[ndV x A ca K ck, ndV x B cb L cl] w fun e w' => e = .returned (.bool true) ∧ Below w.heap.size w w'
set_option maxRecDepth 100000 in
set_option maxHeartbeats 8000000 in
theorem equal_of (n : Nd) : EqSelf n := by
  induction n using Nd.induct with
  | h n ih =>
    intro A K B L ca ck cb cl w hsn hVn hVm
    have HSM := Lib.hid (fun (v : World) (h1 : NodeV v n A K) (h2 : NodeV v n B L) => rSame_any n n A K B L ca ck cb cl v hsn hsn h1 h2)
    rw [sameN_refl] at HSM
    obtain ⟨s1, s2, s3⟩ := (smallN_is n).1 hsn
    have HAT := Lib.hid (fun (v : World) (h1 : Sl3 v A n.attrs) (h2 : Sl3 v B n.attrs) => same_same A B n.attrs ca cb v s1 h1 h2)
    clear hsn s1
    have hb1 : Below w.heap.size w (w.alloc (.cells (ndCells n.kind n.name A n.attrs.length ca K n.kids.length ck n.text).toArray 37)) := (Below.refl _ w).alloc (Nat.le_refl _) _
    have hb2 : Below w.heap.size w ((w.alloc (.cells (ndCells n.kind n.name A n.attrs.length ca K n.kids.length ck n.text).toArray 37)).alloc (.cells (ndCells n.kind n.name B n.attrs.length cb L n.kids.length cl n.text).toArray 37)) := hb1.alloc (by simp) _
    have hM := heap_alloc_new (w.alloc (.cells (ndCells n.kind n.name A n.attrs.length ca K n.kids.length ck n.text).toArray 37)) (.cells (ndCells n.kind n.name B n.attrs.length cb L n.kids.length cl n.text).toArray 37)
    have hN := (Below.heap_alloc (w.alloc (.cells (ndCells n.kind n.name A n.attrs.length ca K n.kids.length ck n.text).toArray 37)) (.cells (ndCells n.kind n.name B n.attrs.length cb L n.kids.length cl n.text).toArray 37) _ (blk_in (heap_alloc_new w _))).trans (heap_alloc_new w (.cells (ndCells n.kind n.name A n.attrs.length ca K n.kids.length ck n.text).toArray 37))
    have hs1 : (w.alloc (.cells (ndCells n.kind n.name A n.attrs.length ca K n.kids.length ck n.text).toArray 37)).heap.size = w.heap.size + 1 := by simp
    rw [hs1] at hM
    have HVN := Lib.hid (NodeV.below hVn hb2)
    have HVM := Lib.hid (NodeV.below hVm hb2)
    have HN := Lib.hid hN
    have HM := Lib.hid hM
    have HB := Lib.hid hb2
    have hws := hb2.size
    have IH := Lib.hid ih
    have S3 := Lib.hid s3
    clear hb1 hb2 hM hN hs1 hVn hVm ih s3
    unfold ndV
    unfold ndCells at *
    go_enter Tryz.func18, Tryz.ntmps18
    go_upto_region 1 with fail
    revert HVN HVM HN HM HB hws
    generalize ((w.alloc (.cells [Value.int .i64 n.kind, .string n.name.1, .string n.name.2, .slice A n.attrs.length ca, .slice K n.kids.length ck, .string n.text].toArray 37)).alloc (.cells [Value.int .i64 n.kind, .string n.name.1, .string n.name.2, .slice B n.attrs.length cb, .slice L n.kids.length cl, .string n.text].toArray 37)) = wz
    intro HVN HVM HN HM HB hws
    generalize hT : w.heap.size = T at *
    have HT := Lib.hid hT
    clear hT
    have CN := Lib.hid (fun (v : World) (h : Below wz.heap.size wz v) => cells_of_nd (still_block HN.out h))
    have CM := Lib.hid (fun (v : World) (h : Below wz.heap.size wz v) => cells_of_nd (still_block HM.out h))
    obtain ⟨n0, n1, n2, n3, n4, n5⟩ := CN.out wz (Below.refl _ _)
    obtain ⟨m0, m1, m2, m3, m4, m5⟩ := CM.out wz (Below.refl _ _)
    have hsm := HSM.out wz HVN.out HVM.out
    unfold ndV ndCells at hsm
    clear HN HM
    go_wp2_with fail
    refine hsm.mono ?_
    rintro e w4 ⟨rfl, hb4⟩
    have HB4 := Lib.hid hb4
    clear hsm hb4 n0 n1 n2 n3 n4 n5 m0 m1 m2 m3 m4 m5 HSM
    obtain ⟨n0, n1, n2, n3, n4, n5⟩ := CN.out _ HB4.out
    obtain ⟨m0, m1, m2, m3, m4, m5⟩ := CM.out _ HB4.out
    have hat := HAT.out w4 (HVN.out.1.below HB4.out) (HVM.out.1.below HB4.out)
    go_wp2_with fail
    refine hat.mono ?_
    rintro e w5 ⟨rfl, hb5⟩
    have HB5 : Hid (Below wz.heap.size wz w5) := Lib.hid (HB4.out.trans (hb5.mono HB4.out.size))
    clear hat hb5 n0 n1 n2 n3 n4 n5 m0 m1 m2 m3 m4 m5 HAT HB4
    go_wp2
    go_loopw [5] (fun vi wq => ∃ i : Nat, i ≤ n.kids.length ∧ vi = .int .i64 i ∧ Hid (Below wz.heap.size wz wq)) (fun vi _ => ((n.kids.length : Int) - intOf vi).toNat)
    case atStart => exact ⟨0, by omega, rfl, HB5⟩
    case round =>
      obtain ⟨p, hp, rfl, HBq⟩ := hrel
      obtain ⟨n0, n1, n2, n3, n4, n5⟩ := CN.out _ HBq.out
      by_cases h2 : p < n.kids.length
      · obtain ⟨x, hx⟩ : ∃ x, n.kids[p]? = some x := ⟨n.kids[p], List.getElem?_eq_getElem h2⟩
        obtain ⟨ad, A1, ca1, K1, ck1, rfl, had, d0, d1, d2, d3, d4, d5, hA1, hK1⟩ := HVN.out.2.at_ hx
        obtain ⟨ae, B1, cb1, L1, cl1, rfl, hae, e0, e1, e2, e3, e4, e5, hB1, hL1⟩ := HVM.out.2.at_ hx
        have hmx := List.mem_of_getElem? hx
        have HCALL := Lib.hid (fun (v : World) (h : Below wz.heap.size wz v) => IH.out x hmx A1 K1 B1 L1 ca1 ck1 cb1 cl1 v (S3.out x hmx) (NodeV.below ⟨hA1, hK1⟩ h) (NodeV.below ⟨hB1, hL1⟩ h))
        have hbx : (ad.add (p * 6)).block < wz.heap.size := by rw [add_block]; exact had
        have hby : (ae.add (p * 6)).block < wz.heap.size := by rw [add_block]; exact hae
        have HSV := Lib.hid (fun (v : World) (h : Below wz.heap.size wz v) => (show v.cell? ⟨T, 3 + 1, none⟩ = some (.slice (some ad) n.kids.length ck) ∧ v.cell? ⟨T + 1, 3 + 1, none⟩ = some (.slice (some ae) n.kids.length cl) ∧
          v.cell? (ad.add (p * 6)) = some (.int .i64 x.kind) ∧ v.cell? ⟨(ad.add (p * 6)).block, (ad.add (p * 6)).off + 1, none⟩ = some (.string x.name.1) ∧ v.cell? ⟨(ad.add (p * 6)).block, (ad.add (p * 6)).off + 2, none⟩ = some (.string x.name.2) ∧ v.cell? ⟨(ad.add (p * 6)).block, (ad.add (p * 6)).off + 3, none⟩ = some (.slice A1 x.attrs.length ca1) ∧ v.cell? ⟨(ad.add (p * 6)).block, (ad.add (p * 6)).off + 4, none⟩ = some (.slice K1 x.kids.length ck1) ∧ v.cell? ⟨(ad.add (p * 6)).block, (ad.add (p * 6)).off + 5, none⟩ = some (.string x.text) ∧
          v.cell? (ae.add (p * 6)) = some (.int .i64 x.kind) ∧ v.cell? ⟨(ae.add (p * 6)).block, (ae.add (p * 6)).off + 1, none⟩ = some (.string x.name.1) ∧ v.cell? ⟨(ae.add (p * 6)).block, (ae.add (p * 6)).off + 2, none⟩ = some (.string x.name.2) ∧ v.cell? ⟨(ae.add (p * 6)).block, (ae.add (p * 6)).off + 3, none⟩ = some (.slice B1 x.attrs.length cb1) ∧ v.cell? ⟨(ae.add (p * 6)).block, (ae.add (p * 6)).off + 4, none⟩ = some (.slice L1 x.kids.length cl1) ∧ v.cell? ⟨(ae.add (p * 6)).block, (ae.add (p * 6)).off + 5, none⟩ = some (.string x.text) from
          ⟨(CN.out v h).2.2.2.2.1, (CM.out v h).2.2.2.2.1, (h.cell hbx).trans d0, (h.cell (p := ⟨(ad.add (p * 6)).block, (ad.add (p * 6)).off + 1, none⟩) hbx).trans d1, (h.cell (p := ⟨(ad.add (p * 6)).block, (ad.add (p * 6)).off + 2, none⟩) hbx).trans d2, (h.cell (p := ⟨(ad.add (p * 6)).block, (ad.add (p * 6)).off + 3, none⟩) hbx).trans d3, (h.cell (p := ⟨(ad.add (p * 6)).block, (ad.add (p * 6)).off + 4, none⟩) hbx).trans d4, (h.cell (p := ⟨(ad.add (p * 6)).block, (ad.add (p * 6)).off + 5, none⟩) hbx).trans d5, (h.cell hby).trans e0, (h.cell (p := ⟨(ae.add (p * 6)).block, (ae.add (p * 6)).off + 1, none⟩) hby).trans e1, (h.cell (p := ⟨(ae.add (p * 6)).block, (ae.add (p * 6)).off + 2, none⟩) hby).trans e2, (h.cell (p := ⟨(ae.add (p * 6)).block, (ae.add (p * 6)).off + 3, none⟩) hby).trans e3, (h.cell (p := ⟨(ae.add (p * 6)).block, (ae.add (p * 6)).off + 4, none⟩) hby).trans e4, (h.cell (p := ⟨(ae.add (p * 6)).block, (ae.add (p * 6)).off + 5, none⟩) hby).trans e5⟩))
        have hp0 : (0 : Int) ≤ (p : Int) := by omega
        have hp1 : (p : Int) < (n.kids.length : Int) := by omega
        unfold ndV ndCells at HCALL
        clear d0 d1 d2 d3 d4 d5 e0 e1 e2 e3 e4 e5 hA1 hK1 hB1 hL1 had hae hx hmx
        go_wp2_with fail
        (try simp only [List.append])
        refine wp_region_held_drew (S := (fun v => v.cell? ⟨T, 3 + 1, none⟩ = some (.slice (some ad) n.kids.length ck) ∧ v.cell? ⟨T + 1, 3 + 1, none⟩ = some (.slice (some ae) n.kids.length cl) ∧ v.cell? (ad.add (p * 6)) = some (.int .i64 x.kind) ∧ v.cell? ⟨(ad.add (p * 6)).block, (ad.add (p * 6)).off + 1, none⟩ = some (.string x.name.1) ∧ v.cell? ⟨(ad.add (p * 6)).block, (ad.add (p * 6)).off + 2, none⟩ = some (.string x.name.2) ∧ v.cell? ⟨(ad.add (p * 6)).block, (ad.add (p * 6)).off + 3, none⟩ = some (.slice A1 x.attrs.length ca1) ∧ v.cell? ⟨(ad.add (p * 6)).block, (ad.add (p * 6)).off + 4, none⟩ = some (.slice K1 x.kids.length ck1) ∧ v.cell? ⟨(ad.add (p * 6)).block, (ad.add (p * 6)).off + 5, none⟩ = some (.string x.text) ∧ v.cell? (ae.add (p * 6)) = some (.int .i64 x.kind) ∧ v.cell? ⟨(ae.add (p * 6)).block, (ae.add (p * 6)).off + 1, none⟩ = some (.string x.name.1) ∧ v.cell? ⟨(ae.add (p * 6)).block, (ae.add (p * 6)).off + 2, none⟩ = some (.string x.name.2) ∧ v.cell? ⟨(ae.add (p * 6)).block, (ae.add (p * 6)).off + 3, none⟩ = some (.slice B1 x.attrs.length cb1) ∧ v.cell? ⟨(ae.add (p * 6)).block, (ae.add (p * 6)).off + 4, none⟩ = some (.slice L1 x.kids.length cl1) ∧ v.cell? ⟨(ae.add (p * 6)).block, (ae.add (p * 6)).off + 5, none⟩ = some (.string x.text))) (by kernel_rfl) (HSV.out _ HBq.out.drew) (fun hHeld => ?_)
        refine takeW 0 ?_
        refine takeW 1 ?_
        refine takeW 2 ?_
        refine takeW 3 ?_
        (try simp only [Act.put, List.setIfInBounds_toArray, List.set_cons_zero, List.set_cons_succ])
        refine takeW 4 ?_
        refine takeW 5 ?_
        refine takeW 6 ?_
        refine takeW 7 ?_
        (try simp only [Act.put, List.setIfInBounds_toArray, List.set_cons_zero, List.set_cons_succ])
        refine takeW 8 ?_
        refine takeW 9 ?_
        (try simp only [Act.put, List.setIfInBounds_toArray, List.set_cons_zero, List.set_cons_succ])
        refine wpAnyH_ready (rs := [10]) (by kernel_rfl) (by simp) ?_
        refine AllReadyH.cons rfl (fun K2 hK2 => ?_) AllReadyH.nil
        go_simp
        refine (HCALL.out _ HBq.out.drew).mono ?_
        rintro e w10 ⟨rfl, hb10⟩
        have HB10 : Hid (Below wz.heap.size wz w10) := Lib.hid (HBq.out.drew.trans (hb10.mono HBq.out.drew.size))
        clear hb10
        refine hK2.out _ _ (HSV.out _ HB10.out) (fun hHeld2 => ?_)
        refine takeW 11 ?_
        (try simp only [Act.put, List.setIfInBounds_toArray, List.set_cons_zero, List.set_cons_succ])
        refine wpAnyH_done (by kernel_rfl) ?_ _
        clear hHeld HCALL n0 n1 n2 n3 n4 n5
        go_wp2
        go_roundw
        case rel => exact ⟨p + 1, by omega, by go_num, HB10⟩
        case measure => simp [intOf]; omega
      · go_wp2
        go_ret
        exact ⟨rfl, by rw [HT.out]; exact HB.out.trans (HBq.out.mono hws)⟩
theorem equal_self (n : Nd) (A K B L : Option Addr) (ca ck cb cl : Nat) (w : World) (hs : smallN n) (hn : NodeV w n A K) (hm : NodeV w n B L) :
    Calls Tryz.prog 18 #[ndV n A ca K ck, ndV n B cb L cl] w fun e w' => e = .returned (.bool true) ∧ Below w.heap.size w w' := equal_of n A K B L ca ck cb cl w hs hn hm
end Go.Proofs.YtlcjepnaljfpkaaGreatDoor
namespace Go.Proofs.YtlcjepnaljfpkaaGreatDoor
open Go.RowKit Wb
set_option maxRecDepth 100000 in
set_option maxHeartbeats 4000000 in
theorem pprints_walk (n : Nd) (s : ByteArray) (at_ : Bool) (A K : Option Addr) (ca ck : Nat) (w : World) (hVn : NodeV w n A K) (hln : lenN 9223372036854775807 n) :
    Calls Tryz.prog 4 #[ndV n A ca K ck, .string s, .bool at_] w fun e w' => e = .returned (.bool true) ∧ Below w.heap.size w w' := by
  have hb1 := (Below.refl w.heap.size w).alloc (Nat.le_refl _) (.cells #[.int .i64 n.kind, .string n.name.1, .string n.name.2, .slice A n.attrs.length ca, .slice K n.kids.length ck, .string n.text] 37)
  have HN := Lib.hid (heap_alloc_new w (.cells #[.int .i64 n.kind, .string n.name.1, .string n.name.2, .slice A n.attrs.length ca, .slice K n.kids.length ck, .string n.text] 37))
  have VN := Lib.hid (NodeV.below hVn hb1)
  have HB := Lib.hid hb1
  have HLN := Lib.hid hln
  clear hb1 hVn hln
  unfold ndV ndCells
  go_enter Tryz.func4, Tryz.ntmps4
  go_upto_region 1 with fail
  revert HN VN HB
  generalize w.alloc (.cells #[.int .i64 n.kind, .string n.name.1, .string n.name.2, .slice A n.attrs.length ca, .slice K n.kids.length ck, .string n.text] 37) = wz
  intro HN VN HB
  generalize hT : w.heap.size = T at *
  have HT := Lib.hid hT
  clear hT
  have CN := Lib.hid (fun (v : World) (h : Below wz.heap.size wz v) => cells_of_nd (still_block HN.out h))
  have HBT : Hid (∀ v, Below wz.heap.size wz v → Below w.heap.size w v) := Lib.hid (fun v h => by rw [HT.out]; exact HB.out.trans (h.mono (by rw [← HT.out]; exact HB.out.size)))
  clear HN
  go_wp2_with fail
  refine (awake5 wz).mono ?_
  rintro e w3 ⟨rfl, hb3⟩
  have HB3 := Lib.hid hb3
  clear hb3
  obtain ⟨n0, n1, n2, n3, n4, n5⟩ := CN.out w3 HB3.out
  have hf := tfew_any n A K ca ck w3 (NodeV.below VN.out HB3.out) HLN.out
  unfold ndV ndCells at hf
  by_cases hq : weighN n 30000 ≤ 30000
  case neg =>
    rw [decide_eq_false hq] at hf
    clear hq
    go_wp2_with fail
    refine hf.mono ?_
    rintro e w4 ⟨rfl, hb⟩
    have HB4 := Lib.hid (HB3.out.trans (hb.mono HB3.out.size))
    clear n0 n1 n2 n3 n4 n5 hf hb
    go_wp2
    go_ret
    exact ⟨rfl, HBT.out _ HB4.out⟩
  case pos =>
  rw [decide_eq_true hq] at hf
  have HFN := Lib.hid hq
  clear hq
  go_wp2_with fail
  refine hf.mono ?_
  rintro e w4 ⟨rfl, hb⟩
  have HB4 := Lib.hid (HB3.out.trans (hb.mono HB3.out.size))
  clear n0 n1 n2 n3 n4 n5 hf hb HB3
  have HSN := Lib.hid (few_small n 30000 (by omega) HFN.out)
  have HZN := Lib.hid (few_sz n 30000 (by omega) HFN.out)
  by_cases hl : 20000 < s.size
  case pos =>
    have hl1 : (20000 : Int) < (s.size : Int) := by omega
    clear hl
    go_wp2
    go_ret
    exact ⟨rfl, HBT.out _ HB4.out⟩
  case neg =>
  have hl1 : ¬ (20000 : Int) < (s.size : Int) := by omega
  have HL := Lib.hid hl
  clear hl
  go_upto_region 5 with fail
  clear hl1
  obtain ⟨n0, n1, n2, n3, n4, n5⟩ := CN.out w4 HB4.out
  have hcp := copy_any n A K ca ck w4 (NodeV.below VN.out HB4.out) HSN.out
  unfold ndV ndCells at hcp
  go_wp2_with fail
  refine hcp.mono ?_
  rintro e w5 ⟨hb5, B, cb, kv, rfl, hW⟩
  obtain ⟨B2, cb2, L, cl, e2, hV⟩ := (nodeC_V _ _ _).1 ((hW.safe (ca := cb) (S := fun _ => False) (fun _ h => h.elim)).here)
  simp only [cpC, ndCells, List.cons.injEq, Value.slice.injEq, true_and, and_true] at e2
  obtain ⟨⟨rfl, rfl⟩, rfl⟩ := e2
  unfold cpC
  have hba := hb5.alloc hb5.size (.cells #[.int .i64 n.kind, .string n.name.1, .string n.name.2, .slice B n.attrs.length cb, .slice L n.kids.length cl, .string n.text] 37)
  have HB6 := Lib.hid (HB4.out.trans (hba.mono HB4.out.size))
  have HM := Lib.hid (heap_alloc_new w5 (.cells #[.int .i64 n.kind, .string n.name.1, .string n.name.2, .slice B n.attrs.length cb, .slice L n.kids.length cl, .string n.text] 37))
  have VM := Lib.hid (NodeV.below hV ((Below.refl w5.heap.size w5).alloc (Nat.le_refl _) (.cells #[.int .i64 n.kind, .string n.name.1, .string n.name.2, .slice B n.attrs.length cb, .slice L n.kids.length cl, .string n.text] 37)))
  clear hcp hb5 hW hV hba n0 n1 n2 n3 n4 n5 HB4
  go_upto_region 6 with fail
  revert HB6 HM VM
  generalize w5.alloc (.cells #[.int .i64 n.kind, .string n.name.1, .string n.name.2, .slice B n.attrs.length cb, .slice L n.kids.length cl, .string n.text] 37) = w6
  intro HB6 HM VM
  generalize w5.heap.size = M at *
  have CM := Lib.hid (fun (v : World) (h : Below w6.heap.size w6 v) => cells_of_nd (still_block HM.out h))
  clear HM
  obtain ⟨P, hP⟩ : ∃ q, ByteArray.mk (printR n).1.toArray = q := ⟨_, rfl⟩
  obtain ⟨q, hq⟩ : ∃ q, (printR n).2 = q := ⟨_, rfl⟩
  have hp1 := fun (v : World) (hv : NodeV v n A K) => Print_any n A K ca ck v HZN.out HSN.out hv
  have hp2 := fun (v : World) (hv : NodeV v n A K) => rPrint_any n A K ca ck v HZN.out HSN.out hv
  rw [hP, hq] at hp1 hp2
  unfold ndV ndCells at hp1 hp2
  have HP1 := Lib.hid hp1
  have HP2 := Lib.hid hp2
  clear hp1 hp2 hP hq
  obtain ⟨n0, n1, n2, n3, n4, n5⟩ := CN.out w6 HB6.out
  go_wp2_with fail
  refine (HP1.out _ (NodeV.below VN.out HB6.out)).mono ?_
  rintro e w7 ⟨rfl, hb⟩
  have HB7 := Lib.hid (HB6.out.trans (hb.mono HB6.out.size))
  have HC7 := Lib.hid hb
  clear hb n0 n1 n2 n3 n4 n5
  obtain ⟨n0, n1, n2, n3, n4, n5⟩ := CN.out w7 HB7.out
  go_wp2_with fail
  refine (HP2.out _ (NodeV.below VN.out HB7.out)).mono ?_
  rintro e w8 ⟨rfl, hb⟩
  have HB8 := Lib.hid (HB7.out.trans (hb.mono HB7.out.size))
  have HC8 := Lib.hid (HC7.out.trans (hb.mono HC7.out.size))
  clear hb n0 n1 n2 n3 n4 n5 HP1 HP2 HC7 HB7
  go_upto_region 8 with fail
  have hpp : (P.toList == P.toList) = true := by simp
  have hqq : (q == q) = true := by simp
  obtain ⟨E, hE⟩ : ∃ E, ByteArray.mk (escL at_ s.data.toList).toArray = E := ⟨_, rfl⟩
  have he1 := fun v => Escape_any s at_ v (by have := HL.out; omega)
  have he2 := fun v => resc_any s at_ v (by have := HL.out; omega)
  rw [hE] at he1 he2
  have hee : (E.toList == E.toList) = true := by simp
  have HE1 := Lib.hid he1
  have HE2 := Lib.hid he2
  clear he1 he2 hE
  go_wp2_with fail
  refine (HE1.out _).mono ?_
  rintro e w9 ⟨rfl, hb⟩
  have HB9 := Lib.hid (HB8.out.trans (hb.mono HB8.out.size))
  have HC9 := Lib.hid (HC8.out.trans (hb.mono HC8.out.size))
  clear hb HB8 HC8 HE1
  go_wp2_with fail
  refine (HE2.out _).mono ?_
  rintro e w10 ⟨rfl, hb⟩
  have HB10 := Lib.hid (HB9.out.trans (hb.mono HB9.out.size))
  have HC10 := Lib.hid (HC9.out.trans (hb.mono HC9.out.size))
  clear hb HB9 HC9 HE2
  obtain ⟨n0, n1, n2, n3, n4, n5⟩ := CN.out w10 HB10.out
  obtain ⟨m0, m1, m2, m3, m4, m5⟩ := CM.out w10 HC10.out
  have heq := equal_self n A K B L ca ck cb cl w10 HSN.out (VN.out.below HB10.out) (VM.out.below HC10.out)
  unfold ndV ndCells at heq
  go_wp2_with fail
  refine heq.mono ?_
  rintro e w11 ⟨rfl, hb⟩
  have HB11 := Lib.hid (HB10.out.trans (hb.mono HB10.out.size))
  clear hb heq n0 n1 n2 n3 n4 n5 m0 m1 m2 m3 m4 m5
  go_wp2
  go_ret
  exact ⟨rfl, HBT.out _ HB11.out⟩
end Go.Proofs.YtlcjepnaljfpkaaGreatDoor
