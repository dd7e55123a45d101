/- SoE PeW. -/
import Derived.Deep.Cut
import Derived.Deep.DeepCutAuto
import Derived.Test.YtlcjepnaljfpkaaQe3
import Derived.Test.YtlcjepnaljfpkaaQe4
import Derived.Test.YtlcjepnaljfpkaaQe5
import Derived.Test.YtlcjepnaljfpkaaQe7
import Derived.Test.YtlcjepnaljfpkaaQe9
import Derived.Test.YtlcjepnaljfpkaaQe12
import Derived.Test.YtlcjepnaljfpkaaQe13
import Derived.Test.YtlcjepnaljfpkaaQe14
namespace Go.Proofs.Ytlcjepnaljfpkaa
open Go.RowKit Wb
def EqSelf (x : Nd) : Prop := ∀ (A K B L : Option Addr) (ca ck cb cl : Nat) (w : World), smallN x → NodeV w x A K → NodeV w x B L →
  Calls Try.prog 11 #[ndV x A ca K ck, ndV x B cb L cl] w fun e w' => e = .returned (.bool true) ∧ Below w.heap.size w w'
set_option maxRecDepth 100000 in
set_option maxHeartbeats 8000000 in
theorem equal_of (n : Nd) : EqSelf n := by
  induction n using Nd.induct with
  | h n ih =>
    intro A K B L ca ck cb cl w hsn hVn hVm
    have HSM := Lib.hid (fun (v : World) (h1 : NodeV v n A K) (h2 : NodeV v n B L) => rSame_any n n A K B L ca ck cb cl v hsn hsn h1 h2)
    rw [sameN_refl] at HSM
    obtain ⟨s1, s2, s3⟩ := (smallN_is n).1 hsn
    have HAT := Lib.hid (fun (v : World) (h1 : Sl3 v A n.attrs) (h2 : Sl3 v B n.attrs) => same_same A B n.attrs ca cb v s1 h1 h2)
    clear hsn s1
    have hb1 : Below w.heap.size w (w.alloc (.cells (ndCells n.kind n.name A n.attrs.length ca K n.kids.length ck n.text).toArray 27)) := (Below.refl _ w).alloc (Nat.le_refl _) _
    have hb2 : Below w.heap.size w ((w.alloc (.cells (ndCells n.kind n.name A n.attrs.length ca K n.kids.length ck n.text).toArray 27)).alloc (.cells (ndCells n.kind n.name B n.attrs.length cb L n.kids.length cl n.text).toArray 27)) := hb1.alloc (by simp) _
    have hM := heap_alloc_new (w.alloc (.cells (ndCells n.kind n.name A n.attrs.length ca K n.kids.length ck n.text).toArray 27)) (.cells (ndCells n.kind n.name B n.attrs.length cb L n.kids.length cl n.text).toArray 27)
    have hN := (Below.heap_alloc (w.alloc (.cells (ndCells n.kind n.name A n.attrs.length ca K n.kids.length ck n.text).toArray 27)) (.cells (ndCells n.kind n.name B n.attrs.length cb L n.kids.length cl n.text).toArray 27) _ (blk_in (heap_alloc_new w _))).trans (heap_alloc_new w (.cells (ndCells n.kind n.name A n.attrs.length ca K n.kids.length ck n.text).toArray 27))
    have hs1 : (w.alloc (.cells (ndCells n.kind n.name A n.attrs.length ca K n.kids.length ck n.text).toArray 27)).heap.size = w.heap.size + 1 := by simp
    rw [hs1] at hM
    have HVN := Lib.hid (NodeV.below hVn hb2)
    have HVM := Lib.hid (NodeV.below hVm hb2)
    have HN := Lib.hid hN
    have HM := Lib.hid hM
    have HB := Lib.hid hb2
    have hws := hb2.size
    have IH := Lib.hid ih
    have S3 := Lib.hid s3
    clear hb1 hb2 hM hN hs1 hVn hVm ih s3
    unfold ndV
    unfold ndCells at *
    go_enter Try.func11, Try.ntmps11
    go_upto_region 1 with fail
    revert HVN HVM HN HM HB hws
    generalize ((w.alloc (.cells [Value.int .i64 n.kind, .string n.name.1, .string n.name.2, .slice A n.attrs.length ca, .slice K n.kids.length ck, .string n.text].toArray 27)).alloc (.cells [Value.int .i64 n.kind, .string n.name.1, .string n.name.2, .slice B n.attrs.length cb, .slice L n.kids.length cl, .string n.text].toArray 27)) = wz
    intro HVN HVM HN HM HB hws
    generalize hT : w.heap.size = T at *
    have HT := Lib.hid hT
    clear hT
    have CN := Lib.hid (fun (v : World) (h : Below wz.heap.size wz v) => cells_of_nd (still_block HN.out h))
    have CM := Lib.hid (fun (v : World) (h : Below wz.heap.size wz v) => cells_of_nd (still_block HM.out h))
    obtain ⟨n0, n1, n2, n3, n4, n5⟩ := CN.out wz (Below.refl _ _)
    obtain ⟨m0, m1, m2, m3, m4, m5⟩ := CM.out wz (Below.refl _ _)
    have hsm := HSM.out wz HVN.out HVM.out
    unfold ndV ndCells at hsm
    clear HN HM
    go_wp2_with fail
    refine hsm.mono ?_
    rintro e w4 ⟨rfl, hb4⟩
    have HB4 := Lib.hid hb4
    clear hsm hb4 n0 n1 n2 n3 n4 n5 m0 m1 m2 m3 m4 m5 HSM
    obtain ⟨n0, n1, n2, n3, n4, n5⟩ := CN.out _ HB4.out
    obtain ⟨m0, m1, m2, m3, m4, m5⟩ := CM.out _ HB4.out
    have hat := HAT.out w4 (HVN.out.1.below HB4.out) (HVM.out.1.below HB4.out)
    go_wp2_with fail
    refine hat.mono ?_
    rintro e w5 ⟨rfl, hb5⟩
    have HB5 : Hid (Below wz.heap.size wz w5) := Lib.hid (HB4.out.trans (hb5.mono HB4.out.size))
    clear hat hb5 n0 n1 n2 n3 n4 n5 m0 m1 m2 m3 m4 m5 HAT HB4
    go_wp2
    go_loopw [5] (fun vi wq => ∃ i : Nat, i ≤ n.kids.length ∧ vi = .int .i64 i ∧ Hid (Below wz.heap.size wz wq)) (fun vi _ => ((n.kids.length : Int) - intOf vi).toNat)
    case atStart => exact ⟨0, by omega, rfl, HB5⟩
    case round =>
      obtain ⟨p, hp, rfl, HBq⟩ := hrel
      obtain ⟨n0, n1, n2, n3, n4, n5⟩ := CN.out _ HBq.out
      by_cases h2 : p < n.kids.length
      · obtain ⟨x, hx⟩ : ∃ x, n.kids[p]? = some x := ⟨n.kids[p], List.getElem?_eq_getElem h2⟩
        obtain ⟨ad, A1, ca1, K1, ck1, rfl, had, d0, d1, d2, d3, d4, d5, hA1, hK1⟩ := HVN.out.2.at_ hx
        obtain ⟨ae, B1, cb1, L1, cl1, rfl, hae, e0, e1, e2, e3, e4, e5, hB1, hL1⟩ := HVM.out.2.at_ hx
        have hmx := List.mem_of_getElem? hx
        have HCALL := Lib.hid (fun (v : World) (h : Below wz.heap.size wz v) => IH.out x hmx A1 K1 B1 L1 ca1 ck1 cb1 cl1 v (S3.out x hmx) (NodeV.below ⟨hA1, hK1⟩ h) (NodeV.below ⟨hB1, hL1⟩ h))
        have hbx : (ad.add (p * 6)).block < wz.heap.size := by rw [add_block]; exact had
        have hby : (ae.add (p * 6)).block < wz.heap.size := by rw [add_block]; exact hae
        have HSV := Lib.hid (fun (v : World) (h : Below wz.heap.size wz v) => (show v.cell? ⟨T, 3 + 1, none⟩ = some (.slice (some ad) n.kids.length ck) ∧ v.cell? ⟨T + 1, 3 + 1, none⟩ = some (.slice (some ae) n.kids.length cl) ∧
          v.cell? (ad.add (p * 6)) = some (.int .i64 x.kind) ∧ v.cell? ⟨(ad.add (p * 6)).block, (ad.add (p * 6)).off + 1, none⟩ = some (.string x.name.1) ∧ v.cell? ⟨(ad.add (p * 6)).block, (ad.add (p * 6)).off + 2, none⟩ = some (.string x.name.2) ∧ v.cell? ⟨(ad.add (p * 6)).block, (ad.add (p * 6)).off + 3, none⟩ = some (.slice A1 x.attrs.length ca1) ∧ v.cell? ⟨(ad.add (p * 6)).block, (ad.add (p * 6)).off + 4, none⟩ = some (.slice K1 x.kids.length ck1) ∧ v.cell? ⟨(ad.add (p * 6)).block, (ad.add (p * 6)).off + 5, none⟩ = some (.string x.text) ∧
          v.cell? (ae.add (p * 6)) = some (.int .i64 x.kind) ∧ v.cell? ⟨(ae.add (p * 6)).block, (ae.add (p * 6)).off + 1, none⟩ = some (.string x.name.1) ∧ v.cell? ⟨(ae.add (p * 6)).block, (ae.add (p * 6)).off + 2, none⟩ = some (.string x.name.2) ∧ v.cell? ⟨(ae.add (p * 6)).block, (ae.add (p * 6)).off + 3, none⟩ = some (.slice B1 x.attrs.length cb1) ∧ v.cell? ⟨(ae.add (p * 6)).block, (ae.add (p * 6)).off + 4, none⟩ = some (.slice L1 x.kids.length cl1) ∧ v.cell? ⟨(ae.add (p * 6)).block, (ae.add (p * 6)).off + 5, none⟩ = some (.string x.text) from
          ⟨(CN.out v h).2.2.2.2.1, (CM.out v h).2.2.2.2.1, (h.cell hbx).trans d0, (h.cell (p := ⟨(ad.add (p * 6)).block, (ad.add (p * 6)).off + 1, none⟩) hbx).trans d1, (h.cell (p := ⟨(ad.add (p * 6)).block, (ad.add (p * 6)).off + 2, none⟩) hbx).trans d2, (h.cell (p := ⟨(ad.add (p * 6)).block, (ad.add (p * 6)).off + 3, none⟩) hbx).trans d3, (h.cell (p := ⟨(ad.add (p * 6)).block, (ad.add (p * 6)).off + 4, none⟩) hbx).trans d4, (h.cell (p := ⟨(ad.add (p * 6)).block, (ad.add (p * 6)).off + 5, none⟩) hbx).trans d5, (h.cell hby).trans e0, (h.cell (p := ⟨(ae.add (p * 6)).block, (ae.add (p * 6)).off + 1, none⟩) hby).trans e1, (h.cell (p := ⟨(ae.add (p * 6)).block, (ae.add (p * 6)).off + 2, none⟩) hby).trans e2, (h.cell (p := ⟨(ae.add (p * 6)).block, (ae.add (p * 6)).off + 3, none⟩) hby).trans e3, (h.cell (p := ⟨(ae.add (p * 6)).block, (ae.add (p * 6)).off + 4, none⟩) hby).trans e4, (h.cell (p := ⟨(ae.add (p * 6)).block, (ae.add (p * 6)).off + 5, none⟩) hby).trans e5⟩))
        have hp0 : (0 : Int) ≤ (p : Int) := by omega
        have hp1 : (p : Int) < (n.kids.length : Int) := by omega
        unfold ndV ndCells at HCALL
        clear d0 d1 d2 d3 d4 d5 e0 e1 e2 e3 e4 e5 hA1 hK1 hB1 hL1 had hae hx hmx
        go_wp2_with fail
        (try simp only [List.append])
        refine wp_region_held_drew (S := (fun v => v.cell? ⟨T, 3 + 1, none⟩ = some (.slice (some ad) n.kids.length ck) ∧ v.cell? ⟨T + 1, 3 + 1, none⟩ = some (.slice (some ae) n.kids.length cl) ∧ v.cell? (ad.add (p * 6)) = some (.int .i64 x.kind) ∧ v.cell? ⟨(ad.add (p * 6)).block, (ad.add (p * 6)).off + 1, none⟩ = some (.string x.name.1) ∧ v.cell? ⟨(ad.add (p * 6)).block, (ad.add (p * 6)).off + 2, none⟩ = some (.string x.name.2) ∧ v.cell? ⟨(ad.add (p * 6)).block, (ad.add (p * 6)).off + 3, none⟩ = some (.slice A1 x.attrs.length ca1) ∧ v.cell? ⟨(ad.add (p * 6)).block, (ad.add (p * 6)).off + 4, none⟩ = some (.slice K1 x.kids.length ck1) ∧ v.cell? ⟨(ad.add (p * 6)).block, (ad.add (p * 6)).off + 5, none⟩ = some (.string x.text) ∧ v.cell? (ae.add (p * 6)) = some (.int .i64 x.kind) ∧ v.cell? ⟨(ae.add (p * 6)).block, (ae.add (p * 6)).off + 1, none⟩ = some (.string x.name.1) ∧ v.cell? ⟨(ae.add (p * 6)).block, (ae.add (p * 6)).off + 2, none⟩ = some (.string x.name.2) ∧ v.cell? ⟨(ae.add (p * 6)).block, (ae.add (p * 6)).off + 3, none⟩ = some (.slice B1 x.attrs.length cb1) ∧ v.cell? ⟨(ae.add (p * 6)).block, (ae.add (p * 6)).off + 4, none⟩ = some (.slice L1 x.kids.length cl1) ∧ v.cell? ⟨(ae.add (p * 6)).block, (ae.add (p * 6)).off + 5, none⟩ = some (.string x.text))) (by kernel_rfl) (HSV.out _ HBq.out.drew) (fun hHeld => ?_)
        refine takeW 0 ?_
        refine takeW 1 ?_
        refine takeW 2 ?_
        refine takeW 3 ?_
        (try simp only [Act.put, List.setIfInBounds_toArray, List.set_cons_zero, List.set_cons_succ])
        refine takeW 4 ?_
        refine takeW 5 ?_
        refine takeW 6 ?_
        refine takeW 7 ?_
        (try simp only [Act.put, List.setIfInBounds_toArray, List.set_cons_zero, List.set_cons_succ])
        refine takeW 8 ?_
        refine takeW 9 ?_
        (try simp only [Act.put, List.setIfInBounds_toArray, List.set_cons_zero, List.set_cons_succ])
        refine wpAnyH_ready (rs := [10]) (by kernel_rfl) (by simp) ?_
        refine AllReadyH.cons rfl (fun K2 hK2 => ?_) AllReadyH.nil
        go_simp
        refine (HCALL.out _ HBq.out.drew).mono ?_
        rintro e w10 ⟨rfl, hb10⟩
        have HB10 : Hid (Below wz.heap.size wz w10) := Lib.hid (HBq.out.drew.trans (hb10.mono HBq.out.drew.size))
        clear hb10
        refine hK2.out _ _ (HSV.out _ HB10.out) (fun hHeld2 => ?_)
        refine takeW 11 ?_
        (try simp only [Act.put, List.setIfInBounds_toArray, List.set_cons_zero, List.set_cons_succ])
        refine wpAnyH_done (by kernel_rfl) ?_ _
        clear hHeld HCALL n0 n1 n2 n3 n4 n5
        go_wp2
        go_roundw
        case rel => exact ⟨p + 1, by omega, by go_num, HB10⟩
        case measure => simp [intOf]; omega
      · go_wp2
        go_ret
        exact ⟨rfl, by rw [HT.out]; exact HB.out.trans (HBq.out.mono hws)⟩
theorem equal_self (n : Nd) (A K B L : Option Addr) (ca ck cb cl : Nat) (w : World) (hs : smallN n) (hn : NodeV w n A K) (hm : NodeV w n B L) :
    Calls Try.prog 11 #[ndV n A ca K ck, ndV n B cb L cl] w fun e w' => e = .returned (.bool true) ∧ Below w.heap.size w w' := equal_of n A K B L ca ck cb cl w hs hn hm
end Go.Proofs.Ytlcjepnaljfpkaa
namespace Go.Proofs.Ytlcjepnaljfpkaa
open Go.RowKit Wb
set_option maxRecDepth 100000 in
set_option maxHeartbeats 8000000 in
theorem else_walk (n x : Nd) (A K XA XK : Option Addr) (ca ck xca xck : Nat) (l o : List Int) (PA OA : Option Addr) (cp co : Nat) (w : World) (hVn : NodeV w n A K) (hVx : NodeV w x XA XK) (hln : lenN 9223372036854775807 n) (hlx : lenN 9223372036854775807 x)
    (hP : SlI w PA l) (hO : SlI w OA o) (hcp : l.length ≤ cp) (hco : o.length ≤ co) :
    Calls Try.prog 4 #[ndV n A ca K ck, ndV x XA xca XK xck, .slice PA l.length cp, .slice OA o.length co] w fun e w' => e = .returned (.bool true) ∧ Below w.heap.size w w' := by
  obtain ⟨hb2, h0, h1, hs2⟩ := two_allocs w (.cells #[.int .i64 n.kind, .string n.name.1, .string n.name.2, .slice A n.attrs.length ca, .slice K n.kids.length ck, .string n.text] 27) (.cells #[.int .i64 x.kind, .string x.name.1, .string x.name.2, .slice XA x.attrs.length xca, .slice XK x.kids.length xck, .string x.text] 27)
  have HB := Lib.hid hb2
  have HN := Lib.hid h0
  have HX := Lib.hid h1
  have VN := Lib.hid (NodeV.below hVn hb2)
  have VX := Lib.hid (NodeV.below hVx hb2)
  have PL := Lib.hid (hP.below hb2)
  have OL := Lib.hid (hO.below hb2)
  have HLN := Lib.hid hln
  have HLX := Lib.hid hlx
  have HCP := Lib.hid hcp
  have HCO := Lib.hid hco
  clear hb2 h0 h1 hs2 hVn hVx hP hO hln hlx hcp hco
  unfold ndV ndCells
  go_enter Try.func4, Try.ntmps4
  go_upto_region 1 with fail
  revert HB HN HX VN VX PL OL
  generalize (w.alloc (.cells #[.int .i64 n.kind, .string n.name.1, .string n.name.2, .slice A n.attrs.length ca, .slice K n.kids.length ck, .string n.text] 27)).alloc (.cells #[.int .i64 x.kind, .string x.name.1, .string x.name.2, .slice XA x.attrs.length xca, .slice XK x.kids.length xck, .string x.text] 27) = wz
  intro HB HN HX VN VX PL OL
  generalize hT : w.heap.size = T at *
  have HT := Lib.hid hT
  clear hT
  have CN := Lib.hid (fun (v : World) (h : Below wz.heap.size wz v) => cells_of_nd (still_block HN.out h))
  have CX := Lib.hid (fun (v : World) (h : Below wz.heap.size wz v) => cells_of_nd (still_block HX.out h))
  clear HN HX
  go_wp2_with fail
  refine (awake6 wz).mono ?_
  rintro e w3 ⟨rfl, hb3⟩
  have HB3 := Lib.hid hb3
  clear hb3
  -- Few(n)
  obtain ⟨n0, n1, n2, n3, n4, n5⟩ := CN.out w3 HB3.out
  have hf := tfew_any n A K ca ck w3 (NodeV.below VN.out HB3.out) HLN.out
  unfold ndV ndCells at hf
  by_cases hfn : weighN n 30000 ≤ 30000
  case neg =>
    rw [decide_eq_false hfn] at hf
    clear hfn
    go_wp2_with fail
    refine hf.mono ?_
    rintro e w4 ⟨rfl, hb4⟩
    have HB4 := Lib.hid (HB3.out.trans (hb4.mono HB3.out.size))
    clear n0 n1 n2 n3 n4 n5 hf hb4
    go_wp2
    go_ret
    exact ⟨rfl, by rw [HT.out]; exact HB.out.trans (HB4.out.mono (by rw [← HT.out]; exact HB.out.size))⟩
  case pos =>
  rw [decide_eq_true hfn] at hf
  have HFN := Lib.hid hfn
  clear hfn
  go_wp2_with fail
  refine hf.mono ?_
  rintro e w4 ⟨rfl, hb4⟩
  have HB4 := Lib.hid (HB3.out.trans (hb4.mono HB3.out.size))
  clear n0 n1 n2 n3 n4 n5 hf hb4 HB3
  -- Few(x)
  obtain ⟨x0, x1, x2, x3, x4, x5⟩ := CX.out w4 HB4.out
  have hf := tfew_any x XA XK xca xck w4 (NodeV.below VX.out HB4.out) HLX.out
  unfold ndV ndCells at hf
  by_cases hfx : weighN x 30000 ≤ 30000
  case neg =>
    rw [decide_eq_false hfx] at hf
    clear hfx
    go_wp2_with fail
    refine hf.mono ?_
    rintro e w5 ⟨rfl, hb5⟩
    have HB5 := Lib.hid (HB4.out.trans (hb5.mono HB4.out.size))
    clear x0 x1 x2 x3 x4 x5 hf hb5
    go_wp2
    go_ret
    exact ⟨rfl, by rw [HT.out]; exact HB.out.trans (HB5.out.mono (by rw [← HT.out]; exact HB.out.size))⟩
  case pos =>
  rw [decide_eq_true hfx] at hf
  have HFX := Lib.hid hfx
  clear hfx
  go_wp2_with fail
  refine hf.mono ?_
  rintro e w5 ⟨rfl, hb5⟩
  have HB5 := Lib.hid (HB4.out.trans (hb5.mono HB4.out.size))
  clear x0 x1 x2 x3 x4 x5 hf hb5 HB4
  have HSN := Lib.hid (few_small n 30000 (by omega) HFN.out)
  have HZN := Lib.hid (few_sz n 30000 (by omega) HFN.out)
  have HSX := Lib.hid (few_small x 30000 (by omega) HFX.out)
  have HZX := Lib.hid (few_sz x 30000 (by omega) HFX.out)
  have HCN := Lib.hid (Nat.le_trans (few_cost n 30000 HFN.out).2.1 HFN.out)
  have HCX := Lib.hid (Nat.le_trans (few_cost x 30000 HFX.out).2.1 HFX.out)
  clear HFN HFX
  -- Right(n)
  obtain ⟨n0, n1, n2, n3, n4, n5⟩ := CN.out w5 HB5.out
  have hr := Right_b n A K ca ck w5 HZN.out HSN.out (NodeV.below VN.out HB5.out)
  unfold ndV ndCells at hr
  by_cases hrn : rightB n = true
  case neg =>
    rw [show rightB n = false from by simpa using hrn] at hr
    clear hrn
    go_wp2_with fail
    refine hr.mono ?_
    rintro e w6 ⟨rfl, hb6⟩
    have HB6 := Lib.hid (HB5.out.trans (hb6.mono HB5.out.size))
    clear n0 n1 n2 n3 n4 n5 hr hb6
    go_wp2
    go_ret
    exact ⟨rfl, by rw [HT.out]; exact HB.out.trans (HB6.out.mono (by rw [← HT.out]; exact HB.out.size))⟩
  case pos =>
  rw [hrn] at hr
  have HRN := Lib.hid hrn
  clear hrn
  go_wp2_with fail
  refine hr.mono ?_
  rintro e w6 ⟨rfl, hb6⟩
  have HB6 := Lib.hid (HB5.out.trans (hb6.mono HB5.out.size))
  clear n0 n1 n2 n3 n4 n5 hr hb6 HB5
  -- Right(x)
  obtain ⟨x0, x1, x2, x3, x4, x5⟩ := CX.out w6 HB6.out
  have hr := Right_b x XA XK xca xck w6 HZX.out HSX.out (NodeV.below VX.out HB6.out)
  unfold ndV ndCells at hr
  by_cases hrx : rightB x = true
  case neg =>
    rw [show rightB x = false from by simpa using hrx] at hr
    clear hrx
    go_wp2_with fail
    refine hr.mono ?_
    rintro e w7 ⟨rfl, hb7⟩
    have HB7 := Lib.hid (HB6.out.trans (hb7.mono HB6.out.size))
    clear x0 x1 x2 x3 x4 x5 hr hb7
    go_wp2
    go_ret
    exact ⟨rfl, by rw [HT.out]; exact HB.out.trans (HB7.out.mono (by rw [← HT.out]; exact HB.out.size))⟩
  case pos =>
  rw [hrx] at hr
  have HRX := Lib.hid hrx
  clear hrx
  go_wp2_with fail
  refine hr.mono ?_
  rintro e w7 ⟨rfl, hb7⟩
  have HB7 := Lib.hid (HB6.out.trans (hb7.mono HB6.out.size))
  clear x0 x1 x2 x3 x4 x5 hr hb7 HB6
  -- the lengths
  by_cases hl : 100 < l.length
  case pos =>
    have hl1 : (100 : Int) < (l.length : Int) := by omega
    clear hl
    go_wp2
    go_ret
    exact ⟨rfl, by rw [HT.out]; exact HB.out.trans (HB7.out.mono (by rw [← HT.out]; exact HB.out.size))⟩
  case neg =>
  by_cases ho : 100 < o.length
  case pos =>
    have hl1 : ¬ (100 : Int) < (l.length : Int) := by omega
    have hl2 : (100 : Int) < (o.length : Int) := by omega
    clear hl ho
    go_wp2
    go_ret
    exact ⟨rfl, by rw [HT.out]; exact HB.out.trans (HB7.out.mono (by rw [← HT.out]; exact HB.out.size))⟩
  case neg =>
  have hl1 : ¬ (100 : Int) < (l.length : Int) := by omega
  have hl2 : ¬ (100 : Int) < (o.length : Int) := by omega
  have HL := Lib.hid hl
  have HO := Lib.hid ho
  clear hl ho
  go_upto_region 5 with fail
  clear hl1 hl2
  -- Replace
  obtain ⟨n0, n1, n2, n3, n4, n5⟩ := CN.out w7 HB7.out
  obtain ⟨x0, x1, x2, x3, x4, x5⟩ := CX.out w7 HB7.out
  have hrep := Replace_any n x A K XA XK ca ck xca xck l PA cp w7 (NodeV.below VN.out HB7.out) (NodeV.below VX.out HB7.out) ⟨HSN.out, by have := HCN.out; omega⟩ ⟨HSX.out, by have := HCX.out; omega⟩ (PL.out.below HB7.out) HCP.out (by have := HL.out; omega)
  unfold ndV ndCells at hrep
  obtain ⟨r, hr⟩ : ∃ r, replP n x l = r := ⟨_, rfl⟩
  rw [hr] at hrep
  have HR := Lib.hid hr
  clear hr
  go_wp2_with fail
  refine hrep.mono ?_
  rintro e w8 ⟨hb8, ho⟩
  have HB8 := Lib.hid (HB7.out.trans (hb8.mono HB7.out.size))
  clear n0 n1 n2 n3 n4 n5 x0 x1 x2 x3 x4 x5 hrep hb8 HB7
  rcases r with _ | m
  case none =>
    subst ho
    have HB9 := Lib.hid (HB8.out.alloc HB8.out.size (.cells #[.int .i64 0, .string ⟨#[]⟩, .string ⟨#[]⟩, .slice none 0 0, .slice none 0 0, .string ⟨#[]⟩] 27))
    clear HB8
    go_wp2
    go_ret
    exact ⟨rfl, by rw [HT.out]; exact HB.out.trans (HB9.out.mono (by rw [← HT.out]; exact HB.out.size))⟩
  case some =>
  obtain ⟨B, cb, L, cl, rfl, hV8⟩ := ho
  have HB9 := Lib.hid (HB8.out.alloc HB8.out.size (.cells #[.int .i64 m.kind, .string m.name.1, .string m.name.2, .slice B m.attrs.length cb, .slice L m.kids.length cl, .string m.text] 27))
  have HM9 := Lib.hid (heap_alloc_new w8 (.cells #[.int .i64 m.kind, .string m.name.1, .string m.name.2, .slice B m.attrs.length cb, .slice L m.kids.length cl, .string m.text] 27))
  have VM9 := Lib.hid (hV8.here.below ((Below.refl w8.heap.size w8).alloc (Nat.le_refl _) (.cells #[.int .i64 m.kind, .string m.name.1, .string m.name.2, .slice B m.attrs.length cb, .slice L m.kids.length cl, .string m.text] 27)))
  clear HB8 hV8
  unfold ndV ndCells
  go_upto_region 8 with fail
  revert HB9 HM9 VM9
  generalize w8.alloc (.cells #[.int .i64 m.kind, .string m.name.1, .string m.name.2, .slice B m.attrs.length cb, .slice L m.kids.length cl, .string m.text] 27) = w9
  intro HB9 HM9 VM9
  generalize w8.heap.size = M at *
  -- At(n, place)
  obtain ⟨n0, n1, n2, n3, n4, n5⟩ := CN.out w9 HB9.out
  have hat := At_z n A K ca ck l PA cp w9 (NodeV.below VN.out HB9.out) HSN.out (PL.out.below HB9.out) (by have := HL.out; omega)
  unfold ndV ndCells at hat
  obtain ⟨d, hd⟩ : ∃ d, atZ n l = d := ⟨_, rfl⟩
  obtain ⟨is, his⟩ : ∃ b, (atP n l).isSome = b := ⟨_, rfl⟩
  rw [hd, his] at hat
  have HD := Lib.hid hd
  clear hd his
  go_wp2_with fail
  refine hat.mono ?_
  rintro e w10 ⟨D1, dc1, D2, dc2, rfl, _, hb10⟩
  have HB11 := Lib.hid (show Below w9.heap.size w9 (w10.alloc (.cells #[.int .i64 d.kind, .string d.name.1, .string d.name.2, .slice D1 d.attrs.length dc1, .slice D2 d.kids.length dc2, .string d.text] 27)) from hb10.alloc hb10.size _)
  have HD11 := heap_alloc_new w10 (.cells #[.int .i64 d.kind, .string d.name.1, .string d.name.2, .slice D1 d.attrs.length dc1, .slice D2 d.kids.length dc2, .string d.text] 27)
  obtain ⟨d0, _, _, _, _, _⟩ := cells_of_nd HD11
  clear n0 n1 n2 n3 n4 n5 hat hb10 HD11
  go_upto_region 9 with fail
  revert HB11 d0
  generalize w10.alloc (.cells #[.int .i64 d.kind, .string d.name.1, .string d.name.2, .slice D1 d.attrs.length dc1, .slice D2 d.kids.length dc2, .string d.text] 27) = w11
  intro HB11 d0
  by_cases hdk : d.kind = 1
  case neg =>
    have hne : (d.kind != 1) = true := by simpa using hdk
    clear hdk
    go_wp2
    go_ret
    exact ⟨rfl, by rw [HT.out]; exact HB.out.trans ((HB9.out.trans (HB11.out.mono HB9.out.size)).mono (by rw [← HT.out]; exact HB.out.size))⟩
  case pos =>
  have HAT : Hid (∃ e, atP n l = some e ∧ e.kind = 1) := Lib.hid (atZ_one (by rw [HD.out]; exact hdk))
  rw [hdk] at d0
  clear hdk HD
  go_upto_region 11 with fail
  have HM11 := Lib.hid (still_block HM9.out HB11.out)
  have VM := Lib.hid (NodeV.below VM9.out HB11.out)
  have HBv := Lib.hid (HB9.out.trans (HB11.out.mono HB9.out.size))
  clear d0 HB9 HM9 VM9 HB11
  obtain ⟨wv, rfl⟩ : ∃ wv, wv = w11 := ⟨w11, rfl⟩
  have HSET : Hid (m = setP n l x ∧ (atP n l).isSome = true ∧ (costN m ≤ 2000 → l.length ≤ 3 → deepR x 31 ≤ 20 → rightB m = true)) := Lib.hid (by
    obtain ⟨e, he, hk⟩ := HAT.out
    obtain ⟨_, h2, _⟩ := (rightB_iff n).1 HRN.out
    obtain ⟨x1, _, _⟩ := (rightB_iff x).1 HRX.out
    have hm := replP_set h2 x1 HR.out he
    exact ⟨hm, by rw [he]; rfl, fun c1 c2 c3 => by rw [hm] at c1 ⊢; exact right_put HRN.out HRX.out he hk c2 c3 c1⟩)
  have HSM : Hid (smallN m) := Lib.hid (by rw [HSET.out.1]; exact setP_len 1000000 l n x HSN.out HSX.out)
  have HZM : Hid (szN m) := Lib.hid (by rw [HSET.out.1]; exact setP_sz l n x HZN.out HZX.out)
  have HCM : Hid (costN m + costB m ≤ 60000) := Lib.hid (by
    have h1 := HCN.out
    have h2 := HCX.out
    have h3 := setP_cost l n x
    rw [HSET.out.1]; omega)
  have CM := Lib.hid (fun (v : World) (h : Below wv.heap.size wv v) => cells_of_nd (still_block HM11.out h))
  have CN2 := Lib.hid (fun (v : World) (h : Below wv.heap.size wv v) => CN.out v (HBv.out.trans (h.mono HBv.out.size)))
  have CX2 := Lib.hid (fun (v : World) (h : Below wv.heap.size wv v) => CX.out v (HBv.out.trans (h.mono HBv.out.size)))
  have VN2 := Lib.hid (NodeV.below VN.out HBv.out)
  have VX2 := Lib.hid (NodeV.below VX.out HBv.out)
  have PL2 := Lib.hid (PL.out.below HBv.out)
  have OL2 := Lib.hid (OL.out.below HBv.out)
  have HBT : Hid (∀ v, Below wv.heap.size wv v → Below w.heap.size w v) := Lib.hid (fun v h => by rw [HT.out]; exact HB.out.trans ((HBv.out.trans (h.mono HBv.out.size)).mono (by rw [← HT.out]; exact HB.out.size)))
  clear HM11 CN CX VN VX PL OL HB HBv HAT HR HCN HCX HRN HRX
  go_cut [85] (fun c wx => c = .bool false ∧ Hid (Below wv.heap.size wv wx))
  case first =>
    obtain ⟨m0, m1, m2, m3, m4, m5⟩ := CM.out wv (Below.refl _ _)
    have hr := Right_b m B L cb cl wv HZM.out HSM.out VM.out
    unfold ndV ndCells at hr
    by_cases hrm : rightB m = true
    · rw [hrm] at hr
      clear hrm
      go_wp2_with fail
      refine hr.mono ?_
      rintro e wa ⟨rfl, hba⟩
      have HBa := Lib.hid hba
      clear hba hr m0 m1 m2 m3 m4 m5
      go_wp2
      go_meet
      case rel => exact ⟨rfl, HBa⟩
    · rw [show rightB m = false from by simpa using hrm] at hr
      have HRM := Lib.hid hrm
      clear hrm
      by_cases hl3 : l.length ≤ 3
      case neg =>
        have hl3i : ¬ (l.length : Int) ≤ 3 := by omega
        clear hl3
        go_wp2_with fail
        refine hr.mono ?_
        rintro e wa ⟨rfl, hba⟩
        have HBa := Lib.hid hba
        clear hba hr m0 m1 m2 m3 m4 m5
        go_wp2
        go_meet
        case rel => exact ⟨rfl, HBa⟩
      case pos =>
      have hl3i : (l.length : Int) ≤ 3 := by omega
      have hdp := fun (v : World) (hv : NodeV v x XA XK) => deepf_any x XA XK xca xck v hv HSX.out
      unfold ndV ndCells at hdp
      obtain ⟨D, hD⟩ : ∃ D, deepR x 31 = D := ⟨_, rfl⟩
      rw [hD] at hdp
      have HDP := Lib.hid hdp
      have HL3 := Lib.hid hl3
      have HD := Lib.hid hD
      clear hdp hl3 hD
      go_wp2_with fail
      refine hr.mono ?_
      rintro e wa ⟨rfl, hba⟩
      have HBa := Lib.hid hba
      clear hba hr m0 m1 m2 m3 m4 m5
      obtain ⟨x0, x1, x2, x3, x4, x5⟩ := CX2.out wa HBa.out
      have hdp := HDP.out wa (NodeV.below VX2.out HBa.out)
      by_cases hd : D ≤ 20
      case neg =>
        have hdi : ¬ (D : Int) ≤ 20 := by omega
        clear hd
        go_wp2_with fail
        refine hdp.mono ?_
        rintro e wb ⟨rfl, hbb⟩
        have HBb := Lib.hid (HBa.out.trans (hbb.mono HBa.out.size))
        clear x0 x1 x2 x3 x4 x5 hdp hbb
        go_wp2
        go_meet
        case rel => exact ⟨rfl, HBb⟩
      case pos =>
      have hdi : (D : Int) ≤ 20 := by omega
      have HDD := Lib.hid hd
      clear hd
      go_wp2_with fail
      refine hdp.mono ?_
      rintro e wb ⟨rfl, hbb⟩
      have HBb := Lib.hid (HBa.out.trans (hbb.mono HBa.out.size))
      clear x0 x1 x2 x3 x4 x5 hdp hbb
      obtain ⟨m0, m1, m2, m3, m4, m5⟩ := CM.out wb HBb.out
      have hco := cost_any m B L cb cl wb (NodeV.below VM.out HBb.out) HSM.out (by have := HCM.out; omega)
      have hle := order_2000 (c := costN m) (by have := HCM.out; omega)
      rw [decide_eq_false (fun hc => HRM.out (HSET.out.2.2 hc HL3.out (by rw [HD.out]; exact HDD.out)))] at hle
      unfold ndV ndCells at hco
      unfold cst at hco
      go_wp2_with fail
      refine hco.mono ?_
      rintro e wk ⟨rfl, hbk⟩
      have HBk := Lib.hid (HBb.out.trans (hbk.mono HBb.out.size))
      clear m0 m1 m2 m3 m4 m5 hco hbk
      go_wp2
      go_meet
      case rel => exact ⟨rfl, HBk⟩
  case rest =>
    obtain ⟨rfl, HBp⟩ := hcut
    obtain ⟨wp, rfl⟩ : ∃ wp, wp = wc := ⟨wc, rfl⟩
    clear HCM HZM HZX HSX CX2 VX2
    go_upto_region 13 with fail
    obtain ⟨b1, hb1⟩ : ∃ b, (decide (l.length ≤ o.length) && (o.take l.length == l)) = b := ⟨_, rfl⟩
    obtain ⟨b2, hb2⟩ : ∃ b, (decide (o.length ≤ l.length) && (l.take o.length == o)) = b := ⟨_, rfl⟩
    have HB1 := Lib.hid hb1
    have HB2 := Lib.hid hb2
    clear hb1 hb2
    go_cut [13] (fun c wx => c = .bool b1 ∧ Hid (Below wv.heap.size wv wx))
    case first =>
      by_cases hlo : l.length ≤ o.length
      · obtain ⟨O1, hsl, hs2⟩ := ints_take OA l.length o.length co hlo HCO.out
        have hps := psame_any O1 PA (o.take l.length) l co cp wp (hs2 wp o (OL2.out.below HBp.out) rfl) (PL2.out.below HBp.out) (by rw [List.length_take]; have := HO.out; omega)
        rw [List.length_take, Nat.min_eq_left hlo, show (o.take l.length == l) = b1 from by rw [← HB1.out, decide_eq_true hlo, Bool.true_and]] at hps
        have hli : (l.length : Int) ≤ (o.length : Int) := by omega
        clear hs2 hlo
        go_wp2_with fail
        refine hps.mono ?_
        rintro e wd ⟨rfl, hbd⟩
        have HBd := Lib.hid (HBp.out.trans (hbd.mono HBp.out.size))
        clear hps hbd hsl
        go_wp2
        go_meet
        case rel => exact ⟨rfl, HBd⟩
      · have hf : b1 = false := by rw [← HB1.out, decide_eq_false hlo, Bool.false_and]
        have HF := Lib.hid hf
        have hli : ¬ (l.length : Int) ≤ (o.length : Int) := by omega
        clear hf hlo
        go_wp2
        go_meet
        case rel => exact ⟨by rw [HF.out], HBp⟩
    case rest =>
      obtain ⟨rfl, HBq⟩ := hcut
      obtain ⟨wq, rfl⟩ : ∃ wq, wq = wc := ⟨wc, rfl⟩
      clear HBp
      go_upto_region 14 with fail
      go_cut [14] (fun c wx => c = .bool b2 ∧ Hid (Below wv.heap.size wv wx))
      case first =>
        by_cases hlo : o.length ≤ l.length
        · obtain ⟨O1, hsl, hs2⟩ := ints_take PA o.length l.length cp hlo HCP.out
          have hps := psame_any O1 OA (l.take o.length) o cp co wq (hs2 wq l (PL2.out.below HBq.out) rfl) (OL2.out.below HBq.out) (by rw [List.length_take]; have := HL.out; omega)
          rw [List.length_take, Nat.min_eq_left hlo, show (l.take o.length == o) = b2 from by rw [← HB2.out, decide_eq_true hlo, Bool.true_and]] at hps
          have hli : (o.length : Int) ≤ (l.length : Int) := by omega
          clear hs2 hlo
          go_wp2_with fail
          refine hps.mono ?_
          rintro e wd ⟨rfl, hbd⟩
          have HBd := Lib.hid (HBq.out.trans (hbd.mono HBq.out.size))
          clear hps hbd hsl
          go_wp2
          go_meet
          case rel => exact ⟨rfl, HBd⟩
        · have hf : b2 = false := by rw [← HB2.out, decide_eq_false hlo, Bool.false_and]
          have HF := Lib.hid hf
          have hli : ¬ (o.length : Int) ≤ (l.length : Int) := by omega
          clear hf hlo
          go_wp2
          go_meet
          case rel => exact ⟨by rw [HF.out], HBq⟩
      case rest =>
        obtain ⟨rfl, HBs⟩ := hcut
        obtain ⟨ws, rfl⟩ : ∃ ws, ws = wc := ⟨wc, rfl⟩
        clear HBq
        rcases b1 with _ | _
        case true =>
          clear HB1 HB2
          go_wp2
          go_ret
          exact ⟨rfl, HBT.out _ HBs.out⟩
        rcases b2 with _ | _
        case true =>
          clear HB1 HB2
          go_wp2
          go_ret
          exact ⟨rfl, HBT.out _ HBs.out⟩
        have HEQ : Hid (atP m o = atP n o) := Lib.hid (by
          rw [HSET.out.1]
          refine atP_else l o n x HSET.out.2.1 (fun e => ?_) (fun e => ?_)
          · have h1 := HB1.out
            have h2 := congrArg List.length e
            rw [List.length_take] at h2
            rw [e, decide_eq_true (by omega), Bool.true_and, beq_self_eq_true] at h1
            cases h1
          · have h1 := HB2.out
            have h2 := congrArg List.length e
            rw [List.length_take] at h2
            rw [e, decide_eq_true (by omega), Bool.true_and, beq_self_eq_true] at h1
            cases h1)
        have hat1 := fun (v : World) (hv : NodeV v n A K) (hp : SlI v OA o) => At_z n A K ca ck o OA co v hv HSN.out hp (by have := HO.out; omega)
        have hat2 := fun (v : World) (hv : NodeV v m B L) (hp : SlI v OA o) => At_z m B L cb cl o OA co v hv HSM.out hp (by have := HO.out; omega)
        have hsk := atZ_small (l := o) HSN.out
        rw [show atZ m o = atZ n o from by unfold atZ; rw [HEQ.out], HEQ.out] at hat2
        obtain ⟨k, hk⟩ : ∃ k, atZ n o = k := ⟨_, rfl⟩
        obtain ⟨f, hf⟩ : ∃ f, (atP n o).isSome = f := ⟨_, rfl⟩
        rw [hk, hf] at hat1 hat2
        rw [hk] at hsk
        have heq := fun (A1 K1 A2 K2 : Option Addr) (c1 d1 c2 d2 : Nat) (v : World) (h1 : NodeV v k A1 K1) (h2 : NodeV v k A2 K2) => equal_self k A1 K1 A2 K2 c1 d1 c2 d2 v hsk h1 h2
        unfold ndV ndCells at hat1 hat2 heq
        have HA1 := Lib.hid hat1
        have HA2 := Lib.hid hat2
        have HQ := Lib.hid heq
        clear hat1 hat2 heq hsk hk hf HEQ HB1 HB2 HSET HSM HSN HZN
        obtain ⟨n0, n1, n2, n3, n4, n5⟩ := CN2.out ws HBs.out
        have hat := HA1.out ws (NodeV.below VN2.out HBs.out) (OL2.out.below HBs.out)
        go_wp2_with fail
        refine hat.mono ?_
        rintro e wt ⟨E1, ec1, E2, ec2, rfl, hVE, hbt⟩
        have HBt := Lib.hid (HBs.out.trans ((hbt.alloc hbt.size (.cells #[.int .i64 k.kind, .string k.name.1, .string k.name.2, .slice E1 k.attrs.length ec1, .slice E2 k.kids.length ec2, .string k.text] 27)).mono HBs.out.size))
        have HE := Lib.hid (heap_alloc_new wt (.cells #[.int .i64 k.kind, .string k.name.1, .string k.name.2, .slice E1 k.attrs.length ec1, .slice E2 k.kids.length ec2, .string k.text] 27))
        have HVE := Lib.hid (hVE.below ((Below.refl wt.heap.size wt).alloc (Nat.le_refl _) (.cells #[.int .i64 k.kind, .string k.name.1, .string k.name.2, .slice E1 k.attrs.length ec1, .slice E2 k.kids.length ec2, .string k.text] 27)))
        clear n0 n1 n2 n3 n4 n5 hat hbt hVE HBs HA1
        go_upto_region 18 with fail
        revert HBt HE HVE
        generalize wt.alloc (.cells #[.int .i64 k.kind, .string k.name.1, .string k.name.2, .slice E1 k.attrs.length ec1, .slice E2 k.kids.length ec2, .string k.text] 27) = wu
        intro HBt HE HVE
        generalize wt.heap.size = TE at *
        obtain ⟨m0, m1, m2, m3, m4, m5⟩ := CM.out wu HBt.out
        have hat := HA2.out wu (NodeV.below VM.out HBt.out) (OL2.out.below HBt.out)
        go_wp2_with fail
        refine hat.mono ?_
        rintro e wx ⟨G1, gc1, G2, gc2, rfl, hVG, hbx⟩
        have hba := hbx.alloc hbx.size (.cells #[.int .i64 k.kind, .string k.name.1, .string k.name.2, .slice G1 k.attrs.length gc1, .slice G2 k.kids.length gc2, .string k.text] 27)
        have HBx := Lib.hid (HBt.out.trans (hba.mono HBt.out.size))
        have HG := Lib.hid (heap_alloc_new wx (.cells #[.int .i64 k.kind, .string k.name.1, .string k.name.2, .slice G1 k.attrs.length gc1, .slice G2 k.kids.length gc2, .string k.text] 27))
        have HVG := Lib.hid (hVG.below ((Below.refl wx.heap.size wx).alloc (Nat.le_refl _) (.cells #[.int .i64 k.kind, .string k.name.1, .string k.name.2, .slice G1 k.attrs.length gc1, .slice G2 k.kids.length gc2, .string k.text] 27)))
        have HE2 := Lib.hid (still_block HE.out hba)
        have HVE2 := Lib.hid (NodeV.below HVE.out hba)
        clear m0 m1 m2 m3 m4 m5 hat hbx hba hVG HBt HA2 HE HVE
        go_upto_region 19 with fail
        revert HBx HG HVG HE2 HVE2
        generalize wx.alloc (.cells #[.int .i64 k.kind, .string k.name.1, .string k.name.2, .slice G1 k.attrs.length gc1, .slice G2 k.kids.length gc2, .string k.text] 27) = wy
        intro HBx HG HVG HE2 HVE2
        generalize wx.heap.size = TG at *
        obtain ⟨g0, g1, g2, g3, g4, g5⟩ := cells_of_nd HG.out
        obtain ⟨e0, e1, e2, e3, e4, e5⟩ := cells_of_nd HE2.out
        have heq := HQ.out E1 E2 G1 G2 ec1 ec2 gc1 gc2 wy HVE2.out HVG.out
        have hff : (f == f) = true := by simp
        go_wp2_with fail
        refine heq.mono ?_
        rintro e wf ⟨rfl, hbf⟩
        have HBf := Lib.hid (HBx.out.trans (hbf.mono HBx.out.size))
        clear g0 g1 g2 g3 g4 g5 e0 e1 e2 e3 e4 e5 heq hbf
        go_wp2
        go_ret
        exact ⟨rfl, HBT.out _ HBf.out⟩
end Go.Proofs.Ytlcjepnaljfpkaa
