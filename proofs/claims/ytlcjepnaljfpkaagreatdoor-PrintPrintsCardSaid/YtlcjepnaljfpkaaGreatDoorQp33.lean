/- TrTc. -/
import Derived.Test.YtlcjepnaljfpkaaGreatDoorQp11
import Derived.Test.YtlcjepnaljfpkaaGreatDoorQp32
namespace Wb
mutual
/-- No text of it is long. -/
def szN : Nd → Prop
  | .mk _ n al ks t => n.1.size ≤ 1000000000 ∧ n.2.size ≤ 1000000000 ∧ (∀ a ∈ al, a.1.1.size ≤ 1000000000 ∧ a.1.2.size ≤ 1000000000 ∧ a.2.size ≤ 1000000000) ∧ t.size ≤ 1000000000 ∧ szKs ks
def szKs : List Nd → Prop
  | [] => True
  | k :: ks => szN k ∧ szKs ks
end
theorem szKs_iff : ∀ ks : List Nd, szKs ks ↔ ∀ k ∈ ks, szN k
  | [] => by simp [szKs]
  | k :: ks => by simp [szKs, szKs_iff ks]
theorem okKs_take : ∀ (ks : List Nd) (d : Nat) (a : Int) (i : Nat), okKs d a ks → okKs d a (ks.take i)
  | [], d, a, i, _ => by simp [okKs]
  | k :: ks, d, a, 0, _ => by simp [okKs]
  | k :: ks, d, a, i + 1, h => by
    simp only [okKs] at h
    rw [List.take_succ_cons]
    simp only [okKs]
    exact ⟨h.1, h.2.1, okKs_take ks d k.kind i h.2.2⟩
theorem okKs_at {ks : List Nd} {d i : Nat} {x : Nd} (h : okKs d 0 ks) (hx : ks[i]? = some x) : ¬ (lastK 0 (ks.take i) = 2 ∧ x.kind = 2) ∧ okN d x ∧ lastK 0 (ks.take (i + 1)) = x.kind := by
  have h1 := okKs_take ks d 0 (i + 1) h
  rw [List.take_add_one, hx] at h1 ⊢
  have h2 := (okKs_app d x (ks.take i) 0).1 h1
  refine ⟨h2.2.1, h2.2.2, ?_⟩
  unfold lastK
  simp
end Wb
namespace Go.Proofs.YtlcjepnaljfpkaaGreatDoor
open Go.RowKit Wb
set_option maxRecDepth 100000 in
set_option maxHeartbeats 4000000 in
theorem right_ok (W0 : World) (Cb : Nat) (hCb : W0.heap.size ≤ Cb) (n : Nd) : ∀ (d c : Nat) (A K : Option Addr) (ca ck : Nat) (w : World), okN d n → szN n → c + costN n ≤ 2000 → d ≤ 1000 → NodeV W0 n A K → Below W0.heap.size W0 w → w.heap[Cb]? = some (.cells #[.int .i64 (c : Int)] 98 (0, 0)) →
    Calls Tryz.prog 50 #[.pointer (some ⟨Cb, 0, none⟩), ndV n A ca K ck, .int .i64 (d : Int)] w fun e w' => e = .returned (.bool true) ∧ w'.heap[Cb]? = some (.cells #[.int .i64 ((c + costN n : Nat) : Int)] 98 (0, 0)) ∧ Below W0.heap.size W0 w' ∧ Keep (fun k => k = Cb) w w' := by
  induction n using Nd.induct with
  | h n ih =>
    intro d c A K ca ck w hok hsz hcn hd hV hB0 hC
    have hCl : Cb < w.heap.size := blk_in hC
    have hcost := costN_is n
    obtain ⟨kd, ⟨sp, lo⟩, al, ks, tx⟩ := n
    unfold ndV ndCells
    simp only [Nd.kind, Nd.name, Nd.attrs, Nd.kids, Nd.text] at *
    have hca : (w.alloc (.cells #[.int .i64 kd, .string sp, .string lo, .slice A al.length ca, .slice K ks.length ck, .string tx] 37)).heap[Cb]? = _ := (Below.heap_alloc w _ _ hCl).trans hC
    have hNb := heap_alloc_new w (.cells #[.int .i64 kd, .string sp, .string lo, .slice A al.length ca, .slice K ks.length ck, .string tx] 37)
    have hka : Keep (fun k => k = Cb) w (w.alloc (.cells #[.int .i64 kd, .string sp, .string lo, .slice A al.length ca, .slice K ks.length ck, .string tx] 37)) := Keep.of_below _ ((Below.refl _ w).alloc (Nat.le_refl _) _)
    have hb0 := hB0.alloc hB0.size (.cells #[.int .i64 kd, .string sp, .string lo, .slice A al.length ca, .slice K ks.length ck, .string tx] 37)
    have HCA := Lib.hid hca
    have HNB := Lib.hid hNb
    have HKA := Lib.hid hka
    have HBA := Lib.hid hb0
    have IH := Lib.hid ih
    have HV := Lib.hid hV
    have hcb : (0 : Int) ≤ (c : Int) := by omega
    have hcb2 : (c : Int) + 1 ≤ 2000 := by have := costN_pos (.mk kd (sp, lo) al ks tx); omega
    have hcb3 : ¬ (2000 : Int) < (c : Int) + 1 := by omega
    have hdb : (0 : Int) ≤ (d : Int) := by omega
    have hdb2 : (d : Int) ≤ 1000 := by omega
    clear hka hb0 hca hNb hC hB0 ih hV
    go_enter Tryz.func50, Tryz.ntmps50
    go_upto_region 1 with fail
    revert HBA; revert HKA; revert HNB; revert HCA
    generalize (w.alloc (.cells #[.int .i64 kd, .string sp, .string lo, .slice A al.length ca, .slice K ks.length ck, .string tx] 37)) = wa
    intro HCA HNB HKA HBA
    generalize hN : w.heap.size = N at *
    have hNC : N ≠ Cb := by omega
    have e0 : wa.cell? ⟨Cb, 0, none⟩ = some (.int .i64 (c : Int)) := blk_cell HCA.out 0
    have f0 : wa.frozen? ⟨Cb, 0, none⟩ = false := blk_free HCA.out 0
    go_upto_region 2 with fail
    have HC1 : Hid ((wa.setCell ⟨Cb, 0, none⟩ (.int .i64 ((c : Int) + 1))).heap[Cb]? = some (.cells #[.int .i64 ((c : Int) + 1)] 98 (0, 0))) := Lib.hid (blk_set HCA.out 0 _)
    have HN1 : Hid ((wa.setCell ⟨Cb, 0, none⟩ (.int .i64 ((c : Int) + 1))).heap[N]? = _) := Lib.hid ((Below.heap_setCell _ _ _ _ hNC).trans HNB.out)
    have HK1 : Hid (Keep (fun k => k = Cb) w (wa.setCell ⟨Cb, 0, none⟩ (.int .i64 ((c : Int) + 1)))) := Lib.hid (HKA.out.setCell (p := ⟨Cb, 0, none⟩) rfl _)
    have HB1 : Hid (Below W0.heap.size W0 (wa.setCell ⟨Cb, 0, none⟩ (.int .i64 ((c : Int) + 1)))) := Lib.hid (HBA.out.setCell (p := ⟨Cb, 0, none⟩) hCb _)
    clear e0 f0 HCA HNB HKA HBA
    revert HB1; revert HK1; revert HN1; revert HC1
    generalize (wa.setCell ⟨Cb, 0, none⟩ (.int .i64 ((c : Int) + 1))) = wb
    intro HC1 HN1 HK1 HB1
    have e0 : wb.cell? ⟨Cb, 0, none⟩ = some (.int .i64 ((c : Int) + 1)) := blk_cell HC1.out 0
    have t0 := blk_cell HN1.out 0
    have t1 := blk_cell HN1.out 1
    have t2 := blk_cell HN1.out 2
    have t3 := blk_cell HN1.out 3
    have t4 := blk_cell HN1.out 4
    have t5 := blk_cell HN1.out 5
    simp only [List.getElem?_toArray, List.getElem?_cons_zero, List.getElem?_cons_succ] at t0 t1 t2 t3 t4 t5
    by_cases hkd : kd = 1
    · subst hkd
      have hok2 : d ≤ 24 ∧ tx = sE ∧ nameOK (sp, lo) ∧ attrsOK al ∧ okKs (d + 1) 0 ks := by
        unfold okN at hok
        rcases hok with ⟨_, h⟩ | ⟨h, _⟩
        · exact h
        · exact absurd h (by decide)
      obtain ⟨hd24, rfl, hnm, hat, hkk⟩ := hok2
      obtain ⟨hsz1, hsz2, hsz3, _, hsz5⟩ := hsz
      have hszk := (szKs_iff ks).1 hsz5
      have hrn := rname_ok (sp, lo) wb hnm hsz1 hsz2
      have HRA := Lib.hid (fun (w2 : World) (h : Below W0.heap.size W0 w2) => rattrs_ok A al ca w2 hat hsz3 (HV.out.1.below h))
      have hd24' : ¬ (24 : Int) < (d : Int) := by omega
      have hse : sE.toList.isEmpty = true := by rw [ByteArray.toList_eq]; rfl
      have hksl : ks.length ≤ 2000 := by have := len_costs ks; omega
      have HKK := Lib.hid hkk
      have HSZ := Lib.hid hszk
      have HCO := Lib.hid hcost
      have HCN := Lib.hid hcn
      have HVK := Lib.hid HV.out.2
      clear hok hsz1 hsz2 hsz3 hsz5 hszk hnm hat hkk hcost hcn HV hd24
      go_wp2_with fail
      refine hrn.mono ?_
      rintro e w2 ⟨rfl, hb2⟩
      have hB2 := Lib.hid (HB1.out.trans (hb2.mono HB1.out.size))
      have hN2 := Lib.hid (still_block HN1.out hb2)
      have hC2 := Lib.hid (still_block HC1.out hb2)
      have hK2 := Lib.hid (HK1.out.trans (Keep.of_below _ hb2))
      have a3 := blk_cell hN2.out 3
      simp only [List.getElem?_toArray, List.getElem?_cons_zero, List.getElem?_cons_succ] at a3
      clear t0 t1 t2 t3 t4 t5 e0 hb2 hrn HN1 HC1 HK1 HB1
      go_wp2_with fail
      refine (HRA.out _ hB2.out).mono ?_
      rintro e w3 ⟨rfl, hb3⟩
      have hB3 := Lib.hid (hB2.out.trans (hb3.mono hB2.out.size))
      have hN3 := Lib.hid (still_block hN2.out hb3)
      have hC3 := Lib.hid (still_block hC2.out hb3)
      have hK3 := Lib.hid (hK2.out.trans (Keep.of_below _ hb3))
      have b4 := blk_cell hN3.out 4
      simp only [List.getElem?_toArray, List.getElem?_cons_zero, List.getElem?_cons_succ] at b4
      clear a3 hb3 hN2 hC2 hK2 hB2 HRA
      go_wp2
      go_loopw [7, 46] (fun va vi wr => ∃ i : Nat, i ≤ ks.length ∧ vi = .int .i64 i ∧ va = .int .i64 (lastK 0 (ks.take i)) ∧ Hid (wr.heap[Cb]? = some (.cells #[.int .i64 ((c + (1 + costNs (ks.take i)) : Nat) : Int)] 98 (0, 0))) ∧ Hid (Below W0.heap.size W0 wr) ∧ Hid (Keep (fun k => k = Cb) w wr)) (fun _ vi _ => ((ks.length : Int) - intOf vi).toNat)
      case atStart => exact ⟨0, by omega, rfl, rfl, Lib.hid (by rw [hC3.out]; simp [costNs]), hB3, hK3⟩
      case round =>
        obtain ⟨i, hi, rfl, rfl, HCr, HBr, HKr⟩ := hrel
        by_cases h0 : i < ks.length
        · obtain ⟨x, he⟩ : ∃ x, ks[i]? = some x := ⟨ks[i], List.getElem?_eq_getElem h0⟩
          obtain ⟨ad, A1, ca1, K1, ck1, rfl, had, d0, d1, d2, d3, d4, d5, hA1, hK1⟩ := HVK.out.at_ he
          have cell : ∀ j o, w.heap.size = w.heap.size → W0.cell? ⟨(ad.add (i * 6)).block, o, none⟩ = j → wr.cell? ⟨(ad.add (i * 6)).block, o, none⟩ = j := fun j o _ h => (HBr.out.cell (by rw [add_block]; exact had)).trans h
          have d0' : wr.cell? (ad.add (i * 6)) = _ := (HBr.out.cell (by rw [add_block]; exact had)).trans d0
          have d1' := cell _ _ rfl d1
          have d2' := cell _ _ rfl d2
          have d3' := cell _ _ rfl d3
          have d4' := cell _ _ rfl d4
          have d5' := cell _ _ rfl d5
          obtain ⟨o1, o2, o3⟩ := okKs_at HKK.out he
          obtain ⟨s1, s2⟩ := costs_take he
          obtain ⟨s3, s4⟩ := costs_le ks (i + 1)
          have hCrl : Cb < wr.heap.size := blk_in HCr.out
          have hIH := IH.out x (List.mem_of_getElem? he) (d + 1) (c + (1 + costNs (ks.take i))) A1 K1 ca1 ck1 (wr.alloc (.cells (ndCells x.kind x.name A1 x.attrs.length ca1 K1 x.kids.length ck1 x.text).toArray 37)) o2 (HSZ.out x (List.mem_of_getElem? he)) (by have := HCN.out; have := HCO.out; omega) (by omega) ⟨hA1, hK1⟩ (HBr.out.alloc HBr.out.size _) ((Below.heap_alloc wr _ _ hCrl).trans HCr.out)
          have HS1 : Hid (c + (1 + costNs (ks.take i)) + costN x = c + (1 + costNs (ks.take (i + 1)))) := Lib.hid (by rw [s1]; omega)
          have HO3 := Lib.hid o3
          have hkx : lastK 0 (ks.take i) = 2 → (x.kind == 2) = false := fun e => by
            have : ¬ x.kind = 2 := fun h => o1 ⟨e, h⟩
            simpa using this
          have HW := Lib.hid (heap_alloc_new wr (.cells (ndCells x.kind x.name A1 x.attrs.length ca1 K1 x.kids.length ck1 x.text).toArray 37))
          unfold ndV ndCells at hIH
          unfold ndCells at HW
          have hNk : wr.heap.size ≠ Cb := by omega
          clear d0 d1 d2 d3 d4 d5 cell o1 o2 o3 s1 s2 s3 s4 had hA1 hK1 he
          generalize hla : lastK 0 (ks.take i) = la at *
          by_cases hl2 : la = 2
          · have hkx2 := hkx hl2
            subst hl2
            go_wp2_with fail
            refine hIH.mono ?_
            rintro e w4 ⟨rfl, hc4, hb4, hk4⟩
            have hw4 := (hk4.block _ (blk_in HW.out) hNk).trans HW.out
            have g0 := blk_cell hw4 0
            simp only [List.getElem?_toArray, List.getElem?_cons_zero] at g0
            have HC4 := Lib.hid hc4
            have HB4 := Lib.hid hb4
            have HK4 : Hid (Keep (fun k => k = Cb) w w4) := Lib.hid ((HKr.out.trans (Keep.of_below _ ((Below.refl _ wr).alloc (Nat.le_refl _) _))).trans hk4)
            clear hc4 hb4 hk4 hw4 hIH d0' d1' d2' d3' d4' d5'
            go_wp2
            go_roundw
            case rel => exact ⟨i + 1, by omega, by go_num, by rw [HO3.out], Lib.hid (by rw [← HS1.out]; exact HC4.out), HB4, HK4⟩
            case measure => simp [intOf]; omega
          · have hlf : (la == 2) = false := by simpa using hl2
            go_wp2_with fail
            refine hIH.mono ?_
            rintro e w4 ⟨rfl, hc4, hb4, hk4⟩
            have hw4 := (hk4.block _ (blk_in HW.out) hNk).trans HW.out
            have g0 := blk_cell hw4 0
            simp only [List.getElem?_toArray, List.getElem?_cons_zero] at g0
            have HC4 := Lib.hid hc4
            have HB4 := Lib.hid hb4
            have HK4 : Hid (Keep (fun k => k = Cb) w w4) := Lib.hid ((HKr.out.trans (Keep.of_below _ ((Below.refl _ wr).alloc (Nat.le_refl _) _))).trans hk4)
            clear hc4 hb4 hk4 hw4 hIH d0' d1' d2' d3' d4' d5'
            go_wp2
            go_roundw
            case rel => exact ⟨i + 1, by omega, by go_num, by rw [HO3.out], Lib.hid (by rw [← HS1.out]; exact HC4.out), HB4, HK4⟩
            case measure => simp [intOf]; omega
        · have : i = ks.length := by omega
          subst this
          rw [List.take_length] at HCr
          have hfin : Hid (c + (1 + costNs ks) = c + costN (.mk 1 (sp, lo) al ks sE)) := Lib.hid (by rw [HCO.out])
          rw [hfin.out] at HCr
          go_wp2
          go_ret
          exact ⟨rfl, HCr.out, HBr.out, HKr.out⟩
    · have hkf : (kd == 1) = false := by simpa using hkd
      have htx := rtext_ok (.mk kd (sp, lo) al ks tx) A K ca ck wb hok hkd hsz.2.2.2.1
      have hks : ks = [] := by
        unfold okN at hok
        rcases hok with ⟨rfl, _⟩ | ⟨_, _, _, _, _, rfl⟩
        · exact absurd rfl hkd
        · rfl
      have hc2 : costN (.mk kd (sp, lo) al ks tx) = 1 := by rw [hcost, hks]; rfl
      have HC2 := Lib.hid hc2
      unfold ndV ndCells at htx
      simp only [Nd.kind, Nd.name, Nd.attrs, Nd.kids, Nd.text] at htx
      clear hok hsz hcost hks hc2 hkd hcn IH HV
      go_wp2_with fail
      refine htx.mono ?_
      rintro e w3 ⟨rfl, hb3⟩
      go_wp2
      go_ret
      have hwl : Cb < wb.heap.size := blk_in HC1.out
      refine ⟨rfl, ?_, HB1.out.trans (hb3.mono HB1.out.size), HK1.out.trans (Keep.of_below _ hb3)⟩
      rw [HC2.out, show ((c + 1 : Nat) : Int) = (c : Int) + 1 by omega]
      exact (hb3.block _ hwl).trans HC1.out
theorem Right_ok (n : Nd) (A K : Option Addr) (ca ck : Nat) (w : World) (hok : okN 1 n) (hk : n.kind = 1) (hsz : szN n) (hc : costN n ≤ 2000) (hV : NodeV w n A K) :
    Calls Tryz.prog 29 #[ndV n A ca K ck] w fun e w' => e = .returned (.bool true) ∧ Below w.heap.size w w' := by
  have hb2 : Below w.heap.size w ((w.alloc (.cells (ndCells n.kind n.name A n.attrs.length ca K n.kids.length ck n.text).toArray 37)).alloc (.cells #[.int .i64 0] 98)) := ((Below.refl _ w).alloc (Nat.le_refl _) _).alloc (by simp) _
  have hcb : ((w.alloc (.cells (ndCells n.kind n.name A n.attrs.length ca K n.kids.length ck n.text).toArray 37)).alloc (.cells #[.int .i64 0] 98)).heap[w.heap.size + 1]? = some (.cells #[.int .i64 ((0 : Nat) : Int)] 98 (0, 0)) := by
    have := heap_alloc_new (w.alloc (.cells (ndCells n.kind n.name A n.attrs.length ca K n.kids.length ck n.text).toArray 37)) (.cells #[.int .i64 0] 98)
    simpa using this
  have hr := right_ok w (w.heap.size + 1) (by omega) n 1 0 A K ca ck _ hok hsz (by omega) (by omega) hV hb2 hcb
  obtain ⟨kd, ⟨sp, lo⟩, al, ks, tx⟩ := n
  simp only [Nd.kind] at hk
  subst hk
  unfold ndV ndCells at hr ⊢
  simp only [Nd.kind, Nd.name, Nd.attrs, Nd.kids, Nd.text] at hr ⊢
  clear hb2 hcb hV hok hsz hc
  go_enter Tryz.func29, Tryz.ntmps29
  go_wp2_with fail
  refine hr.mono ?_
  rintro e w3 ⟨rfl, _, hb3, _⟩
  go_wp2
  go_ret
  exact ⟨rfl, hb3⟩
end Go.Proofs.YtlcjepnaljfpkaaGreatDoor
