import Derived.Test.YtjohfljkhlkjoaaGreatDoorTa
import Derived.Test.YtjohfljkhlkjoaaGreatDoorMgSe
import Derived.Test.YtjohfljkhlkjoaaGreatDoorMgQ
import Derived.Test.YtjohfljkhlkjoaaGreatDoorMgKi
import Derived.Test.YtjohfljkhlkjoaaGreatDoorMgR
import Derived.Test.YtjohfljkhlkjoaaGreatDoorMgY
import Derived.Test.YtjohfljkhlkjoaaGreatDoorMgE
import Derived.Test.YtjohfljkhlkjoaaGreatDoorMgH
import Derived.Test.YtjohfljkhlkjoaaGreatDoorMgTp
import Derived.Test.YtjohfljkhlkjoaaGreatDoorSmD
import Derived.Test.YtjohfljkhlkjoaaGreatDoorMgV
import Derived.Test.YtjohfljkhlkjoaaGreatDoorMgSo
import Derived.Deep.Cut
namespace Go.Proofs.YtjohfljkhlkjoaaGreatDoor
open Go.RowKit Wb
def EqSelf (x : Nd) : Prop := ∀ (A K B L : Option Addr) (ca ck cb cl : Nat) (w : World), smallN x → NodeV w x A K → NodeV w x B L →
  Calls Tryz.prog 23 #[ndV x A ca K ck, ndV x B cb L cl] w fun e w' => e = .returned (.bool true) ∧ Below w.heap.size w w'
set_option maxRecDepth 100000 in
set_option maxHeartbeats 8000000 in
theorem equal_of (n : Nd) : EqSelf n := by
  induction n using Nd.induct with
  | h n ih =>
    intro A K B L ca ck cb cl w hsn hVn hVm
    have HSM := Lib.hid (fun (v : World) (h1 : NodeV v n A K) (h2 : NodeV v n B L) => rSame_any n n A K B L ca ck cb cl v hsn hsn h1 h2)
    rw [sameN_refl] at HSM
    obtain ⟨s1, s2, s3⟩ := (smallN_is n).1 hsn
    have HAT := Lib.hid (fun (v : World) (h1 : Sl3 v A n.attrs) (h2 : Sl3 v B n.attrs) => same_same A B n.attrs ca cb v s1 h1 h2)
    clear hsn s1
    have hb1 : Below w.heap.size w (w.alloc (.cells (ndCells n.kind n.name A n.attrs.length ca K n.kids.length ck n.text).toArray 37)) := (Below.refl _ w).alloc (Nat.le_refl _) _
    have hb2 : Below w.heap.size w ((w.alloc (.cells (ndCells n.kind n.name A n.attrs.length ca K n.kids.length ck n.text).toArray 37)).alloc (.cells (ndCells n.kind n.name B n.attrs.length cb L n.kids.length cl n.text).toArray 37)) := hb1.alloc (by simp) _
    have hM := heap_alloc_new (w.alloc (.cells (ndCells n.kind n.name A n.attrs.length ca K n.kids.length ck n.text).toArray 37)) (.cells (ndCells n.kind n.name B n.attrs.length cb L n.kids.length cl n.text).toArray 37)
    have hN := (Below.heap_alloc (w.alloc (.cells (ndCells n.kind n.name A n.attrs.length ca K n.kids.length ck n.text).toArray 37)) (.cells (ndCells n.kind n.name B n.attrs.length cb L n.kids.length cl n.text).toArray 37) _ (blk_in (heap_alloc_new w _))).trans (heap_alloc_new w (.cells (ndCells n.kind n.name A n.attrs.length ca K n.kids.length ck n.text).toArray 37))
    have hs1 : (w.alloc (.cells (ndCells n.kind n.name A n.attrs.length ca K n.kids.length ck n.text).toArray 37)).heap.size = w.heap.size + 1 := by simp
    rw [hs1] at hM
    have HVN := Lib.hid (NodeV.below hVn hb2)
    have HVM := Lib.hid (NodeV.below hVm hb2)
    have HN := Lib.hid hN
    have HM := Lib.hid hM
    have HB := Lib.hid hb2
    have hws := hb2.size
    have IH := Lib.hid ih
    have S3 := Lib.hid s3
    clear hb1 hb2 hM hN hs1 hVn hVm ih s3
    unfold ndV
    unfold ndCells at *
    go_enter Tryz.func23, Tryz.ntmps23
    go_upto_region 1 with fail
    revert HVN HVM HN HM HB hws
    generalize ((w.alloc (.cells [Value.int .i64 n.kind, .string n.name.1, .string n.name.2, .slice A n.attrs.length ca, .slice K n.kids.length ck, .string n.text].toArray 37)).alloc (.cells [Value.int .i64 n.kind, .string n.name.1, .string n.name.2, .slice B n.attrs.length cb, .slice L n.kids.length cl, .string n.text].toArray 37)) = wz
    intro HVN HVM HN HM HB hws
    generalize hT : w.heap.size = T at *
    have HT := Lib.hid hT
    clear hT
    have CN := Lib.hid (fun (v : World) (h : Below wz.heap.size wz v) => cells_of_nd (still_block HN.out h))
    have CM := Lib.hid (fun (v : World) (h : Below wz.heap.size wz v) => cells_of_nd (still_block HM.out h))
    obtain ⟨n0, n1, n2, n3, n4, n5⟩ := CN.out wz (Below.refl _ _)
    obtain ⟨m0, m1, m2, m3, m4, m5⟩ := CM.out wz (Below.refl _ _)
    have hsm := HSM.out wz HVN.out HVM.out
    unfold ndV ndCells at hsm
    clear HN HM
    go_wp2_with fail
    refine hsm.mono ?_
    rintro e w4 ⟨rfl, hb4⟩
    have HB4 := Lib.hid hb4
    clear hsm hb4 n0 n1 n2 n3 n4 n5 m0 m1 m2 m3 m4 m5 HSM
    obtain ⟨n0, n1, n2, n3, n4, n5⟩ := CN.out _ HB4.out
    obtain ⟨m0, m1, m2, m3, m4, m5⟩ := CM.out _ HB4.out
    have hat := HAT.out w4 (HVN.out.1.below HB4.out) (HVM.out.1.below HB4.out)
    go_wp2_with fail
    refine hat.mono ?_
    rintro e w5 ⟨rfl, hb5⟩
    have HB5 : Hid (Below wz.heap.size wz w5) := Lib.hid (HB4.out.trans (hb5.mono HB4.out.size))
    clear hat hb5 n0 n1 n2 n3 n4 n5 m0 m1 m2 m3 m4 m5 HAT HB4
    go_wp2
    go_loopw [5] (fun vi wq => ∃ i : Nat, i ≤ n.kids.length ∧ vi = .int .i64 i ∧ Hid (Below wz.heap.size wz wq)) (fun vi _ => ((n.kids.length : Int) - intOf vi).toNat)
    case atStart => exact ⟨0, by omega, rfl, HB5⟩
    case round =>
      obtain ⟨p, hp, rfl, HBq⟩ := hrel
      obtain ⟨n0, n1, n2, n3, n4, n5⟩ := CN.out _ HBq.out
      by_cases h2 : p < n.kids.length
      · obtain ⟨x, hx⟩ : ∃ x, n.kids[p]? = some x := ⟨n.kids[p], List.getElem?_eq_getElem h2⟩
        obtain ⟨ad, A1, ca1, K1, ck1, rfl, had, d0, d1, d2, d3, d4, d5, hA1, hK1⟩ := HVN.out.2.at_ hx
        obtain ⟨ae, B1, cb1, L1, cl1, rfl, hae, e0, e1, e2, e3, e4, e5, hB1, hL1⟩ := HVM.out.2.at_ hx
        have hmx := List.mem_of_getElem? hx
        have HCALL := Lib.hid (fun (v : World) (h : Below wz.heap.size wz v) => IH.out x hmx A1 K1 B1 L1 ca1 ck1 cb1 cl1 v (S3.out x hmx) (NodeV.below ⟨hA1, hK1⟩ h) (NodeV.below ⟨hB1, hL1⟩ h))
        have hbx : (ad.add (p * 6)).block < wz.heap.size := by rw [add_block]; exact had
        have hby : (ae.add (p * 6)).block < wz.heap.size := by rw [add_block]; exact hae
        have HSV := Lib.hid (fun (v : World) (h : Below wz.heap.size wz v) => (show v.cell? ⟨T, 3 + 1, none⟩ = some (.slice (some ad) n.kids.length ck) ∧ v.cell? ⟨T + 1, 3 + 1, none⟩ = some (.slice (some ae) n.kids.length cl) ∧
          v.cell? (ad.add (p * 6)) = some (.int .i64 x.kind) ∧ v.cell? ⟨(ad.add (p * 6)).block, (ad.add (p * 6)).off + 1, none⟩ = some (.string x.name.1) ∧ v.cell? ⟨(ad.add (p * 6)).block, (ad.add (p * 6)).off + 2, none⟩ = some (.string x.name.2) ∧ v.cell? ⟨(ad.add (p * 6)).block, (ad.add (p * 6)).off + 3, none⟩ = some (.slice A1 x.attrs.length ca1) ∧ v.cell? ⟨(ad.add (p * 6)).block, (ad.add (p * 6)).off + 4, none⟩ = some (.slice K1 x.kids.length ck1) ∧ v.cell? ⟨(ad.add (p * 6)).block, (ad.add (p * 6)).off + 5, none⟩ = some (.string x.text) ∧
          v.cell? (ae.add (p * 6)) = some (.int .i64 x.kind) ∧ v.cell? ⟨(ae.add (p * 6)).block, (ae.add (p * 6)).off + 1, none⟩ = some (.string x.name.1) ∧ v.cell? ⟨(ae.add (p * 6)).block, (ae.add (p * 6)).off + 2, none⟩ = some (.string x.name.2) ∧ v.cell? ⟨(ae.add (p * 6)).block, (ae.add (p * 6)).off + 3, none⟩ = some (.slice B1 x.attrs.length cb1) ∧ v.cell? ⟨(ae.add (p * 6)).block, (ae.add (p * 6)).off + 4, none⟩ = some (.slice L1 x.kids.length cl1) ∧ v.cell? ⟨(ae.add (p * 6)).block, (ae.add (p * 6)).off + 5, none⟩ = some (.string x.text) from
          ⟨(CN.out v h).2.2.2.2.1, (CM.out v h).2.2.2.2.1, (h.cell hbx).trans d0, (h.cell (p := ⟨(ad.add (p * 6)).block, (ad.add (p * 6)).off + 1, none⟩) hbx).trans d1, (h.cell (p := ⟨(ad.add (p * 6)).block, (ad.add (p * 6)).off + 2, none⟩) hbx).trans d2, (h.cell (p := ⟨(ad.add (p * 6)).block, (ad.add (p * 6)).off + 3, none⟩) hbx).trans d3, (h.cell (p := ⟨(ad.add (p * 6)).block, (ad.add (p * 6)).off + 4, none⟩) hbx).trans d4, (h.cell (p := ⟨(ad.add (p * 6)).block, (ad.add (p * 6)).off + 5, none⟩) hbx).trans d5, (h.cell hby).trans e0, (h.cell (p := ⟨(ae.add (p * 6)).block, (ae.add (p * 6)).off + 1, none⟩) hby).trans e1, (h.cell (p := ⟨(ae.add (p * 6)).block, (ae.add (p * 6)).off + 2, none⟩) hby).trans e2, (h.cell (p := ⟨(ae.add (p * 6)).block, (ae.add (p * 6)).off + 3, none⟩) hby).trans e3, (h.cell (p := ⟨(ae.add (p * 6)).block, (ae.add (p * 6)).off + 4, none⟩) hby).trans e4, (h.cell (p := ⟨(ae.add (p * 6)).block, (ae.add (p * 6)).off + 5, none⟩) hby).trans e5⟩))
        have hp0 : (0 : Int) ≤ (p : Int) := by omega
        have hp1 : (p : Int) < (n.kids.length : Int) := by omega
        unfold ndV ndCells at HCALL
        clear d0 d1 d2 d3 d4 d5 e0 e1 e2 e3 e4 e5 hA1 hK1 hB1 hL1 had hae hx hmx
        go_wp2_with fail
        (try simp only [List.append])
        refine wp_region_held_drew (S := (fun v => v.cell? ⟨T, 3 + 1, none⟩ = some (.slice (some ad) n.kids.length ck) ∧ v.cell? ⟨T + 1, 3 + 1, none⟩ = some (.slice (some ae) n.kids.length cl) ∧ v.cell? (ad.add (p * 6)) = some (.int .i64 x.kind) ∧ v.cell? ⟨(ad.add (p * 6)).block, (ad.add (p * 6)).off + 1, none⟩ = some (.string x.name.1) ∧ v.cell? ⟨(ad.add (p * 6)).block, (ad.add (p * 6)).off + 2, none⟩ = some (.string x.name.2) ∧ v.cell? ⟨(ad.add (p * 6)).block, (ad.add (p * 6)).off + 3, none⟩ = some (.slice A1 x.attrs.length ca1) ∧ v.cell? ⟨(ad.add (p * 6)).block, (ad.add (p * 6)).off + 4, none⟩ = some (.slice K1 x.kids.length ck1) ∧ v.cell? ⟨(ad.add (p * 6)).block, (ad.add (p * 6)).off + 5, none⟩ = some (.string x.text) ∧ v.cell? (ae.add (p * 6)) = some (.int .i64 x.kind) ∧ v.cell? ⟨(ae.add (p * 6)).block, (ae.add (p * 6)).off + 1, none⟩ = some (.string x.name.1) ∧ v.cell? ⟨(ae.add (p * 6)).block, (ae.add (p * 6)).off + 2, none⟩ = some (.string x.name.2) ∧ v.cell? ⟨(ae.add (p * 6)).block, (ae.add (p * 6)).off + 3, none⟩ = some (.slice B1 x.attrs.length cb1) ∧ v.cell? ⟨(ae.add (p * 6)).block, (ae.add (p * 6)).off + 4, none⟩ = some (.slice L1 x.kids.length cl1) ∧ v.cell? ⟨(ae.add (p * 6)).block, (ae.add (p * 6)).off + 5, none⟩ = some (.string x.text))) (by kernel_rfl) (HSV.out _ HBq.out.drew) (fun hHeld => ?_)
        refine takeW 0 ?_; refine takeW 1 ?_; refine takeW 2 ?_; refine takeW 3 ?_
        (try simp only [Act.put, Ta.p0, Ta.p1, Ta.p2])
        refine takeW 4 ?_; refine takeW 5 ?_; refine takeW 6 ?_; refine takeW 7 ?_
        (try simp only [Act.put, Ta.p0, Ta.p1, Ta.p2])
        refine takeW 8 ?_; refine takeW 9 ?_
        (try simp only [Act.put, Ta.p0, Ta.p1, Ta.p2])
        refine wpAnyH_ready (rs := [10]) (by kernel_rfl) (by simp) ?_
        refine AllReadyH.cons rfl (fun K2 hK2 => ?_) AllReadyH.nil
        go_simp
        refine (HCALL.out _ HBq.out.drew).mono ?_
        rintro e w10 ⟨rfl, hb10⟩
        have HB10 : Hid (Below wz.heap.size wz w10) := Lib.hid (HBq.out.drew.trans (hb10.mono HBq.out.drew.size))
        clear hb10
        refine hK2.out _ _ (HSV.out _ HB10.out) (fun hHeld2 => ?_)
        refine takeW 11 ?_
        (try simp only [Act.put, Ta.p0, Ta.p1, Ta.p2])
        refine wpAnyH_done (by kernel_rfl) ?_ _
        clear hHeld HCALL n0 n1 n2 n3 n4 n5
        go_wp2
        go_roundw
        case rel => exact ⟨p + 1, by omega, by go_num, HB10⟩
        case measure => simp [intOf]; omega
      · go_wp2
        go_ret
        exact ⟨rfl, by rw [HT.out]; exact HB.out.trans (HBq.out.mono hws)⟩
theorem equal_self (n : Nd) (A K B L : Option Addr) (ca ck cb cl : Nat) (w : World) (hs : smallN n) (hn : NodeV w n A K) (hm : NodeV w n B L) :
    Calls Tryz.prog 23 #[ndV n A ca K ck, ndV n B cb L cl] w fun e w' => e = .returned (.bool true) ∧ Below w.heap.size w w' := equal_of n A K B L ca ck cb cl w hs hn hm
end Go.Proofs.YtjohfljkhlkjoaaGreatDoor
namespace Wb
theorem until_le {p : List UInt8} : ∀ {l : List UInt8} {n : Nat} {v : List UInt8}, untilR p l = some (n, v) → v.length ≤ n
  | [], n, v, h => by
    unfold untilR at h
    split at h
    · simp only [Option.some.injEq, Prod.mk.injEq] at h
      rw [← h.2]; simp
    · cases h
  | c :: l, n, v, h => by
    unfold untilR at h
    split at h
    · simp only [Option.some.injEq, Prod.mk.injEq] at h
      rw [← h.2]; simp
    · split at h
      · cases h
      · rename_i k a hk
        simp only [Option.some.injEq, Prod.mk.injEq] at h
        have := until_le hk
        rw [← h.1, ← h.2, List.length_cons]
        omega
theorem piece_text {l : List UInt8} {n : Nat} {t : Tk} (h : pieceR l = some (n, some t)) : t.2.2.2.length ≤ 4 * n := by
  unfold pieceR at h
  split at h
  · unfold markR at h
    obtain ⟨n1, _, m1, _, h2, e1⟩ := bindR_some h
    obtain ⟨n2, c, m2, _, h4, e2⟩ := bindR_some h2
    split at h4
    · unfold piR at h4
      obtain ⟨_, _, _, _, h6, _⟩ := bindR_some h4
      unfold guardR at h6
      split at h6
      · obtain ⟨_, _, h7⟩ := mapR_some h6
        simp at h7
      · cases h6
    · split at h4
      · unfold bangR at h4
        obtain ⟨n3, d, m3, _, h6, e3⟩ := bindR_some h4
        split at h6
        · obtain ⟨_, _, _, _, h8, _⟩ := bindR_some h6
          obtain ⟨_, _, _, _, h10, _⟩ := bindR_some h8
          obtain ⟨_, _, h11⟩ := mapR_some h10
          simp at h11
        · unfold guardR at h6
          split at h6
          · obtain ⟨_, _, _, _, h8, e4⟩ := bindR_some h6
            obtain ⟨v, h8v, h9⟩ := mapR_some h8
            have h10 := until_le h8v
            have h11 := ends_len v
            simp only [Option.some.injEq] at h9
            rw [← h9]
            show (endsL v).length ≤ _
            omega
          · cases h6
      · split at h4
        · unfold endR at h4
          obtain ⟨_, w, _, _, h6, _⟩ := bindR_some h4
          unfold guardR at h6
          split at h6
          · obtain ⟨_, _, _, _, h8, _⟩ := bindR_some h6
            obtain ⟨_, _, h9⟩ := mapR_some h8
            simp only [Option.some.injEq] at h9
            rw [← h9]
            simp
          · cases h6
        · unfold guardR at h4
          split at h4
          · unfold startR at h4
            obtain ⟨_, w, _, _, h6, _⟩ := bindR_some h4
            unfold guardR at h6
            split at h6
            · obtain ⟨⟨k, at_⟩, h7, h8⟩ := mapR_some h6
              simp only [Option.some.injEq] at h8
              rw [← h8]
              simp
            · cases h6
          · cases h4
  · have hn := (text_some h).1
    unfold textR at h
    simp only at h
    split at h
    · cases h
    · split at h
      · cases h
      · split at h
        · cases h
        · rename_i x hx
          simp only [Option.some.injEq, Prod.mk.injEq] at h
          obtain ⟨_, h⟩ := h
          rw [← h]
          have h1 := unL_len _ _ _ _ _ (okL_some' hx)
          show x.length ≤ _
          omega
def txS (ts : List (Nat × Tk)) : Nat := (ts.map fun x => x.2.2.2.2.length).sum
theorem tokL_text : ∀ (f : Nat) (l : List UInt8) (a : Nat) (ts : List (Nat × Tk)), tokL f l a = some ts → txS ts ≤ 4 * l.length := by
  intro f
  induction f with
  | zero =>
    intro l a ts h
    rcases tokL_some h with ⟨_, rfl⟩ | ⟨f', _, _, _, h0, _⟩
    · simp [txS]
    · omega
  | succ f ih =>
    intro l a ts h
    rcases tokL_some h with ⟨_, rfl⟩ | ⟨f', n, o, us, h0, hp, hr, hts⟩
    · simp [txS]
    · obtain rfl : f' = f := by omega
      have hi := ih _ _ _ hr
      rw [List.length_drop] at hi
      have hle := (piece_loc _ _ _ hp).1
      cases o with
      | none => rw [hts]; show txS us ≤ _; omega
      | some t =>
        rw [hts]
        have := piece_text hp
        have e : txS (consT a (some t) us) = t.2.2.2.length + txS us := by simp [txS, consT]
        omega
theorem doc_text {s : List UInt8} {ts : List (Nat × Tk)} (h : DocIs s ts) : txS ts ≤ 4 * s.length := by
  rcases h.2.2 with ⟨_, n, _, ht⟩ | ⟨_, ht⟩
  · have := tokL_text _ _ _ _ ht
    rw [List.length_drop] at this
    omega
  · exact tokL_text _ _ _ _ ht
mutual
/-- No name, attribute of it is long, no text longer than so many. -/
def gdN (T : Nat) : Nd → Prop
  | .mk _ n al ks t => n.1.size ≤ 1000000 ∧ n.2.size ≤ 1000000 ∧ (∀ a ∈ al, a.1.1.size ≤ 1000000 ∧ a.1.2.size ≤ 1000000 ∧ a.2.size ≤ 1000000) ∧ al.length ≤ 32 ∧ t.size ≤ T ∧ gdKs T ks
def gdKs (T : Nat) : List Nd → Prop
  | [] => True
  | k :: ks => gdN T k ∧ gdKs T ks
end
theorem gdKs_iff (T : Nat) : ∀ ks : List Nd, gdKs T ks ↔ ∀ k ∈ ks, gdN T k
  | [] => by simp [gdKs]
  | k :: ks => by simp [gdKs, gdKs_iff T ks]
theorem gdN_iff (T : Nat) (n : Nd) : gdN T n ↔ n.name.1.size ≤ 1000000 ∧ n.name.2.size ≤ 1000000 ∧ (∀ a ∈ n.attrs, a.1.1.size ≤ 1000000 ∧ a.1.2.size ≤ 1000000 ∧ a.2.size ≤ 1000000) ∧ n.attrs.length ≤ 32 ∧ n.text.size ≤ T ∧ ∀ k ∈ n.kids, gdN T k := by
  cases n with
  | mk k nm al ks t =>
    simp only [gdN, Nd.name, Nd.attrs, Nd.kids, Nd.text]
    rw [gdKs_iff]
theorem gdN.mono {T T' : Nat} (hT : T ≤ T') (n : Nd) : gdN T n → gdN T' n := by
  induction n using Nd.induct with
  | h n ih =>
    intro h
    obtain ⟨h1, h2, h3, h4, h5, h6⟩ := (gdN_iff T n).1 h
    exact (gdN_iff T' n).2 ⟨h1, h2, h3, h4, by omega, fun k hk => ih k hk (h6 k hk)⟩
structure BdG (T : Nat) (b : Bd) : Prop where
  els : ∀ e ∈ b.opened, gdN T e.node
  root : gdN T b.root
theorem BdG.mono {T T' : Nat} {b : Bd} (h : BdG T b) (hT : T ≤ T') : BdG T' b := ⟨fun e he => (h.els e he).mono hT, h.root.mono hT⟩
theorem gdZ (T : Nat) : gdN T ndZ := by
  rw [gdN_iff]
  simp [ndZ, Nd.name, Nd.attrs, Nd.kids, Nd.text, show sE.size = 0 from rfl]
theorem BdG.none_ (T : Nat) : BdG T Bd.none_ := ⟨fun e h => by simp [Bd.none_] at h, gdZ T⟩
theorem gd_node {T : Nat} (e : El) : gdN T e.node ↔ e.name.1.size ≤ 1000000 ∧ e.name.2.size ≤ 1000000 ∧ (∀ a ∈ e.attrs, a.1.1.size ≤ 1000000 ∧ a.1.2.size ≤ 1000000 ∧ a.2.size ≤ 1000000) ∧ e.attrs.length ≤ 32 ∧ ∀ k ∈ e.kids, gdN T k := by
  rw [gdN_iff]
  simp only [El.node, Nd.name, Nd.attrs, Nd.kids, Nd.text]
  have : sE.size ≤ T := by show 0 ≤ T; omega
  constructor
  · rintro ⟨a, b, c, d, _, f⟩; exact ⟨a, b, c, d, f⟩
  · rintro ⟨a, b, c, d, f⟩; exact ⟨a, b, c, d, this, f⟩
theorem begunX_gd {sc : List Pr} {n T : Nat} (hs : ScSz n sc) {t : TkV} (ht : TkOk t) {e : El} (h : begunX sc t = .ok e) : gdN T e.node := by
  have hse := begunX_sz hs ht h
  unfold begunX at h
  cases hdl : declL t.attrs [] [] [] with
  | error er => rw [hdl] at h; cases h
  | ok br =>
    obtain ⟨binds, rest⟩ := br
    rw [hdl] at h
    simp only at h
    obtain ⟨_, _, _, h4⟩ := declL_len _ _ _ _ _ _ 1000000 hdl (fun x hx => (ht.each x hx).2) (by simp)
    split at h
    · cases h
    · rename_i h32
      split at h
      · cases h
      · cases ha : attrL (sc ++ binds) rest [] with
        | error er => rw [ha] at h; cases h
        | ok al =>
          rw [ha] at h
          simp only [Except.ok.injEq] at h
          subst h
          obtain ⟨_, a2, _, _⟩ := (attrL_ok_iff _ _ _ _).1 ha
          rw [List.nil_append] at a2
          have hv := hse.1.2
          simp only at hv
          have hn := resB_size (attr := false) (q := t.name) (by omega : 64 ≤ 1000000) hv ht.name
          rw [gd_node]
          refine ⟨hn.1, hn.2, fun a hm => ?_, ?_, fun k hk => by cases hk⟩
          · rw [← a2] at hm
            obtain ⟨x, hx, rfl⟩ := List.mem_map.1 hm
            have hx2 : x ∈ t.attrs := by
              rcases h4 x hx with h | h
              · cases h
              · exact h
            have hz := ht.each x hx2
            have hr := resB_size (attr := true) (q := x.1) (by omega : 64 ≤ 1000000) hv hz.1
            exact ⟨hr.1, hr.2, hz.2⟩
          · show al.length ≤ 32
            rw [← a2, List.length_map]; omega
theorem closeX_gd {T : Nat} {b : Bd} (h : BdG T b) : BdG T (closeX b) := by
  rcases last_cases b.opened with h0 | ⟨l, e, h1⟩
  · unfold closeX; rw [h0]; exact h
  · have he := h.els e (by rw [h1]; simp)
    rcases last_cases l with h2 | ⟨m, f, h2⟩
    · rw [closeX_one (e := e) (by rw [h1, h2]; rfl)]
      exact ⟨fun e h => by simp at h, he⟩
    · rw [h2] at h1
      rw [closeX_more h1]
      refine ⟨fun g hg => ?_, h.root⟩
      have hg : g ∈ m ++ [f.more e.node] := hg
      rcases List.mem_append.1 hg with hg | hg
      · exact h.els g (by rw [h1]; simp [hg])
      · rw [List.mem_singleton] at hg
        subst hg
        have hf := (gd_node f).1 (h.els f (by rw [h1]; simp))
        rw [gd_node]
        refine ⟨hf.1, hf.2.1, hf.2.2.1, hf.2.2.2.1, fun k hk => ?_⟩
        have hk : k ∈ f.kids ++ [e.node] := hk
        rcases List.mem_append.1 hk with hk | hk
        · exact hf.2.2.2.2 k hk
        · rw [List.mem_singleton] at hk
          subst hk
          exact he
theorem textKids_gd {T : Nat} {ks : List Nd} {s : ByteArray} (h : ∀ k ∈ ks, gdN T k) : ∀ k ∈ (textKids ks s).1, gdN (T + s.size) k := by
  have h0 : ∀ T, s.size ≤ T → gdN T (.mk 2 (sE, sE) [] [] s) := fun T hT => by
    rw [gdN_iff]
    simp [Nd.name, Nd.attrs, Nd.kids, Nd.text, show sE.size = 0 from rfl, hT]
  intro k hk
  rcases last_cases ks with h2 | ⟨js, j, h2⟩
  · rw [h2] at hk
    simp only [textKids, List.getLast?_nil, List.mem_singleton] at hk
    subst hk
    exact h0 _ (by omega)
  · subst h2
    by_cases hj : j.kind = 2
    · rw [textKids_two s hj] at hk
      rcases List.mem_append.1 hk with hk | hk
      · exact (h k (by simp [hk])).mono (by omega)
      · rw [List.mem_singleton] at hk
        subst hk
        obtain ⟨a, b, c, d, e, f⟩ := (gdN_iff T j).1 (h j (by simp))
        rw [gdN_iff]
        refine ⟨a, b, c, d, ?_, fun k hk => (f k hk).mono (by omega)⟩
        show (j.text ++ s).size ≤ _
        rw [ByteArray.size_append]
        omega
    · rw [textKids_else s hj] at hk
      rcases List.mem_append.1 hk with hk | hk
      · exact (h k hk).mono (by omega)
      · rw [List.mem_singleton] at hk
        subst hk
        exact h0 _ (by omega)
theorem textX_gd {T : Nat} {b b' : Bd} (h : BdG T b) {s : ByteArray} (hs : textX' b s = .ok b') : BdG (T + s.size) b' := by
  have put : ∀ (l : List El) (e : El), b.opened = l ++ [e] → ∀ (n : Nat), BdG (T + s.size) { b with opened := l ++ [{ e with kids := (textKids e.kids s).1 }], nodes := n } := by
    intro l e h1 n
    refine ⟨fun g hg => ?_, h.root.mono (by omega)⟩
    have hg : g ∈ l ++ [{ e with kids := (textKids e.kids s).1 }] := hg
    rcases List.mem_append.1 hg with hg | hg
    · exact (h.els g (by rw [h1]; simp [hg])).mono (by omega)
    · rw [List.mem_singleton] at hg
      subst hg
      have he := (gd_node e).1 (h.els e (by rw [h1]; simp))
      rw [gd_node]
      exact ⟨he.1, he.2.1, he.2.2.1, he.2.2.2.1, textKids_gd he.2.2.2.2⟩
  unfold textX' at hs
  rcases last_cases b.opened with h0 | ⟨l, e, h1⟩
  · rw [h0] at hs
    simp only [List.getLast?_nil] at hs
    split at hs
    · simp only [Except.ok.injEq] at hs; subst hs; exact h.mono (Nat.le_add_right _ _)
    · cases hs
  · rw [h1] at hs
    simp only [List.getLast?_append, List.getLast?_singleton, Option.some_or, List.dropLast_concat] at hs
    split at hs
    · simp only [Except.ok.injEq] at hs; subst hs; exact h.mono (Nat.le_add_right _ _)
    · split at hs
      · simp only [Except.ok.injEq] at hs; subst hs; exact put l e h1 b.nodes
      · split at hs
        · cases hs
        · simp only [Except.ok.injEq] at hs; subst hs; exact put l e h1 (b.nodes + 1)
theorem takeX_gd {T T' : Nat} {b b' : Bd} (h : BdG T b) (hz : BdSz T' b) {t : TkV} (ht : TkOk t) (hs : takeX' b t = .ok b') : BdG (T + t.text.size) b' := by
  unfold takeX' at hs
  split at hs
  · exact textX_gd h hs
  · split at hs
    · unfold endX' at hs
      split at hs
      · cases hs
      · split at hs
        · simp only [Except.ok.injEq] at hs
          subst hs
          exact (closeX_gd h).mono (Nat.le_add_right _ _)
        · cases hs
    · split at hs
      · cases hs
      · rename_i b1 hb1
        simp only [Except.ok.injEq] at hs
        subst hs
        have h1 : BdG (T + t.text.size) b1 := by
          unfold startX at hb1
          split at hb1
          · cases hb1
          · split at hb1
            · cases hb1
            · split at hb1
              · cases hb1
              · split at hb1
                · cases hb1
                · rename_i e he
                  simp only [Except.ok.injEq] at hb1
                  subst hb1
                  refine ⟨fun g hg => ?_, h.root.mono (Nat.le_add_right _ _)⟩
                  have hg : g ∈ b.opened ++ [e] := hg
                  rcases List.mem_append.1 hg with hg | hg
                  · exact (h.els g hg).mono (Nat.le_add_right _ _)
                  · rw [List.mem_singleton] at hg
                    subst hg
                    exact begunX_gd (scopeX_sz hz) ht he
        split
        · exact closeX_gd h1
        · exact h1
theorem takeAll_gd : ∀ (ts : List TkV) {T T' : Nat} {b b' : Bd}, BdG T b → BdSz T' b → (∀ t ∈ ts, TkOk t) → takeAll b ts = .ok b' → BdG (T + (ts.map fun t => t.text.size).sum) b'
  | [], T, T', b, b', h, _, _, hs => by
    simp only [takeAll, Except.ok.injEq] at hs
    subst hs
    simpa using h
  | t :: ts, T, T', b, b', h, hz, ht, hs => by
    unfold takeAll at hs
    split at hs
    · cases hs
    · rename_i b1 hb1
      have h1 := takeX_gd h hz (ht t (by simp)) hb1
      have h2 := takeAll_gd ts h1 (takeX_sz hz (ht t (by simp)) hb1) (fun u hu => ht u (by simp [hu])) hs
      rw [List.map_cons, List.sum_cons, ← Nat.add_assoc]
      exact h2
end Wb
namespace Wb
theorem cost_mem {k : Nd} : ∀ {ks : List Nd}, k ∈ ks → costN k ≤ costNs ks
  | x :: ks, h => by
    simp only [costNs]
    rcases List.mem_cons.1 h with rfl | h
    · omega
    · have := cost_mem h; omega
theorem len_costs' : ∀ ks : List Nd, ks.length ≤ costNs ks
  | [] => by simp
  | k :: ks => by
    have := len_costs' ks
    have := costN_pos k
    simp only [costNs, List.length_cons]
    omega
theorem gd_small {T : Nat} (n : Nd) : gdN T n → costN n ≤ 1000000 → smallN n := by
  induction n using Nd.induct with
  | h n ih =>
    intro h hc
    obtain ⟨_, _, _, h4, _, hk⟩ := (gdN_iff T n).1 h
    rw [costN_is] at hc
    have := len_costs' n.kids
    exact (smallN_is n).2 ⟨by omega, by omega, fun k hm => ih k hm (hk k hm) (by have := cost_mem hm; omega)⟩
theorem gd_sz {T : Nat} (hT : T ≤ 1000000000) (n : Nd) : gdN T n → szN n := by
  induction n using Nd.induct with
  | h n ih =>
    intro h
    obtain ⟨h1, h2, h3, _, h5, hk⟩ := (gdN_iff T n).1 h
    obtain ⟨k, nm, al, ks, t⟩ := n
    simp only [Nd.name, Nd.attrs, Nd.kids, Nd.text] at *
    unfold szN
    refine ⟨by omega, by omega, fun a ha => ?_, by omega, (szKs_iff ks).2 fun k hm => ih k hm (hk k hm)⟩
    have := h3 a ha
    omega
end Wb
namespace Go.Proofs.YtjohfljkhlkjoaaGreatDoor
open Go.RowKit Wb
theorem parse_gd {s : ByteArray} {n : Nd} (h : parseX s = .ok n) : gdN 200000 n := by
  unfold parseX at h
  rcases tokens_fit s.data.toList with ⟨ts, hd, ht⟩ | ⟨_, p, c, ht, _⟩
  · rw [ht] at h
    have h : treeX s.size (ts.map tkv) = .ok n := h
    unfold treeX at h
    split at h
    · cases h
    · rename_i b hb
      split at h
      · cases h
      · split at h
        · cases h
        · simp only [Except.ok.injEq] at h
          subst h
          have hg := takeAll_gd (ts.map tkv) (BdG.none_ 0) BdSz.none_ (fun t hm => by
            obtain ⟨x, hx, rfl⟩ := List.mem_map.1 hm
            exact tkv_ok hd.1 ((doc_len hd).1 x hx) (doc_few hd x hx)) hb
          have hs : ((ts.map tkv).map fun t => t.text.size).sum = txS ts := by
            unfold txS
            rw [List.map_map]
            rfl
          rw [hs] at hg
          have := doc_text hd
          have := hd.1
          exact hg.root.mono (by omega)
  · rw [ht] at h
    cases h
end Go.Proofs.YtjohfljkhlkjoaaGreatDoor
namespace Wb
def printR (n : Nd) : List UInt8 × Int := if rightB n = true then printX n else ([], 4)
end Wb
namespace Go.Proofs.YtjohfljkhlkjoaaGreatDoor
open Go.RowKit Wb
theorem parse_printed {n : Nd} (hok : okN 1 n) (hk : n.kind = 1) (hc : costN n ≤ 2000) (hl : (nodeT n sE).length ≤ 32768) : parseX ⟨(nodeT n sE).toArray⟩ = .ok (ordN n) := by
  obtain ⟨ts, hd, ht⟩ := doc_printed hok hk hl
  have htok : tokensU (nodeT n sE) = .ok ts := by
    rcases tokens_fit (nodeT n sE) with ⟨vs, h1, h2⟩ | ⟨h1, _⟩
    · rw [h2, doc_one h1 hd]
    · exact absurd hd (h1 ts)
  unfold parseX
  rw [of_list, htok]
  exact tree_printed hok hk hc ht _
set_option maxRecDepth 100000 in
theorem Print_any (n : Nd) (A K : Option Addr) (ca ck : Nat) (w : World) (hsz : szN n) (hsm : smallN n) (hV : NodeV w n A K) :
    Calls Tryz.prog 19 #[ndV n A ca K ck] w fun e w' => e = .returned (.tuple #[.string ⟨(printR n).1.toArray⟩, .int .i64 (printR n).2]) ∧ Below w.heap.size w w' := by
  by_cases hr : rightB n = true
  · obtain ⟨h1, h2, h3⟩ := (rightB_iff n).1 hr
    have hp : printR n = printX n := if_pos hr
    rw [hp]
    exact Print_ok n A K ca ck w h2 h1 hsz h3 hsm hV
  · have hp : printR n = ([], 4) := if_neg hr
    rw [hp]
    have hb1 : Below w.heap.size w (w.alloc (.cells (ndCells n.kind n.name A n.attrs.length ca K n.kids.length ck n.text).toArray 37)) := (Below.refl _ w).alloc (Nat.le_refl _) _
    have hrb := Right_b n A K ca ck (w.alloc (.cells (ndCells n.kind n.name A n.attrs.length ca K n.kids.length ck n.text).toArray 37)) hsz hsm (NodeV.below hV hb1)
    have hrf : rightB n = false := by simpa using hr
    rw [hrf] at hrb
    have HB := Lib.hid hb1
    clear hr hrf hp hb1 hsz hsm hV
    unfold ndV ndCells at *
    have hsz2 : w.heap.size ≤ (w.alloc (.cells [Value.int .i64 n.kind, .string n.name.1, .string n.name.2, .slice A n.attrs.length ca, .slice K n.kids.length ck, .string n.text].toArray 37)).heap.size := by simp
    go_enter Tryz.func19, Tryz.ntmps19
    go_wp2_with fail
    refine hrb.mono ?_
    rintro e w1 ⟨rfl, hb1⟩
    have HB1 := Lib.hid (HB.out.trans (hb1.mono hsz2))
    clear hrb hb1
    go_wp2
    go_ret2
    exact ⟨rfl, HB1.out⟩
end Go.Proofs.YtjohfljkhlkjoaaGreatDoor
namespace Go.Proofs.YtjohfljkhlkjoaaGreatDoor
open Go.RowKit Wb
set_option maxRecDepth 100000 in
set_option maxHeartbeats 4000000 in
theorem back_walk (n : Nd) (A K : Option Addr) (ca ck : Nat) (w : World) (hG : Gv w) (hVn : NodeV w n A K) (hln : lenN 9223372036854775807 n) :
    Calls Tryz.prog 6 #[ndV n A ca K ck] w fun e w' => e = .returned (.bool true) ∧ Below w.heap.size w w' := by
  have hb1 : Below w.heap.size w (w.alloc (.cells (ndCells n.kind n.name A n.attrs.length ca K n.kids.length ck n.text).toArray 37)) := (Below.refl _ w).alloc (Nat.le_refl _) _
  have hN := heap_alloc_new w (.cells (ndCells n.kind n.name A n.attrs.length ca K n.kids.length ck n.text).toArray 37)
  have h1 := awake5 (w.alloc (.cells (ndCells n.kind n.name A n.attrs.length ca K n.kids.length ck n.text).toArray 37))
  have HV := Lib.hid (NodeV.below hVn hb1)
  have HF := Lib.hid (fun (v : World) (hv : NodeV v n A K) => tfew_any n A K ca ck v hv hln)
  have H2 := Lib.hid (fun (w2 : World) (hg : Gv w2) (t : ByteArray) (hs : t.size ≤ 900000) => Parse_any t w2 hg hs)
  have HN := Lib.hid hN
  have HB := Lib.hid hb1
  have HG := Lib.hid hG
  clear hb1 hN hG hVn hln
  unfold ndV
  unfold ndCells at *
  go_enter Tryz.func6, Tryz.ntmps6
  go_wp2_with fail
  refine h1.mono ?_
  rintro e w3 ⟨rfl, hb3⟩
  have hN3 := still_block HN.out hb3
  have HB3 := Lib.hid (HB.out.trans (hb3.mono HB.out.size))
  have VN := Lib.hid (NodeV.below HV.out hb3)
  have HG3 := Lib.hid (HG.out.next HB3.out)
  have hge : w.heap.size < w3.heap.size := blk_in hN3
  clear h1 hb3 HN HB HV HG
  have CN := Lib.hid (fun (v : World) (h : Below w3.heap.size w3 v) => cells_of_nd (still_block hN3 h))
  clear hN3
  have hf := HF.out w3 VN.out
  unfold ndV ndCells at hf
  obtain ⟨n0, n1, n2, n3, n4, n5⟩ := CN.out w3 (Below.refl _ _)
  clear HF
  by_cases hfn : weighN n 30000 ≤ 30000
  case neg =>
    rw [decide_eq_false hfn] at hf
    go_wp2_with fail
    refine hf.mono ?_
    rintro e w4 ⟨rfl, hb4⟩
    have HB4 := Lib.hid (HB3.out.trans (hb4.mono HB3.out.size))
    clear n0 n1 n2 n3 n4 n5 hf hb4
    go_wp2
    go_ret
    exact ⟨rfl, HB4.out⟩
  case pos =>
  rw [decide_eq_true hfn] at hf
  have hsn := few_small n 30000 (by omega) hfn
  have hzn := few_sz n 30000 (by omega) hfn
  go_wp2_with fail
  refine hf.mono ?_
  rintro e w4 ⟨rfl, hb4⟩
  have HB4 := Lib.hid hb4
  clear n0 n1 n2 n3 n4 n5 hf hb4
  obtain ⟨n0, n1, n2, n3, n4, n5⟩ := CN.out w4 HB4.out
  have hpr := Print_any n A K ca ck w4 hzn hsn (NodeV.below VN.out HB4.out)
  have HRB := Lib.hid (fun (v : World) (hv : NodeV v n A K) => Right_b n A K ca ck v hzn hsn hv)
  unfold ndV ndCells at hpr HRB
  by_cases hr : rightB n = true
  case neg =>
    have hrf : rightB n = false := by simpa using hr
    rw [show printR n = ([], 4) from if_neg hr] at hpr
    rw [hrf] at HRB
    have HSM := Lib.hid hsn
    clear hr hrf hsn hzn
    go_wp2_with fail
    refine hpr.mono ?_
    rintro e w5 ⟨rfl, hb5⟩
    have HB5 : Hid (Below w3.heap.size w3 w5) := Lib.hid (HB4.out.trans (hb5.mono HB4.out.size))
    clear n0 n1 n2 n3 n4 n5 hpr hb5
    obtain ⟨n0, n1, n2, n3, n4, n5⟩ := CN.out w5 HB5.out
    have hrb := HRB.out w5 (NodeV.below VN.out HB5.out)
    go_wp2_with fail
    refine hrb.mono ?_
    rintro e w6 ⟨rfl, hb6⟩
    have HB6 := Lib.hid (HB3.out.trans ((HB5.out.trans (hb6.mono HB5.out.size)).mono HB3.out.size))
    clear n0 n1 n2 n3 n4 n5 hrb hb6
    go_wp2
    go_ret
    exact ⟨rfl, HB6.out⟩
  case pos =>
  obtain ⟨q1, q2, q3⟩ := (rightB_iff n).1 hr
  have hpx : printR n = printX n := if_pos hr
  rw [hpx] at hpr
  rw [hr] at HRB
  clear hpx hr
  by_cases hlong : 32768 < (nodeT n sE).length
  case pos =>
    rw [show printX n = ([], 3) from if_pos hlong] at hpr
    have HSM := Lib.hid hsn
    clear hsn hzn q1 q2 q3 hlong
    go_wp2_with fail
    refine hpr.mono ?_
    rintro e w5 ⟨rfl, hb5⟩
    have HB5 : Hid (Below w3.heap.size w3 w5) := Lib.hid (HB4.out.trans (hb5.mono HB4.out.size))
    clear n0 n1 n2 n3 n4 n5 hpr hb5
    obtain ⟨n0, n1, n2, n3, n4, n5⟩ := CN.out w5 HB5.out
    have hrb := HRB.out w5 (NodeV.below VN.out HB5.out)
    go_wp2_with fail
    refine hrb.mono ?_
    rintro e w6 ⟨rfl, hb6⟩
    have HB6 := Lib.hid (HB3.out.trans ((HB5.out.trans (hb6.mono HB5.out.size)).mono HB3.out.size))
    clear n0 n1 n2 n3 n4 n5 hrb hb6
    go_wp2
    go_ret
    exact ⟨rfl, HB6.out⟩
  case neg =>
  rw [show printX n = (nodeT n sE, 0) from if_neg hlong] at hpr
  have hpp := parse_printed q2 q1 q3 (by omega)
  have hgd2 := parse_gd hpp
  obtain ⟨r1, r2, r3, r4⟩ := parse_right hpp
  have hgs2 := gd_small _ hgd2 (by omega)
  have hgz2 := gd_sz (by decide) _ hgd2
  have hso : sameN (ordN n) n = true := sameN_symm _ _ (sameN_ord n)
  have htz : (ByteArray.mk (nodeT n sE).toArray).size ≤ 900000 := by
    show (nodeT n sE).toArray.size ≤ 900000
    rw [List.size_toArray]; omega
  have HSM := Lib.hid (fun (B L : Option Addr) (cb cl : Nat) (v : World) (hm : NodeV v (ordN n) B L) (hn : NodeV v n A K) => Same_any (ordN n) n B L A K cb cl ca ck v hgz2 hzn hgs2 hsn hm hn)
  have HOR := Lib.hid (fun (v : World) (hv : NodeV v n A K) => order_any n A K ca ck v hv hsn)
  have HEQ := Lib.hid (fun (B L B' L' : Option Addr) (cb cl cb' cl' : Nat) (v : World) (h1 : NodeV v (ordN n) B L) (h2 : NodeV v (ordN n) B' L') => equal_self (ordN n) B L B' L' cb cl cb' cl' v hgs2 h1 h2)
  have HPAR := Lib.hid (fun (v : World) (hg : Gv v) => H2.out v hg _ htz)
  rw [hpp] at HPAR
  rw [hso] at HSM
  clear hpp hgd2 hgs2 hgz2 hso htz r1 r2 r3 r4 q1 q2 q3 hlong hsn hzn H2 HRB
  generalize (ByteArray.mk (nodeT n sE).toArray) = t at *
  generalize hM : ordN n = m at *
  clear hM
  go_wp2_with fail
  refine hpr.mono ?_
  rintro e w5 ⟨rfl, hb5⟩
  have HB5 : Hid (Below w3.heap.size w3 w5) := Lib.hid (HB4.out.trans (hb5.mono HB4.out.size))
  have hpa := HPAR.out w5 (HG3.out.next HB5.out)
  clear hpr hb5 n0 n1 n2 n3 n4 n5 HPAR HB4
  go_wp2_with fail
  refine hpa.mono ?_
  rintro e w6 ⟨⟨B, cb, L, cl, rfl, hV6⟩, hb6⟩
  have hba : Below w5.heap.size w5 (w6.alloc (.cells (ndCells m.kind m.name B m.attrs.length cb L m.kids.length cl m.text).toArray 37)) := hb6.alloc hb6.size _
  have HB7 : Hid (Below w3.heap.size w3 (w6.alloc (.cells (ndCells m.kind m.name B m.attrs.length cb L m.kids.length cl m.text).toArray 37))) := Lib.hid (HB5.out.trans (hba.mono HB5.out.size))
  have HM7 := Lib.hid (heap_alloc_new w6 (.cells (ndCells m.kind m.name B m.attrs.length cb L m.kids.length cl m.text).toArray 37))
  have HW7 : Hid (NodeV (w6.alloc (.cells (ndCells m.kind m.name B m.attrs.length cb L m.kids.length cl m.text).toArray 37)) m B L) := Lib.hid (NodeV.below hV6 ((Below.refl _ w6).alloc (Nat.le_refl _) _))
  clear hpa hb6 hba hV6 HB5 HG3
  unfold ndV
  unfold ndCells at *
  go_upto_region 9 with fail
  revert HB7 HM7 HW7
  generalize (w6.alloc (.cells [Value.int .i64 m.kind, .string m.name.1, .string m.name.2, .slice B m.attrs.length cb, .slice L m.kids.length cl, .string m.text].toArray 37)) = wz
  intro HB7 HM7 HW7
  generalize w6.heap.size = M at *
  generalize hT : w.heap.size = T at *
  have HT := Lib.hid hT
  clear hT
  have HSV := Lib.hid (fun (v : World) (h : Below wz.heap.size wz v) => And.intro (cells_of_nd (still_block HM7.out h)) (CN.out v (HB7.out.trans (h.mono HB7.out.size))))
  have VNZ := Lib.hid (NodeV.below VN.out HB7.out)
  unfold ndV ndCells at HSM HOR HEQ
  (try simp only [List.append])
  refine wp_region_held_drew (S := (fun v => (v.cell? ⟨M, 0, none⟩ = some (.int .i64 m.kind) ∧ v.cell? ⟨M, 1, none⟩ = some (.string m.name.1) ∧ v.cell? ⟨M, 2, none⟩ = some (.string m.name.2) ∧ v.cell? ⟨M, 3, none⟩ = some (.slice B m.attrs.length cb) ∧ v.cell? ⟨M, 4, none⟩ = some (.slice L m.kids.length cl) ∧ v.cell? ⟨M, 5, none⟩ = some (.string m.text)) ∧ (v.cell? ⟨T, 0, none⟩ = some (.int .i64 n.kind) ∧ v.cell? ⟨T, 1, none⟩ = some (.string n.name.1) ∧ v.cell? ⟨T, 2, none⟩ = some (.string n.name.2) ∧ v.cell? ⟨T, 3, none⟩ = some (.slice A n.attrs.length ca) ∧ v.cell? ⟨T, 4, none⟩ = some (.slice K n.kids.length ck) ∧ v.cell? ⟨T, 5, none⟩ = some (.string n.text)))) (by kernel_rfl) (HSV.out _ (Below.refl _ wz).drew) (fun hHeld => ?_)
  refine takeW 0 ?_; refine takeW 1 ?_; refine takeW 2 ?_; refine takeW 3 ?_
  (try simp only [Act.put, Ta.p0, Ta.p1, Ta.p2])
  refine takeW 4 ?_
  (try simp only [Act.put, Ta.p0, Ta.p1, Ta.p2])
  refine wpAnyH_ready (rs := [5]) (by kernel_rfl) (by simp) ?_
  refine AllReadyH.cons rfl (fun K2 hK2 => ?_) AllReadyH.nil
  go_simp
  refine (HSM.out B L cb cl _ (NodeV.below HW7.out (Below.refl _ wz).drew) (NodeV.below VNZ.out (Below.refl _ wz).drew)).mono ?_
  rintro e w10 ⟨rfl, hb10⟩
  have HB10 : Hid (Below wz.heap.size wz w10) := Lib.hid ((Below.refl _ wz).drew.trans hb10)
  clear hb10
  refine hK2.out _ _ (HSV.out _ HB10.out) (fun hHeld2 => ?_)
  refine takeW 6 ?_; refine takeW 7 ?_; refine takeW 8 ?_
  (try simp only [Act.put, Ta.p0, Ta.p1, Ta.p2])
  refine takeW 9 ?_
  (try simp only [Act.put, Ta.p0, Ta.p1, Ta.p2])
  refine wpAnyH_ready (rs := [10]) (by kernel_rfl) (by simp) ?_
  refine AllReadyH.cons rfl (fun K2 hK2 => ?_) AllReadyH.nil
  go_simp
  refine (HOR.out _ (NodeV.below VNZ.out HB10.out)).mono ?_
  rintro e w11 ⟨⟨B', cb', L', cl', rfl, hV11⟩, hb11⟩
  have HB11 : Hid (Below wz.heap.size wz w11) := Lib.hid (HB10.out.trans (hb11.mono HB10.out.size))
  have HV11 := Lib.hid hV11
  clear hb11 hV11
  refine hK2.out _ _ (HSV.out _ HB11.out) (fun hHeld2 => ?_)
  (try simp only [Act.put, Ta.p0, Ta.p1, Ta.p2])
  refine wpAnyH_ready (rs := [11]) (by kernel_rfl) (by simp) ?_
  refine AllReadyH.cons rfl (fun K2 hK2 => ?_) AllReadyH.nil
  go_simp
  refine (HEQ.out B L B' L' cb cl cb' cl' _ (NodeV.below HW7.out HB11.out) HV11.out).mono ?_
  rintro e w12 ⟨rfl, hb12⟩
  have HB12 : Hid (Below wz.heap.size wz w12) := Lib.hid (HB11.out.trans (hb12.mono HB11.out.size))
  clear hb12
  refine hK2.out _ _ (HSV.out _ HB12.out) (fun hHeld2 => ?_)
  refine takeW 12 ?_; refine takeW 13 ?_
  (try simp only [Act.put, Ta.p0, Ta.p1, Ta.p2])
  refine wpAnyH_done (by kernel_rfl) ?_ _
  go_wp2
  go_ret
  exact ⟨rfl, by rw [HT.out]; exact HB3.out.trans ((HB7.out.trans (HB12.out.mono HB7.out.size)).mono (by have h1 := HB3.out.size; have h2 := HT.out; omega))⟩
end Go.Proofs.YtjohfljkhlkjoaaGreatDoor
