/- FhD QcT FhE. -/
import Derived.Test.YtmabhbihgenmcaaGreatDoorKc23
import Derived.Test.YtmabhbihgenmcaaGreatDoorKc24
namespace Wb
open Go
theorem printFs_next {l : List Pr} {i : Nat} {x : Pr} (h : l[i]? = some x) : printFs ((l.drop i).map ofPr) = if namedF x.1.data.toList = false then .error 12 else if printableF x.2.data.toList = false then .error 4 else match printF (x.1.data.toList, x.2.data.toList) with
    | none => .error 3
    | some t => preE t (printFs ((l.drop (i + 1)).map ofPr)) := by
  obtain ⟨hi, e⟩ := List.getElem?_eq_some_iff.1 h
  rw [List.drop_eq_getElem_cons hi, e, List.map_cons, printFs]
  show (if namedF x.1.data.toList = false then _ else _) = _
  split
  · rfl
  · show (if printableF x.2.data.toList = false then _ else _) = _
    split
    · rfl
    · show (match printF (x.1.data.toList, x.2.data.toList) with | none => _ | some t => _) = _
      cases printF (x.1.data.toList, x.2.data.toList) with
      | none => rfl
      | some t => simp only; cases printFs ((l.drop (i + 1)).map ofPr) <;> rfl
end Wb
namespace Go.Proofs.YtmabhbihgenmcaaGreatDoor
open Go.RowKit Wb
set_option maxRecDepth 100000 in
set_option maxHeartbeats 8000000 in
theorem rPrint_any (A : Option Addr) (l : List Pr) (c : Nat) (w : World) (hA : Sl2 w A l) (hl : l.length ≤ 100000) (hsz : ∀ x ∈ l, x.1.size ≤ 5000 ∧ x.2.size ≤ 5000) :
    Calls Tryz.prog 26 #[.slice A l.length c] w fun e w' => StrOut (printX l) e ∧ Below w.heap.size w w' := by
  obtain ⟨o, ho⟩ : ∃ o, printX l = o := ⟨_, rfl⟩
  rw [ho]
  have HA := Lib.hid hA
  clear hA
  unfold printX at ho
  by_cases h8 : 8 < l.length
  · rw [if_pos h8] at ho
    have HO := Lib.hid ho
    clear ho
    go_enter Tryz.func26, Tryz.ntmps26
    go_wp2
    go_ret2
    rw [← HO.out]
    exact ⟨rfl, Below.refl _ _⟩
  rw [if_neg h8] at ho
  have HO := Lib.hid ho
  clear ho
  go_enter Tryz.func26, Tryz.ntmps26
  go_wp2
  go_loopw [4, 5] (fun v4 v5 wr => ∃ (i : Nat) (acc : List UInt8), i ≤ l.length ∧ v5 = .int .i64 i ∧ v4 = .string (mkB acc) ∧ acc.length ≤ i * 1000000 ∧ Hid (o = preE acc (printFs ((l.drop i).map ofPr))) ∧ Hid (Below w.heap.size w wr)) (fun _ v5 _ => l.length - (intOf v5).toNat)
  case atStart => exact ⟨0, [], by omega, rfl, rfl, by simp, Lib.hid (by rw [preE_nil, List.drop_zero]; exact HO.out.symm), Lib.hid (Below.refl _ _)⟩
  case round =>
    obtain ⟨i, acc, hi, rfl, rfl, hacc, HQ, HB⟩ := hrel
    have hms : (mkB acc).size = acc.length := mkB_size acc
    have hws := HB.out.size
    by_cases h0 : i < l.length
    · obtain ⟨⟨n, v⟩, hx⟩ : ∃ x, l[i]? = some x := ⟨l[i], List.getElem?_eq_getElem h0⟩
      have hnx := printFs_next hx
      simp only at hnx
      obtain ⟨hzn, hzv⟩ := hsz _ (List.mem_of_getElem? hx)
      simp only at hzn hzv
      have k1 := rnamed_any n wr (by omega)
      have k2 := fun (u : World) => rprintable_any v u (by omega)
      obtain ⟨ad, rfl, had, d0, d1⟩ := (HA.out.below HB.out).at_ hx
      have hbk : (ad.add (i * 2)).block < wr.heap.size := by rw [add_block]; exact had
      have HSV := Lib.hid (fun (u : World) (h : Below wr.heap.size wr u) => (show u.cell? (ad.add (i * 2)) = some (.string n) ∧ u.cell? ⟨(ad.add (i * 2)).block, (ad.add (i * 2)).off + 1, none⟩ = some (.string v) from ⟨(h.cell hbk).trans d0, (h.cell (p := ⟨(ad.add (i * 2)).block, (ad.add (i * 2)).off + 1, none⟩) hbk).trans d1⟩))
      have hi0 : (0 : Int) ≤ (i : Int) := by omega
      have hi1 : (i : Int) < (l.length : Int) := by omega
      obtain ⟨sb, hsb⟩ : ∃ sb, mkB acc = sb := ⟨_, rfl⟩
      rw [hsb] at hms
      have HSB := Lib.hid hsb
      rw [hsb]
      clear hx had d1 hbk hsb
      cases hnm : namedF n.data.toList
      · rw [hnm] at k1
        have HE : Hid (o = .error 12) := Lib.hid (by rw [HQ.out, hnx, if_pos hnm]; rfl)
        clear hnm hnx k2
        go_wp2_with fail
        refine k1.mono ?_
        rintro e w1 ⟨rfl, hb⟩
        have HB1 := Lib.hid (HB.out.trans (hb.mono hws))
        clear hb k1
        go_wp2
        go_ret2
        rw [HE.out]
        exact ⟨rfl, HB1.out⟩
      rw [hnm] at k1
      rw [if_neg (by rw [hnm]; simp)] at hnx
      have HNM := Lib.hid (named_facts _ hnm).2.1
      go_wp2_with fail
      refine k1.mono ?_
      rintro e w1 ⟨rfl, hb⟩
      have HB1 := Lib.hid hb
      have k3 := k2 w1
      obtain ⟨e0, e1⟩ := HSV.out _ hb
      clear hb k1 k2 d0
      cases hpr : printableF v.data.toList
      · rw [hpr] at k3
        have HE : Hid (o = .error 4) := Lib.hid (by rw [HQ.out, hnx, if_pos hpr]; rfl)
        clear hpr hnx hnm
        go_wp2_with fail
        refine k3.mono ?_
        rintro e w2 ⟨rfl, hb⟩
        have HB2 := Lib.hid (HB.out.trans ((HB1.out.trans (hb.mono HB1.out.size)).mono hws))
        clear hb k3
        go_wp2
        go_ret2
        rw [HE.out]
        exact ⟨rfl, HB2.out⟩
      rw [hpr] at k3
      rw [if_neg (by rw [hpr]; simp)] at hnx
      go_wp2_with fail
      refine k3.mono ?_
      rintro e w2 ⟨rfl, hb⟩
      have HB2 := Lib.hid (HB1.out.trans (hb.mono HB1.out.size))
      have k4 := rprint_any n v w2 (by omega) (by omega) hpr
      obtain ⟨f0, f1⟩ := HSV.out _ HB2.out
      clear hb k3 e0 e1
      have hpsz := fun t (h : printF (n.data.toList, v.data.toList) = some t) => print_size _ _ t h hnm hpr
      cases hpf : printF (n.data.toList, v.data.toList) with
      | none =>
        rw [hpf] at k4 hnx
        have HE : Hid (o = .error 3) := Lib.hid (by rw [HQ.out, hnx]; rfl)
        have k4 : Calls Tryz.prog 49 #[.agg #[.string n, .string v]] w2 fun e w' => e = .returned (.tuple #[.string ⟨#[]⟩, .bool false]) ∧ Below w2.heap.size w2 w' := k4
        clear hpsz hpf hpr hnm hnx
        go_wp2_with fail
        refine k4.mono ?_
        rintro e w3 ⟨rfl, hb⟩
        have HB3 := Lib.hid (HB.out.trans ((HB2.out.trans (hb.mono HB2.out.size)).mono hws))
        clear hb k4
        go_wp2
        go_ret2
        rw [HE.out]
        exact ⟨rfl, HB3.out⟩
      | some t =>
        rw [hpf] at k4 hnx
        have hpz := hpsz t hpf
        have HE : Hid (o = preE (acc ++ t) (printFs ((l.drop (i + 1)).map ofPr))) := Lib.hid (by rw [HQ.out, hnx]; exact preE_app _ _ _)
        have k4 : Calls Tryz.prog 49 #[.agg #[.string n, .string v]] w2 fun e w' => e = .returned (.tuple #[.string (mkB t), .bool true]) ∧ Below w2.heap.size w2 w' := k4
        have hmt : (mkB t).size = t.length := mkB_size t
        have htl : t.length ≤ 100000 := by
          have e1 := ba_size n
          have e2 := ba_size v
          omega
        have hac : acc.length ≤ 100000000000 := by
          have : i ≤ 8 := by omega
          omega
        have HJ : Hid (sb ++ mkB t = mkB (acc ++ t)) := Lib.hid (by rw [← HSB.out]; exact mkB_app acc t)
        have u1 : ¬ 9223372036854775807 < acc.length + t.length := by omega
        clear hpsz hpf hpr hnm hnx hpz
        generalize mkB t = tb at *
        go_wp2_with fail
        refine k4.mono ?_
        rintro e w3 ⟨rfl, hb⟩
        have HB3 := Lib.hid (HB.out.trans ((HB2.out.trans (hb.mono HB2.out.size)).mono hws))
        clear hb k4
        go_wp2
        go_roundw
        case rel => exact ⟨i + 1, acc ++ t, by omega, by go_num, by rw [HJ.out], by rw [List.length_append]; omega, HE, HB3⟩
        case measure => simp [intOf]; omega
    · have hE : o = .ok (acc ++ [13, 10]) := by
        rw [HQ.out, List.drop_eq_nil_of_le (by omega)]
        rfl
      have g3 : ¬ 9223372036854775807 < (mkB acc).size + (⟨#[13, 10]⟩ : ByteArray).size := by have : (⟨#[13, 10]⟩ : ByteArray).size = 2 := rfl; omega
      have g4 : ¬ 9223372036854775807 < acc.length + 2 := by omega
      have HF : Hid (mkB acc ++ (⟨#[13, 10]⟩ : ByteArray) = mkB (acc ++ [13, 10])) := Lib.hid (mkB_app acc [13, 10])
      have HE := Lib.hid hE
      clear hE
      generalize mkB acc = sb at *
      go_wp2
      go_ret2
      rw [HE.out]
      exact ⟨by rw [HF.out]; rfl, HB.out⟩
end Go.Proofs.YtmabhbihgenmcaaGreatDoor
namespace Go.Proofs.YtmabhbihgenmcaaGreatDoor
open Go.RowKit Wb
set_option maxRecDepth 100000 in
set_option maxHeartbeats 4000000 in
theorem rchoose_any (A : Option Addr) (L : List PtV) (c ch : Nat) (w : World) (hS : SlP w A L) (hl : L.length ≤ 60) (hz : ∀ x ∈ L, PartZ x) (hch : ChoseN (ptsOf L) ch) :
    Calls Tryz.prog 12 #[.slice A L.length c] w fun e w' => e = .returned (.string (mkB (wbM ch))) ∧ Below w.heap.size w w' := by
  have HS := Lib.hid hS
  have HZ := Lib.hid hz
  have HC := Lib.hid hch
  clear hS hz hch
  go_enter Tryz.func12, Tryz.ntmps12
  go_wp2
  go_loopw [3] (fun v3 wr => ∃ k : Nat, 1 ≤ k ∧ k ≤ ch ∧ v3 = .int .i64 k ∧ Hid (Below w.heap.size w wr)) (fun v3 _ => ch - (intOf v3).toNat)
  case atStart => exact ⟨1, by omega, HC.out.1, rfl, Lib.hid (Below.refl _ _)⟩
  case round =>
    obtain ⟨k, hk1, hkc, rfl, HB⟩ := hrel
    have h6 := HC.out.2.1
    have k1 := fun (v : World) => rdigits_any k v (by omega)
    have hjoin : (⟨#[119, 98]⟩ : ByteArray) ++ mkB (digs k) = mkB (wbM k) := mkB_app [119, 98] (digs k)
    have hdl := digs_le k 6 (by omega)
    have hds : (mkB (digs k)).size = (digs k).length := mkB_size _
    have hwl := wbM_len (n := k) (by omega)
    have hms : (mkB (wbM k)).size = (wbM k).length := mkB_size _
    have k2 := fun (v : World) (hv : Below w.heap.size w v) => rclashes_any (mkB (wbM k)) A L c v (by omega) (HS.out.below hv) hl HZ.out
    rw [mkB_list] at k2
    have g5 : ¬ 9223372036854775807 < (⟨#[119, 98]⟩ : ByteArray).size + (mkB (digs k)).size := by have : (⟨#[119, 98]⟩ : ByteArray).size = 2 := rfl; omega
    have hwl2 : (mkB (wbM k)).size ≤ 8 := by omega
    clear hdl hds hwl hms
    by_cases hlt : k < ch
    · rw [HC.out.2.2.2 k hk1 hlt] at k2
      generalize mkB (digs k) = db at *
      generalize mkB (wbM k) = bb at *
      have k3 := k1 wr
      go_wp2_with fail
      refine k3.mono ?_
      rintro e w1 ⟨rfl, hb⟩
      have HB1 := Lib.hid (HB.out.trans (hb.mono HB.out.size))
      have k4 := k2 w1 HB1.out
      clear hb k1 k2 k3
      go_wp2_with fail
      refine k4.mono ?_
      rintro e w2 ⟨rfl, hb⟩
      have HB2 := Lib.hid (HB1.out.trans (hb.mono HB1.out.size))
      clear hb k4
      go_wp2
      go_roundw
      case rel => exact ⟨k + 1, by omega, by omega, by go_num, HB2⟩
      case measure => simp [intOf]; omega
    · obtain rfl : k = ch := by omega
      rw [HC.out.2.2.1] at k2
      have HJ := Lib.hid hjoin
      obtain ⟨bb, hbb⟩ : ∃ bb, mkB (wbM k) = bb := ⟨_, rfl⟩
      rw [hbb] at k2 hjoin hwl2
      have HBB := Lib.hid hbb
      clear hbb
      generalize mkB (digs k) = db at *
      have k3 := k1 wr
      go_wp2_with fail
      refine k3.mono ?_
      rintro e w1 ⟨rfl, hb⟩
      have HB1 := Lib.hid (HB.out.trans (hb.mono HB.out.size))
      have k4 := k2 w1 HB1.out
      clear hb k2 k3
      go_wp2_with fail
      refine k4.mono ?_
      rintro e w2 ⟨rfl, hb⟩
      have HB2 := Lib.hid (HB1.out.trans (hb.mono HB1.out.size))
      have k5 := k1 w2
      clear hb k4 k1
      go_wp2_with fail
      refine k5.mono ?_
      rintro e w3 ⟨rfl, hb⟩
      have HB3 := Lib.hid (HB2.out.trans (hb.mono HB2.out.size))
      clear hb k5
      go_wp2
      go_ret
      exact ⟨by rw [HBB.out]; rfl, HB3.out⟩
def PartY (x : PtV) : Prop := x.2.2.size ≤ 20000 ∧ x.2.1.length + tot7 x.2.1 ≤ 5000
theorem PartY.z {x : PtV} (h : PartY x) : PartZ x := by
  obtain ⟨h1, h2⟩ := h
  exact ⟨h1, by omega, by omega⟩
set_option maxRecDepth 100000 in
set_option maxHeartbeats 8000000 in
theorem rPrint8_any (b : ByteArray) (A : Option Addr) (L : List PtV) (c : Nat) (w : World) (hb : b.size ≤ 100000) (hS : SlP w A L) (hl : L.length ≤ 60) (hz : ∀ x ∈ L, PartY x) :
    Calls Tryz.prog 10 #[.string b, .slice A L.length c] w fun e w' => StrOut (printM b.data.toList (ptsOf L)) e ∧ Below w.heap.size w w' := by
  obtain ⟨o, ho⟩ : ∃ o, printM b.data.toList (ptsOf L) = o := ⟨_, rfl⟩
  rw [ho]
  unfold printM at ho
  have hpl : (ptsOf L).length = L.length := List.length_map ..
  rw [hpl] at ho
  have HS := Lib.hid hS
  have HZ := Lib.hid hz
  have HO := Lib.hid ho
  have h1 := rmay_any b w (by omega)
  have h2 := fun (v : World) (hv : Below w.heap.size w v) => rclashes_any b A L c v (by omega) (HS.out.below hv) hl (fun x hx => (HZ.out x hx).z)
  clear hpl hS hz ho
  cases hbf : bndF b.data.toList
  · have HE : Hid (o = .error 30) := Lib.hid (by rw [← HO.out, if_pos (.inl hbf)])
    rw [hbf] at h1
    clear hbf HO h2
    go_enter Tryz.func10, Tryz.ntmps10
    go_wp2_with fail
    refine h1.mono ?_
    rintro e w2 ⟨rfl, hb2⟩
    have HB2 := Lib.hid hb2
    clear hb2 h1
    go_wp2
    go_ret2
    rw [HE.out]
    exact ⟨rfl, HB2.out⟩
  rw [hbf] at h1
  cases hcl : clashL b.data.toList (ptsOf L)
  case true =>
    have HE : Hid (o = .error 30) := Lib.hid (by rw [← HO.out, if_pos (.inr hcl)])
    rw [hcl] at h2
    clear hbf HO hcl
    go_enter Tryz.func10, Tryz.ntmps10
    go_wp2_with fail
    refine h1.mono ?_
    rintro e w2 ⟨rfl, hb2⟩
    have HB2 := Lib.hid hb2
    have h3 := h2 w2 hb2
    clear hb2 h1 h2
    go_wp2_with fail
    refine h3.mono ?_
    rintro e w3 ⟨rfl, hb3⟩
    have HB3 := Lib.hid (HB2.out.trans (hb3.mono HB2.out.size))
    clear hb3 h3
    go_wp2
    go_ret2
    rw [HE.out]
    exact ⟨rfl, HB3.out⟩
  rw [hcl] at h2
  have ho := HO.out
  rw [if_neg (by rw [hbf, hcl]; simp)] at ho
  have HO := Lib.hid ho
  clear hbf hcl ho
  go_enter Tryz.func10, Tryz.ntmps10
  go_wp2_with fail
  refine h1.mono ?_
  rintro e w2 ⟨rfl, hb2⟩
  have HB2 := Lib.hid hb2
  have h3 := h2 w2 hb2
  clear hb2 h1 h2
  go_wp2_with fail
  refine h3.mono ?_
  rintro e w3 ⟨rfl, hb3⟩
  have HB3 := Lib.hid (HB2.out.trans (hb3.mono HB2.out.size))
  clear hb3 h3
  by_cases h40 : 40 < L.length
  · have HE : Hid (o = .error 3) := Lib.hid (by rw [← HO.out, if_pos h40])
    go_wp2
    go_ret2
    rw [HE.out]
    exact ⟨rfl, HB3.out⟩
  by_cases h0 : L.length = 0
  · have HE : Hid (o = .error 2) := Lib.hid (by rw [← HO.out, if_neg h40, if_pos h0])
    have hz0 : ((L.length : Int) == 0) = true := by rw [beq_iff_eq]; omega
    go_wp2
    go_ret2
    rw [HE.out]
    exact ⟨rfl, HB3.out⟩
  have hz0 : ((L.length : Int) == 0) = false := by rw [beq_eq_false_iff_ne]; omega
  have HQ0 : Hid (o = partsM b.data.toList (ptsOf L)) := Lib.hid (by rw [← HO.out, if_neg h40, if_neg h0])
  clear HO
  go_wp2
  go_loopw [6, 7] (fun v6 v7 wr => ∃ (i : Nat) (acc : List UInt8), i ≤ L.length ∧ v7 = .int .i64 i ∧ v6 = .string (mkB acc) ∧ acc.length ≤ i * 1000000 ∧ Hid (o = preE acc (partsM b.data.toList (ptsOf (L.drop i)))) ∧ Hid (Below w.heap.size w wr)) (fun _ v7 _ => L.length - (intOf v7).toNat)
  case atStart => exact ⟨0, [], by omega, rfl, rfl, by simp, Lib.hid (by rw [preE_nil, List.drop_zero]; exact HQ0.out), HB3⟩
  case round =>
    obtain ⟨i, acc, hi, rfl, rfl, hacc, HQ, HB⟩ := hrel
    have hms : (mkB acc).size = acc.length := mkB_size acc
    have hml := Lib.hid (mkB_list acc)
    obtain ⟨sb, hsb⟩ : ∃ sb, mkB acc = sb := ⟨_, rfl⟩
    rw [hsb] at hms hml
    have HSB := Lib.hid hsb
    rw [hsb]
    clear hsb
    obtain ⟨y1, hy1⟩ : ∃ k, sb ++ (⟨#[45, 45]⟩ : ByteArray) = k := ⟨_, rfl⟩
    obtain ⟨y2, hy2⟩ : ∃ k, y1 ++ b = k := ⟨_, rfl⟩
    have z1 : y1.size = sb.size + 2 := by rw [← hy1, ByteArray.size_append]; rfl
    have z2 : y2.size = y1.size + b.size := by rw [← hy2, ByteArray.size_append]
    have l2 : y2.data.toList = acc ++ delB b.data.toList := by
      rw [← hy2, ByteArray.data_append, Array.toList_append, ← hy1, ByteArray.data_append, Array.toList_append, hml.out]
      simp [delB]
    have u1 : ¬ 9223372036854775807 < sb.size + (⟨#[45, 45]⟩ : ByteArray).size := by have : (⟨#[45, 45]⟩ : ByteArray).size = 2 := rfl; omega
    have u2 : ¬ 9223372036854775807 < y1.size + b.size := by omega
    have L2 := Lib.hid l2
    have hws := HB.out.size
    clear l2
    by_cases hi0 : i < L.length
    · obtain ⟨⟨⟨x1, x3⟩, ⟨fs, body⟩⟩, hx⟩ : ∃ x, L[i]? = some x := ⟨L[i], List.getElem?_eq_getElem hi0⟩
      obtain ⟨zb, zt⟩ := HZ.out _ (List.mem_of_getElem? hx)
      obtain ⟨ad, rfl, had, d0, d1, hfs⟩ := (HS.out.below HB.out).at_ hx
      have hst := HQ.out
      rw [partsM_at hx] at hst
      simp only at zb zt d0 d1 hfs hst
      have k1 := rPrint_any x1 fs x3 wr hfs (by omega) (fun f hf => by have := tot7_mem hf; omega)
      have hbk : (ad.add (i * 2)).block < wr.heap.size := by rw [add_block]; exact had
      clear hx hfs had
      cases hpx : printX fs with
      | error k =>
        rw [hpx] at hst k1
        have HE : Hid (o = .error k) := Lib.hid hst
        have hk := printX_err hpx
        clear hst hpx
        rcases hk with rfl | rfl | rfl
        all_goals
          go_wp2_with fail
          refine k1.mono ?_
          rintro e w6 ⟨he, hb6⟩
          obtain rfl : e = _ := he
          have HW6 := Lib.hid (HB.out.trans (hb6.mono hws))
          clear hb6 k1
          go_wp2
          go_ret2
          rw [HE.out]
          exact ⟨rfl, HW6.out⟩
      | ok h =>
        rw [hpx] at hst k1
        have hsz := printX_size hpx
        have k1 : Calls Tryz.prog 26 #[.slice x1 fs.length x3] wr fun e w' => e = .returned (.tuple #[.string (mkB h), .int .i64 0]) ∧ Below wr.heap.size wr w' := k1
        simp only at hst
        rw [preE_app] at hst
        have HST := Lib.hid hst
        have hmh : (mkB h).size = h.length := mkB_size h
        have hmhl := Lib.hid (mkB_list h)
        obtain ⟨y3, hy3⟩ : ∃ k, y2 ++ (⟨#[13, 10]⟩ : ByteArray) = k := ⟨_, rfl⟩
        obtain ⟨y4, hy4⟩ : ∃ k, y3 ++ mkB h = k := ⟨_, rfl⟩
        obtain ⟨y5, hy5⟩ : ∃ k, y4 ++ body = k := ⟨_, rfl⟩
        obtain ⟨y6, hy6⟩ : ∃ k, y5 ++ (⟨#[13, 10]⟩ : ByteArray) = k := ⟨_, rfl⟩
        have z3 : y3.size = y2.size + 2 := by rw [← hy3, ByteArray.size_append]; rfl
        have z4 : y4.size = y3.size + h.length := by rw [← hy4, ByteArray.size_append, hmh]
        have z5 : y5.size = y4.size + body.size := by rw [← hy5, ByteArray.size_append]
        have l6 : y6.data.toList = acc ++ (delB b.data.toList ++ 13 :: 10 :: (h ++ (body.data.toList ++ [13, 10]))) := by
          rw [← hy6, ByteArray.data_append, Array.toList_append, ← hy5, ByteArray.data_append, Array.toList_append, ← hy4, ByteArray.data_append, Array.toList_append, ← hy3, ByteArray.data_append, Array.toList_append, L2.out, hmhl.out]
          simp
        have HL6 : Hid (y6 = mkB (acc ++ (delB b.data.toList ++ 13 :: 10 :: (h ++ (body.data.toList ++ [13, 10]))))) := Lib.hid (eq_of_lists (by rw [l6, mkB_list]))
        have u3 : ¬ 9223372036854775807 < y2.size + (⟨#[13, 10]⟩ : ByteArray).size := by have : (⟨#[13, 10]⟩ : ByteArray).size = 2 := rfl; omega
        have u4 : ¬ 9223372036854775807 < y3.size + (mkB h).size := by omega
        have u5 : ¬ 9223372036854775807 < y4.size + body.size := by omega
        have u6 : ¬ 9223372036854775807 < y5.size + (⟨#[13, 10]⟩ : ByteArray).size := by have : (⟨#[13, 10]⟩ : ByteArray).size = 2 := rfl; omega
        have HZL : Hid ((acc ++ (delB b.data.toList ++ 13 :: 10 :: (h ++ (body.data.toList ++ [13, 10])))).length ≤ (i + 1) * 1000000) := Lib.hid (by
          have e1 := ba_size b
          have e2 := ba_size body
          rw [List.length_append, List.length_append, delB_len]
          simp only [List.length_cons, List.length_append, List.length_nil]
          omega)
        clear hst hpx l6
        generalize mkB h = hB at *
        go_wp2_with fail
        refine k1.mono ?_
        rintro e w6 ⟨rfl, hb6⟩
        have HW6 := Lib.hid (HB.out.trans (hb6.mono hws))
        have c1 : w6.cell? ⟨(ad.add (i * 2)).block, (ad.add (i * 2)).off + 1, none⟩ = some (.string body) := (hb6.cell (p := ⟨(ad.add (i * 2)).block, (ad.add (i * 2)).off + 1, none⟩) hbk).trans d1
        clear hb6 k1 d0 d1
        go_wp2
        go_roundw
        case rel => exact ⟨i + 1, _, by omega, by go_num, by rw [HL6.out], HZL.out, HST, HW6⟩
        case measure => simp [intOf]; omega
    · obtain rfl : i = L.length := by omega
      have HE : Hid (o = .ok (acc ++ (delB b.data.toList ++ [45, 45, 13, 10]))) := Lib.hid (by rw [HQ.out, partsM_end]; rfl)
      obtain ⟨y3, hy3⟩ : ∃ k, y2 ++ (⟨#[45, 45, 13, 10]⟩ : ByteArray) = k := ⟨_, rfl⟩
      have l3 : y3.data.toList = acc ++ (delB b.data.toList ++ [45, 45, 13, 10]) := by
        rw [← hy3, ByteArray.data_append, Array.toList_append, L2.out]
        simp
      have HL3 : Hid (y3 = mkB (acc ++ (delB b.data.toList ++ [45, 45, 13, 10]))) := Lib.hid (eq_of_lists (by rw [l3, mkB_list]))
      have u3 : ¬ 9223372036854775807 < y2.size + (⟨#[45, 45, 13, 10]⟩ : ByteArray).size := by have : (⟨#[45, 45, 13, 10]⟩ : ByteArray).size = 4 := rfl; omega
      clear l3
      go_wp2
      go_ret2
      rw [HE.out]
      refine ⟨?_, HB.out⟩
      show _ = Ending.returned (.tuple #[.string (mkB (acc ++ (delB b.data.toList ++ [45, 45, 13, 10]))), .int .i64 0])
      rw [← HL3.out]
      rfl
end Go.Proofs.YtmabhbihgenmcaaGreatDoor
namespace Go.Proofs.YtmabhbihgenmcaaGreatDoor
open Go.RowKit Wb
theorem StrOut.same (o : Except Int (List UInt8)) : ∃ (S : ByteArray) (k : Int), ∀ e, StrOut o e → e = .returned (.tuple #[.string S, .int .i64 k]) := by
  cases o with
  | ok s => exact ⟨_, _, fun e h => h⟩
  | error k => exact ⟨_, _, fun e h => h⟩
theorem own_slice {w : World} {base n : Nat} {e : TypeId} {sz : Nat} {v : Value} {xs : List Value} (h : w.ownsRow base e sz v n xs) : ∃ B d, v = .slice B n d := by
  rcases h.2 with ⟨rfl, hn⟩ | ⟨g, cap, cur, rfl, _⟩
  · exact ⟨none, 0, by rw [hn]⟩
  · exact ⟨_, _, rfl⟩
end Go.Proofs.YtmabhbihgenmcaaGreatDoor
