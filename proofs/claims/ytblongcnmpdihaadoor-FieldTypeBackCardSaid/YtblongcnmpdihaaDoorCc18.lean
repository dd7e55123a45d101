/- FgB FgC. -/
import Derived.Deep.RegionLaw
import Derived.Test.YtblongcnmpdihaaDoorCc17
namespace Wb
open Go
def printTQ (t : List UInt8) (l : List (List UInt8 × List UInt8)) : Except Int (List UInt8) :=
  if typeF t = false then .error 31 else if (l.any fun p => !tokenF p.1) = true then .error 12 else if (l.any fun p => !plainF p.2) = true then .error 4 else .ok (t ++ l.flatMap printPm)
theorem printPs_flat : ∀ l : List (List UInt8 × List UInt8), (l.any fun p => !tokenF p.1) = false → (l.any fun p => !plainF p.2) = false → printPs l = .ok (l.flatMap printPm)
  | [], _, _ => rfl
  | p :: l, h1, h2 => by
    rw [List.any_cons, Bool.or_eq_false_iff] at h1 h2
    have ih := printPs_flat l h1.2 h2.2
    rw [printPs, if_neg (by simpa using h1.1), if_neg (by simpa using h2.1), ih]
    rfl
theorem printTQ_ok {t : List UInt8} {l : List (List UInt8 × List UInt8)} {s : List UInt8} (h : printTQ t l = .ok s) : printT t l = .ok s := by
  unfold printTQ at h
  split at h
  · cases h
  rename_i h0
  split at h
  · cases h
  rename_i h1
  split at h
  · cases h
  rename_i h2
  unfold printT
  rw [if_neg h0, printPs_flat l (by simpa using h1) (by simpa using h2)]
  exact h
theorem printTQ_err {t : List UInt8} {l : List (List UInt8 × List UInt8)} {k : Int} (h : printTQ t l = .error k) : k = 31 ∨ k = 12 ∨ k = 4 := by
  unfold printTQ at h
  split at h
  · injection h with h; exact .inl h.symm
  split at h
  · injection h with h; exact .inr (.inl h.symm)
  split at h
  · injection h with h; exact .inr (.inr h.symm)
  · cases h
theorem any_ofPr (l : List Pr) (p : List UInt8 × List UInt8 → Bool) : (l.map ofPr).any p = l.any fun x => p (ofPr x) := by rw [List.any_map]; rfl
theorem pm_len (x : Pr) (h1 : x.1.size ≤ 100000000) (h2 : x.2.size ≤ 100000000) : (printPm (ofPr x)).length ≤ 400000000 := by
  unfold printPm
  have := quote_len (ofPr x).2
  rw [List.length_cons, List.length_cons, List.length_append, List.length_cons]
  have e1 : (ofPr x).1.length = x.1.size := (ba_size x.1).symm
  have e2 : (ofPr x).2.length = x.2.size := (ba_size x.2).symm
  omega
theorem flatP_take {l : List Pr} {i : Nat} {x : Pr} (h : l[i]? = some x) : ((l.take (i + 1)).map ofPr).flatMap printPm = ((l.take i).map ofPr).flatMap printPm ++ printPm (ofPr x) := by
  rw [List.take_add_one, h]
  simp
theorem pm_mk (n : ByteArray) (q : List UInt8) : (((⟨#[59, 32]⟩ : ByteArray) ++ n) ++ (⟨#[61]⟩ : ByteArray)) ++ mkB q = mkB (59 :: 32 :: (n.data.toList ++ 61 :: q)) := by
  have e1 : (⟨#[59, 32]⟩ : ByteArray) ++ n = mkB ([59, 32] ++ n.data.toList) := mkB_app [59, 32] n.data.toList
  have e2 : mkB ([59, 32] ++ n.data.toList) ++ (⟨#[61]⟩ : ByteArray) = mkB ([59, 32] ++ n.data.toList ++ [61]) := mkB_app _ [61]
  rw [e1, e2, mkB_app]
  congr 1
  simp
end Wb
namespace Go.Proofs.YtblongcnmpdihaaDoor
open Go.RowKit Wb
set_option maxRecDepth 100000 in
set_option maxHeartbeats 16000000 in
theorem printType_any (t : ByteArray) (A : Option Addr) (l : List Pr) (c : Nat) (w : World) (hA : Sl2 w A l) (ht : t.size ≤ 100000000) (hl : l.length ≤ 100000) (hsz : ∀ x ∈ l, x.1.size ≤ 100000000 ∧ x.2.size ≤ 100000000) (hG : GvF w) :
    Calls Tryd.prog 18 #[.string t, .slice A l.length c] w fun e w' => StrOut (printTQ t.data.toList (l.map ofPr)) e ∧ Below w.heap.size w w' := by
  have h1 := cutType_any t w (by omega)
  obtain ⟨o, ho⟩ : ∃ o, printTQ t.data.toList (l.map ofPr) = o := ⟨_, rfl⟩
  rw [ho]
  unfold printTQ at ho
  rw [any_ofPr, any_ofPr, type_way, ← typQ_list, ← typR_L, ← empty_list] at ho
  have HA := Lib.hid hA
  have HG := Lib.hid hG
  have HSZ := Lib.hid hsz
  have h2 := fun (v : World) (hv : Sl2 v A l) => contP_any _ _ _ A l c v hv (by omega) (ptok_tells l v (fun x hx => by have := hsz x hx; omega))
  have h3 := fun (v : World) (hv : Sl2 v A l) => contP_any _ _ _ A l c v hv (by omega) (ptxt_tells l v (fun x hx => by have := hsz x hx; omega))
  have ef1 : (fun x : Pr => !tokenF (ofPr x).1) = fun x => !tokenF x.1.data.toList := rfl
  have ef2 : (fun x : Pr => !plainF (ofPr x).2) = fun x => !plainF x.2.data.toList := rfl
  rw [ef1, ef2] at ho
  clear hA hG hsz ef1 ef2
  generalize (l.any fun x => !tokenF x.1.data.toList) = b3 at *
  generalize (l.any fun x => !plainF x.2.data.toList) = b4 at *
  generalize typA t = ta at *
  generalize typQ t = b1 at *
  cases b1
  · rw [if_pos (by rfl)] at ho
    have HO := Lib.hid ho
    clear ho h2 h3
    go_enter Tryd.func18, Tryd.ntmps18
    go_wp2_with fail
    refine h1.mono ?_
    rintro e w1 ⟨rfl, hb⟩
    have HB1 := Lib.hid hb
    clear hb h1
    go_wp2
    go_ret2
    rw [← HO.out]
    exact ⟨rfl, HB1.out⟩
  cases hb2 : (typR t).toList.isEmpty
  · rw [hb2, if_pos (by rfl)] at ho
    have HO := Lib.hid ho
    clear ho h2 h3
    generalize typR t = tr at *
    go_enter Tryd.func18, Tryd.ntmps18
    go_wp2_with fail
    refine h1.mono ?_
    rintro e w1 ⟨rfl, hb⟩
    have HB1 := Lib.hid hb
    clear hb h1
    go_wp2
    go_ret2
    rw [← HO.out]
    exact ⟨rfl, HB1.out⟩
  rw [hb2, if_neg (by simp)] at ho
  generalize typR t = tr at *
  cases b3
  case true =>
    rw [if_pos rfl] at ho
    have HO := Lib.hid ho
    clear ho h3
    go_enter Tryd.func18, Tryd.ntmps18
    go_wp2_with fail
    refine h1.mono ?_
    rintro e w1 ⟨rfl, hb⟩
    have HB1 := Lib.hid hb
    have k2 := h2 w1 (HA.out.below hb)
    clear hb h1 h2
    go_wp2_with fail
    refine k2.mono ?_
    rintro e w2 ⟨rfl, hb⟩
    have HB2 := Lib.hid (HB1.out.trans (hb.mono HB1.out.size))
    clear hb k2
    go_wp2
    go_ret2
    rw [← HO.out]
    exact ⟨rfl, HB2.out⟩
  rw [if_neg (by simp)] at ho
  cases b4
  case true =>
    rw [if_pos rfl] at ho
    have HO := Lib.hid ho
    clear ho
    go_enter Tryd.func18, Tryd.ntmps18
    go_wp2_with fail
    refine h1.mono ?_
    rintro e w1 ⟨rfl, hb⟩
    have HB1 := Lib.hid hb
    have k2 := h2 w1 (HA.out.below hb)
    clear hb h1 h2
    go_wp2_with fail
    refine k2.mono ?_
    rintro e w2 ⟨rfl, hb⟩
    have HB2 := Lib.hid (HB1.out.trans (hb.mono HB1.out.size))
    have k3 := h3 w2 (HA.out.below HB2.out)
    clear hb k2 h3
    go_wp2_with fail
    refine k3.mono ?_
    rintro e w3 ⟨rfl, hb⟩
    have HB3 := Lib.hid (HB2.out.trans (hb.mono HB2.out.size))
    clear hb k3
    go_wp2
    go_ret2
    rw [← HO.out]
    exact ⟨rfl, HB3.out⟩
  rw [if_neg (by simp)] at ho
  have HO := Lib.hid ho
  clear ho
  go_enter Tryd.func18, Tryd.ntmps18
  go_wp2_with fail
  refine h1.mono ?_
  rintro e w1 ⟨rfl, hb⟩
  have HB1 := Lib.hid hb
  have k2 := h2 w1 (HA.out.below hb)
  clear hb h1 h2
  go_wp2_with fail
  refine k2.mono ?_
  rintro e w2 ⟨rfl, hb⟩
  have HB2 := Lib.hid (HB1.out.trans (hb.mono HB1.out.size))
  have k3 := h3 w2 (HA.out.below HB2.out)
  clear hb k2 h3
  go_wp2_with fail
  refine k3.mono ?_
  rintro e w3 ⟨rfl, hb⟩
  have HB3 := Lib.hid (HB2.out.trans (hb.mono HB2.out.size))
  have hba := (Below.refl w3.heap.size w3).alloc (Nat.le_refl _) (.cells #[.pointer none, .slice none 0 0] 54)
  have hz3 := HB3.out.size
  have k4 := qtwrite_any w3.heap.size w3.heap.size (Lib.byteCells []) t _ (Lib.fresh_isBuilder 54 5 w3) (by rw [Lib.byteCells_length]; simp; omega) hba.size
  have HBA := Lib.hid hba
  clear hb k3 hba
  go_wp2_with fail
  refine k4.mono ?_
  rintro e w4 ⟨⟨vv, rfl⟩, hB4, hb4, _⟩
  have HW4 := Lib.hid (HBA.out.trans hb4)
  rw [Lib.strCells_eq, ← Lib.byteCells_append, List.nil_append] at hB4
  have HB4 := Lib.hid hB4
  have FIN := Lib.hid (fun (v : World) (hv : Below w3.heap.size w3 v) => HB3.out.trans (hv.mono hz3))
  clear k4 hB4 hb4 HBA
  go_wp2
  go_loopw [32] (fun vi wr => ∃ i : Nat, i ≤ l.length ∧ vi = .int .i64 i ∧ Hid ((t.data.toList ++ ((l.take i).map ofPr).flatMap printPm).length ≤ t.size + i * 400000000) ∧ Hid (Lib.IsBuilder 54 5 w3.heap.size w3.heap.size (Lib.byteCells (t.data.toList ++ ((l.take i).map ofPr).flatMap printPm)) wr) ∧ Hid (Below w3.heap.size w3 wr)) (fun vi _ => l.length - (intOf vi).toNat)
  case atStart => exact ⟨0, by omega, rfl, Lib.hid (by simp), Lib.hid (by have := HB4.out; simpa using this), HW4⟩
  case round =>
    obtain ⟨i, hi, rfl, HL, HB, HW⟩ := hrel
    have hws := HW.out.size
    by_cases h0 : i < l.length
    · obtain ⟨⟨n, v⟩, hx⟩ : ∃ x, l[i]? = some x := ⟨l[i], List.getElem?_eq_getElem h0⟩
      obtain ⟨ad, rfl, had, d0, d1⟩ := (HA.out.below (FIN.out _ HW.out)).at_ hx
      obtain ⟨hzn, hzv⟩ := HSZ.out _ (List.mem_of_getElem? hx)
      simp only at hzn hzv
      have hft := flatP_take hx
      have hpl := pm_len (n, v) hzn hzv
      have hba := (Below.refl wr.heap.size wr).alloc (Nat.le_refl _) (.cells #[.string n, .string v] 45)
      have hXX := heap_alloc_new wr (.cells #[.string n, .string v] 45)
      have hsz : (wr.alloc (.cells #[.string n, .string v] 45)).heap.size = wr.heap.size + 1 := by simp
      have HWA := Lib.hid (HW.out.trans (hba.mono hws))
      have HBA := Lib.hid (isb_below' HB.out hba)
      have HXX := Lib.hid hXX
      have hq := quote_len v.data.toList
      have hqs := mkB_size (quoteF v.data.toList)
      have hvs : v.data.toList.length = v.size := (ba_size v).symm
      have g1 : ¬ 9223372036854775807 < (⟨#[59, 32]⟩ : ByteArray).size + n.size := by have : (⟨#[59, 32]⟩ : ByteArray).size = 2 := rfl; omega
      have hz1 : ((⟨#[59, 32]⟩ : ByteArray) ++ n).size = 2 + n.size := by rw [ByteArray.size_append]; rfl
      have g2 : ¬ 9223372036854775807 < ((⟨#[59, 32]⟩ : ByteArray) ++ n).size + (⟨#[61]⟩ : ByteArray).size := by have : (⟨#[61]⟩ : ByteArray).size = 1 := rfl; omega
      have hz2 : (((⟨#[59, 32]⟩ : ByteArray) ++ n) ++ (⟨#[61]⟩ : ByteArray)).size = 3 + n.size := by rw [ByteArray.size_append, hz1]; have : (⟨#[61]⟩ : ByteArray).size = 1 := rfl; omega
      have g3 : ¬ 9223372036854775807 < (((⟨#[59, 32]⟩ : ByteArray) ++ n) ++ (⟨#[61]⟩ : ByteArray)).size + (mkB (quoteF v.data.toList)).size := by omega
      have g4 : ¬ 9223372036854775807 < 2 + n.size := by omega
      have g5 : ¬ 9223372036854775807 < 2 + n.size + 1 := by omega
      have g6 : ¬ 9223372036854775807 < 2 + n.size + 1 + (mkB (quoteF v.data.toList)).size := by omega
      have g7 : ¬ 9223372036854775807 < 3 + n.size + (mkB (quoteF v.data.toList)).size := by omega
      have hpm := pm_mk n (quoteF v.data.toList)
      have hpe : (59 :: 32 :: (n.data.toList ++ 61 :: quoteF v.data.toList)) = printPm (ofPr (n, v)) := rfl
      rw [hpe] at hpm
      have hqa := fun (u : World) (hu : Below w3.heap.size w3 u) => quoted_any v u hzv (HG.out.next (FIN.out _ hu))
      generalize mkB (quoteF v.data.toList) = qb at *
      have HPM := Lib.hid hpm
      have HQA := Lib.hid hqa
      have HFT := Lib.hid hft
      have HPL := Lib.hid hpl
      generalize hze : wr.alloc (.cells #[.string n, .string v] 45) = wz at *
      have HZE := Lib.hid hze
      clear hze
      have HSV := Lib.hid (fun (u : World) (h : Below wz.heap.size wz u ∨ KeepT wz u) => (show u.cell? ⟨wr.heap.size, 0, none⟩ = some (.string n) ∧ u.cell? ⟨wr.heap.size, 1, none⟩ = some (.string v) from by
        have e : u.heap[wr.heap.size]? = some (Obj.cells #[.string n, .string v] 45) := by
          rcases h with h | h
          · rw [h.block _ (by omega)]; exact HXX.out
          · rw [h _ _ _ _ (by decide) (by decide) HXX.out]; exact HXX.out
        exact ⟨blk_cell e 0, blk_cell e 1⟩))
      have hwz : w3.heap.size ≤ wz.heap.size := HWA.out.size
      clear hx hft hpl hba hXX had hq hqs hvs hpe hpm hqa
      go_wp2_with fail
      rw [HZE.out]
      (try simp only [List.append])
      refine wp_region_held_drew (S := (fun u => u.cell? ⟨wr.heap.size, 0, none⟩ = some (.string n) ∧ u.cell? ⟨wr.heap.size, 1, none⟩ = some (.string v))) (by kernel_rfl) (HSV.out _ (.inl (Below.refl _ wz).drew)) (fun hHeld => ?_)
      refine takeW 0 ?_
      refine takeW 1 ?_
      refine takeW 2 ?_
      refine takeW 3 ?_
      (try simp only [Act.put, List.setIfInBounds_toArray, List.set_cons_zero, List.set_cons_succ])
      refine takeW 4 ?_
      refine takeW 5 ?_
      (try simp only [Act.put, List.setIfInBounds_toArray, List.set_cons_zero, List.set_cons_succ])
      refine wpAnyH_ready (rs := [6]) (by kernel_rfl) (by simp) ?_
      refine AllReadyH.cons rfl (fun K2 hK2 => ?_) AllReadyH.nil
      go_simp
      refine (HQA.out _ HWA.out.drew).mono ?_
      rintro e w6 ⟨rfl, hb6⟩
      have HB6 : Hid (Below wz.heap.size wz w6) := Lib.hid ((Below.refl _ wz).drew.trans hb6)
      clear hb6
      refine hK2.out _ _ (HSV.out _ (.inl HB6.out)) (fun hHeld2 => ?_)
      refine takeW 7 ?_
      (try simp only [Act.put, List.setIfInBounds_toArray, List.set_cons_zero, List.set_cons_succ])
      refine wpAnyH_ready (rs := [8]) (by kernel_rfl) (by simp) ?_
      refine AllReadyH.cons rfl (fun K2 hK2 => ?_) AllReadyH.nil
      go_simp
      refine (qtwrite_any w3.heap.size w3.heap.size _ _ w6 (isb_below' HBA.out HB6.out) (by rw [Lib.byteCells_length, HPM.out, mkB_size]; have := HL.out; have := HPL.out; omega) (HWA.out.trans (HB6.out.mono hwz)).size).mono ?_
      rintro e w8 ⟨⟨vv8, rfl⟩, hB8, hb8, ht8⟩
      have HW8 : Hid (Below w3.heap.size w3 w8) := Lib.hid ((HWA.out.trans (HB6.out.mono hwz)).trans hb8)
      rw [HPM.out, Lib.strCells_eq, ← Lib.byteCells_append, mkB_list] at hB8
      have HB8 := Lib.hid hB8
      have HS8 := Lib.hid (HSV.out w8 (.inr ((KeepT.of_below HB6.out).trans ht8)))
      clear hb8 hB8 ht8
      refine hK2.out _ _ HS8.out (fun hHeld2 => ?_)
      (try simp only [Act.put, List.setIfInBounds_toArray, List.set_cons_zero, List.set_cons_succ])
      refine wpAnyH_done (by kernel_rfl) ?_ _
      go_wp2
      go_roundw
      case rel =>
        refine ⟨i + 1, by omega, by go_num, Lib.hid ?_, Lib.hid ?_, HW8⟩
        · rw [HFT.out, ← List.append_assoc, List.length_append]
          have := HL.out
          have := HPL.out
          omega
        · rw [HFT.out, ← List.append_assoc]
          exact HB8.out
      case measure => simp [intOf]; omega
    · obtain rfl : i = l.length := by omega
      rw [List.take_length] at HB
      have k5 := Tryd.Builder_String_any w3.heap.size w3.heap.size _ wr HB.out hws
      have HOO := Lib.hid HO.out
      go_wp2_with fail
      refine k5.mono ?_
      rintro e w5 ⟨rfl, hb5⟩
      have HW5 := Lib.hid (HW.out.trans hb5)
      clear hb5 k5
      go_wp2
      go_ret2
      rw [← HO.out]
      exact ⟨rfl, FIN.out _ HW5.out⟩
end Go.Proofs.YtblongcnmpdihaaDoor
namespace Wb
theorem low_eqB (a b : ByteArray) : decide (lowB a = lowB b) = decide (lowF a.data.toList = lowF b.data.toList) := by
  have e : lowB a = lowB b ↔ lowF a.data.toList = lowF b.data.toList := by
    constructor
    · intro h
      have := congrArg (fun x : ByteArray => x.data.toList) h
      simpa [lowB] using this
    · intro h
      unfold lowB
      rw [h]
  by_cases h : lowB a = lowB b
  · rw [decide_eq_true h, decide_eq_true (e.1 h)]
  · rw [decide_eq_false h, decide_eq_false (fun x => h (e.2 x))]
theorem find_low (l : List Pr) (nm : ByteArray) : getF (l.map ofPr) nm.data.toList = (l.find? fun x => decide (lowB x.1 = lowB nm)).map fun x => x.2.data.toList := by
  rw [getF_find, List.find?_map]
  have : ((fun p : List UInt8 × List UInt8 => decide (lowF p.1 = lowF nm.data.toList)) ∘ ofPr) = fun x : Pr => decide (lowB x.1 = lowB nm) := by
    funext x
    rw [low_eqB]
    rfl
  rw [this]
  cases l.find? fun x => decide (lowB x.1 = lowB nm) <;> rfl
end Wb
namespace Go.Proofs.YtblongcnmpdihaaDoor
open Go.RowKit Wb
def GotOut (o : Option (List UInt8)) (e : Ending) : Prop :=
  match o with
  | some s => e = .returned (.tuple #[.string (mkB s), .bool true])
  | none => e = .returned (.tuple #[.string ⟨#[]⟩, .bool false])
set_option maxRecDepth 100000 in
set_option maxHeartbeats 4000000 in
theorem pget_tells (l : List Pr) (nm : ByteArray) (b : Nat) (W : World) (hz : ∀ x ∈ l, x.1.size ≤ 900000000) (hb : b < W.heap.size) (hc : W.cell? ⟨b, 0, none⟩ = some (.string nm)) :
    TellsP 48 #[.pointer (some ⟨b, 0, none⟩)] (fun x => decide (lowB x.1 = nm)) l W := ⟨enters_of Tryd.func48 (by kernel_rfl) rfl, fun x v hx hv => by
  have hb0 := (Below.refl v.heap.size v).alloc (Nat.le_refl _) (.cells #[.string x.1, .string x.2] 45)
  have hXX := heap_alloc_new v (.cells #[.string x.1, .string x.2] 45)
  have hsz : (v.alloc (.cells #[.string x.1, .string x.2] 45)).heap.size = v.heap.size + 1 := by simp
  have h1 := fun u => small_any x.1 u (by have := hz x hx; omega)
  show Calls Tryd.prog 48 #[.agg #[.string x.1, .string x.2], .pointer (some ⟨b, 0, none⟩)] v _
  have HB := Lib.hid hb0
  have hcv := (hv.cell (p := ⟨b, 0, none⟩) hb).trans hc
  have hbv : b < v.heap.size := by have := hv.size; omega
  simp only
  generalize hze : v.alloc (.cells #[.string x.1, .string x.2] 45) = wz at *
  have HZE := Lib.hid hze
  have HSV := Lib.hid (fun (u : World) (h : Below wz.heap.size wz u) => (show u.cell? ⟨v.heap.size, 0, none⟩ = some (.string x.1) ∧ u.cell? ⟨b, 0, none⟩ = some (.string nm) from
    ⟨blk_cell ((h.block _ (by omega)).trans hXX) 0, (h.cell (p := ⟨b, 0, none⟩) (by show b < _; omega)).trans ((hb0.cell (p := ⟨b, 0, none⟩) hbv).trans hcv)⟩))
  obtain ⟨q, hq⟩ : ∃ q, decide (lowB x.1 = nm) = q := ⟨_, rfl⟩
  have hqc : (lowB x.1 = nm ∧ q = true) ∨ (lowB x.1 ≠ nm ∧ q = false) := by
    by_cases h : lowB x.1 = nm
    · exact .inl ⟨h, by rw [← hq, decide_eq_true h]⟩
    · exact .inr ⟨h, by rw [← hq, decide_eq_false h]⟩
  have hbe : ∀ x y : ByteArray, x ≠ y → (x.toList == y.toList) = false := fun x y h => by
    rw [beq_eq_false_iff_ne]
    intro e
    rw [Lib.toList_data, Lib.toList_data] at e
    exact h (by cases x; cases y; simp only at e; rw [Array.toList_inj.1 e])
  rw [hq]
  have H1 := Lib.hid h1
  have HZ0 : Hid (v.heap.size ≤ wz.heap.size) := Lib.hid (by omega)
  clear hb0 hx hze hXX h1 hc hcv hz hv hsz
  generalize lowB x.1 = lo at *
  rcases hqc with ⟨rfl, rfl⟩ | ⟨hne, rfl⟩
  case' inl => have hne := (beq_self_eq_true lo.toList)
  case' inr => replace hne := hbe _ _ hne
  all_goals clear hbe
  all_goals
    go_enter Tryd.func48, Tryd.ntmps48
    go_wp2_with fail
    rw [HZE.out]
    (try simp only [List.append])
    refine wp_region_held_drew (S := (fun u => u.cell? ⟨v.heap.size, 0, none⟩ = some (.string x.1) ∧ u.cell? ⟨b, 0, none⟩ = some (.string _))) (by kernel_rfl) (HSV.out _ (Below.refl _ wz).drew) (fun hHeld => ?_)
    refine takeW 0 ?_
    refine takeW 1 ?_
    refine takeW 3 ?_
    (try simp only [Act.put, List.setIfInBounds_toArray, List.set_cons_zero, List.set_cons_succ])
    refine wpAnyH_ready (rs := [2]) (by kernel_rfl) (by simp) ?_
    refine AllReadyH.cons rfl (fun K2 hK2 => ?_) AllReadyH.nil
    go_simp
    refine (H1.out _).mono ?_
    rintro e w6 ⟨rfl, hb6⟩
    have HB6 : Hid (Below wz.heap.size wz w6) := Lib.hid ((Below.refl _ wz).drew.trans hb6)
    clear hb6
    refine hK2.out _ _ (HSV.out _ HB6.out) (fun hHeld2 => ?_)
    refine takeW 4 ?_
    (try simp only [Act.put, List.setIfInBounds_toArray, List.set_cons_zero, List.set_cons_succ])
    refine takeW 5 ?_
    (try simp only [Act.put, List.setIfInBounds_toArray, List.set_cons_zero, List.set_cons_succ])
    refine wpAnyH_done (by kernel_rfl) ?_ _
    go_wp2
    go_ret
    refine ⟨?_, HB.out.trans (HB6.out.mono HZ0.out)⟩
    first
    | rfl
    | (rw [hne]; rfl)
    | simp [hne]⟩
set_option maxRecDepth 100000 in
set_option maxHeartbeats 4000000 in
theorem paramOf_any (A : Option Addr) (l : List Pr) (c : Nat) (nm : ByteArray) (w : World) (hA : Sl2 w A l) (hl : l.length ≤ 100000) (hn : nm.size ≤ 900000000) (hz : ∀ x ∈ l, x.1.size ≤ 900000000) :
    Calls Tryd.prog 21 #[.slice A l.length c, .string nm] w fun e w' => GotOut (getF (l.map ofPr) nm.data.toList) e ∧ Below w.heap.size w w' := by
  have h1 := fun u => small_any nm u (by omega)
  rw [find_low]
  have h2 := fun (b : Nat) (u : World) (hA2 : Sl2 u A l) (hb : b < u.heap.size) (hc : u.cell? ⟨b, 0, none⟩ = some (.string (lowB nm))) => idxPm_any _ _ _ A l c u hA2 (by omega) (pget_tells l (lowB nm) b u hz hb hc)
  have hfi := idxG_find (fun x : Pr => decide (lowB x.1 = lowB nm)) l
  have hb0 := (Below.refl w.heap.size w).alloc (Nat.le_refl _) (.cells #[.string nm] 9)
  generalize idxG (fun x : Pr => decide (lowB x.1 = lowB nm)) l = n at *
  generalize (l.find? fun x => decide (lowB x.1 = lowB nm)) = o at *
  generalize lowB nm = lo at *
  have HA := Lib.hid hA
  have HB := Lib.hid hb0
  clear hb0 hA
  go_enter Tryd.func21, Tryd.ntmps21
  go_wp2_with fail
  refine (h1 _).mono ?_
  rintro e w1 ⟨rfl, hb⟩
  have hX := heap_alloc_new w (.cells #[.string nm] 9)
  have hsz : (w.alloc (.cells #[.string nm] 9)).heap.size = w.heap.size + 1 := by simp
  have hX1 := (hb.block w.heap.size (by omega)).trans hX
  have hcl : w1.cell? ⟨w.heap.size, 0, none⟩ = some (.string nm) := blk_cell hX1 0
  have hfr := blk_free hX1 0
  have hX2 := blk_set hX1 0 (.string lo)
  have hk2 : Below w.heap.size w (w1.setCell ⟨w.heap.size, 0, none⟩ (.string lo)) := (HB.out.trans (hb.mono HB.out.size)).setCell (p := ⟨w.heap.size, 0, none⟩) (Nat.le_refl _) _
  have hs2 : w.heap.size < (w1.setCell ⟨w.heap.size, 0, none⟩ (.string lo)).heap.size := by
    have h0 := hb.size
    have h1 : w1.heap.size ≤ (w1.setCell ⟨w.heap.size, 0, none⟩ (.string lo)).heap.size := by simp [World.setCell]
    omega
  generalize hze : w1.setCell ⟨w.heap.size, 0, none⟩ (.string lo) = w2 at *
  have k2 := h2 w.heap.size w2 (HA.out.below hk2) hs2 (by simpa using blk_cell hX2 0)
  have HZE := Lib.hid hze
  have HK2 := Lib.hid hk2
  clear hze hk2 hb hX hX1 hX2 h1 h2
  rcases hfi with ⟨rfl, rfl⟩ | ⟨i, x, rfl, hx, rfl⟩
  · go_wp2_with fail
    rw [HZE.out]
    refine k2.mono ?_
    rintro e w3 ⟨rfl, hb⟩
    have HB3 := Lib.hid (HK2.out.trans (hb.mono HK2.out.size))
    clear hb k2
    go_wp2
    go_ret2
    exact ⟨rfl, HB3.out⟩
  · go_wp2_with fail
    rw [HZE.out]
    refine k2.mono ?_
    rintro e w3 ⟨rfl, hb⟩
    have HB3 := Lib.hid (HK2.out.trans (hb.mono HK2.out.size))
    obtain ⟨x1, x2⟩ := x
    have hil := (List.getElem?_eq_some_iff.1 hx).1
    obtain ⟨ad, rfl, had, d0, d1⟩ := (HA.out.below HB3.out).at_ hx
    clear hb k2 hx
    go_wp2
    go_ret2
    exact ⟨rfl, HB3.out⟩
end Go.Proofs.YtblongcnmpdihaaDoor
