/- FhD FhE. -/
import Derived.Test.YtblongcnmpdihaaDoorCd19
namespace Wb
open Go
theorem printFs_next {l : List Pr} {i : Nat} {x : Pr} (h : l[i]? = some x) : printFs ((l.drop i).map ofPr) = if namedF x.1.data.toList = false then .error 12 else if printableF x.2.data.toList = false then .error 4 else match printF (x.1.data.toList, x.2.data.toList) with
    | none => .error 3
    | some t => preE t (printFs ((l.drop (i + 1)).map ofPr)) := by
  obtain ⟨hi, e⟩ := List.getElem?_eq_some_iff.1 h
  rw [List.drop_eq_getElem_cons hi, e, List.map_cons, printFs]
  show (if namedF x.1.data.toList = false then _ else _) = _
  split
  · rfl
  · show (if printableF x.2.data.toList = false then _ else _) = _
    split
    · rfl
    · show (match printF (x.1.data.toList, x.2.data.toList) with | none => _ | some t => _) = _
      cases printF (x.1.data.toList, x.2.data.toList) with
      | none => rfl
      | some t => simp only; cases printFs ((l.drop (i + 1)).map ofPr) <;> rfl
end Wb
namespace Go.Proofs.YtblongcnmpdihaaDoor
open Go.RowKit Wb
set_option maxRecDepth 100000 in
set_option maxHeartbeats 8000000 in
theorem rPrint_any (A : Option Addr) (l : List Pr) (c : Nat) (w : World) (hA : Sl2 w A l) (hl : l.length ≤ 100000) (hsz : ∀ x ∈ l, x.1.size ≤ 5000 ∧ x.2.size ≤ 5000) :
    Calls Tryd.prog 10 #[.slice A l.length c] w fun e w' => StrOut (printX l) e ∧ Below w.heap.size w w' := by
  obtain ⟨o, ho⟩ : ∃ o, printX l = o := ⟨_, rfl⟩
  rw [ho]
  have HA := Lib.hid hA
  clear hA
  unfold printX at ho
  by_cases h8 : 8 < l.length
  · rw [if_pos h8] at ho
    have HO := Lib.hid ho
    clear ho
    go_enter Tryd.func10, Tryd.ntmps10
    go_wp2
    go_ret2
    rw [← HO.out]
    exact ⟨rfl, Below.refl _ _⟩
  rw [if_neg h8] at ho
  have HO := Lib.hid ho
  clear ho
  go_enter Tryd.func10, Tryd.ntmps10
  go_wp2
  go_loopw [4, 5] (fun v4 v5 wr => ∃ (i : Nat) (acc : List UInt8), i ≤ l.length ∧ v5 = .int .i64 i ∧ v4 = .string (mkB acc) ∧ acc.length ≤ i * 1000000 ∧ Hid (o = preE acc (printFs ((l.drop i).map ofPr))) ∧ Hid (Below w.heap.size w wr)) (fun _ v5 _ => l.length - (intOf v5).toNat)
  case atStart => exact ⟨0, [], by omega, rfl, rfl, by simp, Lib.hid (by rw [preE_nil, List.drop_zero]; exact HO.out.symm), Lib.hid (Below.refl _ _)⟩
  case round =>
    obtain ⟨i, acc, hi, rfl, rfl, hacc, HQ, HB⟩ := hrel
    have hms : (mkB acc).size = acc.length := mkB_size acc
    have hws := HB.out.size
    by_cases h0 : i < l.length
    · obtain ⟨⟨n, v⟩, hx⟩ : ∃ x, l[i]? = some x := ⟨l[i], List.getElem?_eq_getElem h0⟩
      have hnx := printFs_next hx
      simp only at hnx
      obtain ⟨hzn, hzv⟩ := hsz _ (List.mem_of_getElem? hx)
      simp only at hzn hzv
      have k1 := rnamed_any n wr (by omega)
      have k2 := fun (u : World) => rprintable_any v u (by omega)
      obtain ⟨ad, rfl, had, d0, d1⟩ := (HA.out.below HB.out).at_ hx
      have hbk : (ad.add (i * 2)).block < wr.heap.size := by rw [add_block]; exact had
      have HSV := Lib.hid (fun (u : World) (h : Below wr.heap.size wr u) => (show u.cell? (ad.add (i * 2)) = some (.string n) ∧ u.cell? ⟨(ad.add (i * 2)).block, (ad.add (i * 2)).off + 1, none⟩ = some (.string v) from ⟨(h.cell hbk).trans d0, (h.cell (p := ⟨(ad.add (i * 2)).block, (ad.add (i * 2)).off + 1, none⟩) hbk).trans d1⟩))
      have hi0 : (0 : Int) ≤ (i : Int) := by omega
      have hi1 : (i : Int) < (l.length : Int) := by omega
      obtain ⟨sb, hsb⟩ : ∃ sb, mkB acc = sb := ⟨_, rfl⟩
      rw [hsb] at hms
      have HSB := Lib.hid hsb
      rw [hsb]
      clear hx had d1 hbk hsb
      cases hnm : namedF n.data.toList
      · rw [hnm] at k1
        have HE : Hid (o = .error 12) := Lib.hid (by rw [HQ.out, hnx, if_pos hnm]; rfl)
        clear hnm hnx k2
        go_wp2_with fail
        refine k1.mono ?_
        rintro e w1 ⟨rfl, hb⟩
        have HB1 := Lib.hid (HB.out.trans (hb.mono hws))
        clear hb k1
        go_wp2
        go_ret2
        rw [HE.out]
        exact ⟨rfl, HB1.out⟩
      rw [hnm] at k1
      rw [if_neg (by rw [hnm]; simp)] at hnx
      have HNM := Lib.hid (named_facts _ hnm).2.1
      go_wp2_with fail
      refine k1.mono ?_
      rintro e w1 ⟨rfl, hb⟩
      have HB1 := Lib.hid hb
      have k3 := k2 w1
      obtain ⟨e0, e1⟩ := HSV.out _ hb
      clear hb k1 k2 d0
      cases hpr : printableF v.data.toList
      · rw [hpr] at k3
        have HE : Hid (o = .error 4) := Lib.hid (by rw [HQ.out, hnx, if_pos hpr]; rfl)
        clear hpr hnx hnm
        go_wp2_with fail
        refine k3.mono ?_
        rintro e w2 ⟨rfl, hb⟩
        have HB2 := Lib.hid (HB.out.trans ((HB1.out.trans (hb.mono HB1.out.size)).mono hws))
        clear hb k3
        go_wp2
        go_ret2
        rw [HE.out]
        exact ⟨rfl, HB2.out⟩
      rw [hpr] at k3
      rw [if_neg (by rw [hpr]; simp)] at hnx
      go_wp2_with fail
      refine k3.mono ?_
      rintro e w2 ⟨rfl, hb⟩
      have HB2 := Lib.hid (HB1.out.trans (hb.mono HB1.out.size))
      have k4 := rprint_any n v w2 (by omega) (by omega) hpr
      obtain ⟨f0, f1⟩ := HSV.out _ HB2.out
      clear hb k3 e0 e1
      have hpsz := fun t (h : printF (n.data.toList, v.data.toList) = some t) => print_size _ _ t h hnm hpr
      cases hpf : printF (n.data.toList, v.data.toList) with
      | none =>
        rw [hpf] at k4 hnx
        have HE : Hid (o = .error 3) := Lib.hid (by rw [HQ.out, hnx]; rfl)
        have k4 : Calls Tryd.prog 27 #[.agg #[.string n, .string v]] w2 fun e w' => e = .returned (.tuple #[.string ⟨#[]⟩, .bool false]) ∧ Below w2.heap.size w2 w' := k4
        clear hpsz hpf hpr hnm hnx
        go_wp2_with fail
        refine k4.mono ?_
        rintro e w3 ⟨rfl, hb⟩
        have HB3 := Lib.hid (HB.out.trans ((HB2.out.trans (hb.mono HB2.out.size)).mono hws))
        clear hb k4
        go_wp2
        go_ret2
        rw [HE.out]
        exact ⟨rfl, HB3.out⟩
      | some t =>
        rw [hpf] at k4 hnx
        have hpz := hpsz t hpf
        have HE : Hid (o = preE (acc ++ t) (printFs ((l.drop (i + 1)).map ofPr))) := Lib.hid (by rw [HQ.out, hnx]; exact preE_app _ _ _)
        have k4 : Calls Tryd.prog 27 #[.agg #[.string n, .string v]] w2 fun e w' => e = .returned (.tuple #[.string (mkB t), .bool true]) ∧ Below w2.heap.size w2 w' := k4
        have hmt : (mkB t).size = t.length := mkB_size t
        have htl : t.length ≤ 100000 := by
          have e1 := ba_size n
          have e2 := ba_size v
          omega
        have hac : acc.length ≤ 100000000000 := by
          have : i ≤ 8 := by omega
          omega
        have HJ : Hid (sb ++ mkB t = mkB (acc ++ t)) := Lib.hid (by rw [← HSB.out]; exact mkB_app acc t)
        have u1 : ¬ 9223372036854775807 < acc.length + t.length := by omega
        clear hpsz hpf hpr hnm hnx hpz
        generalize mkB t = tb at *
        go_wp2_with fail
        refine k4.mono ?_
        rintro e w3 ⟨rfl, hb⟩
        have HB3 := Lib.hid (HB.out.trans ((HB2.out.trans (hb.mono HB2.out.size)).mono hws))
        clear hb k4
        go_wp2
        go_roundw
        case rel => exact ⟨i + 1, acc ++ t, by omega, by go_num, by rw [HJ.out], by rw [List.length_append]; omega, HE, HB3⟩
        case measure => simp [intOf]; omega
    · have hE : o = .ok (acc ++ [13, 10]) := by
        rw [HQ.out, List.drop_eq_nil_of_le (by omega)]
        rfl
      have g3 : ¬ 9223372036854775807 < (mkB acc).size + (⟨#[13, 10]⟩ : ByteArray).size := by have : (⟨#[13, 10]⟩ : ByteArray).size = 2 := rfl; omega
      have g4 : ¬ 9223372036854775807 < acc.length + 2 := by omega
      have HF : Hid (mkB acc ++ (⟨#[13, 10]⟩ : ByteArray) = mkB (acc ++ [13, 10])) := Lib.hid (mkB_app acc [13, 10])
      have HE := Lib.hid hE
      clear hE
      generalize mkB acc = sb at *
      go_wp2
      go_ret2
      rw [HE.out]
      exact ⟨by rw [HF.out]; rfl, HB.out⟩
end Go.Proofs.YtblongcnmpdihaaDoor
namespace Go.Proofs.YtblongcnmpdihaaDoor
open Go.RowKit Wb
theorem StrOut.same (o : Except Int (List UInt8)) : ∃ (S : ByteArray) (k : Int), ∀ e, StrOut o e → e = .returned (.tuple #[.string S, .int .i64 k]) := by
  cases o with
  | ok s => exact ⟨_, _, fun e h => h⟩
  | error k => exact ⟨_, _, fun e h => h⟩
theorem GotOut.same (o : Option (List UInt8)) : ∃ (S : ByteArray) (b : Bool), ∀ e, GotOut o e → e = .returned (.tuple #[.string S, .bool b]) := by
  cases o with
  | some s => exact ⟨_, _, fun e h => h⟩
  | none => exact ⟨_, _, fun e h => h⟩
theorem own_slice {w : World} {base n : Nat} {e : TypeId} {sz : Nat} {v : Value} {xs : List Value} (h : w.ownsRow base e sz v n xs) : ∃ B d, v = .slice B n d := by
  rcases h.2 with ⟨rfl, hn⟩ | ⟨g, cap, cur, rfl, _⟩
  · exact ⟨none, 0, by rw [hn]⟩
  · exact ⟨_, _, rfl⟩
set_option maxRecDepth 100000 in
set_option maxHeartbeats 8000000 in
theorem prints_walk (A : Option Addr) (l : List Pr) (c : Nat) (nm : ByteArray) (w : World) (hA : Sl2 w A l) (hG : GvF w) :
    Calls Tryd.prog 3 #[.slice A l.length c, .string nm] w fun e w' => e = .returned (.bool true) ∧ Below w.heap.size w w' := by
  have HG := Lib.hid hG
  have HA := Lib.hid hA
  clear hG hA
  go_enter Tryd.func3, Tryd.ntmps3
  go_wp2_with fail
  refine (awake7 w HG.out).mono ?_
  rintro e w1 ⟨rfl, hb⟩
  have HB1 := Lib.hid hb
  have hfew := few7_any A l c w1 (HA.out.below hb)
  clear hb
  go_wp2_with fail
  refine hfew.mono ?_
  rintro e w2 ⟨hb, b, rfl, hfb⟩
  have HB2 := Lib.hid (HB1.out.trans (hb.mono HB1.out.size))
  clear hb hfew
  cases b
  · clear hfb
    go_wp2
    go_ret
    exact ⟨rfl, HB2.out⟩
  have hfe := hfb rfl
  clear hfb
  by_cases hb2 : (5000 : Int) < nm.size
  · clear hfe
    go_wp2
    go_ret
    exact ⟨rfl, HB2.out⟩
  have hl5 : l.length < 5000 := by omega
  have hnm5 : nm.size ≤ 5000 := by omega
  have HSZ := Lib.hid (fun (x : Pr) (hx : x ∈ l) => (show x.1.size ≤ 5000 ∧ x.2.size ≤ 5000 from by have := tot7_mem hx; omega))
  clear hfe
  obtain ⟨i0, hi, hz0, hz1, hz2⟩ := info_parts field_info2
  have HOWN := Lib.hid (World.ownsRow_made (base := w2.heap.size) (e := 48) (size := 2) w2 #[] 0 (Nat.le_refl _) (Nat.zero_le _) (by simp))
  have HSL := Lib.hid (Sl.alloc (HA.out.below HB2.out) (.cells #[] 48))
  have HBA := Lib.hid ((Below.refl w2.heap.size w2).alloc (Nat.le_refl _) (.cells #[] 48))
  have hm1 : 0 + l.length ≤ maxLen := by unfold maxLen; omega
  have hm2 : (0 + l.length) * 32 ≤ 140737488355328 := by omega
  have hs : w2.heap.size ≤ (w2.alloc (.cells #[] 48)).heap.size := by simp
  obtain ⟨S, k, hS⟩ := StrOut.same (printX l)
  obtain ⟨V, q, hV⟩ := GotOut.same (getF (l.map ofPr) nm.data.toList)
  have HS := Lib.hid hS
  have HV := Lib.hid hV
  clear hS hV
  go_wp2_with (at_builtin; refine wpList_append_sl _ rfl (.tmp 24) (.tmp 25) _ rfl w2.heap.size 48 i0 _ 2 32 Tryd.underlying22 hi hz0 hz1 hz2 rfl (by omega) _ 0 [] rfl HOWN.out A l.length c (cells2 l) rfl HSL.out (cells2_one l) hm1 hm2 hs ?_)
  intro v5 w5 hown5 hg5 hat5
  have HB5 := Lib.hid (HBA.out.grown hg5 hs (fun k hk => by simp [Value.ownBlock] at hk; omega))
  have hown5 : w5.ownsRow w2.heap.size 48 2 v5 l.length (cells2 l) := by simpa using hown5
  obtain ⟨B, d, rfl⟩ := own_slice hown5
  have hSB := Sl2.of_own hown5
  have HW5 := Lib.hid (HB2.out.trans (HB5.out.mono HB2.out.size))
  have k1 := print_any B l d w5 hSB (by omega) (fun x hx => by have := HSZ.out x hx; omega) (HG.out.next HW5.out)
  clear hown5 hg5 hat5 HOWN HSL HBA hs hm1 hm2 hSB HB5
  go_wp2_with fail
  refine k1.mono ?_
  rintro e w6 ⟨he, hb⟩
  obtain rfl := HS.out _ he
  have HW6 := Lib.hid (HW5.out.trans (hb.mono HW5.out.size))
  have k2 := rPrint_any A l c w6 (HA.out.below HW6.out) (by omega) HSZ.out
  clear hb k1 he
  go_wp2_with fail
  refine k2.mono ?_
  rintro e w7 ⟨he, hb⟩
  obtain rfl := HS.out _ he
  have HW7 := Lib.hid (HW6.out.trans (hb.mono HW6.out.size))
  have k3 := getOf_any A l c nm w7 (HA.out.below HW7.out) (by omega) (by omega) (fun x hx => by have := HSZ.out x hx; omega)
  clear hb k2 he
  go_wp2_with fail
  refine k3.mono ?_
  rintro e w8 ⟨he, hb⟩
  obtain rfl := HV.out _ he
  have HW8 := Lib.hid (HW7.out.trans (hb.mono HW7.out.size))
  have k4 := rget_any A l c nm w8 (HA.out.below HW8.out) (by omega) (by omega) (fun x hx => by have := HSZ.out x hx; omega)
  clear hb k3 he
  go_wp2_with fail
  refine k4.mono ?_
  rintro e w9 ⟨he, hb⟩
  obtain rfl := HV.out _ he
  have HW9 := Lib.hid (HW8.out.trans (hb.mono HW8.out.size))
  have k5 := token_any nm w9 (by omega)
  have k6 := fun (u : World) => rtoken_any nm u (by omega)
  have q1 := beq_self_eq_true S.toList
  have q2 := beq_self_eq_true k
  have q3 := beq_self_eq_true V.toList
  have q4 := beq_self_eq_true q
  clear hb k4 he
  generalize tokenF nm.data.toList = tk at *
  have q5 := beq_self_eq_true tk
  go_wp2_with fail
  refine k5.mono ?_
  rintro e w10 ⟨rfl, hb⟩
  have HW10 := Lib.hid (HW9.out.trans (hb.mono HW9.out.size))
  have k7 := k6 w10
  clear hb k5 k6
  go_wp2_with fail
  refine k7.mono ?_
  rintro e w11 ⟨rfl, hb⟩
  have HW11 := Lib.hid (HW10.out.trans (hb.mono HW10.out.size))
  clear hb k7
  go_wp2
  go_ret
  refine ⟨?_, HW11.out⟩
  first
  | rfl
  | simp
end Go.Proofs.YtblongcnmpdihaaDoor
