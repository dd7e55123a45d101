/- QcB FfB FgA. -/
import Derived.Deep.RegionLaw
import Derived.Deep.Cut
import Derived.Test.YtmabhbihgenmcaaGreatDoorKd10
import Derived.Test.YtmabhbihgenmcaaGreatDoorKd12
import Derived.Test.YtmabhbihgenmcaaGreatDoorKd13
namespace Wb
open Go Go.RowKit
theorem skip_seq {y : Code} {P : Program} {Q : Exit → Act → World → Prop} {a : Act} {w : World} (h : y.wp P Q a w) : (Code.seq .skip y).wp P Q a w := wp_seq (wp_skip h)
theorem wp_scope_by {c : Code} {P : Program} {a : Act} {w : World} {Q : Exit → Act → World → Prop} (J : Nat → Nat → Act → World → Prop)
    (pass : ∀ l n a w, J l n a w → ∃ rest, findLabel c l = some (.seq .skip rest) ∧ rest.wp P (jumpsTo (fun l' a' w' => ∃ n', n' < n ∧ J l' n' a' w') Q) a w)
    (first : (∀ l n a w rest, J l n a w → findLabel c l = some (.seq .skip rest) → rest.wp P (jumpsTo (fun l' a' w' => ∃ n', J l' n' a' w') Q) a w) → c.wp P (jumpsTo (fun l a' w' => ∃ n, J l n a' w') Q) a w) : (Code.scope c).wp P Q a w := by
  refine wp_scope_ghost J (first ?_) (fun l n a w hJ => (pass l n a w hJ).elim fun rest h => ⟨_, h.1, skip_seq h.2⟩)
  intro l n a w rest hJ hf
  obtain ⟨rest', hf', hp⟩ := pass l n a w hJ
  obtain rfl : rest' = rest := by have := Option.some.inj (hf'.symm.trans hf); injection this
  exact jumpsTo_weaken (fun l a w ⟨n', _, h⟩ => ⟨n', h⟩) hp
def CutP (b : List UInt8) (s : ByteArray) (e : Ending) : Prop := ∃ r, NextIs b s.data.toList 0 r ∧ ((r = -1 ∧ e = .returned (.tuple #[.string ⟨#[]⟩, .string ⟨#[]⟩, .bool false])) ∨
  ∃ k : Nat, r = k ∧ k + (2 + b.length) ≤ s.size ∧ e = .returned (.tuple #[.string (s.extract 0 k), .string (s.extract (k + (2 + b.length)) s.size), .bool true]))
def CutF (s bb mk : ByteArray) (at_ : Nat) (a : Act) : Prop := ∃ (u2 u3 u4 u5 u6 u9 u10 u11 u12 u13 u14 u15 u16 u17 u18 u19 u20 u21 u22 u23 u24 u25 u26 u27 u28 u29 u30 u31 u32 u33 u34 u35 u36 u37 u38 u39 u40 u41 : Value), a = { tmps := #[.string s, .string bb, u2, u3, u4, u5, u6, .string mk, .int .i64 at_, u9, u10, u11, u12, u13, u14, u15, u16, u17, u18, u19, u20, u21, u22, u23, u24, u25, u26, u27, u28, u29, u30, u31, u32, u33, u34, u35, u36, u37, u38, u39, u40, u41], defers := [] }
def CutJ (s bb mk : ByteArray) (w0 : World) (l n : Nat) (a : Act) (w : World) : Prop := l = 0 ∧ ∃ at_ : Nat, CutF s bb mk at_ a ∧ n + at_ = s.size + 1 ∧ at_ ≤ s.size ∧ Hid (∀ i, i < at_ → dAt bb.data.toList s.data.toList i = false) ∧ Hid (RowKit.Below w0.heap.size w0 w)
end Wb
namespace Go.Proofs.YtmabhbihgenmcaaGreatDoor
open Go.RowKit Wb
theorem sindexG_any (s t : ByteArray) (w : World) (hs : s.size ≤ 1000000000) (hG : GvF w) :
    Calls Tryz.prog 53 #[.string s, .string t] w fun e w' => e = .returned (.int .i64 (Lib.index s.data.toList t.data.toList)) ∧ w' = w := by
  obtain ⟨⟨m, hm⟩, _⟩ := hG
  exact Tryz.strings_Index s t m w (by omega) hm
set_option maxRecDepth 100000 in
set_option maxHeartbeats 4000000 in
theorem pcut_any (s b : ByteArray) (w : World) (hs : s.size ≤ 1000000000) (hb : b.size ≤ 1000000000) (hG : GvF w) :
    Calls Tryz.prog 32 #[.string s, .string b] w fun e w' => CutP b.data.toList s e ∧ Below w.heap.size w w' := by
  have HG := Lib.hid hG
  clear hG
  have g1 : ¬ 9223372036854775807 < (⟨#[45, 45]⟩ : ByteArray).size + b.size := by have : (⟨#[45, 45]⟩ : ByteArray).size = 2 := rfl; omega
  obtain ⟨mk, hmk⟩ : ∃ mk, (⟨#[45, 45]⟩ : ByteArray) ++ b = mk := ⟨_, rfl⟩
  have hml : mk.data.toList = delB b.data.toList := by
    rw [← hmk, ByteArray.data_append, Array.toList_append]
    rfl
  have hms : mk.size = 2 + b.size := by rw [← hmk, ByteArray.size_append]; rfl
  have hbl : b.data.toList.length = b.size := (ba_size b).symm
  have HML := Lib.hid hml
  have HMK := Lib.hid hmk
  have HBL := Lib.hid hbl
  have HB0 := Lib.hid (Below.refl w.heap.size w)
  obtain ⟨w0, hw0⟩ : ∃ w0, w0 = w := ⟨w, rfl⟩
  rw [← hw0] at HB0
  have HW0 := Lib.hid hw0
  have HGV := Lib.hid (fun (w1 : World) (h : Below w0.heap.size w0 w1) => HG.out.next (by rw [← HW0.out]; exact h))
  clear hml hmk hbl
  go_enter Tryz.func32, Tryz.ntmps32
  go_wp2
  refine wp_scope_by (CutJ s b mk w0) ?_ ?_
  · rintro l n a w1 ⟨rfl, at_, ⟨u2, u3, u4, u5, u6, u9, u10, u11, u12, u13, u14, u15, u16, u17, u18, u19, u20, u21, u22, u23, u24, u25, u26, u27, u28, u29, u30, u31, u32, u33, u34, u35, u36, u37, u38, u39, u40, u41, rfl⟩, hn, ha, HD, HB⟩
    refine ⟨_, rfl, ?_⟩
    have hix := idx_step (b := b.data.toList) (s := s.data.toList) (a := at_) (by rw [← ba_size]; exact ha) HD.out
    have hk := sindexG_any (s.extract at_ s.size) mk w1 (by rw [ByteArray.size_extract]; omega) (HGV.out w1 HB.out)
    rw [show (s.extract at_ s.size).data.toList = s.data.toList.drop at_ from by rw [Lib.extract_from], HML.out] at hk
    rcases hix with ⟨hi, hN⟩ | ⟨n1, hi, hn1, hp, hD2⟩
    · rw [hi] at hk
      have HN := Lib.hid hN
      clear hi hN
      go_wp2_with fail
      refine hk.mono ?_
      rintro e w2 ⟨rfl, rfl⟩
      clear hk
      go_wp2
      rw [jumpsTo_ret]
      go_ret3
      exact ⟨⟨-1, HN.out, .inl ⟨rfl, rfl⟩⟩, by rw [← HW0.out]; exact HB.out⟩
    · rw [hi] at hk
      have hn2 : at_ + n1 + (2 + b.size) ≤ s.size := by have h := HBL.out; have h2 := ba_size s; omega
      have hda := dAt_suf (b := b.data.toList) (s := s.data.toList) (k := at_ + n1) (by have h2 := ba_size s; omega) hp
      have HD2 := Lib.hid hD2
      have hsf := fun (w : World) => Tryz.strings_HasSuffix (s.extract 0 (at_ + n1)) ⟨#[13, 10]⟩ w (by rw [ByteArray.size_extract]; omega)
      rw [show (s.extract 0 (at_ + n1)).data.toList = s.data.toList.take (at_ + n1) from by rw [Lib.extract_upto], show (⟨#[13, 10]⟩ : ByteArray).data.toList = [13, 10] from rfl] at hsf
      have ha2 : at_ + n1 ≤ s.size := by omega
      clear hn1
      have hmi : (at_ : Int) + (n1 : Int) = ((at_ + n1 : Nat) : Int) := by omega
      have hn1m : at_ ≤ at_ + n1 := by omega
      clear hi hD2 hp
      generalize at_ + n1 = m at *
      have hm0 : (0 : Int) ≤ (m : Int) := by omega
      have hm1 : (m : Int) ≤ (s.size : Int) := by omega
      have hm2 : (m : Int) + (mk.size : Int) ≤ (s.size : Int) := by omega
      have hm3 : (0 : Int) ≤ (m : Int) + (mk.size : Int) := by omega
      have hend : dAt b.data.toList s.data.toList m = true → ∀ w3, Below w0.heap.size w0 w3 → (CutP b.data.toList s (.returned (.tuple #[.string (s.extract 0 m), .string (s.extract (m + (2 + b.size)) s.size), .bool true])) ∧ Below w.heap.size w w3) := fun hd w3 hb => by
        refine ⟨⟨m, .inr ⟨m, rfl, Nat.zero_le _, hd, fun i _ hi => HD2.out i hi⟩, .inr ⟨m, rfl, ?_, ?_⟩⟩, by rw [← HW0.out]; exact hb⟩
        · rw [HBL.out]; exact hn2
        · rw [HBL.out]
      have HEND := Lib.hid hend
      clear hend
      by_cases h0 : m = 0
      · rw [decide_eq_true h0, Bool.true_or] at hda
        have HE0 := Lib.hid (fun (w3 : World) (hb : Below w0.heap.size w0 w3) => (show CutP b.data.toList s (.returned (.tuple #[.string ByteArray.empty, .string (s.extract (2 + b.size) s.size), .bool true])) ∧ Below w.heap.size w w3 from by
          have h := HEND.out hda w3 hb
          rw [h0, Nat.zero_add, show s.extract 0 0 = ByteArray.empty from eq_of_lists (by rw [Lib.extract_data]; rfl)] at h
          exact h))
        have hmz : (m : Int) = 0 := by omega
        clear hda hsf h0
        go_wp2_with fail
        refine hk.mono ?_
        rintro e w2 ⟨rfl, rfl⟩
        clear hk
        go_wp2
        go_region
        go_wp2
        rw [jumpsTo_ret]
        go_ret3
        exact HE0.out _ HB.out.drew
      · rw [decide_eq_false h0, Bool.false_or] at hda
        have hmz : ¬ (m : Int) ≤ 0 := by omega
        have hmz2 : (0 : Int) < (m : Int) := by omega
        cases hq : Lib.hasSuffix (s.data.toList.take m) [13, 10]
        · rw [hq] at hsf hda
          have HDA := Lib.hid hda
          clear hda hq
          go_wp2_with fail
          refine hk.mono ?_
          rintro e w2 ⟨rfl, rfl⟩
          clear hk
          have hsf2 := hsf w2
          clear hsf
          go_wp2_with fail
          refine hsf2.mono ?_
          rintro e w3 ⟨rfl, rfl⟩
          clear hsf2
          go_wp2
          go_step3
          exact ⟨s.size - m, by omega, rfl, m + 1, ⟨_, _, _, _, _, _, _, _, _, _, _, _, _, _, _, _, _, _, _, _, _, _, _, _, _, _, _, _, _, _, _, _, _, _, _, _, _, _, rfl⟩, by omega, by omega, Lib.hid (fun i hi => by
            by_cases hm : i = m
            · rw [hm]; exact HDA.out
            · exact HD2.out i (by omega)), HB⟩
        · rw [hq] at hsf hda
          have HDA := Lib.hid hda
          clear hda hq
          go_wp2_with fail
          refine hk.mono ?_
          rintro e w2 ⟨rfl, rfl⟩
          clear hk
          have hsf2 := hsf w2
          clear hsf
          go_wp2_with fail
          refine hsf2.mono ?_
          rintro e w3 ⟨rfl, rfl⟩
          clear hsf2
          go_wp2
          go_region
          go_wp2
          rw [jumpsTo_ret]
          go_ret3
          exact HEND.out HDA.out _ HB.out.drew
  · intro here
    go_upto_region 2 with fail
    rename_i hK
    apply wp_label
    refine hK _ _ ?_
    rw [HMK.out]
    exact here 0 (s.size + 1) _ _ _ ⟨rfl, 0, ⟨_, _, _, _, _, _, _, _, _, _, _, _, _, _, _, _, _, _, _, _, _, _, _, _, _, _, _, _, _, _, _, _, _, _, _, _, _, _, rfl⟩, by omega, by omega, Lib.hid (fun i hi => by omega), by rw [← HW0.out]; exact HB0⟩ rfl
end Go.Proofs.YtmabhbihgenmcaaGreatDoor
namespace Wb
open Go
theorem sizeF_tot (l : List Pr) : sizeF (l.map ofPr) = tot7 l + l.length := by
  induction l with
  | nil => rfl
  | cons x l ih =>
    rw [List.map_cons, sizeF, ih]
    unfold tot7
    rw [List.map_cons, List.sum_cons, List.length_cons]
    show x.1.data.toList.length + x.2.data.toList.length + 1 + _ = _
    rw [← ba_size, ← ba_size]
    omega
theorem printX_ok {l : List Pr} {s : List UInt8} (h : printX l = .ok s) : l.length ≤ 8 ∧ printFs (l.map ofPr) = .ok s := by
  unfold printX at h
  split at h
  · cases h
  · exact ⟨by omega, h⟩
end Wb
namespace Go.Proofs.YtmabhbihgenmcaaGreatDoor
open Go.RowKit Wb
set_option maxHeartbeats 1000000 in
theorem fields_same (A B : Option Addr) (l : List Pr) (c d : Nat) (w : World) (hl : l.length ≤ 1000000) (hA : Sl2 w A l) (hB : Sl2 w B l) :
    Calls Tryz.prog 39 #[.slice A l.length c, .slice B l.length d] w fun e w' => e = .returned (.bool true) ∧ Below w.heap.size w w' := by
  go_enter Tryz.func39, Tryz.ntmps39
  go_wp2
  go_loopw [5] (fun i wr => ∃ k : Nat, k ≤ l.length ∧ i = .int .i64 k ∧ Below w.heap.size w wr) (fun i _ => ((l.length : Int) - intOf i).toNat)
  case atStart => exact ⟨0, by omega, rfl, Below.refl _ _⟩
  case round =>
    obtain ⟨k, hk, rfl, hb⟩ := hrel
    by_cases h0 : k < l.length
    · obtain ⟨⟨x1, x2⟩, he⟩ : ∃ x, l[k]? = some x := ⟨l[k], List.getElem?_eq_getElem (by omega)⟩
      obtain ⟨ad, rfl, _, c1, c2⟩ := (hA.below hb).at_ he
      obtain ⟨bd, rfl, _, d1, d2⟩ := (hB.below hb).at_ he
      clear he
      go_wp2
      go_region
      go_wp2
      go_roundw
      case rel => exact ⟨k + 1, by omega, by go_num, hb.drew⟩
      case measure => simp [intOf]; omega
    · go_wp2
      go_ret
      exact ⟨rfl, hb⟩
end Go.Proofs.YtmabhbihgenmcaaGreatDoor
namespace Go.Proofs.YtmabhbihgenmcaaGreatDoor
open Go.RowKit Wb
def TellsP (fid : FuncId) (caps : Array Value) (p : Pr → Bool) (l : List Pr) (W : World) : Prop :=
  (∀ args w, (callFunc fid args).run Tryz.prog w = .ok (.enter fid args) w) ∧
  ∀ (x : Pr) (v : World), x ∈ l → Below W.heap.size W v → Calls Tryz.prog fid (#[.agg #[.string x.1, .string x.2]] ++ caps) v fun e v' => e = .returned (.bool (p x)) ∧ Below v.heap.size v v'
set_option maxRecDepth 100000 in
set_option maxHeartbeats 2000000 in
theorem idxFl_any (p : Pr → Bool) (fid : FuncId) (caps : Array Value) (A : Option Addr) (l : List Pr) (c : Nat) (w : World) (hA : Sl2 w A l) (hl : l.length ≤ 1000000001) (hT : TellsP fid caps p l w) :
    Calls Tryz.prog 72 #[.slice A l.length c, .func (.func fid) #[] caps] w fun e w' => e = .returned (.int .i64 (idxG p l)) ∧ Below w.heap.size w w' := by
  have hE := hT.1
  have HT2 := Lib.hid hT.2
  obtain ⟨R, hR⟩ : ∃ R, idxG p l = R := ⟨_, rfl⟩
  rw [hR]
  have HR := Lib.hid hR
  have HA := Lib.hid hA
  clear hR hA hT
  go_enter Tryz.func72, Tryz.ntmps72
  go_wp2
  go_loopw [8] (fun vi wr => ∃ i : Nat, i ≤ l.length ∧ vi = .int .i64 i ∧ Hid (R = if idxG p (l.drop i) < 0 then -1 else idxG p (l.drop i) + i) ∧ Hid (Below w.heap.size w wr)) (fun vi _ => ((l.length : Int) - intOf vi).toNat)
  case atStart => exact ⟨0, by omega, rfl, Lib.hid (by
    rw [List.drop_zero, HR.out]
    have := idxG_ge p l
    rw [HR.out] at this
    split <;> omega), Lib.hid (Below.refl _ _)⟩
  case round =>
    obtain ⟨i, hi, rfl, HQ, HB⟩ := hrel
    by_cases h0 : i < l.length
    · obtain ⟨⟨x1, x2⟩, ha⟩ : ∃ a, l[i]? = some a := ⟨l[i], List.getElem?_eq_getElem h0⟩
      obtain ⟨ad, rfl, had, d0, d1⟩ := (HA.out.below HB.out).at_ ha
      have hc := HT2.out (x1, x2) wr (List.mem_of_getElem? ha) HB.out
      cases hq : p (x1, x2)
      · rw [hq] at hc
        have HST : Hid (R = if (if idxG p (l.drop (i + 1)) < 0 then -1 else idxG p (l.drop (i + 1)) + 1) < 0 then -1 else (if idxG p (l.drop (i + 1)) < 0 then -1 else idxG p (l.drop (i + 1)) + 1) + i) := Lib.hid (by
          have hx0 : idxG p (l.drop i) = if idxG p (l.drop (i + 1)) < 0 then -1 else idxG p (l.drop (i + 1)) + 1 := by rw [idxG_drop ha, if_neg (by rw [hq]; simp)]
          rw [HQ.out, hx0])
        clear hq ha
        go_wp2_with (go_at_fn fid; refine hc.mono ?_; rintro e w3 ⟨rfl, hb3⟩)
        have HB3 := Lib.hid (HB.out.trans (hb3.mono HB.out.size))
        clear hb3 hc
        go_wp2
        go_roundw
        case rel => exact ⟨i + 1, by omega, by go_num, Lib.hid (by
          rw [HST.out]
          have := idxG_ge p (l.drop (i + 1))
          by_cases hn : idxG p (l.drop (i + 1)) < 0
          · rw [if_pos hn, if_pos hn]; rfl
          · rw [if_neg hn, if_neg hn, if_neg (by omega)]; omega), HB3⟩
        case measure => simp [intOf]; omega
      · rw [hq] at hc
        have HST : Hid (R = i) := Lib.hid (by
          have hx0 : idxG p (l.drop i) = 0 := by rw [idxG_drop ha, if_pos hq]
          rw [HQ.out, hx0]
          simp)
        clear hq ha
        go_wp2_with (go_at_fn fid; refine hc.mono ?_; rintro e w3 ⟨rfl, hb3⟩)
        have HB3 := Lib.hid (HB.out.trans (hb3.mono HB.out.size))
        clear hb3 hc
        go_wp2
        go_ret
        exact ⟨by rw [HST.out]; rfl, HB3.out⟩
    · have HT : Hid (R = -1) := Lib.hid (by rw [HQ.out, List.drop_eq_nil_of_le (by omega)]; rfl)
      go_wp2
      go_ret
      exact ⟨by rw [HT.out]; rfl, HB.out⟩
end Go.Proofs.YtmabhbihgenmcaaGreatDoor
