import Derived.Test.YtjohfljkhlkjoaaGreatDoorMgU
import Derived.Test.YtjohfljkhlkjoaaGreatDoorMgP
import Derived.Test.YtjohfljkhlkjoaaGreatDoorRaws
import Derived.DeepKeys4
import Derived.Test.YtjohfljkhlkjoaaGreatDoorMgM
import Derived.Deep.RegionLaw
namespace Go.Proofs.YtjohfljkhlkjoaaGreatDoor
open Go.RowKit Wb
theorem ixb (s : ByteArray) (c : Int) (w : World) : (callFunc 141 #[.string s, .int .u8 c]).run Tryz.prog w = .ok (.value (.int .i64 (firstIdx s c.toNat.toUInt8))) w := by
  rw [run_callFunc_extern (P := Tryz.prog) (f := 141) (fn := Tryz.f141) (e := Extern.BytealgIndexByte.indexByte) (by kernel_rfl) (by kernel_rfl) (by kernel_rfl) (by kernel_rfl) (by kernel_rfl), run_indexByte_string]
  rfl
theorem colon_self (s : ByteArray) (h : ([58] == s.toList) = true) : s = ⟨#[58]⟩ := by
  have : eqT ⟨#[58]⟩ s = true := by unfold eqT; rw [ByteArray.toList_eq ⟨#[58]⟩]; exact h
  exact ((eqT_iff _ _).1 this).symm
theorem first58 : firstIdx ⟨#[58]⟩ 58 = 0 := by
  rw [firstIdx_c', (cIx_some ⟨#[58]⟩ 0).2 ⟨by decide, by decide, fun i hi => absurd hi (by omega)⟩]
  rfl
set_option maxHeartbeats 400000 in
theorem sindex_any (s : ByteArray) (w : World) :
    Calls Tryz.prog 162 #[.string s, .string ⟨#[58]⟩] w fun e w' => e = .returned (.int .i64 (firstIdx s 58)) ∧ w = w' := by
  have hx := ixb
  go_enter Tryz.func162, Tryz.ntmps162
  go_wp2_with go_in
  · have h : ([58] == s.toList) = true := by assumption
    have HF : Hid (firstIdx s 58 = 0) := by rw [colon_self s h]; exact first58
    go_ret
    rw [HF.out]
    exact ⟨rfl, rfl⟩
  · go_ret
    exact ⟨rfl, rfl⟩
def cutB (s : ByteArray) : ByteArray × ByteArray × Bool :=
  match cIx s with
  | none => (s, sE, false)
  | some k => (s.extract 0 k, s.extract (k + 1) s.size, true)
set_option maxHeartbeats 400000 in
theorem slcut_any (s : ByteArray) (w : World) (hs : s.size ≤ 1000000000) :
    Calls Tryz.prog 158 #[.string s, .string ⟨#[58]⟩] w fun e w' => e = .returned (.tuple #[.string (cutB s).1, .string (cutB s).2.1, .bool (cutB s).2.2]) ∧ Below w.heap.size w w' := by
  rcases hc : cIx s with _ | k
  · have H : Hid (cutB s = (s, sE, false)) := by unfold cutB; rw [hc]; exact rfl
    have HF := Lib.hid (show firstIdx s 58 = -1 from by rw [firstIdx_c', hc])
    clear hc
    go_enter Tryz.func158, Tryz.ntmps158
    go_wp2_with fail
    refine (sindex_any s w).mono ?_
    rw [HF.out]
    rintro e w2 ⟨rfl, rfl⟩
    go_wp2
    go_ret3
    rw [H.out]
    exact ⟨rfl, Below.refl _ _⟩
  · have H : Hid (cutB s = (s.extract 0 k, s.extract (k + 1) s.size, true)) := by unfold cutB; rw [hc]; exact rfl
    have HF := Lib.hid (show firstIdx s 58 = (k : Int) from by rw [firstIdx_c', hc])
    have hk := ((cIx_some s k).1 hc).1
    clear hc
    go_enter Tryz.func158, Tryz.ntmps158
    go_wp2_with fail
    refine (sindex_any s w).mono ?_
    rw [HF.out]
    rintro e w2 ⟨rfl, rfl⟩
    go_wp2
    go_region
    go_wp2
    go_ret3
    rw [H.out]
    exact ⟨rfl, (Below.refl _ _).drew⟩
set_option maxHeartbeats 400000 in
theorem cut_any (s : ByteArray) (w : World) (hs : s.size ≤ 1000000000) :
    Calls Tryz.prog 125 #[.string s, .string ⟨#[58]⟩] w fun e w' => e = .returned (.tuple #[.string (cutB s).1, .string (cutB s).2.1, .bool (cutB s).2.2]) ∧ Below w.heap.size w w' := by
  go_enter Tryz.func125, Tryz.ntmps125
  go_wp2_with fail
  refine (slcut_any s w hs).mono ?_
  rintro e w2 ⟨rfl, hb⟩
  go_wp2
  go_ret3
  exact ⟨rfl, hb⟩
set_option maxHeartbeats 400000 in
theorem split_any (q : ByteArray) (w : World) (hs : q.size ≤ 1000000000) :
    Calls Tryz.prog 190 #[.string q] w fun e w' => e = .returned (.tuple #[.string (splitB q).1, .string (splitB q).2.1, .bool (splitB q).2.2]) ∧ Below w.heap.size w w' := by
  rcases hc : cIx q with _ | k
  · have HC : Hid (cutB q = (q, sE, false)) := by unfold cutB; rw [hc]; exact rfl
    cases hn : nameB q.data.toList
    · have HN := Lib.hid hn
      have H : Hid (splitB q = (sE, sE, false)) := by unfold splitB; rw [hc]; simp only [hn]; exact rfl
      rw [H.out]
      clear H hn hc
      go_enter Tryz.func190, Tryz.ntmps190
      go_wp2_with fail
      refine (cut_any q _ hs).mono ?_
      rw [HC.out]
      rintro e w2 ⟨rfl, hb⟩
      go_wp2_with fail
      refine (name_any q _ hs).mono ?_
      rw [HN.out]
      rintro e w3 ⟨rfl, hb2⟩
      replace hb := hb.trans (hb2.mono hb.size)
      clear hb2
      go_wp2
      go_ret3
      exact ⟨rfl, hb⟩
    · have HN := Lib.hid hn
      have H : Hid (splitB q = (sE, q, true)) := by unfold splitB; rw [hc]; simp only [hn]; exact rfl
      rw [H.out]
      clear H hn hc
      go_enter Tryz.func190, Tryz.ntmps190
      go_wp2_with fail
      refine (cut_any q _ hs).mono ?_
      rw [HC.out]
      rintro e w2 ⟨rfl, hb⟩
      go_wp2_with fail
      refine (name_any q _ hs).mono ?_
      rw [HN.out]
      rintro e w3 ⟨rfl, hb2⟩
      replace hb := hb.trans (hb2.mono hb.size)
      clear hb2
      go_wp2
      go_ret3
      exact ⟨rfl, hb⟩
  · have HC : Hid (cutB q = (q.extract 0 k, q.extract (k + 1) q.size, true)) := by unfold cutB; rw [hc]; exact rfl
    have hk := ((cIx_some q k).1 hc).1
    have h1 : (q.extract 0 k).size ≤ 1000000000 := by simp; omega
    have h2 : (q.extract (k + 1) q.size).size ≤ 1000000000 := by simp; omega
    have H : Hid (splitB q = if nameB (q.extract 0 k).data.toList && nameB (q.extract (k + 1) q.size).data.toList then (q.extract 0 k, q.extract (k + 1) q.size, true) else (sE, sE, false)) := by unfold splitB; rw [hc]; exact rfl
    clear hc
    rw [H.out]
    clear H hk
    generalize q.extract 0 k = a at *
    generalize q.extract (k + 1) q.size = c at *
    cases ha : nameB a.data.toList
    · have HA := Lib.hid ha
      clear ha
      rw [Bool.false_and, if_neg (by decide)]
      go_enter Tryz.func190, Tryz.ntmps190
      go_wp2_with fail
      refine (cut_any q _ hs).mono ?_
      rw [HC.out]
      rintro e w2 ⟨rfl, hb⟩
      go_wp2_with fail
      refine (name_any a _ h1).mono ?_
      rw [HA.out]
      rintro e w3 ⟨rfl, hb2⟩
      replace hb := hb.trans (hb2.mono hb.size)
      clear hb2
      go_wp2
      go_ret3
      exact ⟨rfl, hb⟩
    · have HA := Lib.hid ha
      clear ha
      rw [Bool.true_and]
      cases hd : nameB c.data.toList
      all_goals
        have HD := Lib.hid hd
        clear hd
      · rw [if_neg (by decide)]
        go_enter Tryz.func190, Tryz.ntmps190
        go_wp2_with fail
        refine (cut_any q _ hs).mono ?_
        rw [HC.out]
        rintro e w2 ⟨rfl, hb⟩
        go_wp2_with fail
        refine (name_any a _ h1).mono ?_
        rw [HA.out]
        rintro e w3 ⟨rfl, hb2⟩
        replace hb := hb.trans (hb2.mono hb.size)
        clear hb2
        go_wp2_with fail
        refine (name_any c _ h2).mono ?_
        rw [HD.out]
        rintro e w3 ⟨rfl, hb2⟩
        replace hb := hb.trans (hb2.mono hb.size)
        clear hb2
        go_wp2
        go_ret3
        exact ⟨rfl, hb⟩
      · rw [if_pos rfl]
        go_enter Tryz.func190, Tryz.ntmps190
        go_wp2_with fail
        refine (cut_any q _ hs).mono ?_
        rw [HC.out]
        rintro e w2 ⟨rfl, hb⟩
        go_wp2_with fail
        refine (name_any a _ h1).mono ?_
        rw [HA.out]
        rintro e w3 ⟨rfl, hb2⟩
        replace hb := hb.trans (hb2.mono hb.size)
        clear hb2
        go_wp2_with fail
        refine (name_any c _ h2).mono ?_
        rw [HD.out]
        rintro e w3 ⟨rfl, hb2⟩
        replace hb := hb.trans (hb2.mono hb.size)
        clear hb2
        go_wp2
        go_ret3
        exact ⟨rfl, hb⟩
end Go.Proofs.YtjohfljkhlkjoaaGreatDoor

namespace Go.Proofs.YtjohfljkhlkjoaaGreatDoor
open Go.RowKit Wb
theorem eqT_nil (p : ByteArray) (h : eqT p sE = true) : p = ⟨#[]⟩ := (eqT_iff _ _).1 h
theorem ne_nil (p : ByteArray) (h : eqT p sE = false) : ¬ p.toList = [] := by
  rw [toList_nil_iff]; exact eqT_false.1 h
theorem ne_empty (p : ByteArray) (h : eqT p sE = false) : p.toList.isEmpty = false := by
  have := ne_nil p h
  simpa using this
theorem lit_of (p q : ByteArray) (l : List UInt8) (h : q.data.toList = l) : (p.toList == l) = eqT p q := by
  unfold eqT; rw [ByteArray.toList_eq q, h]
theorem nil_of (p : ByteArray) (h : eqT p sE = true) : p.toList = [] := (toList_nil_iff _).2 (eqT_nil p h)
theorem bind_fact (p s : ByteArray) {e1 n b1 b2 b3 b4 e5 : Bool} (h1 : eqT p sE = e1) (hn : nameB p.data.toList = n) (k1 : eqT p sXmlns = b1) (k2 : eqT p sXmlQ = b2) (k3 : eqT s sXML = b3) (k4 : eqT s sXMLNS = b4) (h5 : eqT s sE = e5) :
    bindB p s = if !e1 && !n then 12 else if b1 || (b2 && !b3) || (!b2 && (b3 || b4)) || (!e1 && e5) then 13 else 0 := by
  subst h1; subst hn; subst k1; subst k2; subst k3; subst k4; subst h5; rfl
set_option maxHeartbeats 4000000 in
theorem bind_any (p s : ByteArray) (w : World) (hp : p.size ≤ 1000000000) :
    Calls Tryz.prog 188 #[.string p, .string s] w fun e w' => e = .returned (.int .i64 (bindB p s)) ∧ Below w.heap.size w w' := by
  have t1 : (p.toList == [120, 109, 108, 110, 115]) = eqT p sXmlns := lit_of p sXmlns _ rfl
  have t2 : (p.toList == [120, 109, 108]) = eqT p sXmlQ := lit_of p sXmlQ _ rfl
  have t3 : (s.toList == [104, 116, 116, 112, 58, 47, 47, 119, 119, 119, 46, 119, 51, 46, 111, 114, 103, 47, 88, 77, 76, 47, 49, 57, 57, 56, 47, 110, 97, 109, 101, 115, 112, 97, 99, 101]) = eqT s sXML := lit_of s sXML _ rfl
  have t4 : (s.toList == [104, 116, 116, 112, 58, 47, 47, 119, 119, 119, 46, 119, 51, 46, 111, 114, 103, 47, 50, 48, 48, 48, 47, 120, 109, 108, 110, 115, 47]) = eqT s sXMLNS := lit_of s sXMLNS _ rfl
  obtain ⟨b1, k1⟩ : ∃ b, eqT p sXmlns = b := ⟨_, rfl⟩
  obtain ⟨b2, k2⟩ : ∃ b, eqT p sXmlQ = b := ⟨_, rfl⟩
  obtain ⟨b3, k3⟩ : ∃ b, eqT s sXML = b := ⟨_, rfl⟩
  obtain ⟨b4, k4⟩ : ∃ b, eqT s sXMLNS = b := ⟨_, rfl⟩
  obtain ⟨n, hn⟩ : ∃ b, nameB p.data.toList = b := ⟨_, rfl⟩
  obtain ⟨e1, h1⟩ : ∃ b, eqT p sE = b := ⟨_, rfl⟩
  obtain ⟨e5, h5⟩ : ∃ b, eqT s sE = b := ⟨_, rfl⟩
  rw [bind_fact p s h1 hn k1 k2 k3 k4 h5]
  have z1 : e1 = true → b1 = false ∧ b2 = false := by
    rintro rfl
    have := eqT_nil p h1
    subst this
    exact ⟨k1.symm.trans (eqT_false.2 (by decide)), k2.symm.trans (eqT_false.2 (by decide))⟩
  have z2 : e5 = true → b3 = false ∧ b4 = false := by
    rintro rfl
    have := eqT_nil s h5
    subst this
    exact ⟨k3.symm.trans (eqT_false.2 (by decide)), k4.symm.trans (eqT_false.2 (by decide))⟩
  rw [k1] at t1; rw [k2] at t2; rw [k3] at t3; rw [k4] at t4
  clear k1 k2 k3 k4
  have HN := Lib.hid hn
  clear hn
  cases e1
  · have hp0 := ne_nil p h1
    have hp1 := ne_empty p h1
    clear h1 z1
    go_enter Tryz.func188, Tryz.ntmps188
    go_wp2_with fail
    refine (name_any _ _ hp).mono ?_
    rw [HN.out]
    rintro e w3 ⟨rfl, hb⟩
    cases n
    · go_wp2
      go_ret
      exact ⟨rfl, hb⟩
    · cases e5
      · have hs0 := ne_nil s h5
        have hs1 := ne_empty s h5
        clear h5 z2
        cases b1 <;> cases b2 <;> cases b3 <;> cases b4 <;> (go_wp2; go_ret; exact ⟨rfl, hb⟩)
      · have hs0 := nil_of s h5
        clear h5 t3 t4
        obtain ⟨rfl, rfl⟩ := z2 rfl
        cases b1 <;> cases b2 <;> (go_wp2; go_ret; exact ⟨rfl, hb⟩)
  · have hp0 := nil_of p h1
    clear h1 t1 t2
    obtain ⟨rfl, rfl⟩ := z1 rfl
    clear z1 z2 h5
    cases b3 <;> cases b4 <;> (
      go_enter Tryz.func188, Tryz.ntmps188
      go_wp2
      go_ret
      exact ⟨rfl, Below.refl _ _⟩)
end Go.Proofs.YtjohfljkhlkjoaaGreatDoor

namespace Go.Proofs.YtjohfljkhlkjoaaGreatDoor
open Go.RowKit Wb
set_option maxHeartbeats 1000000 in
theorem find_any (A : Option Addr) (l : List Pr) (c : Nat) (p : ByteArray) (w : World) (hl : l.length ≤ 1000000000) (hA : Sl2 w A l) :
    Calls Tryz.prog 191 #[.slice A l.length c, .string p] w fun e w' => e = .returned (.tuple #[.string (findB l p).1, .bool (findB l p).2]) ∧ w = w' := by
  have t2 : (p.toList == [120, 109, 108]) = eqT p sXmlQ := lit_of p sXmlQ _ rfl
  cases hx : eqT p sXmlQ
  · rw [hx] at t2
    go_enter Tryz.func191, Tryz.ntmps191
    go_wp2
    go_loop [6] (fun i => ∃ k : Nat, k ≤ l.length ∧ i = .int .i64 ((k : Int) - 1) ∧ Hid (lastB l p = lastB (l.take k) p)) (fun i => (intOf i + 1).toNat)
    case atStart => exact ⟨l.length, Nat.le_refl _, rfl, Lib.hid (by rw [List.take_length])⟩
    case round =>
      obtain ⟨k, hk, rfl, HL⟩ := hrel
      by_cases h0 : k = 0
      · subst h0
        have H := Lib.hid (findB_none hx (HL.out.trans rfl))
        clear hx HL
        go_wp2
        go_ret2
        rw [H.out, ← empty_eq]
        exact ⟨rfl, rfl⟩
      · obtain ⟨j, rfl⟩ : ∃ j, k = j + 1 := ⟨k - 1, by omega⟩
        obtain ⟨⟨x1, x2⟩, he⟩ : ∃ x, l[j]? = some x := ⟨l[j], List.getElem?_eq_getElem (by omega)⟩
        obtain ⟨ad, rfl, _, c1, c2⟩ := hA.at_ he
        have HE := Lib.hid he
        clear he
        have e : ((j + 1 : Nat) : Int) - 1 = j := by omega
        rw [e]
        clear e
        cases hq : (x1.toList == p.toList)
        · go_wp2
          go_round
          case rel => exact ⟨j, by omega, by go_num, Lib.hid (HL.out.trans (lastB_miss HE.out hq))⟩
          case measure => simp [intOf]
        · have H := Lib.hid (findB_some hx (HL.out.trans (lastB_hit HE.out hq)))
          go_wp2
          go_ret2
          rw [H.out]
          exact ⟨rfl, rfl⟩
  · rw [hx] at t2
    rw [findB_xml hx]
    go_enter Tryz.func191, Tryz.ntmps191
    go_wp2
    go_ret2
    exact ⟨rfl, rfl⟩
end Go.Proofs.YtjohfljkhlkjoaaGreatDoor

namespace Go.Proofs.YtjohfljkhlkjoaaGreatDoor
open Go.RowKit Wb
theorem name_info : (Tryz.prog.info? 33).map (·.size) = some 2 := by kernel_rfl
set_option maxHeartbeats 1000000 in
theorem resolve_any (A : Option Addr) (l : List Pr) (c : Nat) (q : ByteArray) (attr : Bool) (w : World) (hl : l.length ≤ 1000000000) (hq : q.size ≤ 1000000000) (hA : Sl2 w A l) :
    Calls Tryz.prog 155 #[.slice A l.length c, .string q, .bool attr] w fun e w' =>
      e = .returned (.tuple #[.agg #[.string (resB l q attr).1.1, .string (resB l q attr).1.2], .int .i64 (resB l q attr).2]) ∧ Below w.heap.size w w' := by
  obtain ⟨n1, n2, er, hr⟩ : ∃ n1 n2 er, resB l q attr = ((n1, n2), er) := ⟨_, _, _, rfl⟩
  have HR := Lib.hid hr
  rw [hr]
  clear hr
  obtain ⟨p, lo, ok, hsp⟩ : ∃ p lo ok, splitB q = (p, lo, ok) := ⟨_, _, _, rfl⟩
  have HS := Lib.hid hsp
  clear hsp
  have t1 : (p.toList == [120, 109, 108, 110, 115]) = eqT p sXmlns := lit_of p sXmlns _ rfl
  obtain ⟨b1, k1⟩ : ∃ b, eqT p sXmlns = b := ⟨_, rfl⟩
  obtain ⟨e1, h1⟩ : ∃ b, eqT p sE = b := ⟨_, rfl⟩
  obtain ⟨s, fo, hf⟩ : ∃ s fo, findB l p = (s, fo) := ⟨_, _, rfl⟩
  have HF := Lib.hid hf
  have HK := Lib.hid k1
  have H1 := Lib.hid h1
  rw [k1] at t1
  clear k1 hf h1
  go_enter Tryz.func155, Tryz.ntmps155
  go_wp2_with fail
  refine (split_any q _ hq).mono ?_
  rw [HS.out]
  rintro e w2 ⟨rfl, hb⟩
  have HB := Lib.hid (kept_block hb)
  have hA2 := hA.below (of_alloc hb)
  replace hb := of_alloc hb
  have c0 := blk_cell HB.out 0
  have c1 := blk_cell HB.out 1
  have f0 := blk_free HB.out 0
  have f1 := blk_free HB.out 1
  simp only [List.getElem?_toArray, List.getElem?_cons_zero, List.getElem?_cons_succ] at c0 c1
  cases ok
  · obtain ⟨r1, r2, r3⟩ := res_end HR.out (resB_bad attr HS.out)
    clear HR HS HF HK H1 t1
    subst r1 r2 r3
    go_wp2
    refine bodyPost_ret (results_cell2 rfl _ _ w.heap.size _ _ _ rfl (blk_set (blk_set HB.out 0 _) 1 _) Tryz.underlying33 rfl name_info) rfl ?_
    exact ⟨rfl, (hb.setCell (Nat.le_refl _) _).setCell (Nat.le_refl _) _⟩
  · by_cases ha : (attr && e1) = true
    · obtain ⟨rfl, rfl⟩ : attr = true ∧ e1 = true := by simpa using ha
      obtain ⟨r1, r2, r3⟩ := res_end HR.out (resB_bare HS.out H1.out)
      have hp0 := nil_of p H1.out
      clear HR HS HF HK H1 t1 ha
      subst r1 r2 r3
      go_wp2
      refine bodyPost_ret (results_cell2 rfl _ _ w.heap.size _ _ _ rfl (blk_set (blk_set HB.out 0 _) 1 _) Tryz.underlying33 rfl name_info) rfl ?_
      exact ⟨rfl, (hb.setCell (Nat.le_refl _) _).setCell (Nat.le_refl _) _⟩
    · have ha' : (attr && eqT p sE) = false := by rw [H1.out]; simpa using ha
      have HX := Lib.hid (HR.out.symm.trans (resB_full HS.out ha' HF.out HK.out))
      clear HR HS HK ha'
      have hor : attr = false ∨ (attr = true ∧ e1 = false) := by cases attr <;> cases e1 <;> simp_all
      clear ha
      rcases hor with rfl | ⟨rfl, rfl⟩
      all_goals
        try have hp0 := ne_nil p H1.out
        try have hp1 := ne_empty p H1.out
        go_wp2_with fail
        refine (find_any A l c p _ hl hA2).mono ?_
        rw [HF.out]
        rintro e w3 ⟨rfl, rfl⟩
        cases fo
        · obtain ⟨r1, r2, r3⟩ := res_end rfl HX.out
          clear HX HF H1
          subst r1 r2 r3
          go_wp2
          refine bodyPost_ret (results_cell2 rfl _ _ w.heap.size _ _ _ rfl (blk_set (blk_set HB.out 0 _) 1 _) Tryz.underlying33 rfl name_info) rfl ?_
          exact ⟨rfl, (hb.setCell (Nat.le_refl _) _).setCell (Nat.le_refl _) _⟩
        · cases b1
          all_goals
            obtain ⟨r1, r2, r3⟩ := res_end rfl HX.out
            clear HX HF H1
            subst r1 r2 r3
            go_wp2
            refine bodyPost_ret (results_cell2 rfl _ _ w.heap.size _ _ _ rfl (blk_set (blk_set HB.out 0 _) 1 _) Tryz.underlying33 rfl name_info) rfl ?_
            exact ⟨rfl, (hb.setCell (Nat.le_refl _) _).setCell (Nat.le_refl _) _⟩
end Go.Proofs.YtjohfljkhlkjoaaGreatDoor

namespace Go.Proofs.YtjohfljkhlkjoaaGreatDoor
open Go.RowKit Wb
theorem fix_pre (s : ByteArray) : ((s.extract 0 6).toList == [120, 109, 108, 110, 115, 58]) = ((s.extract 0 6).toList == sXmlnsC) := rfl
set_option maxHeartbeats 400000 in
theorem hasPre_any (s : ByteArray) (w : World) (_hs : s.size ≤ 1000000000) :
    Calls Tryz.prog 129 #[.string s, .string ⟨#[120, 109, 108, 110, 115, 58]⟩] w fun e w' => e = .returned (.bool (preB s)) ∧ w = w' := by
  by_cases h : 6 ≤ s.size
  · cases hp : ((s.extract 0 6).toList == sXmlnsC)
    all_goals
      rw [preB_long h hp]
      have hq := (fix_pre s).trans hp
      clear hp
      have hi : (6 : Int) ≤ s.size := by omega
      go_enter Tryz.func129, Tryz.ntmps129
      go_wp2
      go_ret
      exact ⟨rfl, rfl⟩
  · rw [preB_short h]
    have hi : ¬ (6 : Int) ≤ s.size := by omega
    go_enter Tryz.func129, Tryz.ntmps129
    go_wp2
    go_ret
    exact ⟨rfl, rfl⟩
set_option maxHeartbeats 400000 in
theorem slcutPre_any (s : ByteArray) (w : World) (hs : s.size ≤ 1000000000) :
    Calls Tryz.prog 124 #[.string s, .string ⟨#[120, 109, 108, 110, 115, 58]⟩] w fun e w' =>
      e = .returned (.tuple #[.string (if preB s then s.extract 6 s.size else s), .bool (preB s)]) ∧ w = w' := by
  cases h : preB s
  · have H := Lib.hid h
    rw [if_neg (by decide)]
    clear h
    go_enter Tryz.func124, Tryz.ntmps124
    go_wp2_with fail
    refine (hasPre_any s w hs).mono ?_
    rw [H.out]
    rintro e w2 ⟨rfl, rfl⟩
    go_wp2
    go_ret2
    exact ⟨rfl, rfl⟩
  · have H := Lib.hid h
    rw [if_pos rfl]
    have hi : (6 : Int) ≤ s.size := by have := preB_size h; omega
    clear h
    go_enter Tryz.func124, Tryz.ntmps124
    go_wp2_with fail
    refine (hasPre_any s w hs).mono ?_
    rw [H.out]
    rintro e w2 ⟨rfl, rfl⟩
    go_wp2
    go_ret2
    exact ⟨rfl, rfl⟩
set_option maxHeartbeats 400000 in
theorem cutPre_any (s : ByteArray) (w : World) (hs : s.size ≤ 1000000000) :
    Calls Tryz.prog 86 #[.string s, .string ⟨#[120, 109, 108, 110, 115, 58]⟩] w fun e w' =>
      e = .returned (.tuple #[.string (if preB s then s.extract 6 s.size else s), .bool (preB s)]) ∧ w = w' := by
  generalize hx : (if preB s then s.extract 6 s.size else s) = x
  have HX := Lib.hid hx
  clear hx
  go_enter Tryz.func86, Tryz.ntmps86
  go_wp2_with fail
  refine (slcutPre_any s w hs).mono ?_
  rw [HX.out]
  rintro e w2 ⟨rfl, rfl⟩
  go_wp2
  go_ret2
  exact ⟨rfl, rfl⟩
set_option maxHeartbeats 400000 in
theorem declared_any (n : ByteArray) (w : World) (hs : n.size ≤ 1000000000) :
    Calls Tryz.prog 186 #[.string n] w fun e w' => e = .returned (.tuple #[.string (declE n).1, .bool (declE n).2.1, .int .i64 (declE n).2.2]) ∧ Below w.heap.size w w' := by
  have t1 : (n.toList == [120, 109, 108, 110, 115]) = eqT n sXmlns := lit_of n sXmlns _ rfl
  cases h1 : eqT n sXmlns
  · rw [h1] at t1
    cases h2 : preB n
    · rw [declE_4 h1 h2]
      have H2 : Hid ((if preB n then n.extract 6 n.size else n) = n) := by rw [h2]; exact rfl
      have H3 := Lib.hid h2
      clear h1 h2
      go_enter Tryz.func186, Tryz.ntmps186
      go_wp2_with fail
      refine (cutPre_any n w hs).mono ?_
      rw [H2.out, H3.out]
      rintro e w2 ⟨rfl, rfl⟩
      go_wp2
      go_ret3
      exact ⟨rfl, Below.refl _ _⟩
    · have H2 : Hid ((if preB n then n.extract 6 n.size else n) = n.extract 6 n.size) := by rw [h2]; exact rfl
      have H3 := Lib.hid h2
      have hsz : (n.extract 6 n.size).size ≤ 1000000000 := by simp; omega
      cases h4 : nameB (n.extract 6 n.size).data.toList
      · rw [declE_3 h1 h2 h4]
        have H4 := Lib.hid h4
        clear h1 h2 h4
        go_enter Tryz.func186, Tryz.ntmps186
        go_wp2_with fail
        refine (cutPre_any n w hs).mono ?_
        rw [H2.out, H3.out]
        rintro e w2 ⟨rfl, rfl⟩
        go_wp2_with fail
        refine (name_any _ _ hsz).mono ?_
        rw [H4.out]
        rintro e w2 ⟨rfl, hb⟩
        go_wp2
        go_ret3
        exact ⟨rfl, hb⟩
      · rw [declE_2 h1 h2 h4]
        have H4 := Lib.hid h4
        clear h1 h2 h4
        go_enter Tryz.func186, Tryz.ntmps186
        go_wp2_with fail
        refine (cutPre_any n w hs).mono ?_
        rw [H2.out, H3.out]
        rintro e w2 ⟨rfl, rfl⟩
        go_wp2_with fail
        refine (name_any _ _ hsz).mono ?_
        rw [H4.out]
        rintro e w2 ⟨rfl, hb⟩
        go_wp2
        go_ret3
        exact ⟨rfl, hb⟩
  · rw [h1] at t1
    rw [declE_1 h1]
    go_enter Tryz.func186, Tryz.ntmps186
    go_wp2
    go_ret3
    exact ⟨rfl, Below.refl _ _⟩
end Go.Proofs.YtjohfljkhlkjoaaGreatDoor

namespace Go.Proofs.YtjohfljkhlkjoaaGreatDoor
open Go.RowKit Wb
theorem bind_info : (Tryz.prog.info? 227).map (fun i => (i.zero, i.size, i.bytes)) = some (some (.agg #[.string ⟨#[]⟩, .string ⟨#[]⟩]), 2, 32) := by kernel_rfl
def Fresh (B : Nat) (A : Option Addr) : Prop := ∀ ad, A = some ad → B ≤ ad.block
theorem Fresh.mono {B B' : Nat} {A : Option Addr} (h : Fresh B A) (hB : B' ≤ B) : Fresh B' A := fun ad e => Nat.le_trans hB (h ad e)
theorem own2 {w : World} {base n : Nat} {e : TypeId} {v : Value} {xs : List Value} (l : List Pr) (h : w.ownsRow base e 2 v n xs) (hn : n = l.length) (hx : xs = cells2 l) :
    ∃ A c, v = .slice A l.length c ∧ Sl2 w A l ∧ Fresh base A := by
  subst hn; subst hx
  obtain ⟨A, c, rfl⟩ := own_shape h
  refine ⟨A, c, rfl, Sl2.of_own h, fun ad e => ?_⟩
  subst e
  exact (h.lt ad.block rfl).1
set_option maxHeartbeats 1000000 in
set_option maxRecDepth 100000 in
theorem extend_any (A B : Option Addr) (l m : List Pr) (c d : Nat) (w : World) (hl : l.length ≤ 1000000) (hm : m.length ≤ 1000000) (hA : Sl2 w A l) (hB : Sl2 w B m) :
    Calls Tryz.prog 189 #[.slice A l.length c, .slice B m.length d] w fun e w' =>
      ∃ C k, e = .returned (.slice C (l ++ m).length k) ∧ Sl2 w' C (l ++ m) ∧ Fresh w.heap.size C ∧ Below w.heap.size w w' := by
  obtain ⟨i0, hi, hz0, hz1, hz2⟩ := info_parts bind_info
  go_enter Tryz.func189, Tryz.ntmps189
  go_wp2_with (at_make; refine wpList_make_own _ rfl _ _ 160 rfl w.heap.size 227 i0 _ 2 Tryz.underlying160 hi hz0 hz1 .i64 .i64 _ (l.length + m.length) rfl rfl ?b1 ?b2 ?b3 (Nat.le_refl _) ?_)
  case b1 => omega
  case b2 => rw [hz2]; omega
  case b3 => simp only [maxLen]; omega
  intro w1 hown1 hg1
  have hb1 : Below w.heap.size w w1 := (Below.refl _ _).grown hg1 (Nat.le_refl _) (by simp)
  go_wp2_with (first
    | (at_builtin; refine wpList_append_sl _ rfl (.tmp 12) (.tmp 13) _ rfl w.heap.size 227 i0 _ 2 32 Tryz.underlying160 hi hz0 hz1 hz2 rfl (by omega) _ 0 [] rfl hown1 A l.length c (cells2 l) rfl (hA.below hb1) (cells2_one l) (by simp only [maxLen]; omega) (by omega) hb1.size ?_; intro v2 w2 hown2 hg2 hat2; have hb2 : Below w.heap.size w w2 := hb1.grown hg2 hb1.size (fun k hk => (hown1.lt k hk).1))
    | (at_builtin; refine wpList_append_sl _ rfl (.tmp 14) (.tmp 15) _ rfl w.heap.size 227 i0 _ 2 32 Tryz.underlying160 hi hz0 hz1 hz2 rfl (by omega) _ _ _ rfl hown2 B m.length d (cells2 m) rfl (hB.below hb2) (cells2_one m) (by simp only [maxLen]; omega) (by omega) hb2.size ?_; intro v3 w3 hown3 hg3 hat3; have hb3 : Below w.heap.size w w3 := hb2.grown hg3 hb2.size (fun k hk => (hown2.lt k hk).1)))
  go_ret
  obtain ⟨C, k, rfl, hC, hF⟩ := own2 (l ++ m) hown3 (by simp) (by simp [cells2_append])
  exact ⟨C, k, rfl, hC, hF, hb3⟩
def AddPost (l : List Pr) (p s : ByteArray) (w : World) (e : Ending) (w' : World) : Prop :=
  Below w.heap.size w w' ∧ (∀ B, B = bindB p s → if B = 0 then ∃ C k, e = .returned (.tuple #[.slice C (l ++ [(p, s)]).length k, .int .i64 0]) ∧ Sl2 w' C (l ++ [(p, s)]) ∧ Fresh w.heap.size C
    else e = .returned (.tuple #[.slice none 0 0, .int .i64 B]))
theorem AddPost.ok {l : List Pr} {p s : ByteArray} {w w' : World} {C : Option Addr} {k : Nat} (h : bindB p s = 0) (hb : Below w.heap.size w w') (hC : Sl2 w' C (l ++ [(p, s)])) (hF : Fresh w.heap.size C) :
    AddPost l p s w (.returned (.tuple #[.slice C (l.length + 1) k, .int .i64 0])) w' := by
  refine ⟨hb, fun B hB => ?_⟩
  rw [if_pos (hB.trans h)]
  exact ⟨C, k, by simp, hC, hF⟩
theorem AddPost.bad {l : List Pr} {p s : ByteArray} {w w' : World} {b : Int} (h : bindB p s = b) (h0 : b ≠ 0) (hb : Below w.heap.size w w') :
    AddPost l p s w (.returned (.tuple #[.slice none 0 0, .int .i64 b])) w' := by
  refine ⟨hb, fun B hB => ?_⟩
  rw [if_neg (by rw [hB, h]; exact h0), hB, h]
end Go.Proofs.YtjohfljkhlkjoaaGreatDoor

namespace Go.Proofs.YtjohfljkhlkjoaaGreatDoor
open Go.RowKit Wb
end Go.Proofs.YtjohfljkhlkjoaaGreatDoor

namespace Go.Proofs.YtjohfljkhlkjoaaGreatDoor
open Go.RowKit Wb Go.Maps
set_option maxRecDepth 1000000 in
theorem laidOut : laidOutB Tryz.prog = true := by kernel_rfl
theorem name_row : (33 : TypeId) < Tryz.prog.types.size := of_decide_eq_true (by kernel_rfl)
theorem name_wide : (match Tryz.prog.underlying 33 with | some (.array _ _) | some (.struct _) => true | _ => false) = true := by kernel_rfl
set_option maxRecDepth 1000000 in
theorem name_law : Keyed Tryz.prog 33 := Keyed.of_law (deep_law_laid laidOut (m := 3) (by omega) name_row (by kernel_rfl) name_wide)
theorem name_kt : Tryz.prog.keyType 33 = true := by kernel_rfl
theorem name_cells : Tryz.prog.cellsOf 33 = 2 := by kernel_rfl
def litN (x : Pr) : Lit := .string (keyBytes [.string x.1.data.toList, .string x.2.data.toList])
theorem str_cells : Tryz.prog.cellsOf 9 = 1 := by kernel_rfl
theorem many_types : (2 : Nat) ≤ Tryz.prog.types.size := of_decide_eq_true (by kernel_rfl)
theorem key_str (m : Nat) (s : ByteArray) (h : s.size ≤ maxLen) : Tryz.prog.keyLits (m + 1) 9 [.string s] = some [.string s.data.toList] := by
  unfold Program.keyLits
  rw [Tryz.underlying9]
  simp [h]
theorem name_key (x : Pr) (h1 : x.1.size ≤ maxLen) (h2 : x.2.size ≤ maxLen) : keyOf Tryz.prog 33 (.agg #[.string x.1, .string x.2]) = some (litN x) := by
  have hf : (Value.agg #[.string x.1, .string x.2]).formed Tryz.prog 33 = true := by
    simp [Value.formed, Tryz.underlying33, name_cells]
  unfold keyOf
  rw [Tryz.underlying33]
  simp only [name_kt, hf, Bool.and_self, if_true]
  obtain ⟨m, hm⟩ : ∃ m, Tryz.prog.types.size + 1 = m + 2 := ⟨Tryz.prog.types.size - 1, by have := many_types; omega⟩
  rw [hm]
  unfold Program.keyLits
  rw [Tryz.underlying33]
  simp [Value.cells, name_cells, str_cells, key_str _ _ h1, key_str _ _ h2, litN]
theorem litN_inj {x y : Pr} (h1 : x.1.size ≤ maxLen) (h2 : x.2.size ≤ maxLen) (h3 : y.1.size ≤ maxLen) (h4 : y.2.size ≤ maxLen) (h : litN x = litN y) : x = y := by
  have := name_law.inj (name_key x h1 h2) (h ▸ name_key y h3 h4)
  simp only [Value.agg.injEq, Array.mk.injEq, List.cons.injEq, Value.string.injEq, and_true] at this
  exact Prod.ext this.1 this.2
def SetW (w : World) (b n : Nat) (l : List Pr) : Prop :=
  ∃ D : DataW Unit, w.ownsMap Tryz.prog 33 unitElem b n D ∧ (∀ y ∈ l, y.1.size ≤ maxLen ∧ y.2.size ≤ maxLen) ∧
    ∀ x : Pr, x.1.size ≤ maxLen → x.2.size ≤ maxLen → Maps.has D (litN x) = l.any (fun y => eqP y x)
theorem SetW.made (w : World) : SetW (w.alloc (.map #[] 0)) w.heap.size 0 [] :=
  ⟨.map [], World.ownsMap_made _ _ _ _, by simp, fun x _ _ => by simp [has_eq]⟩
theorem SetW.below {w w2 : World} {b n : Nat} {l : List Pr} (h : SetW w b n l) (hb : Below w.heap.size w w2) : SetW w2 b n l := by
  obtain ⟨D, ⟨es, clock, h1, h2⟩, h3⟩ := h
  exact ⟨D, ⟨es, clock, still_block h1 hb, h2⟩, h3⟩
theorem SetW.grown {w w2 : World} {b n : Nat} {l : List Pr} {row : Option Nat} (h : SetW w b n l) (hg : w.grownBy w2 row) (hne : some b ≠ row) : SetW w2 b n l := by
  obtain ⟨D, h1, h3⟩ := h
  exact ⟨D, h1.kept hg hne, h3⟩
theorem SetW.mono {w : World} {b n n' : Nat} {l : List Pr} (h : SetW w b n l) (hn : n ≤ n') : SetW w b n' l := by
  obtain ⟨D, h1, h3⟩ := h
  exact ⟨D, h1.mono hn, h3⟩
theorem zero_unit (w : World) : (zeroValue 156).run Tryz.prog w = .ok (.agg #[]) w := by kernel_rfl
def AddedPost (w : World) (b n : Nat) (l : List Pr) (x : Pr) (e : Ending) (w' : World) : Prop :=
  w.grownBy w' (some b) ∧ ∃ c, e = .returned (.bool c) ∧ c = !(l.any fun y => eqP y x) ∧ (c = true → SetW w' b (n + 1) (l ++ [x]))
theorem SetW.put {w : World} {b n : Nat} {l : List Pr} {D : DataW Unit} {x : Pr} (hown : w.ownsMap Tryz.prog 33 unitElem b n (D.put (litN x) (.agg []))) (hD : IsMap D)
    (hsz : ∀ y ∈ l, y.1.size ≤ maxLen ∧ y.2.size ≤ maxLen) (h1 : x.1.size ≤ maxLen) (h2 : x.2.size ≤ maxLen)
    (hhas : ∀ x : Pr, x.1.size ≤ maxLen → x.2.size ≤ maxLen → Maps.has D (litN x) = l.any (fun y => eqP y x)) : SetW w b n (l ++ [x]) := by
  refine ⟨_, hown, ?_, fun y k1 k2 => ?_⟩
  · intro y hy
    rcases List.mem_append.1 hy with h | h
    · exact hsz y h
    · rw [List.mem_singleton.1 h]; exact ⟨h1, h2⟩
  · rw [List.any_append, ← hhas y k1 k2]
    by_cases e : y = x
    · subst e
      rw [has_put_same hD (show WideAt.IsKeyLit (litN y) from trivial), List.any_cons, (eqP_iff y y).2 rfl]
      simp
    · rw [has_put_other (fun h => e (litN_inj k1 k2 h1 h2 h))]
      have : eqP x y = false := by
        cases h : eqP x y
        · rfl
        · exact absurd ((eqP_iff _ _).1 h).symm e
      simp [this]
set_option maxHeartbeats 1000000 in
set_option maxRecDepth 100000 in
theorem nadd_any (b n : Nat) (l : List Pr) (x1 x2 : ByteArray) (w : World) (hS : SetW w b n l) (hn : n < 1000000000) (h1 : x1.size ≤ 1000000000) (h2 : x2.size ≤ 1000000000) :
    Calls Tryz.prog 187 #[.map (some b), .agg #[.string x1, .string x2]] w (AddedPost w b n l (x1, x2)) := by
  obtain ⟨D, hown, hsz, hhas⟩ := hS
  have k1 : x1.size ≤ maxLen := by simp only [maxLen]; omega
  have k2 : x2.size ≤ maxLen := by simp only [maxLen]; omega
  have hkey := name_key (x1, x2) k1 k2
  have HH := Lib.hid (hhas (x1, x2) k1 k2)
  have HA := Lib.hid hhas
  have HM := Lib.hid hown.isMap
  clear hhas
  go_enter Tryz.func187, Tryz.ntmps187
  go_wp2_with (first
    | (at_lookup; refine wpList_lookup_own_unit _ rfl _ _ _ rfl 33 156 name_law Tryz.underlying222 (zero_unit _) b n D rfl (hown.alloc _) _ _ rfl hkey ?_)
    | (at_mapUpdate; refine wpList_mapUpdate_own _ rfl _ _ _ _ rfl 33 156 name_law Tryz.underlying222 unitElem b n D rfl ((hown.alloc _).alloc _) (by simp only [maxLen]; omega) _ _ (litN (x1, x2)) rfl rfl hkey (.agg []) [] unitElem_mk ?_; intro w1 hown1 hg1))
  · have ht : has D (litN (x1, x2)) = true := by assumption
    go_ret
    refine ⟨?_, _, rfl, ?_, fun h => by cases h⟩
    · exact (World.grownBy_alloc w _ _).trans (World.grownBy_alloc _ _ _)
    · rw [← HH.out, ht]; rfl
  · have ht : has D (litN (x1, x2)) = false := by assumption
    go_ret
    refine ⟨?_, _, rfl, ?_, fun _ => ?_⟩
    · exact ((World.grownBy_alloc w _ _).trans (World.grownBy_alloc _ _ _)).trans hg1
    · rw [← HH.out, ht]; rfl
    · exact SetW.put hown1 HM.out hsz k1 k2 HA.out
end Go.Proofs.YtjohfljkhlkjoaaGreatDoor

namespace Go.Proofs.YtjohfljkhlkjoaaGreatDoor
open Go.RowKit Wb Go.Maps
theorem attr_info : (Tryz.prog.info? 42).map (fun i => (i.zero, i.size, i.bytes)) = some (some (.agg #[.string ⟨#[]⟩, .string ⟨#[]⟩, .string ⟨#[]⟩]), 3, 48) := by kernel_rfl
def AttrsPost (sc l : List Pr) (w : World) (e : Ending) (w' : World) : Prop :=
  Below w.heap.size w w' ∧ ∀ r, r = attrL sc l [] → match r with
    | .ok out => ∃ C k, e = .returned (.tuple #[.slice C out.length k, .int .i64 0]) ∧ Sl3 w' C out
    | .error er => er ≠ 0 ∧ e = .returned (.tuple #[.slice none 0 0, .int .i64 er])
theorem AttrsPost.bad {sc l : List Pr} {w w' : World} {er : Int} (h : attrL sc l [] = .error er) (h0 : er ≠ 0) (hb : Below w.heap.size w w') : AttrsPost sc l w (.returned (.tuple #[.slice none 0 0, .int .i64 er])) w' := by
  refine ⟨hb, fun r hr => ?_⟩
  rw [h] at hr; subst hr
  exact ⟨h0, rfl⟩
theorem AttrsPost.ok {sc l : List Pr} {w w' : World} {out : List Tr} {C : Option Addr} {k : Nat} (h : attrL sc l [] = .ok out) (hC : Sl3 w' C out) (hb : Below w.heap.size w w') : AttrsPost sc l w (.returned (.tuple #[.slice C out.length k, .int .i64 0])) w' := by
  refine ⟨hb, fun r hr => ?_⟩
  rw [h] at hr; subst hr
  exact ⟨C, k, rfl, hC⟩
def AttrsPostF (sc l : List Pr) (w : World) (e : Ending) (w' : World) : Prop :=
  Below w.heap.size w w' ∧ ∀ r, r = attrL sc l [] → match r with
    | .ok out => ∃ C k, e = .returned (.tuple #[.slice C out.length k, .int .i64 0]) ∧ Sl3 w' C out ∧ Fresh w.heap.size C
    | .error er => er ≠ 0 ∧ e = .returned (.tuple #[.slice none 0 0, .int .i64 er])
theorem AttrsPostF.bad {sc l : List Pr} {w w' : World} {er : Int} (h : attrL sc l [] = .error er) (h0 : er ≠ 0) (hb : Below w.heap.size w w') : AttrsPostF sc l w (.returned (.tuple #[.slice none 0 0, .int .i64 er])) w' := by
  refine ⟨hb, fun r hr => ?_⟩
  rw [h] at hr; subst hr
  exact ⟨h0, rfl⟩
theorem AttrsPostF.ok {sc l : List Pr} {w w' : World} {out : List Tr} {C : Option Addr} {k : Nat} (h : attrL sc l [] = .ok out) (hC : Sl3 w' C out) (hF : Fresh w.heap.size C) (hb : Below w.heap.size w w') : AttrsPostF sc l w (.returned (.tuple #[.slice C out.length k, .int .i64 0])) w' := by
  refine ⟨hb, fun r hr => ?_⟩
  rw [h] at hr; subst hr
  exact ⟨C, k, rfl, hC, hF⟩
theorem AttrsPostF.to {sc l : List Pr} {w w' : World} {e : Ending} (h : AttrsPostF sc l w e w') : AttrsPost sc l w e w' := by
  refine ⟨h.1, fun r hr => ?_⟩
  have h2 := h.2 r hr
  cases r with
  | error er => exact h2
  | ok out =>
    obtain ⟨C, k, h3, h4, _⟩ := h2
    exact ⟨C, k, h3, h4⟩
theorem own3f {w : World} {base n : Nat} {e : TypeId} {v : Value} {xs : List Value} (l : List Tr) (h : w.ownsRow base e 3 v n xs) (hn : n = l.length) (hx : xs = cells3 l) :
    ∃ A c, v = .slice A l.length c ∧ Sl3 w A l ∧ Fresh base A := by
  subst hn; subst hx
  obtain ⟨A, c, rfl⟩ := own_shape h
  refine ⟨A, c, rfl, Sl3.of_own h, fun ad e => ?_⟩
  subst e
  exact (h.lt ad.block rfl).1
set_option maxHeartbeats 4000000 in
set_option maxRecDepth 100000 in
theorem attrsF_any (A B : Option Addr) (sc l : List Pr) (c d : Nat) (w : World) (hsl : sc.length ≤ 1000000) (hl : l.length ≤ 1000000)
    (hs1 : ∀ x ∈ sc, x.2.size ≤ 1000000000) (hs2 : ∀ x ∈ l, x.1.size ≤ 1000000000) (hA : Sl2 w A sc) (hB : Sl2 w B l) :
    Calls Tryz.prog 156 #[.slice A sc.length c, .slice B l.length d] w (AttrsPostF sc l w) := by
  obtain ⟨i0, hi, hz0, hz1, hz2⟩ := info_parts attr_info
  have hmm := @run_makeMap Tryz.prog
  go_enter Tryz.func156, Tryz.ntmps156
  go_wp2
  go_loopw [6, 15] (fun v i wr => ∃ (k : Nat) (out : List Tr), k ≤ l.length ∧ i = .int .i64 k ∧ out.length = k ∧ wr.ownsRow (w.heap.size + 1) 42 3 v out.length (cells3 out) ∧ SetW wr w.heap.size k (out.map (·.1)) ∧
      Hid (attrL sc l [] = attrL sc (l.drop k) out) ∧ Below w.heap.size w wr ∧ w.heap.size + 1 ≤ wr.heap.size) (fun _ i _ => ((l.length : Int) - intOf i).toNat)
  case atStart => exact ⟨0, [], by omega, rfl, rfl, World.ownsRow_nil _ _ _ _, SetW.made w, Lib.hid rfl, (Below.refl _ _).alloc (Nat.le_refl _) _, by simp⟩
  case round =>
    obtain ⟨k, out, hk, rfl, hout, hown, hS, HL, hb, hw⟩ := hrel
    by_cases h0 : k < l.length
    · obtain ⟨⟨x1, x2⟩, he⟩ : ∃ x, l[k]? = some x := ⟨l[k], List.getElem?_eq_getElem (by omega)⟩
      obtain ⟨ad, rfl, _, c1, c2⟩ := (hB.below hb).at_ he
      have hx1 := hs2 _ (List.mem_of_getElem? he)
      simp only at hx1
      have HE := Lib.hid he
      clear he
      obtain ⟨n1, n2, er, hr⟩ : ∃ n1 n2 er, resB sc x1 true = ((n1, n2), er) := ⟨_, _, _, rfl⟩
      have HR := Lib.hid hr
      have hsz := resB_size (attr := true) (q := x1) (by omega : 64 ≤ 1000000000) hs1 hx1
      rw [hr] at hsz
      obtain ⟨y1, y2⟩ := hsz
      simp only at y1 y2
      clear hr
      go_wp2_with fail
      refine (resolve_any A sc c x1 true _ (by omega) hx1 ((hA.below hb).alloc _)).mono ?_
      rw [HR.out]
      rintro e w2 ⟨rfl, hb2⟩
      have HX := Lib.hid (kept_block hb2)
      replace hb2 := of_alloc hb2
      have hb3 := hb.trans (hb2.mono hb.size)
      by_cases her : er = 0
      · subst her
        have hown2 := own_below hown hb2
        have hS2 := (hS.below hb2).below ((Below.refl _ w2).alloc (Nat.le_refl _) (.cells #[.string n1, .string n2] 33))
        have hw2 : w.heap.size + 1 ≤ w2.heap.size := Nat.le_trans hw hb2.size
        clear hown hS hb2
        go_wp2_with fail
        refine (nadd_any w.heap.size k _ n1 n2 _ hS2 (by omega) y1 y2).mono ?_
        rintro e w3 ⟨hg3, cc, rfl, hcc, hS3⟩
        have HN := Lib.hid (grown_block (heap_alloc_new w2 _) hg3 (by simp; omega))
        have HX3 := Lib.hid (grown_block ((Below.heap_alloc w2 _ _ (Array.getElem?_eq_some_iff.1 HX.out).1).trans HX.out) hg3 (by simp; omega))
        have hb4 : Below w.heap.size w w3 := (hb3.alloc hb3.size _).grown hg3 (hb3.alloc hb3.size _).size (by simp)
        have hown3 := (hown2.alloc (.cells #[.string n1, .string n2] 33)).kept hg3 (own_ne hown2 (Nat.lt_succ_self _))
        have e1 := blk_cell HN.out 0
        have e2 := blk_cell HN.out 1
        have e3 := blk_cell HX3.out 1
        simp only [List.getElem?_toArray, List.getElem?_cons_zero, List.getElem?_cons_succ] at e1 e2 e3
        have hw23 : w2.heap.size ≤ w3.heap.size := by have := hg3.size; simp at this; omega
        clear hown2 hS2 hb3 hg3
        cases cc
        · have HT : Hid (attrL sc l [] = .error 14) := HL.out.trans (attrL_twice HE.out HR.out (by simpa using hcc))
          clear hcc HL hS3
          go_wp2
          go_ret2
          exact AttrsPostF.bad HT.out (by decide) hb4
        · have HT : Hid (attrL sc l [] = attrL sc (l.drop (k + 1)) (out ++ [((n1, n2), x2)])) := HL.out.trans (attrL_step HE.out HR.out (by simpa using hcc))
          replace hS3 := hS3 rfl
          have hw3 : w.heap.size + 1 ≤ w3.heap.size := Nat.le_trans hw2 hw23
          clear hcc HL
          go_wp2_with (at_builtin; refine wpList_append_sl _ rfl _ _ _ rfl (w.heap.size + 1) 42 i0 _ 3 48 Tryz.underlying34 hi hz0 hz1 hz2 rfl (by omega) _ out.length (cells3 out) rfl (hown3.alloc _) (some ⟨w3.heap.size, 0, none⟩) 1 1 [.string n1, .string n2, .string x2] rfl (Sl.lit w3 3 [.string n1, .string n2, .string x2] _ 1 rfl) (cells3_one [((n1, n2), x2)]) (by simp only [maxLen]; omega) (by omega) (by simp; omega) ?_; intro v4 w4 hown4 hg4 hat4)
          have hb5 : Below w.heap.size w w4 := (hb4.alloc hb4.size _).grown hg4 (hb4.alloc hb4.size _).size (fun g hg => by have := (hown3.lt g hg).1; omega)
          have hS5 : SetW w4 w.heap.size (k + 1) ((out ++ [((n1, n2), x2)]).map (·.1)) := by
            rw [List.map_append]
            exact (hS3.below ((Below.refl _ w3).alloc (Nat.le_refl _) _)).grown hg4 (fun h => by have := (hown3.lt _ h.symm).1; omega)
          have hw4 : w.heap.size + 1 ≤ w4.heap.size := by have := hg4.size; simp at this; omega
          clear hg4 hat4 hown3 hS3
          go_roundw
          case rel => exact ⟨k + 1, out ++ [((n1, n2), x2)], by omega, by go_num, by simp [hout], by simpa [cells3_append, cells3] using hown4, hS5, HT, hb5, hw4⟩
          case measure => simp [intOf]; omega
      · have her' : (er != 0) = true := by simpa using her
        have HT := Lib.hid (HL.out.trans (attrL_err HE.out HR.out her))
        go_wp2
        go_ret2
        exact AttrsPostF.bad HT.out her (hb3.alloc hb3.size _)
    · have HT := Lib.hid (HL.out.trans (attrL_end (by omega)))
      obtain ⟨C, kk, rfl, hC, hFC⟩ := own3f out hown rfl rfl
      go_wp2
      go_ret2
      exact AttrsPostF.ok HT.out hC (hFC.mono (Nat.le_succ _)) hb
end Go.Proofs.YtjohfljkhlkjoaaGreatDoor

namespace Go.Proofs.YtjohfljkhlkjoaaGreatDoor
open Go.RowKit Wb Go.Maps
end Go.Proofs.YtjohfljkhlkjoaaGreatDoor

namespace Go.Proofs.YtjohfljkhlkjoaaGreatDoor
open Go.RowKit Wb Go.Maps
theorem raw_infoQ : (Tryz.prog.info? 59).map (fun i => (i.zero, i.size, i.bytes)) = some (some (.agg #[.string ⟨#[]⟩, .string ⟨#[]⟩]), 2, 32) := by kernel_rfl
def DeclPost (sc l : List Pr) (w : World) (e : Ending) (w' : World) : Prop :=
  Below w.heap.size w w' ∧ ∀ r, r = declL l [] [] [] → match r with
    | .ok (binds, rest) => ∃ C k D m, e = .returned (.tuple #[.slice C (sc ++ binds).length k, .slice D rest.length m, .int .i64 0]) ∧ Sl2 w' C (sc ++ binds) ∧ Sl2 w' D rest
    | .error er => er ≠ 0 ∧ e = .returned (.tuple #[.slice none 0 0, .slice none 0 0, .int .i64 er])
theorem DeclPost.bad {sc l : List Pr} {w w' : World} {er : Int} (h : declL l [] [] [] = .error er) (h0 : er ≠ 0) (hb : Below w.heap.size w w') : DeclPost sc l w (.returned (.tuple #[.slice none 0 0, .slice none 0 0, .int .i64 er])) w' := by
  refine ⟨hb, fun r hr => ?_⟩
  rw [h] at hr; subst hr
  exact ⟨h0, rfl⟩
theorem DeclPost.ok {sc l : List Pr} {w w' : World} {binds rest : List Pr} {C D : Option Addr} {k m N : Nat} (hN : N = (sc ++ binds).length) (h : declL l [] [] [] = .ok (binds, rest)) (hC : Sl2 w' C (sc ++ binds)) (hD : Sl2 w' D rest) (hb : Below w.heap.size w w') :
    DeclPost sc l w (.returned (.tuple #[.slice C N k, .slice D rest.length m, .int .i64 0])) w' := by
  subst hN
  refine ⟨hb, fun r hr => ?_⟩
  rw [h] at hr; subst hr
  exact ⟨C, k, D, m, rfl, hC, hD⟩
theorem seen_any (seen : List ByteArray) (p : ByteArray) : (seen.map (fun y => (sXMLNS, y))).any (fun y => eqP y (sXMLNS, p)) = seen.any (fun y => eqT y p) := by
  rw [List.any_map]
  congr 1
  funext y
  show (eqT sXMLNS sXMLNS && eqT y p) = eqT y p
  rw [eqT_self, Bool.true_and]
def DeclPostF (sc l : List Pr) (w : World) (e : Ending) (w' : World) : Prop :=
  Below w.heap.size w w' ∧ ∀ r, r = declL l [] [] [] → match r with
    | .ok (binds, rest) => ∃ C k D m, e = .returned (.tuple #[.slice C (sc ++ binds).length k, .slice D rest.length m, .int .i64 0]) ∧ Sl2 w' C (sc ++ binds) ∧ Sl2 w' D rest ∧ Fresh w.heap.size C
    | .error er => er ≠ 0 ∧ e = .returned (.tuple #[.slice none 0 0, .slice none 0 0, .int .i64 er])
theorem DeclPostF.bad {sc l : List Pr} {w w' : World} {er : Int} (h : declL l [] [] [] = .error er) (h0 : er ≠ 0) (hb : Below w.heap.size w w') : DeclPostF sc l w (.returned (.tuple #[.slice none 0 0, .slice none 0 0, .int .i64 er])) w' := by
  refine ⟨hb, fun r hr => ?_⟩
  rw [h] at hr; subst hr
  exact ⟨h0, rfl⟩
theorem DeclPostF.ok {sc l : List Pr} {w w' : World} {binds rest : List Pr} {C D : Option Addr} {k m N : Nat} (hN : N = (sc ++ binds).length) (h : declL l [] [] [] = .ok (binds, rest)) (hC : Sl2 w' C (sc ++ binds)) (hD : Sl2 w' D rest) (hF : Fresh w.heap.size C) (hb : Below w.heap.size w w') :
    DeclPostF sc l w (.returned (.tuple #[.slice C N k, .slice D rest.length m, .int .i64 0])) w' := by
  subst hN
  refine ⟨hb, fun r hr => ?_⟩
  rw [h] at hr; subst hr
  exact ⟨C, k, D, m, rfl, hC, hD, hF⟩
theorem DeclPostF.to {sc l : List Pr} {w w' : World} {e : Ending} (h : DeclPostF sc l w e w') : DeclPost sc l w e w' := by
  refine ⟨h.1, fun r hr => ?_⟩
  have h2 := h.2 r hr
  cases r with
  | error er => exact h2
  | ok p =>
    obtain ⟨C, k, D, m, h3, h4, h5, _⟩ := h2
    exact ⟨C, k, D, m, h3, h4, h5⟩
set_option maxHeartbeats 4000000 in
set_option maxRecDepth 100000 in
theorem declareF_any (A B : Option Addr) (sc l : List Pr) (c d : Nat) (w : World) (hsl : sc.length ≤ 1000000) (hl : l.length ≤ 1000000)
    (hs2 : ∀ x ∈ l, x.1.size ≤ 1000000000) (hA : Sl2 w A sc) (hB : Sl2 w B l) :
    Calls Tryz.prog 154 #[.slice A sc.length c, .slice B l.length d] w (DeclPostF sc l w) := by
  obtain ⟨i0, hi, hz0, hz1, hz2⟩ := info_parts bind_info
  obtain ⟨i1, hj, hy0, hy1, hy2⟩ := info_parts raw_infoQ
  have hmm := @run_makeMap Tryz.prog
  go_enter Tryz.func154, Tryz.ntmps154
  go_wp2
  go_loopw [7, 8, 19] (fun v u i wr => ∃ (k : Nat) (seen : List ByteArray) (binds rest : List Pr), k ≤ l.length ∧ i = .int .i64 k ∧ binds.length ≤ k ∧ rest.length ≤ k ∧
      wr.ownsRow (w.heap.size + 1) 227 2 v binds.length (cells2 binds) ∧ wr.ownsRow (w.heap.size + 1) 59 2 u rest.length (cells2 rest) ∧ SetW wr w.heap.size k (seen.map (fun y => (sXMLNS, y))) ∧
      Hid (declL l [] [] [] = declL (l.drop k) seen binds rest) ∧ Below w.heap.size w wr ∧ w.heap.size + 1 ≤ wr.heap.size) (fun _ _ i _ => ((l.length : Int) - intOf i).toNat)
  case atStart => exact ⟨0, [], [], [], by omega, rfl, by simp, by simp, World.ownsRow_nil _ _ _ _, World.ownsRow_nil _ _ _ _, SetW.made w, Lib.hid rfl, (Below.refl _ _).alloc (Nat.le_refl _) _, by simp⟩
  case round =>
    obtain ⟨k, seen, binds, rest, hk, rfl, hbl, hrl, hown, hrest, hS, HL, hb, hw⟩ := hrel
    by_cases h0 : k < l.length
    · obtain ⟨⟨x1, x2⟩, he⟩ : ∃ x, l[k]? = some x := ⟨l[k], List.getElem?_eq_getElem (by omega)⟩
      obtain ⟨ad, rfl, had, c1, c2⟩ := (hB.below hb).at_ he
      have hx1 := hs2 _ (List.mem_of_getElem? he)
      simp only at hx1
      have HE := Lib.hid he
      clear he
      rcases declE_spec x1 with ⟨hE, hD⟩ | ⟨hE, hD, hn⟩ | ⟨p, hE, hD, hn⟩
      · -- no declaration
        have HX := Lib.hid hE
        have HT : Hid (declL l [] [] [] = declL (l.drop (k + 1)) seen binds (rest ++ [(x1, x2)])) := HL.out.trans (declL_rest HE.out hD)
        clear hE hD HL
        go_wp2_with fail
        refine (declared_any x1 _ hx1).mono ?_
        rw [HX.out]
        rintro e w2 ⟨rfl, hb2⟩
        have HB := Lib.hid (kept_block hb2)
        replace hb2 := of_alloc hb2
        have hb3 := hb.trans (hb2.mono hb.size)
        have hown2 := own_below hown hb2
        have hrest2 := own_below hrest hb2
        have hS2 := hS.below hb2
        have hw2 : w.heap.size + 1 ≤ w2.heap.size := Nat.le_trans hw hb2.size
        have e1 := blk_cell HB.out 0
        have e2 := blk_cell HB.out 1
        simp only [List.getElem?_toArray, List.getElem?_cons_zero, List.getElem?_cons_succ] at e1 e2
        clear hown hrest hS hb2
        go_wp2_with (at_builtin; refine wpList_append_sl _ rfl _ _ _ rfl (w.heap.size + 1) 59 i1 _ 2 32 Tryz.underlying55 hj hy0 hy1 hy2 rfl (by omega) _ rest.length (cells2 rest) rfl (hrest2.alloc _) (some ⟨w2.heap.size, 0, none⟩) 1 1 [.string x1, .string x2] rfl (Sl.lit w2 2 [.string x1, .string x2] _ 1 rfl) (cells2_one [(x1, x2)]) (by simp only [maxLen]; omega) (by omega) (by simp; omega) ?_; intro v4 w4 hown4 hg4 hat4)
        have hb5 : Below w.heap.size w w4 := (hb3.alloc hb3.size _).grown hg4 (hb3.alloc hb3.size _).size (fun g hg => by have := (hrest2.lt g hg).1; omega)
        have hS5 : SetW w4 w.heap.size k (seen.map (fun y => (sXMLNS, y))) := (hS2.below ((Below.refl _ w2).alloc (Nat.le_refl _) _)).grown hg4 (fun h => by have := (hrest2.lt _ h.symm).1; omega)
        have hown5 := own_beside (hown2.alloc (.cells #[.string x1, .string x2] 59)) (hrest2.alloc (.cells #[.string x1, .string x2] 59)) (by decide) hg4
        have hw4 : w.heap.size + 1 ≤ w4.heap.size := by have := hg4.size; simp at this; omega
        clear hg4 hat4 hown2 hrest2 hS2
        go_roundw
        case rel => exact ⟨k + 1, seen, binds, rest ++ [(x1, x2)], by omega, by go_num, by omega, by simp; omega, hown5, by simpa [cells2_append, cells2] using hown4, hS5.mono (by omega), HT, hb5, hw4⟩
        case measure => simp [intOf]; omega
      · -- no name
        have HX := Lib.hid hE
        have HT := Lib.hid (HL.out.trans (declL_12 HE.out hD hn))
        clear hE hD HL hn
        go_wp2_with fail
        refine (declared_any x1 _ hx1).mono ?_
        rw [HX.out]
        rintro e w2 ⟨rfl, hb2⟩
        replace hb2 := of_alloc hb2
        have hb3 := hb.trans (hb2.mono hb.size)
        go_wp2
        go_ret3
        exact DeclPostF.bad HT.out (by decide) hb3
      · have HX := Lib.hid hE
        have hps : p.size ≤ 1000000000 := by have := declB_size (n := x1); rw [hD] at this; simp only at this; omega
        have HD := Lib.hid hD
        have HNN := Lib.hid hn
        clear hE hD hn
        go_wp2_with fail
        refine (declared_any x1 _ hx1).mono ?_
        rw [HX.out]
        rintro e w2 ⟨rfl, hb2⟩
        have HB := Lib.hid (kept_block hb2)
        replace hb2 := of_alloc hb2
        have hb3 := hb.trans (hb2.mono hb.size)
        have hown2 := own_below hown hb2
        have hrest2 := own_below hrest hb2
        have hS2 := hS.below hb2
        have hw2 : w.heap.size + 1 ≤ w2.heap.size := Nat.le_trans hw hb2.size
        clear hown hrest hS hb2
        go_wp2_with fail
        refine (nadd_any w.heap.size k _ sXMLNS p _ hS2 (by omega) (by decide) hps).mono ?_
        rintro e w3 ⟨hg3, cc, rfl, hcc, hS3⟩
        have HX3 := Lib.hid (grown_block HB.out hg3 (by have := (Array.getElem?_eq_some_iff.1 HB.out).1; simp; omega))
        have hb4 : Below w.heap.size w w3 := hb3.grown hg3 hb3.size (by simp)
        have hown3 := hown2.kept hg3 (own_ne hown2 (Nat.lt_succ_self _))
        have hrest3 := hrest2.kept hg3 (own_ne hrest2 (Nat.lt_succ_self _))
        have hw3 : w.heap.size + 1 ≤ w3.heap.size := Nat.le_trans hw2 hg3.size
        have e2 := blk_cell HX3.out 1
        simp only [List.getElem?_toArray, List.getElem?_cons_zero, List.getElem?_cons_succ] at e2
        rw [seen_any] at hcc
        clear hown2 hrest2 hS2 hb3 hg3
        cases cc
        · have HT := Lib.hid (HL.out.trans (declL_14 HE.out HD.out HNN.out (by simpa using hcc)))
          clear hcc HL hS3
          go_wp2
          go_ret3
          exact DeclPostF.bad HT.out (by decide) hb4
        · have HC : Hid (seen.any (fun y => eqT y p) = false) := Lib.hid (by simpa using hcc)
          replace hS3 := hS3 rfl
          clear hcc
          obtain ⟨b, hbd⟩ : ∃ b, bindB p x2 = b := ⟨_, rfl⟩
          have HBD := Lib.hid hbd
          clear hbd
          go_wp2_with fail
          refine (bind_any p x2 _ hps).mono ?_
          rw [HBD.out]
          rintro e w5 ⟨rfl, hb5⟩
          have HX5 := Lib.hid (still_block HX3.out hb5)
          have hown5 := own_below hown3 hb5
          have hrest5 := own_below hrest3 hb5
          have hS5 := hS3.below hb5
          have hw5 : w.heap.size + 1 ≤ w5.heap.size := Nat.le_trans hw3 hb5.size
          have hb6 := hb4.trans (hb5.mono hb4.size)
          have e3 := blk_cell HX5.out 1
          simp only [List.getElem?_toArray, List.getElem?_cons_zero, List.getElem?_cons_succ] at e3
          clear hown3 hrest3 hS3 hb5 e2
          by_cases hb0 : b = 0
          · subst hb0
            have HT := Lib.hid (HL.out.trans (declL_step HE.out HD.out HNN.out HC.out HBD.out))
            clear HL
            go_wp2_with (at_builtin; refine wpList_append_sl _ rfl _ _ _ rfl (w.heap.size + 1) 227 i0 _ 2 32 Tryz.underlying160 hi hz0 hz1 hz2 rfl (by omega) _ binds.length (cells2 binds) rfl (hown5.alloc _) (some ⟨w5.heap.size, 0, none⟩) 1 1 [.string p, .string x2] rfl (Sl.lit w5 2 [.string p, .string x2] _ 1 rfl) (cells2_one [(p, x2)]) (by simp only [maxLen]; omega) (by omega) (by simp; omega) ?_; intro v7 w7 hown7 hg7 hat7)
            have hb8 : Below w.heap.size w w7 := (hb6.alloc hb6.size _).grown hg7 (hb6.alloc hb6.size _).size (fun g hg => by have := (hown5.lt g hg).1; omega)
            have hS8 : SetW w7 w.heap.size (k + 1) ((seen ++ [p]).map (fun y => (sXMLNS, y))) := by
              rw [List.map_append]
              exact (hS5.below ((Below.refl _ w5).alloc (Nat.le_refl _) _)).grown hg7 (fun h => by have := (hown5.lt _ h.symm).1; omega)
            have hrest8 := own_beside (hrest5.alloc (.cells #[.string p, .string x2] 227)) (hown5.alloc (.cells #[.string p, .string x2] 227)) (by decide) hg7
            have hw7 : w.heap.size + 1 ≤ w7.heap.size := by have := hg7.size; simp at this; omega
            clear hg7 hat7 hown5 hrest5 hS5
            go_roundw
            case rel => exact ⟨k + 1, seen ++ [p], binds ++ [(p, x2)], rest, by omega, by go_num, by simp; omega, by omega, by simpa [cells2_append, cells2] using hown7, hrest8, hS8, HT, hb8, hw7⟩
            case measure => simp [intOf]; omega
          · have hb0' : (b != 0) = true := by simpa using hb0
            have HT := Lib.hid (HL.out.trans (declL_bind HE.out HD.out HNN.out HC.out HBD.out hb0))
            clear HL
            go_wp2
            go_ret3
            exact DeclPostF.bad HT.out hb0 hb6
    · have HT := Lib.hid (HL.out.trans (declL_end (by omega)))
      obtain ⟨C, kk, rfl, hC, _⟩ := own2 binds hown rfl rfl
      obtain ⟨D, mm, rfl, hD, _⟩ := own2 rest hrest rfl rfl
      go_wp2_with fail
      refine (extend_any A C sc binds c kk _ hsl (by omega) (hA.below hb) hC).mono ?_
      rintro e w2 ⟨E, ee, rfl, hE, hFE, hb2⟩
      go_wp2
      go_ret3
      exact DeclPostF.ok (by simp) HT.out hE (hD.below hb2) (hFE.mono hb.size) (hb.trans (hb2.mono hb.size))
end Go.Proofs.YtjohfljkhlkjoaaGreatDoor

