/- FhA. -/
import Derived.Test.YtblongcnmpdihaaDoorCd16
namespace Wb
open Go
def badL : List UInt8 := [40, 41, 60, 62, 64, 44, 59, 58, 92, 34, 47, 91, 93, 63, 61]
theorem all_take {p : UInt8 → Bool} {L : List UInt8} {i : Nat} {c : UInt8} (h : L[i]? = some c) : (L.take (i + 1)).all p = ((L.take i).all p && p c) := by
  rw [List.take_add_one, h, List.all_append]
  simp
theorem all_stop {p : UInt8 → Bool} {L : List UInt8} {i : Nat} {c : UInt8} (h : L[i]? = some c) (hp : p c = false) : L.all p = false := by
  cases hc : L.all p
  · rfl
  · rw [List.all_eq_true] at hc
    rw [hc c (List.mem_of_getElem? h)] at hp
    cases hp
theorem ba_get {s : ByteArray} {i : Nat} (h : i < s.size) : s.data.toList[i]? = some s[i] := by
  rw [List.getElem?_eq_getElem (by rw [← ba_size]; exact h)]
  rfl
theorem getF_drop {l : List Pr} {i : Nat} {x : Pr} (h : l[i]? = some x) (n : List UInt8) : getF ((l.drop i).map ofPr) n = if lowF x.1.data.toList = lowF n then some x.2.data.toList else getF ((l.drop (i + 1)).map ofPr) n := by
  obtain ⟨hi, e⟩ := List.getElem?_eq_some_iff.1 h
  rw [List.drop_eq_getElem_cons hi, e, List.map_cons, getF]
  rfl
end Wb
namespace Go.Proofs.YtblongcnmpdihaaDoor
open Go.RowKit Wb
set_option maxRecDepth 100000 in
set_option maxHeartbeats 4000000 in
theorem rtokb_any (c : UInt8) (w : World) :
    Calls Tryd.prog 33 #[.int .u8 (c.toNat : Int)] w fun e w' => e = .returned (.bool (tkC c)) ∧ Below w.heap.size w w' := by
  have hsz : (⟨#[40, 41, 60, 62, 64, 44, 59, 58, 92, 34, 47, 91, 93, 63, 61]⟩ : ByteArray).size = 15 := rfl
  go_enter Tryd.func33, Tryd.ntmps33
  go_wp2
  go_loopw [3] (fun v3 wr => ∃ i : Nat, i ≤ 15 ∧ v3 = .int .i64 i ∧ Hid ((badL.take i).all (fun d => d != c) = true) ∧ Hid (Below w.heap.size w wr)) (fun v3 _ => 15 - (intOf v3).toNat)
  case atStart => exact ⟨0, by omega, rfl, Lib.hid rfl, Lib.hid (Below.refl _ _)⟩
  case round =>
    obtain ⟨i, hi, rfl, HA, HB⟩ := hrel
    by_cases h0 : i < 15
    · have hg := ba_get (s := (⟨#[40, 41, 60, 62, 64, 44, 59, 58, 92, 34, 47, 91, 93, 63, 61]⟩ : ByteArray)) (i := i) (by rw [hsz]; exact h0)
      have hgl : badL[i]? = some ((⟨#[40, 41, 60, 62, 64, 44, 59, 58, 92, 34, 47, 91, 93, 63, 61]⟩ : ByteArray)[i]'(by rw [hsz]; exact h0)) := hg
      have hat := all_take (p := fun d => d != c) hgl
      by_cases hd : ((⟨#[40, 41, 60, 62, 64, 44, 59, 58, 92, 34, 47, 91, 93, 63, 61]⟩ : ByteArray)[i]'(by rw [hsz]; exact h0)) = c
      · have t1 : ((((⟨#[40, 41, 60, 62, 64, 44, 59, 58, 92, 34, 47, 91, 93, 63, 61]⟩ : ByteArray)[i]'(by rw [hsz]; exact h0)).toNat : Int) == (c.toNat : Int)) = true := by rw [hd]; simp
        have HF : Hid (tkC c = false) := Lib.hid (by
          have hm := List.mem_of_getElem? hgl
          rw [hd] at hm
          have : badL.contains c = true := by rw [List.contains_iff_mem]; exact hm
          unfold tkC
          show (_ && !(badL.contains c)) = false
          rw [this]
          simp)
        clear hd hg hgl hat
        go_wp2
        go_ret
        exact ⟨by rw [HF.out]; rfl, HB.out⟩
      · have t1 : ((((⟨#[40, 41, 60, 62, 64, 44, 59, 58, 92, 34, 47, 91, 93, 63, 61]⟩ : ByteArray)[i]'(by rw [hsz]; exact h0)).toNat : Int) == (c.toNat : Int)) = false := by
          rw [beq_eq_false_iff_ne]
          intro e
          exact hd (UInt8.toNat_inj.1 (by omega))
        have HN : Hid ((badL.take (i + 1)).all (fun d => d != c) = true) := Lib.hid (by
          rw [hat, HA.out]
          simpa using hd)
        clear hd hg hgl hat
        go_wp2
        go_roundw
        case rel => exact ⟨i + 1, by omega, by go_num, HN, HB⟩
        case measure => simp [intOf]; omega
    · obtain rfl : i = 15 := by omega
      have HC : Hid (badL.contains c = false) := Lib.hid (by
        have h := HA.out
        rw [show badL.take 15 = badL from rfl, List.all_eq_true] at h
        cases hc : badL.contains c
        · rfl
        · rw [List.contains_iff_mem] at hc
          have := h c hc
          simp at this)
      have HT : Hid (tkC c = (decide (33 ≤ c.toNat) && decide (c.toNat ≤ 126))) := Lib.hid (by
        unfold tkC
        show (_ && !(badL.contains c)) = _
        rw [HC.out]
        simp)
      by_cases h1 : 33 ≤ c.toNat
      · by_cases h2 : c.toNat ≤ 126
        · go_wp2
          go_ret
          refine ⟨?_, HB.out⟩
          rw [HT.out, decide_eq_true h1, decide_eq_true h2]
          first
          | rfl
          | (simp; omega)
        · go_wp2
          go_ret
          refine ⟨?_, HB.out⟩
          rw [HT.out, decide_eq_true h1, decide_eq_false h2]
          first
          | rfl
          | (simp; omega)
      · go_wp2
        go_ret
        refine ⟨?_, HB.out⟩
        rw [HT.out, decide_eq_false h1]
        first
        | rfl
        | (simp; omega)
set_option maxRecDepth 100000 in
set_option maxHeartbeats 4000000 in
theorem rtoken_any (s : ByteArray) (w : World) (hs : s.size ≤ 1000000) :
    Calls Tryd.prog 14 #[.string s] w fun e w' => e = .returned (.bool (tokenF s.data.toList)) ∧ Below w.heap.size w w' := by
  go_enter Tryd.func14, Tryd.ntmps14
  go_wp2
  go_loopw [3] (fun v3 wr => ∃ i : Nat, i ≤ s.size ∧ v3 = .int .i64 i ∧ Hid ((s.data.toList.take i).all tkC = true) ∧ Hid (Below w.heap.size w wr)) (fun v3 _ => s.size - (intOf v3).toNat)
  case atStart => exact ⟨0, by omega, rfl, Lib.hid rfl, Lib.hid (Below.refl _ _)⟩
  case round =>
    obtain ⟨i, hi, rfl, HA, HB⟩ := hrel
    by_cases h0 : i < s.size
    · have hg := ba_get h0
      have hk := rtokb_any s[i] wr
      cases ht : tkC s[i]
      · rw [ht] at hk
        have HF : Hid (tokenF s.data.toList = false) := Lib.hid (by unfold tokenF; rw [all_stop hg ht]; rfl)
        clear hg ht
        go_wp2_with fail
        refine hk.mono ?_
        rintro e w1 ⟨rfl, hb⟩
        have HB1 := Lib.hid (HB.out.trans (hb.mono HB.out.size))
        clear hb hk
        go_wp2
        go_ret
        exact ⟨by rw [HF.out]; rfl, HB1.out⟩
      · rw [ht] at hk
        have HN : Hid ((s.data.toList.take (i + 1)).all tkC = true) := Lib.hid (by rw [all_take hg, HA.out, ht]; rfl)
        clear hg ht
        go_wp2_with fail
        refine hk.mono ?_
        rintro e w1 ⟨rfl, hb⟩
        have HB1 := Lib.hid (HB.out.trans (hb.mono HB.out.size))
        clear hb hk
        go_wp2
        go_roundw
        case rel => exact ⟨i + 1, by omega, by go_num, HN, HB1⟩
        case measure => simp [intOf]; omega
    · obtain rfl : i = s.size := by omega
      have HT : Hid (tokenF s.data.toList = decide (0 < s.size)) := Lib.hid (by
        have h := HA.out
        rw [ba_size, List.take_length] at h
        unfold tokenF
        rw [h, ba_size s]
        cases s.data.toList <;> simp)
      go_wp2
      go_ret
      refine ⟨?_, HB.out⟩
      rw [HT.out]
      first
      | rfl
      | simp
set_option maxRecDepth 100000 in
set_option maxHeartbeats 4000000 in
theorem rnamed_any (s : ByteArray) (w : World) (hs : s.size ≤ 1000000) :
    Calls Tryd.prog 25 #[.string s] w fun e w' => e = .returned (.bool (namedF s.data.toList)) ∧ Below w.heap.size w w' := by
  go_enter Tryd.func25, Tryd.ntmps25
  go_wp2
  go_loopw [3] (fun v3 wr => ∃ i : Nat, i ≤ s.size ∧ v3 = .int .i64 i ∧ Hid ((s.data.toList.take i).all nameC = true) ∧ Hid (Below w.heap.size w wr)) (fun v3 _ => s.size - (intOf v3).toNat)
  case atStart => exact ⟨0, by omega, rfl, Lib.hid rfl, Lib.hid (Below.refl _ _)⟩
  case round =>
    obtain ⟨i, hi, rfl, HA, HB⟩ := hrel
    by_cases h0 : i < s.size
    · have hg := ba_get h0
      cases ht : nameC s[i]
      · have HF : Hid (namedF s.data.toList = false) := Lib.hid (by unfold namedF; rw [all_stop hg ht]; rfl)
        have hcs : s[i].toNat < 33 ∨ (33 ≤ s[i].toNat ∧ 126 < s[i].toNat) ∨ (33 ≤ s[i].toNat ∧ s[i].toNat ≤ 126 ∧ s[i].toNat = 58) := by
          unfold nameC at ht
          by_cases g1 : 33 ≤ s[i].toNat
          · by_cases g2 : s[i].toNat ≤ 126
            · rw [decide_eq_true g1, decide_eq_true g2] at ht
              simp at ht
              exact .inr (.inr ⟨g1, g2, by rw [ht]; rfl⟩)
            · exact .inr (.inl ⟨g1, by omega⟩)
          · exact .inl (by omega)
        clear hg ht
        rcases hcs with h1 | ⟨h1, h2⟩ | ⟨h1, h2, h3⟩
        all_goals
          go_wp2
          go_ret
          exact ⟨by rw [HF.out]; rfl, HB.out⟩
      · have HN : Hid ((s.data.toList.take (i + 1)).all nameC = true) := Lib.hid (by rw [all_take hg, HA.out, ht]; rfl)
        have hcs : 33 ≤ s[i].toNat ∧ s[i].toNat ≤ 126 ∧ s[i].toNat ≠ 58 := by
          unfold nameC at ht
          simp only [Bool.and_eq_true, decide_eq_true_eq, bne_iff_ne, ne_eq] at ht
          exact ⟨ht.1.1, ht.1.2, fun e => ht.2 (UInt8.toNat_inj.1 e)⟩
        obtain ⟨h1, h2, h3⟩ := hcs
        have h3' : (((s[i].toNat : Int)) == 58) = false := by rw [beq_eq_false_iff_ne]; omega
        clear hg ht
        go_wp2
        go_roundw
        case rel => exact ⟨i + 1, by omega, by go_num, HN, HB⟩
        case measure => simp [intOf]; omega
    · obtain rfl : i = s.size := by omega
      have HT : Hid (namedF s.data.toList = (decide (1 ≤ s.size) && decide (s.size ≤ 64))) := Lib.hid (by
        have h := HA.out
        rw [ba_size, List.take_length] at h
        unfold namedF
        rw [h, ba_size s]
        simp)
      by_cases h1 : 1 ≤ s.size
      · by_cases h2 : s.size ≤ 64
        · go_wp2
          go_ret
          refine ⟨?_, HB.out⟩
          rw [HT.out, decide_eq_true h1, decide_eq_true h2]
          first
          | rfl
          | (simp; omega)
        · go_wp2
          go_ret
          refine ⟨?_, HB.out⟩
          rw [HT.out, decide_eq_true h1, decide_eq_false h2]
          first
          | rfl
          | (simp; omega)
      · go_wp2
        go_ret
        refine ⟨?_, HB.out⟩
        rw [HT.out, decide_eq_false h1]
        first
        | rfl
        | (simp; omega)
set_option maxRecDepth 100000 in
set_option maxHeartbeats 4000000 in
theorem rget_any (A : Option Addr) (l : List Pr) (c : Nat) (nm : ByteArray) (w : World) (hA : Sl2 w A l) (hl : l.length ≤ 100000) (hn : nm.size ≤ 1000000) (hz : ∀ x ∈ l, x.1.size ≤ 1000000) :
    Calls Tryd.prog 12 #[.slice A l.length c, .string nm] w fun e w' => GotOut (getF (l.map ofPr) nm.data.toList) e ∧ Below w.heap.size w w' := by
  obtain ⟨o, ho⟩ : ∃ o, getF (l.map ofPr) nm.data.toList = o := ⟨_, rfl⟩
  rw [ho]
  have HO := Lib.hid ho
  have HA := Lib.hid hA
  clear ho hA
  go_enter Tryd.func12, Tryd.ntmps12
  go_wp2
  go_loopw [6] (fun v6 wr => ∃ i : Nat, i ≤ l.length ∧ v6 = .int .i64 i ∧ Hid (o = getF ((l.drop i).map ofPr) nm.data.toList) ∧ Hid (Below w.heap.size w wr)) (fun v6 _ => l.length - (intOf v6).toNat)
  case atStart => exact ⟨0, by omega, rfl, Lib.hid (by rw [List.drop_zero]; exact HO.out.symm), Lib.hid (Below.refl _ _)⟩
  case round =>
    obtain ⟨i, hi, rfl, HQ, HB⟩ := hrel
    by_cases h0 : i < l.length
    · obtain ⟨x, hx⟩ : ∃ x, l[i]? = some x := ⟨l[i], List.getElem?_eq_getElem h0⟩
      have hgd := getF_drop hx nm.data.toList
      have hzx := hz x (List.mem_of_getElem? hx)
      have k1 := rlower_any x.1 wr hzx
      have k2 := fun u => rlower_any nm u hn
      obtain ⟨ad, rfl, had, d0, d1⟩ := (HA.out.below HB.out).at_ hx
      have hbk : (ad.add (i * 2)).block < wr.heap.size := by rw [add_block]; exact had
      have HD1 := Lib.hid (fun (u : World) (h : Below wr.heap.size wr u) => (h.cell (p := ⟨(ad.add (i * 2)).block, (ad.add (i * 2)).off + 1, none⟩) hbk).trans d1)
      have hi0 : (0 : Int) ≤ (i : Int) := by omega
      have hi1 : (i : Int) < (l.length : Int) := by omega
      by_cases he : lowF x.1.data.toList = lowF nm.data.toList
      · have HG : Hid (o = some x.2.data.toList) := Lib.hid (by rw [HQ.out, hgd, if_pos he])
        have heb : lowB x.1 = lowB nm := (lowB_iff _ _).2 he
        rw [heb] at k1
        generalize lowB nm = lo at *
        have t1 := beq_self_eq_true lo.toList
        clear he heb hgd hx had d1 hbk
        go_wp2_with fail
        refine k1.mono ?_
        rintro e w1 ⟨rfl, hb⟩
        have HB1 := Lib.hid hb
        have k3 := k2 w1
        clear hb k1 k2
        go_wp2_with fail
        refine k3.mono ?_
        rintro e w2 ⟨rfl, hb⟩
        have HB2 := Lib.hid (HB1.out.trans (hb.mono HB1.out.size))
        have c1 := HD1.out _ HB2.out
        have hws := HB.out.size
        clear hb k3
        go_wp2
        go_ret2
        rw [HG.out]
        exact ⟨rfl, HB.out.trans (HB2.out.mono hws)⟩
      · have HN : Hid (o = getF ((l.drop (i + 1)).map ofPr) nm.data.toList) := Lib.hid (by rw [HQ.out, hgd, if_neg he])
        have heb : lowB x.1 ≠ lowB nm := fun h => he ((lowB_iff _ _).1 h)
        have t1 : ((lowB x.1).toList == (lowB nm).toList) = false := by
          rw [beq_eq_false_iff_ne, Lib.toList_data, Lib.toList_data]
          exact fun h => heb (eq_of_lists h)
        clear heb
        generalize lowB nm = lo at *
        generalize lowB x.1 = lx at *
        clear he hgd hx had d1 hbk
        go_wp2_with fail
        refine k1.mono ?_
        rintro e w1 ⟨rfl, hb⟩
        have HB1 := Lib.hid hb
        have k3 := k2 w1
        clear hb k1 k2
        go_wp2_with fail
        refine k3.mono ?_
        rintro e w2 ⟨rfl, hb⟩
        have hws := HB.out.size
        have HB2 := Lib.hid (HB.out.trans ((HB1.out.trans (hb.mono HB1.out.size)).mono hws))
        clear hb k3
        go_wp2
        go_roundw
        case rel => exact ⟨i + 1, by omega, by go_num, HN, HB2⟩
        case measure => simp [intOf]; omega
    · have HE : Hid (o = none) := Lib.hid (by rw [HQ.out, List.drop_eq_nil_of_le (by omega)]; rfl)
      go_wp2
      go_ret2
      rw [HE.out]
      exact ⟨rfl, HB.out⟩
end Go.Proofs.YtblongcnmpdihaaDoor
