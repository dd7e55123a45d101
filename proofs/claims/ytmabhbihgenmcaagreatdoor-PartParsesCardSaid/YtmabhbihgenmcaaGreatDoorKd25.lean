/- QcW QcM QcN QcY. -/
import Derived.Deep.RegionWith
import Derived.Test.YtmabhbihgenmcaaGreatDoorKd14
import Derived.Test.YtmabhbihgenmcaaGreatDoorKd18
import Derived.Test.YtmabhbihgenmcaaGreatDoorKd19
import Derived.Test.YtmabhbihgenmcaaGreatDoorKd21
import Derived.Test.YtmabhbihgenmcaaGreatDoorKd24
namespace Wb
open Go Go.RowKit
theorem ofPr_inj : ∀ (a b : List Pr), a.map ofPr = b.map ofPr → a = b
  | [], [], _ => rfl
  | [], _ :: _, h => by simp at h
  | _ :: _, [], h => by simp at h
  | x :: a, y :: b, h => by
    rw [List.map_cons, List.map_cons, List.cons.injEq] at h
    unfold ofPr at h
    simp only [Prod.mk.injEq] at h
    rw [ofPr_inj a b h.2, show x = y from Prod.ext (eq_of_lists h.1.1) (eq_of_lists h.1.2)]
theorem pts_at {L M : List PtV} (h : ptsOf L = ptsOf M) {i : Nat} {x y : PtV} (h1 : L[i]? = some x) (h2 : M[i]? = some y) : x.2 = y.2 := by
  have e1 : (ptsOf L)[i]? = some (ptOf x) := by unfold ptsOf; rw [List.getElem?_map, h1]; rfl
  have e2 : (ptsOf M)[i]? = some (ptOf y) := by unfold ptsOf; rw [List.getElem?_map, h2]; rfl
  rw [h, e2] at e1
  injection e1 with e1
  unfold ptOf at e1
  simp only [Prod.mk.injEq] at e1
  exact Prod.ext (ofPr_inj _ _ e1.1).symm (eq_of_lists e1.2).symm
theorem pts_len {L M : List PtV} (h : ptsOf L = ptsOf M) : L.length = M.length := by
  have := congrArg List.length h
  unfold ptsOf at this
  rwa [List.length_map, List.length_map] at this
end Wb
namespace Go.Proofs.YtmabhbihgenmcaaGreatDoor
open Go.RowKit Wb
set_option maxRecDepth 100000 in
set_option maxHeartbeats 8000000 in
theorem rsame_any (A B : Option Addr) (L M : List PtV) (c d : Nat) (w : World) (hl : L.length ≤ 1000) (hA : SlP w A L) (hB : SlP w B M) (hLM : ptsOf L = ptsOf M) (hz : ∀ x ∈ L, x.2.1.length ≤ 1000000) :
    Calls Tryz.prog 15 #[.slice A L.length c, .slice B M.length d] w fun e w' => e = .returned (.bool true) ∧ Below w.heap.size w w' := by
  have hlen := pts_len hLM
  have HA := Lib.hid hA
  have HB := Lib.hid hB
  have HLM := Lib.hid hLM
  have HZ := Lib.hid hz
  have HLEN := Lib.hid hlen
  rw [← hlen]
  clear hA hB hLM hz hlen
  go_enter Tryz.func15, Tryz.ntmps15
  go_wp2
  go_loopw [5] (fun v5 wr => ∃ i : Nat, i ≤ L.length ∧ v5 = .int .i64 i ∧ Hid (Below w.heap.size w wr)) (fun v5 _ => L.length - (intOf v5).toNat)
  case atStart => exact ⟨0, by omega, rfl, Lib.hid (Below.refl _ _)⟩
  case round =>
    obtain ⟨i, hi, rfl, HW⟩ := hrel
    by_cases h0 : i < L.length
    · obtain ⟨⟨⟨x1, x3⟩, ⟨fs, body⟩⟩, hx⟩ : ∃ x, L[i]? = some x := ⟨L[i], List.getElem?_eq_getElem h0⟩
      obtain ⟨⟨⟨y1, y3⟩, ⟨fs2, body2⟩⟩, hy⟩ : ∃ x, M[i]? = some x := ⟨M[i]'(by have := HLEN.out; omega), List.getElem?_eq_getElem _⟩
      have he := pts_at HLM.out hx hy
      simp only [Prod.mk.injEq] at he
      obtain ⟨rfl, rfl⟩ := he
      have hzl := HZ.out _ (List.mem_of_getElem? hx)
      obtain ⟨ad, rfl, had, d0, d1, hfs⟩ := (HA.out.below HW.out).at_ hx
      obtain ⟨ae, rfl, hae, e0, e1, hfs2⟩ := (HB.out.below HW.out).at_ hy
      simp only at hzl d0 d1 e0 e1 hfs hfs2
      have hbd : (ad.add (i * 2)).block < wr.heap.size := by rw [add_block]; exact had
      have hbe : (ae.add (i * 2)).block < wr.heap.size := by rw [add_block]; exact hae
      have k1 := fields_same x1 y1 fs x3 y3 wr.drew hzl (hfs.below (Below.refl _ wr).drew) (hfs2.below (Below.refl _ wr).drew)
      have i0 : (0 : Int) ≤ (i : Int) := by omega
      have i1 : (i : Int) < (L.length : Int) := by omega
      have i2 : (i : Int) < (L.length : Int) := by omega
      have HSV := Lib.hid (fun (v : World) (h : Below wr.heap.size wr v) => (show v.cell? (ad.add (i * 2)) = some (.slice x1 fs.length x3) ∧ v.cell? ⟨(ad.add (i * 2)).block, (ad.add (i * 2)).off + 1, none⟩ = some (.string body) ∧ v.cell? (ae.add (i * 2)) = some (.slice y1 fs.length y3) ∧ v.cell? ⟨(ae.add (i * 2)).block, (ae.add (i * 2)).off + 1, none⟩ = some (.string body) from
        ⟨(h.cell hbd).trans d0, (h.cell (p := ⟨(ad.add (i * 2)).block, (ad.add (i * 2)).off + 1, none⟩) hbd).trans d1, (h.cell hbe).trans e0, (h.cell (p := ⟨(ae.add (i * 2)).block, (ae.add (i * 2)).off + 1, none⟩) hbe).trans e1⟩))
      have hwr := HW.out.size
      clear hx hy hfs hfs2 had hae d0 d1 e0 e1 hbd hbe
      go_upto_region 6 with fail
      (try simp only [List.append])
      refine wp_region_held_drew (S := (fun v => v.cell? (ad.add (i * 2)) = some (.slice x1 fs.length x3) ∧ v.cell? ⟨(ad.add (i * 2)).block, (ad.add (i * 2)).off + 1, none⟩ = some (.string body) ∧ v.cell? (ae.add (i * 2)) = some (.slice y1 fs.length y3) ∧ v.cell? ⟨(ae.add (i * 2)).block, (ae.add (i * 2)).off + 1, none⟩ = some (.string body))) (by kernel_rfl) (HSV.out _ (Below.refl _ wr).drew) (fun hHeld => ?_)
      refine takeW 0 ?_
      refine takeW 1 ?_
      refine takeW 2 ?_
      refine takeW 3 ?_
      (try simp only [Act.put, List.setIfInBounds_toArray, List.set_cons_zero, List.set_cons_succ])
      refine takeW 4 ?_
      refine takeW 5 ?_
      refine takeW 6 ?_
      refine takeW 7 ?_
      (try simp only [Act.put, List.setIfInBounds_toArray, List.set_cons_zero, List.set_cons_succ])
      refine takeW 8 ?_
      refine takeW 9 ?_
      refine takeW 10 ?_
      refine takeW 11 ?_
      (try simp only [Act.put, List.setIfInBounds_toArray, List.set_cons_zero, List.set_cons_succ])
      refine takeW 12 ?_
      refine takeW 13 ?_
      refine takeW 14 ?_
      refine takeW 15 ?_
      (try simp only [Act.put, List.setIfInBounds_toArray, List.set_cons_zero, List.set_cons_succ])
      refine takeW 16 ?_
      refine takeW 17 ?_
      refine takeW 18 ?_
      refine takeW 19 ?_
      (try simp only [Act.put, List.setIfInBounds_toArray, List.set_cons_zero, List.set_cons_succ])
      refine takeW 20 ?_
      refine takeW 21 ?_
      (try simp only [Act.put, List.setIfInBounds_toArray, List.set_cons_zero, List.set_cons_succ])
      refine wpAnyH_ready (rs := [22]) (by kernel_rfl) (by simp) ?_
      refine AllReadyH.cons rfl (fun K2 hK2 => ?_) AllReadyH.nil
      go_simp
      refine k1.mono ?_
      rintro e w10 ⟨rfl, hb10⟩
      have HB10 : Hid (Below wr.heap.size wr w10) := Lib.hid ((Below.refl _ wr).drew.trans hb10)
      clear hb10
      refine hK2.out _ _ (HSV.out _ HB10.out) (fun hHeld2 => ?_)
      refine takeW 23 ?_
      refine takeW 24 ?_
      (try simp only [Act.put, List.setIfInBounds_toArray, List.set_cons_zero, List.set_cons_succ])
      refine wpAnyH_done (by kernel_rfl) ?_ _
      have HW10 := Lib.hid (HW.out.trans (HB10.out.mono hwr))
      go_wp2
      go_roundw
      case rel => exact ⟨i + 1, by omega, by go_num, HW10⟩
      case measure => simp [intOf]; omega
    · go_wp2
      go_ret
      exact ⟨rfl, HW.out⟩
end Go.Proofs.YtmabhbihgenmcaaGreatDoor
namespace Wb
open Go Go.RowKit
theorem digs_one : digs 1 = [49] := by rw [digs, dif_neg (by decide), show 1 / 10 = 0 from rfl, digs, dif_pos rfl]; rfl
theorem digs_two : digs 2 = [50] := by rw [digs, dif_neg (by decide), show 2 / 10 = 0 from rfl, digs, dif_pos rfl]; rfl
theorem aw8_chose : ChoseN [([], [45, 45, 119, 98, 49])] 2 := by
  refine ⟨by decide, by decide, ?_, fun k h1 h2 => ?_⟩
  · unfold wbM
    rw [digs_two]
    kernel_rfl
  · obtain rfl : k = 1 := by omega
    unfold wbM
    rw [digs_one]
    kernel_rfl
def hiB : ByteArray := ⟨#[104, 105]⟩
def aw8L : List UInt8 := [45, 45, 98, 13, 10, 13, 10, 104, 105, 13, 10, 45, 45, 98, 45, 45, 13, 10]
theorem aw8_print : printM [98] [([], [104, 105])] = .ok aw8L := by kernel_rfl
theorem aw8_parse : parseM [98] aw8L = .ok [([], [104, 105])] := by kernel_rfl
end Wb
namespace Go.Proofs.YtmabhbihgenmcaaGreatDoor
open Go.RowKit Wb
end Go.Proofs.YtmabhbihgenmcaaGreatDoor
namespace Wb
open Go Go.RowKit
theorem pts_one {L : List PtV} {l : List UInt8} (h : ptsOf L = [([], l)]) : ∃ B d, L = [((B, d), ([], mkB l))] := by
  have hl := congrArg List.length h
  unfold ptsOf at hl
  rw [List.length_map] at hl
  obtain ⟨x, rfl⟩ := List.length_eq_one_iff.1 hl
  obtain ⟨⟨B, d⟩, ⟨fs, body⟩⟩ := x
  unfold ptsOf ptOf at h
  simp only [List.map_cons, List.map_nil, List.cons.injEq, Prod.mk.injEq, and_true, List.map_eq_nil_iff] at h
  refine ⟨B, d, ?_⟩
  rw [h.1, show body = mkB l from eq_of_lists (by rw [h.2]; rfl)]
def wb1B : ByteArray := ⟨#[45, 45, 119, 98, 49]⟩
end Wb
namespace Go.Proofs.YtmabhbihgenmcaaGreatDoor
open Go.RowKit Wb
theorem lit_part (w : World) (b : ByteArray) : SlP (w.alloc (.cells #[.slice none 0 0, .string b] 43)) (some ⟨w.heap.size, 0, none⟩) [((none, 0), ([], b))] :=
  ⟨Sl.lit w 2 [.slice none 0 0, .string b] 43 1 rfl, fun x hx => by
    rw [List.mem_singleton.1 hx]
    exact Sl2.nil _ _⟩
set_option maxRecDepth 100000 in
set_option maxHeartbeats 8000000 in
theorem awake8 (w : World) (hG : GvP w) : Calls Tryz.prog 7 #[] w fun e w' => e = .returned (.bool true) ∧ Below w.heap.size w w' := by
  have hb0 := (Below.refl w.heap.size w).alloc (Nat.le_refl _) (.cells #[.slice none 0 0, .string hiB] 43)
  have h1 := print8_any ⟨#[98]⟩ (some ⟨w.heap.size, 0, none⟩) [((none, 0), ([], hiB))] 1 (w.alloc (.cells #[.slice none 0 0, .string hiB] 43)) (by decide) (lit_part w hiB) (by decide) (by
    intro x hx
    rw [List.mem_singleton.1 hx]
    exact ⟨by decide, by decide, by decide⟩) (hG.1.next hb0)
  have e1 : printM (⟨#[98]⟩ : ByteArray).data.toList (ptsOf [((none, 0), ([], hiB))]) = .ok aw8L := aw8_print
  rw [e1] at h1
  have h1 : Calls Tryz.prog 9 #[.string ⟨#[98]⟩, .slice (some ⟨w.heap.size, 0, none⟩) 1 1] (w.alloc (.cells #[.slice none 0 0, .string hiB] 43)) fun e w' => e = .returned (.tuple #[.string (mkB aw8L), .int .i64 0]) ∧ Below (w.alloc (.cells #[.slice none 0 0, .string hiB] 43)).heap.size (w.alloc (.cells #[.slice none 0 0, .string hiB] 43)) w' := h1
  have h2 := fun v (hg : GvF v) => parse8_any (mkB aw8L) ⟨#[98]⟩ v (by decide) (by decide) hg
  have e2 : parseM (⟨#[98]⟩ : ByteArray).data.toList (mkB aw8L).data.toList = .ok [([], [104, 105])] := aw8_parse
  rw [e2] at h2
  have h2 : ∀ v, GvF v → Calls Tryz.prog 13 #[.string (mkB aw8L), .string ⟨#[98]⟩] v fun e w' => (∃ A c, ∃ L : List PtV, e = .returned (.tuple #[.slice A L.length c, .int .i64 0]) ∧ SlP w' A L ∧ ptsOf L = [([], [104, 105])]) ∧ Below v.heap.size v w' := h2
  have h3 := fun (v : World) (hg : GvP v) => choose_any (some ⟨v.heap.size, 0, none⟩) [((none, 0), ([], wb1B))] 1 2 (v.alloc (.cells #[.slice none 0 0, .string wb1B] 43)) (lit_part v wb1B) (by decide) (by
    intro x hx
    rw [List.mem_singleton.1 hx]
    exact ⟨by decide, by decide, by decide⟩) aw8_chose (hg.next ((Below.refl v.heap.size v).alloc (Nat.le_refl _) _))
  have q1 : ((mkB aw8L).toList == [45, 45, 98, 13, 10, 13, 10, 104, 105, 13, 10, 45, 45, 98, 45, 45, 13, 10]) = true := by rw [mkB_eqs]; decide
  have q2 : ((mkB [104, 105]).toList == [104, 105]) = true := by rw [mkB_eqs]; decide
  have q3 : ((mkB (wbM 2)).toList == [119, 98, 50]) = true := by
    rw [mkB_eqs]
    unfold wbM
    rw [digs_two]
    decide
  have HG := Lib.hid hG
  have HB0 := Lib.hid hb0
  clear hb0 hG e1 e2
  unfold hiB at h1 HB0
  unfold wb1B at h3
  generalize mkB aw8L = s1 at *
  generalize mkB (wbM 2) = s3 at *
  go_enter Tryz.func7, Tryz.ntmps7
  go_wp2_with fail
  refine h1.mono ?_
  rintro e w1 ⟨rfl, hb⟩
  have HB1 := Lib.hid (HB0.out.trans (hb.mono HB0.out.size))
  have k2 := h2 w1 (HG.out.next HB1.out).1
  clear hb h1 h2
  go_wp2_with fail
  refine k2.mono ?_
  rintro e w2 ⟨⟨A, c, L, rfl, hS, hpt⟩, hb⟩
  have HB2 := Lib.hid (HB1.out.trans (hb.mono HB1.out.size))
  obtain ⟨B, d, rfl⟩ := pts_one hpt
  obtain ⟨ad, rfl, _, c0, c1, _⟩ := hS.at_ (k := 0) rfl
  rw [Nat.zero_mul, Addr.add_zero'] at c0 c1
  simp only at c0 c1
  have k3 := h3 w2 (HG.out.next HB2.out)
  have HBA := Lib.hid (HB2.out.alloc HB2.out.size (.cells #[.slice none 0 0, .string ⟨#[45, 45, 119, 98, 49]⟩] 43))
  generalize mkB [104, 105] = s2 at *
  clear hb k2 hS hpt h3
  go_wp2_with fail
  refine k3.mono ?_
  rintro e w3 ⟨rfl, hb⟩
  have HB3 := Lib.hid (HBA.out.trans (hb.mono HBA.out.size))
  clear hb k3
  go_wp2
  go_ret
  refine ⟨?_, HB3.out⟩
  first
  | rfl
  | simp
end Go.Proofs.YtmabhbihgenmcaaGreatDoor
namespace Wb
open Go Go.RowKit
theorem parseL_few : ∀ (f k : Nat) (s : List UInt8) (x : List (List UInt8 × List UInt8) × List UInt8), k ≤ 8 → parseL f k s = .ok x → x.1.length + k ≤ 8
  | 0, _, _, _, _, h => by cases h
  | f + 1, k, s, x, hk, h => by
    rw [parseL_way] at h
    split at h
    · injection h with h
      rw [← h]
      simp only [List.length_nil]
      omega
    · split at h
      · cases h
      · split at h
        · cases h
        · rename_i hn
          split at h
          · cases h
          · split at h
            · rename_i l r hq
              injection h with h
              have := parseL_few f (k + 1) _ _ (by omega) hq
              rw [← h]
              simp only [List.length_cons] at this ⊢
              omega
            · cases h
theorem parseR_few {b : List UInt8} : ∀ (f k : Nat) (u : List UInt8) (l : List Pt), k ≤ 40 → parseR b f k u = .ok l → l.length + k ≤ 40 ∧ ∀ p ∈ l, p.1.length ≤ 8
  | 0, _, _, _, _, h => by cases h
  | f + 1, k, u, l, hk, h => by
    rw [parseR] at h
    split at h
    · split at h
      · cases h
      · injection h with h
        rw [← h]
        exact ⟨by simp only [List.length_nil]; omega, fun p hp => by cases hp⟩
    · split at h
      · cases h
      · split at h
        · cases h
        · rename_i hn
          split at h
          · cases h
          · rename_i x hx
            split at h
            · cases h
            · rename_i l2 hq
              injection h with h
              obtain ⟨h1, h2⟩ := parseR_few f (k + 1) _ _ (by omega) hq
              rw [← h]
              refine ⟨by rw [List.length_cons]; omega, fun p hp => ?_⟩
              rcases List.mem_cons.1 hp with rfl | hp
              · have := parseL_few _ _ _ _ (by omega) hx
                omega
              · exact h2 p hp
theorem parseM_few {b s : List UInt8} {l : List Pt} (h : parseM b s = .ok l) : l.length ≤ 40 ∧ ∀ p ∈ l, p.1.length ≤ 8 := by
  unfold parseM at h
  split at h
  · cases h
  · split at h
    · cases h
    · rw [parsePs_R] at h
      have := parseR_few _ _ _ _ (by omega) h
      exact ⟨by omega, this.2⟩
end Wb
namespace Go.Proofs.YtmabhbihgenmcaaGreatDoor
open Go.RowKit Wb
set_option maxRecDepth 100000 in
set_option maxHeartbeats 8000000 in
theorem parses_walk (s b : ByteArray) (w : World) (hG : GvP w) :
    Calls Tryz.prog 4 #[.string s, .string b] w fun e w' => e = .returned (.bool true) ∧ Below w.heap.size w w' := by
  have HG := Lib.hid hG
  clear hG
  go_enter Tryz.func4, Tryz.ntmps4
  go_wp2_with fail
  refine (awake8 w HG.out).mono ?_
  rintro e w1 ⟨rfl, hb⟩
  have HB1 := Lib.hid hb
  clear hb
  by_cases hs1 : (10000 : Int) < s.size
  · go_wp2
    go_ret
    exact ⟨rfl, HB1.out⟩
  by_cases hb1 : (2000 : Int) < b.size
  · go_wp2
    go_ret
    exact ⟨rfl, HB1.out⟩
  have k1 := parse8_any s b w1 (by omega) (by omega) (HG.out.next HB1.out).1
  have k2 := fun (v : World) => rparse8_any s b v (by omega) (by omega)
  cases ho : parseM b.data.toList s.data.toList with
  | error k =>
    rw [ho] at k1 k2
    have k1 : Calls Tryz.prog 13 #[.string s, .string b] w1 fun e w' => e = .returned (.tuple #[.slice none 0 0, .int .i64 k]) ∧ Below w1.heap.size w1 w' := k1
    have k2 : ∀ v, Calls Tryz.prog 14 #[.string s, .string b] v fun e w' => e = .returned (.tuple #[.slice none 0 0, .int .i64 k]) ∧ Below v.heap.size v w' := k2
    have k3 := fun (v : World) => rsame_any none none [] [] 0 0 v (by simp) (SlP.nil _ _) (SlP.nil _ _) rfl (fun x hx => by cases hx)
    have k3 : ∀ v, Calls Tryz.prog 15 #[.slice none 0 0, .slice none 0 0] v fun e w' => e = .returned (.bool true) ∧ Below v.heap.size v w' := k3
    have q1 := beq_self_eq_true k
    clear ho
    go_wp2_with fail
    refine k1.mono ?_
    rintro e w2 ⟨rfl, hb⟩
    have HB2 := Lib.hid (HB1.out.trans (hb.mono HB1.out.size))
    have k4 := k2 w2
    clear hb k1 k2
    go_wp2_with fail
    refine k4.mono ?_
    rintro e w3 ⟨rfl, hb⟩
    have HB3 := Lib.hid (HB2.out.trans (hb.mono HB2.out.size))
    have k5 := k3 w3
    clear hb k4 k3
    go_wp2_with fail
    refine k5.mono ?_
    rintro e w4 ⟨rfl, hb⟩
    have HB4 := Lib.hid (HB3.out.trans (hb.mono HB3.out.size))
    clear hb k5
    go_wp2
    go_ret
    refine ⟨?_, HB4.out⟩
    first
    | rfl
    | simp
  | ok l =>
    rw [ho] at k1 k2
    obtain ⟨hf1, hf2⟩ := parseM_few ho
    have k1 : Calls Tryz.prog 13 #[.string s, .string b] w1 fun e w' => (∃ A c, ∃ L : List PtV, e = .returned (.tuple #[.slice A L.length c, .int .i64 0]) ∧ SlP w' A L ∧ ptsOf L = l) ∧ Below w1.heap.size w1 w' := k1
    have k2 : ∀ v, Calls Tryz.prog 14 #[.string s, .string b] v fun e w' => (∃ A c, ∃ L : List PtV, e = .returned (.tuple #[.slice A L.length c, .int .i64 0]) ∧ SlP w' A L ∧ ptsOf L = l) ∧ Below v.heap.size v w' := k2
    clear ho
    go_wp2_with fail
    refine k1.mono ?_
    rintro e w2 ⟨⟨A, c, L, rfl, hS, hL⟩, hb⟩
    have HB2 := Lib.hid (HB1.out.trans (hb.mono HB1.out.size))
    have HS := Lib.hid hS
    have k4 := k2 w2
    clear hb k1 k2 hS
    go_wp2_with fail
    refine k4.mono ?_
    rintro e w3 ⟨⟨B, d, M, rfl, hT, hM⟩, hb⟩
    have HB3 := Lib.hid (HB2.out.trans (hb.mono HB2.out.size))
    have hll : L.length ≤ 40 := by
      rw [← hL] at hf1
      unfold ptsOf at hf1
      rwa [List.length_map] at hf1
    have hlz : ∀ x ∈ L, x.2.1.length ≤ 1000000 := fun x hx => by
      have h := hf2 (ptOf x) (by rw [← hL]; unfold ptsOf; exact List.mem_map.2 ⟨x, hx, rfl⟩)
      unfold ptOf at h
      rw [List.length_map] at h
      omega
    have k5 := rsame_any A B L M c d w3 (by omega) (HS.out.below hb) hT (by rw [hL, hM]) hlz
    clear hb k4 hT hL hM hf1 hf2 hlz
    go_wp2_with fail
    refine k5.mono ?_
    rintro e w4 ⟨rfl, hb⟩
    have HB4 := Lib.hid (HB3.out.trans (hb.mono HB3.out.size))
    clear hb k5
    go_wp2
    go_ret
    refine ⟨?_, HB4.out⟩
    first
    | rfl
    | simp
end Go.Proofs.YtmabhbihgenmcaaGreatDoor
