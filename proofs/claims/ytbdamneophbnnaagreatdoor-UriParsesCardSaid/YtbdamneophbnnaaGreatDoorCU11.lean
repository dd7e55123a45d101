/- QdB QdC QdD SbA SbB ScA. -/
import Derived.Deep.Draws
import Derived.Lib.IndexMore
import Derived.Lib.Strings
import Derived.Lib.ParseIntBCases
import Derived.Test.YtbdamneophbnnaaGreatDoorCU6
import Derived.Test.YtbdamneophbnnaaGreatDoorCU8
import Derived.Test.YtbdamneophbnnaaGreatDoorCU10
namespace Wb
def okK (keep : List UInt8) (c : UInt8) (k : Nat) : Bool := plC c || (keep.take k).contains c
theorem okK_step {keep : List UInt8} {c : UInt8} {k : Nat} (h : k < keep.length) : okK keep c (k + 1) = (okK keep c k || (keep[k] == c)) := by
  unfold okK
  rw [← List.take_append_getElem h, List.contains_append, Bool.or_assoc]
  congr 2
  rw [List.contains_cons, List.contains_nil, Bool.or_false]
  rw [Bool.eq_iff_iff, beq_iff_eq, beq_iff_eq]
  exact eq_comm
theorem okK_end {keep : List UInt8} {c : UInt8} {k : Nat} (h : keep.length ≤ k) : okK keep c k = (plC c || keep.contains c) := by
  unfold okK
  rw [List.take_of_length_le h]
theorem u8_eqn (a b : UInt8) : ((a.toNat : Int) == (b.toNat : Int)) = (a == b) := by
  rw [Bool.eq_iff_iff, beq_iff_eq, beq_iff_eq]
  exact ⟨fun h => UInt8.toNat_inj.1 (by omega), fun h => by rw [h]⟩
theorem hex_tab (n : Nat) (h : n < 16) : (ByteArray.mk #[48, 49, 50, 51, 52, 53, 54, 55, 56, 57, 65, 66, 67, 68, 69, 70])[n]'h = hexG n := by
  have t : ∀ v : Fin 16, (ByteArray.mk #[48, 49, 50, 51, 52, 53, 54, 55, 56, 57, 65, 66, 67, 68, 69, 70])[v.val]'v.isLt = hexG v.val := by decide
  exact t ⟨n, h⟩
end Wb
namespace Go.Proofs.YtbdamneophbnnaaGreatDoor
open Go.RowKit Wb
set_option maxRecDepth 100000 in
set_option maxHeartbeats 8000000 in
theorem rencode_any (s keep : ByteArray) (w : World) (hs : s.size ≤ 1000000) (hkp : keep.size ≤ 1000000) :
    Calls Tryz.prog 31 #[.string s, .string keep] w fun e w' => e = .returned (.string ⟨(pctE keep.data.toList s.data.toList).toArray⟩) ∧ Below w.heap.size w w' := by
  obtain ⟨i0, hi, hz0, hz1, hz2⟩ := info_parts txt_byte
  go_enter Tryz.func31, Tryz.ntmps31
  go_wp2
  go_loopw [5, 6, 7, 8, 9] (fun v5 v6 _ _ _ wr => ∃ (i : Nat) (out : List UInt8), i ≤ s.size ∧ v6 = .int .i64 i ∧ out.length ≤ 3 * i ∧ Hid (out = pctE keep.data.toList (s.data.toList.take i)) ∧ Hid (wr.ownsRow w.heap.size 5 1 v5 out.length (cellsB out)) ∧ Hid (Below w.heap.size w wr)) (fun _ v6 _ _ _ _ => ((s.size : Int) - intOf v6).toNat)
  case atStart => exact ⟨0, [], by omega, rfl, by simp, Lib.hid (by simp [pctE]), Lib.hid (World.ownsRow_nil _ _ _ _), Lib.hid (Below.refl _ _)⟩
  case round =>
    obtain ⟨i, out, hil, rfl, hol, HO, HW, HB⟩ := hrel
    by_cases h0 : i < s.size
    · have HE := Lib.hid (enc_step keep.data.toList s.data.toList i (by simpa using h0))
      obtain ⟨c, hc⟩ : ∃ c, s[i] = c := ⟨_, rfl⟩
      have HE2 : Hid (pctE keep.data.toList (s.data.toList.take (i + 1)) = out ++ pctC keep.data.toList c) := Lib.hid (by
        rw [HE.out, ← HO.out, ← hc]
        rfl)
      have HL := Lib.hid (pctC_len keep.data.toList c)
      clear HE HO
      go_wp2_with fail
      (try rw [hc])
      refine (r9plain_any c _).mono ?_
      rintro e w2 ⟨rfl, rfl⟩
      (try rw [hc])
      clear hc
      have hbs := HB.out.size
      go_wp2
      go_loopw [8, 9] (fun v8 v9 wq => ∃ (k : Nat) (q : Bool), k ≤ keep.size ∧ v9 = .int .i64 k ∧ v8 = .bool q ∧ Hid (okK keep.data.toList c k = q) ∧ wq = wr) (fun _ v9 _ => ((keep.size : Int) - intOf v9).toNat)
      case atStart => exact ⟨0, _, by omega, rfl, rfl, Lib.hid (by unfold okK; simp), rfl⟩
      case round =>
        obtain ⟨k, q, hk, rfl, rfl, HQ, rfl⟩ := hrel
        by_cases hk0 : k < keep.size
        · have hst := okK_step (c := c) (show k < keep.data.toList.length by simpa using hk0)
          rw [HQ.out] at hst
          have t1 : (((keep[k]).toNat : Int) == (c.toNat : Int)) = (keep.data.toList[k]'(by simpa using hk0) == c) := u8_eqn _ _
          cases q
          · rw [Bool.false_or] at hst
            rw [← hst] at t1
            cases hd : okK keep.data.toList c (k + 1)
            all_goals
              rw [hd] at t1
              have HD := Lib.hid hd
              clear hd hst
              go_wp2
              go_roundw
              case rel => exact ⟨k + 1, _, by omega, by go_num, rfl, HD, by first | rfl | trivial⟩
              case measure => simp [intOf]; omega
          · have HD := Lib.hid hst
            clear hst t1
            go_wp2
            go_roundw
            case rel => exact ⟨k + 1, true, by omega, by go_num, rfl, Lib.hid (HD.out.trans (by simp)), by first | rfl | trivial⟩
            case measure => simp [intOf]; omega
        · have hq := okK_end (c := c) (show keep.data.toList.length ≤ k by simp; omega)
          rw [HQ.out] at hq
          clear HQ
          have hmA : out.length + 1 ≤ maxLen := by simp only [maxLen]; omega
          have hmC : out.length + 3 ≤ maxLen := by simp only [maxLen]; omega
          have hp37 : ((c.toNat : Int) == 37) = decide (c = 37) := by
            rw [show (37 : Int) = ((37 : UInt8).toNat : Int) from rfl, u8_eqn]
            rw [Bool.eq_iff_iff, beq_iff_eq, decide_eq_true_eq]
          by_cases hx : q = true ∧ c ≠ 37
          · obtain ⟨rfl, hx⟩ := hx
            rw [decide_eq_false hx] at hp37
            have HC : Hid (pctE keep.data.toList (s.data.toList.take (i + 1)) = out ++ [c]) := Lib.hid (by
              rw [HE2.out, pctC, ← hq, if_pos (by simp [hx])])
            clear hq HE2 hx
            go_upto_region 12 with fail
            go_wp2_with (at_builtin; apply Classical.byContradiction; intro hNG)
            refine hNG ?_
            refine wpList_append_sl _ rfl (.tmp 40) (.tmp 42) _ rfl w.heap.size 5 i0 _ 1 1 Tryz.underlying74 hi hz0 hz1 hz2 rfl (by omega) _ out.length (cellsB out) rfl (HW.out.alloc _) (some ⟨wr.heap.size, 0, none⟩) 1 1 [.int .u8 (c.toNat : Int)] rfl (Sl.lit wr 1 [.int .u8 (c.toNat : Int)] _ 1 rfl) (cellsB_one [c]) hmA (by omega) (HB.out.alloc HB.out.size _).size ?_
            intro v4 w4 hown4 hg4 hat4
            have HB4 := Lib.hid ((HB.out.alloc HB.out.size _).grown hg4 (HB.out.alloc HB.out.size _).size (fun g hg => (HW.out.lt g hg).1))
            have HOWN := Lib.hid hown4
            clear hown4 hg4 hat4
            go_wp2
            go_roundw
            case rel => exact ⟨i + 1, out ++ [c], by omega, by go_num, by rw [List.length_append]; simp; omega, Lib.hid HC.out.symm, Lib.hid (by rw [List.length_append, cellsB_append]; exact HOWN.out), HB4⟩
            case measure => simp [intOf]; omega
          · have HC : Hid (pctE keep.data.toList (s.data.toList.take (i + 1)) = out ++ [37, hexG (c.toNat / 16), hexG (c.toNat % 16)]) := Lib.hid (by
              rw [HE2.out, pctC, ← hq, if_neg (by
                intro h
                rw [Bool.and_eq_true, bne_iff_ne] at h
                exact hx h)])
            clear HE2 hq
            have hcl := c.toNat_lt
            have e1 : (c.toNat : Int).tdiv 16 = ((c.toNat / 16 : Nat) : Int) := by rw [Int.tdiv_eq_ediv_of_nonneg (by omega)]; omega
            have e2 : (c.toNat : Int).tmod 16 = ((c.toNat % 16 : Nat) : Int) := by rw [Int.tmod_eq_emod_of_nonneg (by omega)]; omega
            have hpl : c.toNat / 16 < 16 := by omega
            have hql : c.toNat % 16 < 16 := by omega
            have hq37 : q = false ∨ (q = true ∧ ((c.toNat : Int) == 37) = true) := by
              cases q
              · exact .inl rfl
              · exact .inr ⟨rfl, by rw [hp37, decide_eq_true_eq]; by_cases h : c = 37; exact h; exact absurd ⟨rfl, h⟩ hx⟩
            clear hx hp37
            rcases hq37 with rfl | ⟨rfl, hp37⟩
            all_goals
              go_upto_region 13 with fail
              generalize c.toNat / 16 = pn at *
              generalize c.toNat % 16 = qn at *
              have f1 : IntKind.u8.wrap (pn : Int) = (pn : Int) := by rw [IntKind.wrap_u8]; omega
              have f2 : IntKind.u8.wrap (qn : Int) = (qn : Int) := by rw [IntKind.wrap_u8]; omega
              have x1 := hex_tab pn hpl
              have x2 := hex_tab qn hql
              have l1 : (pn : Int) < 16 := by omega
              have l2 : (qn : Int) < 16 := by omega
              generalize hexG pn = hp at *
              generalize hexG qn = hq at *
              have HRd : Hid (wr.drew.ownsRow w.heap.size 5 1 u5 out.length (cellsB out)) := Lib.hid HW.out
              have HBd : Hid (Below w.heap.size w wr.drew) := Lib.hid HB.out.drew
              have hwz : w.heap.size ≤ wr.drew.heap.size := HBd.out.size
              clear HL
              (try simp only [List.append])
              refine wp_region_held_drew (S := (fun _ => True)) (by kernel_rfl) (trivial) (fun hHeld => ?_)
              refine takeW 0 ?_
              refine takeW 1 ?_
              refine takeW 2 ?_
              refine takeW 3 ?_
              (try simp only [Act.put, List.setIfInBounds_toArray, List.set_cons_zero, List.set_cons_succ])
              refine takeW 4 ?_
              refine takeW 5 ?_
              refine takeW 6 ?_
              (try simp only [Act.put, List.setIfInBounds_toArray, List.set_cons_zero, List.set_cons_succ])
              refine wpAnyH_ready (rs := [7]) (by kernel_rfl) (by simp) ?_
              refine AllReadyH.cons rfl (fun K2 hK2 => ?_) AllReadyH.nil
              go_simp
              refine hK2.out _ _ trivial (fun _ => ?_)
              (try simp only [Act.put, List.setIfInBounds_toArray, List.set_cons_zero, List.set_cons_succ])
              refine wpAnyH_ready (rs := [8]) (by kernel_rfl) (by simp) ?_
              refine AllReadyH.cons rfl (fun K2 hK2 => ?_) AllReadyH.nil
              skip
              refine step_append_sl _ rfl (.tmp 44) (.tmp 51) _ rfl w.heap.size 5 i0 _ 1 1 Tryz.underlying74 hi hz0 hz1 hz2 rfl (by omega) _ out.length (cellsB out) rfl (HRd.out.alloc _) (some ⟨wr.drew.heap.size, 0, none⟩) 3 3 [.int .u8 37, .int .u8 (hp.toNat : Int), .int .u8 (hq.toNat : Int)] rfl (Sl.lit wr.drew 1 [.int .u8 37, .int .u8 (hp.toNat : Int), .int .u8 (hq.toNat : Int)] _ 3 rfl) (cellsB_one [37, hp, hq]) hmC (by omega) (by simp; omega) ?_
              intro v5 w5 hown5 hg5 hat5
              change K2 (Act.put _ (some 52) v5) w5
              refine hK2.out _ _ trivial (fun _ => ?_)
              refine takeW 9 ?_
              (try simp only [Act.put, List.setIfInBounds_toArray, List.set_cons_zero, List.set_cons_succ])
              refine wpAnyH_done (by kernel_rfl) ?_ _
              have HB4 := Lib.hid ((HBd.out.alloc hwz _).grown hg5 (by simp; omega) (fun g hg => (HRd.out.lt g hg).1))
              have HOWN := Lib.hid hown5
              clear hown5 hg5 hat5
              go_wp2
              go_roundw
              case rel => exact ⟨i + 1, out ++ [37, hp, hq], by omega, by go_num, by rw [List.length_append]; simp; omega, Lib.hid HC.out.symm, Lib.hid (by rw [List.length_append, cellsB_append]; exact HOWN.out), HB4⟩
              case measure => simp [intOf]; omega
    · have HO2 := Lib.hid (HO.out.trans (by rw [List.take_of_length_le (by simp; omega)]))
      have hconv := run_txt out HW.out
      rw [HO2.out] at hconv
      go_wp2
      go_ret
      exact ⟨rfl, HB.out⟩
end Go.Proofs.YtbdamneophbnnaaGreatDoor
namespace Wb
theorem u8_is37 (c : UInt8) (b : Bool) (h : (c == 37) = b) : ((c.toNat : Int) == 37) = b := by
  rw [show (37 : Int) = ((37 : UInt8).toNat : Int) from rfl, u8_eqn, h]
end Wb
namespace Go.Proofs.YtbdamneophbnnaaGreatDoor
open Go.RowKit Wb
end Go.Proofs.YtbdamneophbnnaaGreatDoor
namespace Wb
open Go Go.RowKit
def pcsB (c : UInt8) (s : ByteArray) : List ByteArray := (pieceF c s.data.toList).map fun l => ⟨l.toArray⟩
theorem ext_sub (s : ByteArray) (a b : Nat) : (s.extract a b).data.toList = (s.data.toList.take b).drop a := by
  rw [ByteArray.data_extract, Array.toList_extract]
  unfold List.extract
  rw [List.drop_take]
end Wb
namespace Go.Proofs.YtbdamneophbnnaaGreatDoor
open Go.RowKit Wb
theorem txt_string : (Tryz.prog.info? 9).map (fun i => (i.zero, i.size, i.bytes)) = some (some (.string ⟨#[]⟩), 1, 16) := by kernel_rfl
def PieOut (L : List ByteArray) (w : World) (e : Ending) (w' : World) : Prop := ∃ v, e = .returned v ∧ w'.ownsRow w.heap.size 9 1 v L.length (cells1 L) ∧ Below w.heap.size w w'
end Go.Proofs.YtbdamneophbnnaaGreatDoor
namespace Go.Proofs.YtbdamneophbnnaaGreatDoor
open Go.RowKit Wb
theorem beg_list {s t : ByteArray} {i : Nat} : begAt s i t = decide ((s.data.toList.drop i).take t.size = t.data.toList) := by
  unfold begAt
  rw [ByteArray.toList_eq, ByteArray.toList_eq, ext_list, Nat.add_sub_cancel_left, Bool.eq_iff_iff, beq_iff_eq, decide_eq_true_eq]
theorem beg_one {s : ByteArray} {c : UInt8} {i : Nat} (h : i < s.data.toList.length) : begAt s i ⟨#[c]⟩ = decide (s.data.toList[i] = c) := by
  rw [beg_list]
  have e : (⟨#[c]⟩ : ByteArray).size = 1 := rfl
  have e2 : (⟨#[c]⟩ : ByteArray).data.toList = [c] := rfl
  rw [e, e2, List.drop_eq_getElem_cons h, List.take_succ_cons, List.take_zero]
  simp
theorem drop_two (s : ByteArray) {a k : Nat} (h1 : a ≤ k) (h2 : k < s.data.toList.length) : s.data.toList.drop a = (s.extract a k).data.toList ++ s.data.toList[k] :: s.data.toList.drop (k + 1) := by
  rw [ext_list, ← List.drop_eq_getElem_cons h2]
  have : s.data.toList.drop k = (s.data.toList.drop a).drop (k - a) := by rw [List.drop_drop]; congr 1; omega
  rw [this, List.take_append_drop]
theorem idx_list {s : ByteArray} {a : Nat} {c : UInt8} {r : Int} (h : IdxIs s a ⟨#[c]⟩ r) :
    (r = -1 ∧ ∀ x ∈ s.data.toList.drop a, x ≠ c) ∨ ∃ k : Nat, r = k ∧ a ≤ k ∧ k < s.size ∧ s.data.toList.drop a = (s.extract a k).data.toList ++ c :: s.data.toList.drop (k + 1) ∧ ∀ x ∈ (s.extract a k).data.toList, x ≠ c := by
  have e1 : (⟨#[c]⟩ : ByteArray).size = 1 := rfl
  have hsz : s.data.toList.length = s.size := by simp
  rcases h with ⟨h1, h2⟩ | ⟨k, h1, h2, h3, h4, h5⟩
  · refine .inl ⟨h1, fun x hx e => ?_⟩
    obtain ⟨i, hi, hxi⟩ := List.getElem_of_mem hx
    rw [List.length_drop] at hi
    have := h2 (a + i) (by omega) (by omega)
    rw [beg_one (by omega), decide_eq_false_iff_not] at this
    apply this
    rw [List.getElem_drop] at hxi
    rw [hxi]
    exact e
  · rw [e1] at h3
    rw [beg_one (by omega), decide_eq_true_eq] at h4
    refine .inr ⟨k, h1, h2, by omega, ?_, fun x hx e => ?_⟩
    · have := drop_two s h2 (k := k) (by omega)
      rw [h4] at this
      exact this
    · obtain ⟨i, hi, hxi⟩ := List.getElem_of_mem hx
      have hl : i < k - a := by
        rw [ext_list, List.length_take, List.length_drop] at hi
        omega
      have := h5 (a + i) (by omega) (by omega)
      rw [beg_one (by omega), decide_eq_false_iff_not] at this
      apply this
      have hg : (s.extract a k).data.toList[i] = s.data.toList[a + i] := by
        simp only [ext_list, List.getElem_take, List.getElem_drop]
      rw [← hg, hxi]
      exact e
end Go.Proofs.YtbdamneophbnnaaGreatDoor
namespace Wb
theorem bindsL_none {f : Nat} {s : List UInt8} {out : List Pr} (hne : s.dropWhile blkU ≠ []) (h : bind1 (s.dropWhile blkU) = none) : bindsL (f + 1) s out = ([], 4) := by
  rw [bindsL]
  split
  · rename_i e; exact absurd e hne
  · rename_i c l e
    rw [← e, h]
theorem bindsL_some {f : Nat} {s n sp r : List UInt8} {out : List Pr} (hne : s.dropWhile blkU ≠ []) (h : bind1 (s.dropWhile blkU) = some ((n, sp), r)) :
    bindsL (f + 1) s out = if 16 ≤ out.length then ([], 3) else if bindB ⟨n.toArray⟩ ⟨sp.toArray⟩ = 0 then bindsL f r (out ++ [(⟨n.toArray⟩, ⟨sp.toArray⟩)]) else ([], bindB ⟨n.toArray⟩ ⟨sp.toArray⟩) := by
  rw [bindsL]
  split
  · rename_i e; exact absurd e hne
  · rename_i c l e
    rw [← e, h]
theorem bindsL_end {f : Nat} {s : List UInt8} {out : List Pr} (h : s.dropWhile blkU = []) : bindsL (f + 1) s out = (out, 0) := by
  rw [bindsL, h]
end Wb
namespace Go.Proofs.YtbdamneophbnnaaGreatDoor
open Go.RowKit Wb
def BindsOut (m : List Pr × Int) (w : World) (e : Ending) (w' : World) : Prop := ∃ A c, e = .returned (.tuple #[.slice A m.1.length c, .int .i64 m.2]) ∧ Sl2 w' A m.1 ∧ Below w.heap.size w w'
theorem BindsOut.bad {k : Int} {w w' : World} (hb : Below w.heap.size w w') : BindsOut ([], k) w (.returned (.tuple #[.slice none 0 0, .int .i64 k])) w' := ⟨none, 0, rfl, Sl2.nil _ _, hb⟩
end Go.Proofs.YtbdamneophbnnaaGreatDoor
namespace Wb
open Go
theorem one_pre {c x : UInt8} (l : List UInt8) (hx : x ≠ c) : ([c] : List UInt8).isPrefixOf (x :: l) = false := by
  simp only [List.isPrefixOf, Bool.and_true]
  exact beq_eq_false_iff_ne.2 (Ne.symm hx)
theorem index_at1 {c : UInt8} (b : List UInt8) : ∀ {a : List UInt8}, (∀ x ∈ a, x ≠ c) → Lib.index (a ++ c :: b) [c] = (a.length : Int)
  | [], _ => by
    rw [List.nil_append, Lib.index]
    simp [List.isPrefixOf]
  | x :: a, h => by
    have ih := index_at1 b (a := a) fun y hy => h y (by simp [hy])
    rw [List.cons_append, Lib.index, ih, one_pre _ (h x (by simp))]
    have : (((a.length : Nat) : Int) == -1) = false := by rw [beq_eq_false_iff_ne]; omega
    simp [this]
theorem index_no1 {c : UInt8} : ∀ {a : List UInt8}, (∀ x ∈ a, x ≠ c) → Lib.index a [c] = -1
  | [], _ => rfl
  | x :: a, h => by
    rw [Lib.index, index_no1 (fun y hy => h y (by simp [hy])), one_pre _ (h x (by simp))]
    rfl
theorem cutC_free {c : UInt8} {s : List UInt8} (h : cutC c s = none) : ∀ x ∈ s, x ≠ c := by
  unfold cutC at h
  split at h
  · cases h
  · rename_i hn
    intro x hx e
    subst e
    exact hn (List.contains_iff_mem.2 hx)
theorem cut_some1 {c : UInt8} {s a b : List UInt8} (h : cutC c s = some (a, b)) : Lib.cut s [c] = (a, b, true) := by
  obtain ⟨rfl, hf⟩ := cutC_some h
  unfold Lib.cut
  rw [index_at1 b hf, if_pos (by omega)]
  simp
theorem cut_none1 {c : UInt8} {s : List UInt8} (h : cutC c s = none) : Lib.cut s [c] = (s, [], false) := by
  unfold Lib.cut
  rw [index_no1 (cutC_free h), if_neg (by omega)]
theorem pre_take' : ∀ (p s : List UInt8), Lib.hasPrefix s p = decide (s.take p.length = p)
  | [], s => by simp [Lib.hasPrefix]
  | c :: p, [] => by simp [Lib.hasPrefix, List.isPrefixOf]
  | c :: p, x :: s => by
    have := pre_take' p s
    unfold Lib.hasPrefix at this ⊢
    rw [List.isPrefixOf, this, List.length_cons, List.take_succ_cons]
    by_cases h : c = x
    · subst h; simp
    · rw [beq_eq_false_iff_ne.2 h]
      simp [Ne.symm h]
theorem nm_41 {n : List UInt8} (h : nameB n = true) : ∀ b ∈ n, b ≠ 41 := fun b hb e => by
  have := (nm_nameC h b hb).1
  subst e
  revert this
  decide
def bindQ (s : List UInt8) : Option ((List UInt8 × List UInt8) × List UInt8) :=
  if s.take 6 = sBindK then match cutC 61 (s.drop 6) with
    | none => none
    | some (n, t) => match cutC 41 t with
      | none => none
      | some (sp, r) => if nameB n = true then some ((n, sp), r) else none
  else none
theorem bindQ_is (s : List UInt8) : bindQ s = bind1 s := by
  apply Option.ext
  rintro ⟨⟨n, sp⟩, r⟩
  constructor
  · intro h
    unfold bindQ at h
    split at h
    · rename_i h6
      split at h
      · cases h
      · rename_i n' t h61
        obtain ⟨e1, f1⟩ := cutC_some h61
        split at h
        · cases h
        · rename_i sp' r' h41
          obtain ⟨e2, f2⟩ := cutC_some h41
          split at h
          · rename_i hn
            injection h with h
            injection h with h h2
            injection h with h h1
            subst h h1 h2
            have es : s = sBindK ++ (n' ++ 61 :: sp') ++ 41 :: r' := by
              rw [List.append_assoc, List.append_assoc, List.cons_append, ← e2, ← e1, ← h6, List.take_append_drop]
            rw [es]
            refine bind1_is r' hn f1 fun x hx => ?_
            rcases List.mem_append.1 hx with hx | hx
            · exact nm_41 hn x hx
            · rcases List.mem_cons.1 hx with rfl | hx
              · decide
              · exact f2 x hx
          · cases h
    · cases h
  · intro h
    obtain ⟨_, es, hn, h61, h41⟩ := bind1_len h
    unfold bindQ
    have e6 : s.take 6 = sBindK := by rw [es, List.append_assoc]; rfl
    have ed : s.drop 6 = n ++ 61 :: (sp ++ 41 :: r) := by rw [es, List.append_assoc]; simp [sBindK]
    rw [if_pos e6, ed, cutC_at _ h61]
    simp only
    rw [cutC_at r fun x hx => h41 x (by simp [hx])]
    simp only
    rw [if_pos hn]
theorem bind1_more {s bl : List UInt8} (hb : ∀ x ∈ bl, blkU x = true) : bind1 (s ++ bl) = (bind1 s).map fun x => (x.1, x.2 ++ bl) := by
  apply Option.ext
  rintro ⟨⟨n, sp⟩, r⟩
  constructor
  · intro h
    obtain ⟨_, es, hn, h61, h41⟩ := bind1_len h
    have es' : s ++ bl = (sBindK ++ (n ++ 61 :: sp) ++ [41]) ++ r := by rw [es]; simp
    rcases List.append_eq_append_iff.1 es' with ⟨a, h1, h2⟩ | ⟨a, h1, h2⟩
    · rcases List.eq_nil_or_concat a with rfl | ⟨a', x, rfl⟩
      · rw [List.append_nil] at h1
        rw [List.nil_append] at h2
        rw [← h1, show sBindK ++ (n ++ 61 :: sp) ++ [41] = sBindK ++ (n ++ 61 :: sp) ++ 41 :: [] from rfl, bind1_is [] hn h61 h41, h2]
        rfl
      · have h3 := congrArg List.getLast? h1
        simp only [List.concat_eq_append, ← List.append_assoc, List.getLast?_append, List.getLast?_singleton, Option.some_or, Option.some.injEq] at h3
        have := hb x (by rw [h2]; simp)
        rw [← h3] at this
        exact absurd this (by decide)
    · rw [h1, show sBindK ++ (n ++ 61 :: sp) ++ [41] ++ a = sBindK ++ (n ++ 61 :: sp) ++ 41 :: a by simp, bind1_is a hn h61 h41, h2]
      rfl
  · intro h
    rw [Option.map_eq_some_iff] at h
    obtain ⟨⟨⟨n', sp'⟩, r'⟩, h, e⟩ := h
    injection e with e1 e2
    injection e1 with e1 e3
    simp only at e1 e2 e3
    subst e1 e2 e3
    obtain ⟨_, es, hn, h61, h41⟩ := bind1_len h
    rw [es, show sBindK ++ (n' ++ 61 :: sp') ++ 41 :: r' ++ bl = sBindK ++ (n' ++ 61 :: sp') ++ 41 :: (r' ++ bl) by simp]
    exact bind1_is _ hn h61 h41
theorem dw_all {p : UInt8 → Bool} : ∀ {l : List UInt8}, l.dropWhile p = [] → ∀ x ∈ l, p x = true
  | [], _, x, hx => by cases hx
  | y :: l, h, x, hx => by
    rw [List.dropWhile_cons] at h
    split at h
    · rename_i hy
      rcases List.mem_cons.1 hx with rfl | hx
      · exact hy
      · exact dw_all h x hx
    · cases h
theorem dw_none {p : UInt8 → Bool} : ∀ {l : List UInt8}, (∀ x ∈ l, p x = true) → l.dropWhile p = []
  | [], _ => rfl
  | x :: l, h => by
    rw [List.dropWhile_cons, if_pos (h x (by simp))]
    exact dw_none fun y hy => h y (by simp [hy])
theorem dw_more {p : UInt8 → Bool} (bl : List UInt8) : ∀ {l : List UInt8}, l.dropWhile p ≠ [] → (l ++ bl).dropWhile p = l.dropWhile p ++ bl
  | [], h => absurd rfl h
  | x :: l, h => by
    rw [List.dropWhile_cons] at h
    rw [List.cons_append, List.dropWhile_cons, List.dropWhile_cons]
    split
    · rename_i hx
      rw [if_pos hx] at h
      exact dw_more bl h
    · rfl
theorem dw_twice {p : UInt8 → Bool} : ∀ l : List UInt8, (l.dropWhile p).dropWhile p = l.dropWhile p
  | [] => rfl
  | x :: l => by
    rw [List.dropWhile_cons]
    split
    · exact dw_twice l
    · rename_i hx
      rw [List.dropWhile_cons, if_neg hx]
theorem binds_more {bl : List UInt8} (hb : ∀ x ∈ bl, blkU x = true) : ∀ (f : Nat) (s : List UInt8) (out : List Pr), bindsL f (s ++ bl) out = bindsL f s out
  | 0, _, _ => rfl
  | f + 1, s, out => by
    by_cases h : s.dropWhile blkU = []
    · rw [bindsL_end h, bindsL_end]
      exact dw_none fun x hx => by
        rcases List.mem_append.1 hx with hx | hx
        · exact dw_all h x hx
        · exact hb x hx
    · have hm := dw_more bl h
      have h' : (s ++ bl).dropWhile blkU ≠ [] := by rw [hm]; simp [h]
      cases h1 : bind1 (s.dropWhile blkU) with
      | none =>
        rw [bindsL_none h h1, bindsL_none h']
        rw [hm, bind1_more hb, h1]
        rfl
      | some x =>
        obtain ⟨⟨n, sp⟩, r⟩ := x
        rw [bindsL_some h h1, bindsL_some h' (n := n) (sp := sp) (r := r ++ bl) (by rw [hm, bind1_more hb, h1]; rfl), binds_more hb f r]
theorem binds_skip (f : Nat) (s : List UInt8) (out : List Pr) : bindsL f (s.dropWhile blkU) out = bindsL f s out := by
  cases f with
  | zero => rfl
  | succ f =>
    by_cases h : s.dropWhile blkU = []
    · rw [bindsL_end h, bindsL_end (by rw [dw_twice, h])]
    · cases h1 : bind1 (s.dropWhile blkU) with
      | none => rw [bindsL_none h h1, bindsL_none (by rw [dw_twice]; exact h) (by rw [dw_twice]; exact h1)]
      | some x =>
        obtain ⟨⟨n, sp⟩, r⟩ := x
        rw [bindsL_some h h1, bindsL_some (by rw [dw_twice]; exact h) (by rw [dw_twice]; exact h1)]
theorem tr_split (s : List UInt8) : ∃ bl, s.dropWhile blkU = trimL s ++ bl ∧ ∀ x ∈ bl, blkU x = true := by
  refine ⟨((s.dropWhile blkU).reverse.takeWhile blkU).reverse, ?_, fun x hx => ?_⟩
  · unfold trimL
    rw [← List.reverse_append, List.takeWhile_append_dropWhile, List.reverse_reverse]
  · exact tw_each blkU _ x (List.mem_reverse.1 hx)
theorem binds_trim (f : Nat) (s : List UInt8) (out : List Pr) : bindsL f (trimL s) out = bindsL f s out := by
  obtain ⟨bl, h1, h2⟩ := tr_split s
  rw [← binds_skip f s, h1, binds_more h2]
theorem trim_head (s : List UInt8) : (trimL s).dropWhile blkU = trimL s := by
  obtain ⟨bl, h1, h2⟩ := tr_split s
  cases ht : trimL s with
  | nil => rfl
  | cons x l =>
    rw [ht] at h1
    have := dw_twice (p := blkU) s
    rw [h1, List.cons_append, List.dropWhile_cons] at this
    rw [List.dropWhile_cons]
    split at this
    · have h3 := congrArg List.length this
      have h4 := dw_len (p := blkU) (l ++ bl)
      rw [List.length_cons] at h3
      omega
    · rename_i hx
      rw [if_neg hx]
theorem trim_len (s : List UInt8) : (trimL s).length ≤ s.length := by
  obtain ⟨bl, h1, h2⟩ := tr_split s
  have := dw_len (p := blkU) s
  rw [h1, List.length_append] at this
  omega
theorem pm_ok {M : Nat} : ∀ (l : List UInt8) (acc u : Nat), Lib.parseUintM M acc l = .ok u → (∀ c ∈ l, 48 ≤ c.toNat ∧ c.toNat ≤ 57) ∧ u = l.foldl (fun a c => a * 10 + (c.toNat - 48)) acc
  | [], acc, u, h => by
    simp only [Lib.parseUintM] at h
    injection h with h
    exact ⟨by simp, by simp [h]⟩
  | c :: l, acc, u, h => by
    simp only [Lib.parseUintM] at h
    split at h
    · rename_i hc
      split at h
      · cases h
      · split at h
        · cases h
        · obtain ⟨h1, h2⟩ := pm_ok l _ u h
          refine ⟨fun x hx => ?_, by rw [h2, List.foldl_cons]⟩
          rcases List.mem_cons.1 hx with rfl | hx
          · exact hc
          · exact h1 x hx
    · cases h
theorem fold_ge : ∀ (l : List UInt8) (acc : Nat), acc * 10 ^ l.length ≤ l.foldl (fun a c => a * 10 + (c.toNat - 48)) acc
  | [], acc => by simp
  | c :: l, acc => by
    have := fold_ge l (acc * 10 + (c.toNat - 48))
    rw [List.foldl_cons, List.length_cons, Nat.pow_succ]
    refine Nat.le_trans ?_ this
    rw [Nat.mul_comm (10 ^ l.length) 10, ← Nat.mul_assoc]
    exact Nat.mul_le_mul_right _ (by omega)
theorem fold_acc (l : List UInt8) (acc : Nat) : acc ≤ l.foldl (fun a c => a * 10 + (c.toNat - 48)) acc := by
  refine Nat.le_trans ?_ (fold_ge l acc)
  exact Nat.le_mul_of_pos_right _ (Nat.pow_pos (by decide))
theorem pm_small : ∀ (l : List UInt8) (acc : Nat), (∀ c ∈ l, 48 ≤ c.toNat ∧ c.toNat ≤ 57) → l.foldl (fun a c => a * 10 + (c.toNat - 48)) acc ≤ 9999 → Lib.parseUintM (2 ^ 64 - 1) acc l = .ok (l.foldl (fun a c => a * 10 + (c.toNat - 48)) acc)
  | [], acc, _, _ => by simp [Lib.parseUintM]
  | c :: l, acc, hd, hl => by
    rw [List.foldl_cons] at hl ⊢
    have h1 := fold_acc l (acc * 10 + (c.toNat - 48))
    simp only [Lib.parseUintM]
    rw [if_pos (hd c (by simp)), if_neg (by omega), if_neg (by omega)]
    exact pm_small l _ (fun x hx => hd x (by simp [hx])) hl
theorem pos_ok {t : List UInt8} {u : Nat} (h : Lib.parseUintB 64 t = .ok u) : t ≠ [] ∧ posP t = if 9999 < u ∨ t.head? = some 48 then 0 else u := by
  unfold Lib.parseUintB at h
  split at h
  · cases h
  · rename_i hne
    obtain ⟨h1, h2⟩ := pm_ok t 0 u h
    refine ⟨hne, ?_⟩
    by_cases hp : posP t = 0
    · rw [hp]
      split
      · rfl
      · rename_i hc
        simp only [not_or] at hc
        unfold posP at hp
        split at hp
        · rw [h2]
          exact hp.symm
        · rename_i hq
          exfalso
          refine hq ⟨?_, ?_, hc.2, h1⟩
          · cases t with
            | nil => exact absurd rfl hne
            | cons c r => simp
          · cases t with
            | nil => exact absurd rfl hne
            | cons c r =>
              have hc0 := h1 c (by simp)
              have hc8 : c ≠ 48 := fun e => hc.2 (by rw [e]; rfl)
              have : c.toNat ≠ 48 := fun e => hc8 (UInt8.toNat_inj.1 e)
              rw [List.foldl_cons] at h2
              have h3 := fold_ge r (0 * 10 + (c.toNat - 48))
              rw [← h2] at h3
              by_cases hr : r.length < 4
              · rw [List.length_cons]; omega
              · exfalso
                have h4 : 10 ^ 4 ≤ 10 ^ r.length := Nat.pow_le_pow_right (by decide) (by omega)
                have h5 : 10 ^ 4 = 10000 := rfl
                have h6 : 1 * 10 ^ r.length ≤ (0 * 10 + (c.toNat - 48)) * 10 ^ r.length := Nat.mul_le_mul_right _ (by omega)
                omega
    · have hle := posP_le t
      unfold posP at hp hle ⊢
      split at hp
      · rename_i hq
        rw [if_pos hq] at hle ⊢
        have e : valN t = u := h2.symm
        rw [e] at hle ⊢
        rw [if_neg]
        rintro (h | h)
        · omega
        · exact hq.2.2.1 h
      · exact absurd rfl hp
theorem pos_bad {t : List UInt8} (h : ∀ u, Lib.parseUintB 64 t ≠ .ok u) : posP t = 0 := by
  have hle := posP_le t
  unfold posP at hle ⊢
  split
  · rename_i hq
    rw [if_pos hq] at hle
    exfalso
    refine h (valN t) ?_
    unfold Lib.parseUintB
    rw [if_neg (by rintro rfl; exact absurd hq.1 (by simp))]
    exact pm_small t 0 hq.2.2.2 hle
  · rfl
def cposP (s : List UInt8) : Nat × List UInt8 :=
  if s.take 1 = [91] then match cutC 93 (s.drop 1) with
    | none => (0, s)
    | some (t, r) => if posP t = 0 then (0, s) else (posP t, r)
  else (0, s)
theorem posP_at (t : List UInt8) : posP (64 :: t) = 0 := by
  unfold posP
  rw [if_neg]
  intro h
  have := (h.2.2.2 64 (by simp)).2
  revert this
  decide
theorem head_rest (d : List UInt8) : (headP d).2 = [] ∨ ∃ r, (headP d).2 = 91 :: r := by
  unfold headP
  cases h : d.dropWhile (· != 91) with
  | nil => exact .inl rfl
  | cons x r =>
    right
    have := List.head_dropWhile_not (p := (· != 91)) (l := d) (by rw [h]; simp)
    have e : (d.dropWhile (· != 91)).head (by rw [h]; simp) = x := by simp [h]
    rw [e] at this
    exact ⟨r, by simpa using this⟩
theorem cpos_none {r : List UInt8} (hp : posnP r = none) : (cposP r).2 ≠ [] ∧ testP (cposP r).2 = none := by
  unfold posnP at hp
  split at hp
  · cases hp
  · rename_i hc
    simp only [not_or] at hc
    have e : cposP r = (0, r) := by
      unfold cposP
      split
      · split at hp
        · rename_i h1
          rw [h1]
        · rename_i t r' h1
          rw [h1]
          simp only
          split at hp
          · rename_i h0
            rw [if_pos h0]
          · cases hp
      · rfl
    rw [e]
    refine ⟨hc.1, ?_⟩
    unfold testP
    rw [if_neg hc.2]
theorem cpos_some {r r' : List UInt8} {p : Nat} (h : r = [] ∨ ∃ q, r = 91 :: q) (hp : posnP r = some (p, r')) : cposP r = (p, r') := by
  unfold posnP at hp
  rcases h with rfl | ⟨q, rfl⟩
  · rw [if_pos (.inl rfl)] at hp
    exact (show cposP [] = (0, []) from rfl).trans (Option.some.inj hp)
  · split at hp
    · rename_i hc
      injection hp with hp
      rw [← hp]
      rcases hc with hc | hc
      · cases hc
      · cases q with
        | nil => simp at hc
        | cons x q =>
          simp only [List.take_succ_cons, List.take_zero, List.cons.injEq, and_true, true_and] at hc
          subst hc
          unfold cposP
          rw [if_pos (show List.take 1 (91 :: 64 :: q) = [91] from rfl)]
          simp only [List.drop_succ_cons, List.drop_zero]
          split
          · rfl
          · rename_i t r' h1
            obtain ⟨e, _⟩ := cutC_some h1
            cases t with
            | nil =>
              rw [List.nil_append] at e
              injection e with e _
              exact absurd e (by decide)
            | cons y t =>
              rw [List.cons_append] at e
              injection e with e _
              subst e
              rw [posP_at, if_pos rfl]
    · split at hp
      · cases hp
      · rename_i t r'' h1
        split at hp
        · cases hp
        · rename_i h0
          injection hp with hp
          rw [← hp]
          unfold cposP
          rw [if_pos (show List.take 1 (91 :: q) = [91] from rfl), h1]
          simp only
          rw [if_neg h0]
end Wb
