
/- Contract of the document's answer: Encode. -/
import Derived.Test.YtclenfdhnccalaaDoorQdA
import Derived.Test.YtclenfdhnccalaaDoorTake
namespace Wb
/-- Is a byte kept as it is, so far as k bytes of keep tell? -/
def okK (keep : List UInt8) (c : UInt8) (k : Nat) : Bool := plC c || (keep.take k).contains c
theorem okK_step {keep : List UInt8} {c : UInt8} {k : Nat} (h : k < keep.length) : okK keep c (k + 1) = (okK keep c k || (keep[k] == c)) := by
  unfold okK
  rw [← List.take_append_getElem h, List.contains_append, Bool.or_assoc]
  congr 2
  rw [List.contains_cons, List.contains_nil, Bool.or_false]
  rw [Bool.eq_iff_iff, beq_iff_eq, beq_iff_eq]
  exact eq_comm
theorem okK_end {keep : List UInt8} {c : UInt8} {k : Nat} (h : keep.length ≤ k) : okK keep c k = (plC c || keep.contains c) := by
  unfold okK
  rw [List.take_of_length_le h]
theorem u8_eqn (a b : UInt8) : ((a.toNat : Int) == (b.toNat : Int)) = (a == b) := by
  rw [Bool.eq_iff_iff, beq_iff_eq, beq_iff_eq]
  exact ⟨fun h => UInt8.toNat_inj.1 (by omega), fun h => by rw [h]⟩
theorem hex_tab (n : Nat) (h : n < 16) : (ByteArray.mk #[48, 49, 50, 51, 52, 53, 54, 55, 56, 57, 65, 66, 67, 68, 69, 70])[n]'h = hexG n := by
  have t : ∀ v : Fin 16, (ByteArray.mk #[48, 49, 50, 51, 52, 53, 54, 55, 56, 57, 65, 66, 67, 68, 69, 70])[v.val]'v.isLt = hexG v.val := by decide
  exact t ⟨n, h⟩
end Wb
namespace Go.Proofs.YtclenfdhnccalaaDoor
open Go.RowKit Wb

set_option maxRecDepth 100000 in
set_option maxHeartbeats 8000000 in
theorem rencode_any (s keep : ByteArray) (w : World) (hs : s.size ≤ 1000000) (hkp : keep.size ≤ 1000000) :
    Calls Tryd.prog 11 #[.string s, .string keep] w fun e w' => e = .returned (.string ⟨(pctE keep.data.toList s.data.toList).toArray⟩) ∧ Below w.heap.size w w' := by
  obtain ⟨i0, hi, hz0, hz1, hz2⟩ := info_parts txt_byte
  go_enter Tryd.func11, Tryd.ntmps11
  go_wp2
  go_loopw [5, 6, 7, 8, 9] (fun v5 v6 _ _ _ wr => ∃ (i : Nat) (out : List UInt8), i ≤ s.size ∧ v6 = .int .i64 i ∧ out.length ≤ 3 * i ∧ Hid (out = pctE keep.data.toList (s.data.toList.take i)) ∧ Hid (wr.ownsRow w.heap.size 5 1 v5 out.length (cellsB out)) ∧ Hid (Below w.heap.size w wr)) (fun _ v6 _ _ _ _ => ((s.size : Int) - intOf v6).toNat)
  case atStart => exact ⟨0, [], by omega, rfl, by simp, Lib.hid (by simp [pctE]), Lib.hid (World.ownsRow_nil _ _ _ _), Lib.hid (Below.refl _ _)⟩
  case round =>
    obtain ⟨i, out, hil, rfl, hol, HO, HW, HB⟩ := hrel
    by_cases h0 : i < s.size
    · have HE := Lib.hid (enc_step keep.data.toList s.data.toList i (by simpa using h0))
      obtain ⟨c, hc⟩ : ∃ c, s[i] = c := ⟨_, rfl⟩
      have HE2 : Hid (pctE keep.data.toList (s.data.toList.take (i + 1)) = out ++ pctC keep.data.toList c) := Lib.hid (by
        rw [HE.out, ← HO.out, ← hc]
        rfl)
      have HL := Lib.hid (pctC_len keep.data.toList c)
      clear HE HO
      go_wp2_with fail
      (try rw [hc])
      refine (rplain_any c _).mono ?_
      rintro e w2 ⟨rfl, rfl⟩
      (try rw [hc])
      clear hc
      have hbs := HB.out.size
      go_wp2
      go_loopw [8, 9] (fun v8 v9 wq => ∃ (k : Nat) (q : Bool), k ≤ keep.size ∧ v9 = .int .i64 k ∧ v8 = .bool q ∧ Hid (okK keep.data.toList c k = q) ∧ wq = wr) (fun _ v9 _ => ((keep.size : Int) - intOf v9).toNat)
      case atStart => exact ⟨0, _, by omega, rfl, rfl, Lib.hid (by unfold okK; simp), rfl⟩
      case round =>
        obtain ⟨k, q, hk, rfl, rfl, HQ, rfl⟩ := hrel
        by_cases hk0 : k < keep.size
        · have hst := okK_step (c := c) (show k < keep.data.toList.length by simpa using hk0)
          rw [HQ.out] at hst
          have t1 : (((keep[k]).toNat : Int) == (c.toNat : Int)) = (keep.data.toList[k]'(by simpa using hk0) == c) := u8_eqn _ _
          cases q
          · rw [Bool.false_or] at hst
            rw [← hst] at t1
            cases hd : okK keep.data.toList c (k + 1)
            all_goals
              rw [hd] at t1
              have HD := Lib.hid hd
              clear hd hst
              go_wp2
              go_roundw
              case rel => exact ⟨k + 1, _, by omega, by go_num, rfl, HD, by first | rfl | trivial⟩
              case measure => simp [intOf]; omega
          · have HD := Lib.hid hst
            clear hst t1
            go_wp2
            go_roundw
            case rel => exact ⟨k + 1, true, by omega, by go_num, rfl, Lib.hid (HD.out.trans (by simp)), by first | rfl | trivial⟩
            case measure => simp [intOf]; omega
        · have hq := okK_end (c := c) (show keep.data.toList.length ≤ k by simp; omega)
          rw [HQ.out] at hq
          clear HQ
          have hmA : out.length + 1 ≤ maxLen := by simp only [maxLen]; omega
          have hmC : out.length + 3 ≤ maxLen := by simp only [maxLen]; omega
          have hp37 : ((c.toNat : Int) == 37) = decide (c = 37) := by
            rw [show (37 : Int) = ((37 : UInt8).toNat : Int) from rfl, u8_eqn]
            rw [Bool.eq_iff_iff, beq_iff_eq, decide_eq_true_eq]
          by_cases hx : q = true ∧ c ≠ 37
          · obtain ⟨rfl, hx⟩ := hx
            rw [decide_eq_false hx] at hp37
            have HC : Hid (pctE keep.data.toList (s.data.toList.take (i + 1)) = out ++ [c]) := Lib.hid (by
              rw [HE2.out, pctC, ← hq, if_pos (by simp [hx])])
            clear hq HE2 hx
            go_upto_region 12 with fail
            go_wp2_with (at_builtin; apply Classical.byContradiction; intro hNG)
            refine hNG ?_
            refine wpList_append_sl _ rfl (.tmp 40) (.tmp 42) _ rfl w.heap.size 5 i0 _ 1 1 Tryd.underlying35 hi hz0 hz1 hz2 rfl (by omega) _ out.length (cellsB out) rfl (HW.out.alloc _) (some ⟨wr.heap.size, 0, none⟩) 1 1 [.int .u8 (c.toNat : Int)] rfl (Sl.lit wr 1 [.int .u8 (c.toNat : Int)] _ 1 rfl) (cellsB_one [c]) hmA (by omega) (HB.out.alloc HB.out.size _).size ?_
            intro v4 w4 hown4 hg4 hat4
            have HB4 := Lib.hid ((HB.out.alloc HB.out.size _).grown hg4 (HB.out.alloc HB.out.size _).size (fun g hg => (HW.out.lt g hg).1))
            have HOWN := Lib.hid hown4
            clear hown4 hg4 hat4
            go_wp2
            go_roundw
            case rel => exact ⟨i + 1, out ++ [c], by omega, by go_num, by rw [List.length_append]; simp; omega, Lib.hid HC.out.symm, Lib.hid (by rw [List.length_append, cellsB_append]; exact HOWN.out), HB4⟩
            case measure => simp [intOf]; omega
          · have HC : Hid (pctE keep.data.toList (s.data.toList.take (i + 1)) = out ++ [37, hexG (c.toNat / 16), hexG (c.toNat % 16)]) := Lib.hid (by
              rw [HE2.out, pctC, ← hq, if_neg (by
                intro h
                rw [Bool.and_eq_true, bne_iff_ne] at h
                exact hx h)])
            clear HE2 hq
            have hcl := c.toNat_lt
            have e1 : (c.toNat : Int).tdiv 16 = ((c.toNat / 16 : Nat) : Int) := by rw [Int.tdiv_eq_ediv_of_nonneg (by omega)]; omega
            have e2 : (c.toNat : Int).tmod 16 = ((c.toNat % 16 : Nat) : Int) := by rw [Int.tmod_eq_emod_of_nonneg (by omega)]; omega
            have hpl : c.toNat / 16 < 16 := by omega
            have hql : c.toNat % 16 < 16 := by omega
            have hq37 : q = false ∨ (q = true ∧ ((c.toNat : Int) == 37) = true) := by
              cases q
              · exact .inl rfl
              · exact .inr ⟨rfl, by rw [hp37, decide_eq_true_eq]; by_cases h : c = 37; exact h; exact absurd ⟨rfl, h⟩ hx⟩
            clear hx hp37
            rcases hq37 with rfl | ⟨rfl, hp37⟩
            all_goals
              go_upto_region 13 with fail
              generalize c.toNat / 16 = pn at *
              generalize c.toNat % 16 = qn at *
              have f1 : IntKind.u8.wrap (pn : Int) = (pn : Int) := by rw [IntKind.wrap_u8]; omega
              have f2 : IntKind.u8.wrap (qn : Int) = (qn : Int) := by rw [IntKind.wrap_u8]; omega
              have x1 := hex_tab pn hpl
              have x2 := hex_tab qn hql
              have l1 : (pn : Int) < 16 := by omega
              have l2 : (qn : Int) < 16 := by omega
              generalize hexG pn = hp at *
              generalize hexG qn = hq at *
              have HRd : Hid (wr.drew.ownsRow w.heap.size 5 1 u5 out.length (cellsB out)) := Lib.hid HW.out
              have HBd : Hid (Below w.heap.size w wr.drew) := Lib.hid HB.out.drew
              have hwz : w.heap.size ≤ wr.drew.heap.size := HBd.out.size
              clear HL
              (try simp only [List.append])
              refine wp_region_held_drew (S := (fun _ => True)) (by kernel_rfl) (trivial) (fun hHeld => ?_)
              refine takeW 0 ?_
              refine takeW 1 ?_
              refine takeW 2 ?_
              refine takeW 3 ?_
              (try simp only [Act.put, List.setIfInBounds_toArray, List.set_cons_zero, List.set_cons_succ])
              refine takeW 4 ?_
              refine takeW 5 ?_
              refine takeW 6 ?_
              (try simp only [Act.put, List.setIfInBounds_toArray, List.set_cons_zero, List.set_cons_succ])
              refine wpAnyH_ready (rs := [7]) (by kernel_rfl) (by simp) ?_
              refine AllReadyH.cons rfl (fun K2 hK2 => ?_) AllReadyH.nil
              go_simp
              refine hK2.out _ _ trivial (fun _ => ?_)
              (try simp only [Act.put, List.setIfInBounds_toArray, List.set_cons_zero, List.set_cons_succ])
              refine wpAnyH_ready (rs := [8]) (by kernel_rfl) (by simp) ?_
              refine AllReadyH.cons rfl (fun K2 hK2 => ?_) AllReadyH.nil
              skip
              refine step_append_sl _ rfl (.tmp 44) (.tmp 51) _ rfl w.heap.size 5 i0 _ 1 1 Tryd.underlying35 hi hz0 hz1 hz2 rfl (by omega) _ out.length (cellsB out) rfl (HRd.out.alloc _) (some ⟨wr.drew.heap.size, 0, none⟩) 3 3 [.int .u8 37, .int .u8 (hp.toNat : Int), .int .u8 (hq.toNat : Int)] rfl (Sl.lit wr.drew 1 [.int .u8 37, .int .u8 (hp.toNat : Int), .int .u8 (hq.toNat : Int)] _ 3 rfl) (cellsB_one [37, hp, hq]) hmC (by omega) (by simp; omega) ?_
              intro v5 w5 hown5 hg5 hat5
              change K2 (Act.put _ (some 52) v5) w5
              refine hK2.out _ _ trivial (fun _ => ?_)
              refine takeW 9 ?_
              (try simp only [Act.put, List.setIfInBounds_toArray, List.set_cons_zero, List.set_cons_succ])
              refine wpAnyH_done (by kernel_rfl) ?_ _
              have HB4 := Lib.hid ((HBd.out.alloc hwz _).grown hg5 (by simp; omega) (fun g hg => (HRd.out.lt g hg).1))
              have HOWN := Lib.hid hown5
              clear hown5 hg5 hat5
              go_wp2
              go_roundw
              case rel => exact ⟨i + 1, out ++ [37, hp, hq], by omega, by go_num, by rw [List.length_append]; simp; omega, Lib.hid HC.out.symm, Lib.hid (by rw [List.length_append, cellsB_append]; exact HOWN.out), HB4⟩
              case measure => simp [intOf]; omega
    · have HO2 := Lib.hid (HO.out.trans (by rw [List.take_of_length_le (by simp; omega)]))
      have hconv := run_txt out HW.out
      rw [HO2.out] at hconv
      go_wp2
      go_ret
      exact ⟨rfl, HB.out⟩
end Go.Proofs.YtclenfdhnccalaaDoor
