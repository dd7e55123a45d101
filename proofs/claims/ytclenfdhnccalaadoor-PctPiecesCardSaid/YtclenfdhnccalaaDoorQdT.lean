
/- Walk: PctPieces. -/
import Derived.Test.YtclenfdhnccalaaDoorQdR
namespace Wb
theorem pieces_len (c : UInt8) (s : ByteArray) : (piecesB c s).length ≤ s.size + 1 := by
  have := piece_len c [] s.data.toList
  unfold piecesB
  rw [List.length_map]
  have e : s.data.toList.length = s.size := by simp
  unfold pieceF
  omega
/-- What is put together of the first i pieces. -/
def joinT (c : UInt8) (s : ByteArray) (i : Nat) : ByteArray := ⟨(joinB c ((pieceF c s.data.toList).take i)).toArray⟩
theorem joinT_zero (c : UInt8) (s : ByteArray) : joinT c s 0 = ⟨#[]⟩ := rfl
theorem joinT_end (c : UInt8) (s : ByteArray) {i : Nat} (h : ¬ i < (piecesB c s).length) : joinT c s i = s := by
  unfold piecesB at h
  rw [List.length_map] at h
  unfold joinT
  rw [List.take_of_length_le (by omega)]
  unfold pieceF
  rw [piece_join]
  simp
theorem joinT_size (c : UInt8) (s : ByteArray) (i : Nat) : (joinT c s i).size ≤ s.size := by
  unfold joinT
  rw [mk_size]
  have := join_len c (pieceF c s.data.toList) i
  unfold pieceF at this ⊢
  rw [piece_join] at this
  simpa using this
theorem joinT_step (c : UInt8) (s : ByteArray) {i : Nat} {x : ByteArray} (h : (piecesB c s)[i]? = some x) : joinT c s (i + 1) = if i = 0 then joinT c s i ++ x else joinT c s i ++ ⟨#[c]⟩ ++ x := by
  unfold piecesB at h
  rw [List.getElem?_map, Option.map_eq_some_iff] at h
  obtain ⟨y, hy, rfl⟩ := h
  obtain ⟨hi, hy⟩ := List.getElem?_eq_some_iff.1 hy
  unfold joinT
  rw [join_take c _ i hi, hy]
  split
  · rw [mk_app]
    rfl
  · rw [show (⟨#[c]⟩ : ByteArray) = ⟨[c].toArray⟩ from rfl, mk_app, mk_app, List.append_assoc]
theorem pieces_free (c : UInt8) (s : ByteArray) {i : Nat} {x : ByteArray} (h : (piecesB c s)[i]? = some x) (k : Nat) (hk : k < x.size) : (x[k] == c) = false := by
  unfold piecesB at h
  rw [List.getElem?_map, Option.map_eq_some_iff] at h
  obtain ⟨y, hy, rfl⟩ := h
  have hm := List.mem_of_getElem? hy
  have hf := piece_free c [] s.data.toList List.not_mem_nil y hm
  rw [beq_eq_false_iff_ne]
  intro he
  apply hf
  rw [← he]
  have hk2 : k < y.length := by rw [mk_size] at hk; exact hk
  have : (⟨y.toArray⟩ : ByteArray)[k]'hk = y[k] := rfl
  rw [this]
  exact List.getElem_mem hk2
theorem pieces_xsize (c : UInt8) (s : ByteArray) {i : Nat} {x : ByteArray} (h : (piecesB c s)[i]? = some x) : x.size ≤ s.size := by
  unfold piecesB at h
  rw [List.getElem?_map, Option.map_eq_some_iff] at h
  obtain ⟨y, hy, rfl⟩ := h
  have := piece_size c [] s.data.toList y (List.mem_of_getElem? hy)
  rw [mk_size]
  simpa using this
end Wb
namespace Go.Proofs.YtclenfdhnccalaaDoor
open Go.RowKit Wb

set_option maxRecDepth 100000 in
set_option maxHeartbeats 8000000 in
theorem pieces_walk (s : ByteArray) (c : UInt8) (w : World) (hG : GvM w) :
    Calls Tryd.prog 5 #[.string s, .int .u8 c.toNat] w fun e w' => e = .returned (.bool true) ∧ Below w.heap.size w w' := by
  have HG := Lib.hid hG
  clear hG
  go_enter Tryd.func5, Tryd.ntmps5
  go_wp2_with fail
  refine (awake9 w HG.out).mono ?_
  rintro e w1 ⟨rfl, hb1⟩
  by_cases h1 : s.size ≤ 5000
  case neg =>
    have h3 : 5000 < s.size := by omega
    go_wp2
    go_ret
    exact ⟨rfl, hb1⟩
  have HB1 := Lib.hid hb1
  clear hb1
  have hle := pieces_len c s
  go_wp2_with fail
  refine (pieces_any s c _ (by omega) (HG.out.next HB1.out)).mono ?_
  rintro e w2 ⟨v, rfl, hown, hb2⟩
  obtain ⟨A, ca, rfl⟩ := own_shape hown
  have HA := Lib.hid (Sl1.of_own hown)
  have HB2 := Lib.hid (HB1.out.trans (hb2.mono HB1.out.size))
  clear hown hb2 HB1
  go_wp2_with fail
  refine (rpieces_any s c _ (by omega)).mono ?_
  rintro e w3 ⟨v, rfl, hown, hb3⟩
  obtain ⟨B, cb, rfl⟩ := own_shape hown
  have HA3 := Lib.hid (HA.out.below hb3)
  have HS := Lib.hid (rsame9_eq A B (piecesB c s) ca cb w3 HA3.out (Sl1.of_own hown) (by omega))
  have HB3 := Lib.hid (HB2.out.trans (hb3.mono HB2.out.size))
  clear hown hb3 HB2 HA
  go_wp2_with fail
  refine HS.out.mono ?_
  rintro e w4 ⟨rfl, hb4⟩
  have HA4 := Lib.hid (HA3.out.below hb4)
  have HB4 := Lib.hid (HB3.out.trans (hb4.mono HB3.out.size))
  clear hb4 HB3 HA3 HS
  have HLN : Hid (∀ i, ¬ i < (piecesB c s).length → joinT c s i = s) := Lib.hid (fun i h => joinT_end c s h)
  have HST : Hid (∀ i x, (piecesB c s)[i]? = some x → (joinT c s (i + 1) = if i = 0 then joinT c s i ++ x else joinT c s i ++ ⟨#[c]⟩ ++ x) ∧ x.size ≤ s.size ∧ ∀ k, (hk : k < x.size) → (x[k] == c) = false) :=
    Lib.hid (fun i x h => ⟨joinT_step c s h, pieces_xsize c s h, pieces_free c s h⟩)
  have HSZ := Lib.hid (joinT_size c s)
  generalize piecesB c s = L at *
  go_wp2
  go_loopw [6, 7, 8] (fun v6 v7 _ wr => ∃ (i : Nat) (T : ByteArray), i ≤ L.length ∧ v7 = .int .i64 i ∧ v6 = .string T ∧ Hid (joinT c s i = T) ∧ Hid (Below w.heap.size w wr) ∧ Hid (Sl1 wr A L)) (fun _ v7 _ _ => ((L.length : Int) - intOf v7).toNat)
  case atStart => exact ⟨0, _, by omega, rfl, rfl, Lib.hid (joinT_zero c s), HB4, HA4⟩
  case round =>
    clear HB4 HA4
    obtain ⟨i, T, hi, rfl, rfl, HT, HB, HA⟩ := hrel
    have hTs : T.size ≤ 5000 := by rw [← HT.out]; exact Nat.le_trans (HSZ.out i) h1
    by_cases h0 : i < L.length
    · obtain ⟨x, hx⟩ : ∃ x, L[i]? = some x := ⟨L[i], List.getElem?_eq_getElem h0⟩
      obtain ⟨hst, hxs, hfr⟩ := HST.out i x hx
      have HFR := Lib.hid hfr
      have hxs2 : x.size ≤ 5000 := by omega
      have z1 : (0 : Int) ≤ (i : Int) := by omega
      have z2 : (i : Int) < (L.length : Int) := by omega
      rw [HT.out] at hst
      have e8 : b8 (c.toNat : Int) = c := by unfold b8; simp
      clear HST HSZ hfr hxs HT HLN
      by_cases hz : i = 0
      · rw [if_pos hz] at hst
        have HT2 := Lib.hid hst
        have gs : ¬ 9223372036854775807 < T.size + x.size := by omega
        have hi0 : ¬ (0 : Int) < (i : Int) := by omega
        obtain ⟨ad, hA, had, d0⟩ := HA.out.at_ hx
        subst hA
        generalize hT2 : T ++ x = T2 at *
        clear hst hz
        go_wp2
        go_loopw [8] (fun v8 wq => ∃ k : Nat, k ≤ x.size ∧ v8 = .int .i64 k ∧ wq = wr) (fun v8 _ => ((x.size : Int) - intOf v8).toNat)
        case atStart => exact ⟨0, by omega, rfl, rfl⟩
        case round =>
          obtain ⟨k, hk, rfl, rfl⟩ := hrel
          by_cases hk0 : k < x.size
          · have t1 : ((x[k].toNat : Int) == (c.toNat : Int)) = false := by rw [u8_eqn]; exact HFR.out k hk0
            go_wp2
            go_roundw
            case rel => exact ⟨k + 1, by omega, by go_num, by first | rfl | trivial⟩
            case measure => simp [intOf]; omega
          · go_wp2
            go_roundw
            case rel => exact ⟨i + 1, T2, by omega, by go_num, rfl, HT2, HB, HA⟩
            case measure => simp [intOf]; omega
      · rw [if_neg hz] at hst
        have hi0 : (0 : Int) < (i : Int) := by omega
        have k1 := fun v => run_text_new v 5 #[.int .u8 (c.toNat : Int)] [(c.toNat : Int)] 1 rfl rfl
        simp only [List.map_cons, List.map_nil, e8] at k1
        have g1 : ¬ 9223372036854775807 < T.size + 1 := by omega
        have g2 : ¬ 9223372036854775807 < T.size + (⟨#[c]⟩ : ByteArray).size := by
          rw [show (⟨#[c]⟩ : ByteArray).size = 1 from rfl]; omega
        obtain ⟨T1, hT1⟩ : ∃ T1, T ++ ⟨#[c]⟩ = T1 := ⟨_, rfl⟩
        have hT1s : T1.size ≤ 5001 := by
          rw [← hT1, ByteArray.size_append, show (⟨#[c]⟩ : ByteArray).size = 1 from rfl]; omega
        rw [hT1] at hst
        have HT2 := Lib.hid hst
        have gs : ¬ 9223372036854775807 < T1.size + x.size := by omega
        have HB5 := Lib.hid (HB.out.alloc HB.out.size (.cells #[.int .u8 (c.toNat : Int)] 5))
        have HA5 := Lib.hid (show Sl1 (wr.alloc (.cells #[.int .u8 (c.toNat : Int)] 5)) A L from Sl.alloc HA.out _)
        obtain ⟨ad, hA, had, d0⟩ := HA5.out.at_ hx
        subst hA
        generalize hT2 : T1 ++ x = T2 at *
        clear hst hz HA HB had e8
        go_wp2
        go_loopw [8] (fun v8 wq => ∃ k : Nat, k ≤ x.size ∧ v8 = .int .i64 k ∧ wq = wr.alloc (.cells #[.int .u8 (c.toNat : Int)] 5)) (fun v8 _ => ((x.size : Int) - intOf v8).toNat)
        case atStart => exact ⟨0, by omega, rfl, rfl⟩
        case round =>
          obtain ⟨k, hk, rfl, rfl⟩ := hrel
          by_cases hk0 : k < x.size
          · have t1 : ((x[k].toNat : Int) == (c.toNat : Int)) = false := by rw [u8_eqn]; exact HFR.out k hk0
            go_wp2
            go_roundw
            case rel => exact ⟨k + 1, by omega, by go_num, by first | rfl | trivial⟩
            case measure => simp [intOf]; omega
          · go_wp2
            go_roundw
            case rel => exact ⟨i + 1, T2, by omega, by go_num, rfl, HT2, HB5, HA5⟩
            case measure => simp [intOf]; omega
    · have hTe : T = s := HT.out.symm.trans (HLN.out i h0)
      subst hTe
      clear HST HSZ HT HLN
      go_wp2
      go_ret
      exact ⟨rfl, HB.out⟩
end Go.Proofs.YtclenfdhnccalaaDoor
