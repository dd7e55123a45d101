/- UtfD UtfE. -/
import Derived.Lib.Strings
import Derived.Test.YtlcjepnaljfpkaaGreatDoorQp3
namespace Go.Proofs.YtlcjepnaljfpkaaGreatDoor
open Go.RowKit Wb
set_option maxHeartbeats 400000 in
theorem rune_out (s : ByteArray) (i : Int) (w : World) (h : i < 0 ∨ (s.size : Int) ≤ i) (_hs : s.size ≤ 1000000000) :
    Calls Tryz.prog 97 #[.string s, .int .i64 i] w fun e w' => e = .returned (.tuple #[.int .i32 0, .int .i64 0]) ∧ Below w.heap.size w w' := by
  by_cases h0 : i < 0
  · clear h
    go_enter Tryz.func97, Tryz.ntmps97
    go_wp2
    go_ret2
    exact ⟨rfl, Below.refl _ _⟩
  · have h1 : (s.size : Int) ≤ i := by omega
    clear h
    go_enter Tryz.func97, Tryz.ntmps97
    go_wp2
    go_ret2
    exact ⟨rfl, Below.refl _ _⟩
theorem step_val (q c : Int) (h0 : 0 ≤ q) (h1 : q < 524288) (hc : 0 ≤ c) (hc1 : c < 256) :
    bits BinOp.or IntKind.i32 (wrap32 (q * 64)) (wrap32 (bits BinOp.and IntKind.u8 c 63)) = q * 64 + c % 64 := by
  rw [u8_and63 c hc hc1, show wrap32 (q * 64) = q * 64 from by unfold wrap32; omega, show wrap32 (c % 64) = c % 64 from by unfold wrap32; omega, i32_or64 q _ h0 (by omega) (by omega) (by omega)]
set_option maxHeartbeats 1000000 in
theorem rune_in (s : ByteArray) (k : Nat) (w : World) (h : k < s.size) (hs : s.size ≤ 1000000000) :
    Calls Tryz.prog 97 #[.string s, .int .i64 k] w fun e w' => e = .returned (.tuple #[.int .i32 (runeS s k).1, .int .i64 (runeS s k).2]) ∧ Below w.heap.size w w' := by
  have HR := Lib.hid (runeS_in s k h)
  go_enter Tryz.func97, Tryz.ntmps97
  go_wp2_with fail
  have hc := u8_lt s[k]
  have hz := fsz_bd s[k].toNat
  have hb := fbt_bd s[k].toNat (by omega) hc
  obtain ⟨hz0, hz4⟩ := hz
  obtain ⟨hb0, hb1⟩ := hb
  refine (first_any _ _ (by omega) hc).mono ?_
  clear hc
  generalize fsz (s[k].toNat : Int) = z at *
  generalize fbt (s[k].toNat : Int) = b at *
  rintro e w1 ⟨rfl, rfl⟩
  by_cases hz00 : z = 0
  · subst hz00
    go_wp2
    go_ret2
    refine ⟨?_, Below.refl _ _⟩
    rw [HR.out]; rfl
  · have hzz : (z == 0) = false := by simpa using hz00
    by_cases hlong : (s.size : Int) - k < z
    · go_wp2
      go_ret2
      refine ⟨?_, Below.refl _ _⟩
      rw [HR.out, decZ_short _ _ _ (by simp; omega)]; rfl
    · go_wp2
      go_loop [6, 4, 5] (fun i r z' => ∃ (j : Nat) (q : Int), (j : Int) + 1 ≤ z ∧ z' = .int .i64 z ∧ i = .int .i64 ((j : Int) + 1) ∧ r = .int .i32 q ∧ 0 ≤ q ∧ Hid (q < 128 * 64 ^ j) ∧
          Hid (decN b (z.toNat - 1) (s.data.toList.drop (k + 1)) = decN q (z.toNat - 1 - j) (s.data.toList.drop (k + 1 + j)))) (fun i _ _ => (z - intOf i).toNat)
      case atStart => exact ⟨0, b, by omega, rfl, rfl, rfl, hb0, Lib.hid (by omega), Lib.hid rfl⟩
      case round =>
        obtain ⟨j, q, hj, rfl, rfl, rfl, hq0, HB, HD⟩ := hrel
        by_cases hlt : (j : Int) + 1 < z
        · have hk' : k + (j + 1) < s.size := by omega
          go_wp2
          · have hbad : ((s[k + (j + 1)].toNat : Int) / 64 != 2) = true := by assumption
            go_ret2
            refine ⟨?_, Below.refl _ _⟩
            rw [HR.out, rune_bad s k j z b q hlt hk' HD.out (by simpa using hbad)]
            rfl
          · have hok : ((s[k + (j + 1)].toNat : Int) / 64 != 2) = false := by assumption
            have hok' : (s[k + (j + 1)].toNat : Int) / 64 = 2 := by simpa using hok
            have hc1 := u8_lt s[k + (j + 1)]
            have hq1 := pow_bd j (by omega) q HB.out
            have hv := step_val q s[k + (j + 1)].toNat hq0 hq1 (by omega) hc1
            go_round
            case rel => exact ⟨j + 1, q * 64 + (s[k + (j + 1)].toNat : Int) % 64, by omega, rfl, by go_num, by rw [hv], by omega, Lib.hid (pow_next j q _ HB.out (by omega)), Lib.hid (rune_step s k j z b q hlt hk' HD.out hok')⟩
            case measure => simp [intOf]; omega
        · have HE := Lib.hid (rune_end s k j z b q (by omega) HD.out)
          go_wp2_with fail
          refine (length_any q w).mono ?_
          by_cases hl : slen q = z
          · have HL := Lib.hid hl
            rw [hl]
            clear hl
            rintro e w1 ⟨rfl, hb1⟩
            go_wp2
            go_ret2
            refine ⟨?_, hb1⟩
            rw [HR.out, HE.out, if_pos HL.out]
            rfl
          · have HL := Lib.hid hl
            have hne : (slen q != z) = true := by simpa using hl
            clear hl
            rintro e w1 ⟨rfl, hb1⟩
            go_wp2
            go_ret2
            refine ⟨?_, hb1⟩
            rw [HR.out, HE.out, if_neg HL.out]
            rfl
theorem rune_any (s : ByteArray) (i : Int) (w : World) (hs : s.size ≤ 1000000000) :
    Calls Tryz.prog 97 #[.string s, .int .i64 i] w fun e w' => e = .returned (.tuple #[.int .i32 (runeS s i).1, .int .i64 (runeS s i).2]) ∧ Below w.heap.size w w' := by
  by_cases h : i < 0 ∨ (s.size : Int) ≤ i
  · have := rune_out s i w h hs
    unfold runeS
    rw [if_pos h]
    exact this
  · obtain ⟨k, rfl⟩ := Int.eq_ofNat_of_zero_le (by omega : 0 ≤ i)
    exact rune_in s k w (by omega) hs
end Go.Proofs.YtlcjepnaljfpkaaGreatDoor
namespace Go.Proofs.YtlcjepnaljfpkaaGreatDoor
open Go.RowKit Wb
set_option maxHeartbeats 1000000 in
theorem value_any (s : ByteArray) (w : World) (h1 : 1 ≤ s.size) (h4 : s.size ≤ 4) :
    Calls Tryz.prog 154 #[.string s] w fun e w' => e = .returned (.int .i64 (val s.data.toList)) ∧ w = w' := by
  have HV := Lib.hid (val_cons s h1)
  have HO : Hid (off s.size = if s.size = 2 then 192 else if s.size = 3 then 224 else if s.size = 4 then 240 else 0) := Lib.hid rfl
  go_enter Tryz.func154, Tryz.ntmps154
  go_wp2
  all_goals
    go_loop [3, 4] (fun n i => ∃ (k : Nat) (q : Int), 1 ≤ k ∧ k ≤ s.size ∧ i = .int .i64 k ∧ n = .int .i64 q ∧ Hid (q = ((s.data.toList.drop 1).take (k - 1)).foldl vstep ((s[0].toNat : Int) - off s.size)) ∧
      Hid (-(300 * 100 ^ (k - 1)) ≤ q ∧ q ≤ 300 * 100 ^ (k - 1))) (fun _ i => s.size - (intOf i).toNat)
    case atStart =>
      have hc := u8_lt s[0]
      refine ⟨1, (s[0].toNat : Int) - off s.size, by omega, by omega, rfl, congrArg (Value.int .i64) ?_, Lib.hid rfl, Lib.hid ?_⟩
      all_goals
        rw [HO.out]
        simp only [beq_iff_eq, beq_eq_false_iff_ne, ne_eq, Nat.sub_self, Int.pow_zero, wrap64] at *
        repeat' split
        all_goals omega
    case round =>
      obtain ⟨k, q, hk1, hk, rfl, rfl, HQ, HB⟩ := hrel
      by_cases hlt : k < s.size
      · obtain ⟨q1, q2⟩ := vbd k (by omega) q HB.out
        go_wp2
        go_round
        case rel =>
          have hc := u8_lt s[k]
          exact ⟨k + 1, q * 64 + (s[k].toNat : Int) - 128, by omega, by omega, by go_num, congrArg (Value.int .i64) (by simp only [wrap64]; omega),
            Lib.hid (by rw [show k + 1 - 1 = k from rfl, vals_next s _ k hk1 hlt, ← HQ.out]), Lib.hid (vbd_next k hk1 q _ HB.out (by omega) hc)⟩
        case measure => simp [intOf]; omega
      · go_wp2
        go_ret
        refine ⟨ret_i ?_, rfl⟩
        rw [HV.out, HQ.out, List.take_of_length_le (by simp; omega)]
set_option maxHeartbeats 400000 in
theorem rrune_out (s : ByteArray) (i : Int) (w : World) (h : i < 0 ∨ (s.size : Int) ≤ i) :
    Calls Tryz.prog 127 #[.string s, .int .i64 i] w fun e w' => e = .returned (.tuple #[.int .i64 0, .int .i64 0]) ∧ Below w.heap.size w w' := by
  by_cases h0 : i < 0
  · clear h
    go_enter Tryz.func127, Tryz.ntmps127
    go_wp2
    go_ret2
    exact ⟨rfl, Below.refl _ _⟩
  · have h1 : (s.size : Int) ≤ i := by omega
    clear h
    go_enter Tryz.func127, Tryz.ntmps127
    go_wp2
    go_ret2
    exact ⟨rfl, Below.refl _ _⟩
theorem cut_list (s : ByteArray) (k m : Nat) : (s.extract k (k + m)).data.toList = (s.data.toList.drop k).take m := by
  rw [Lib.extract_data]
  have : k + m - k = m := by omega
  rw [this]
theorem cut_size (s : ByteArray) (k m : Nat) (h : k + m ≤ s.size) : (s.extract k (k + m)).size = m := by
  simp; omega
set_option maxHeartbeats 1000000 in
theorem rrune_in (s : ByteArray) (k : Nat) (w : World) (h : k < s.size) (hs : s.size ≤ 1000000000) :
    Calls Tryz.prog 127 #[.string s, .int .i64 k] w fun e w' => e = .returned (.tuple #[.int .i64 (runeS s k).1, .int .i64 (runeS s k).2]) ∧ Below w.heap.size w w' := by
  have HR : Hid (runeS s k = dec (s.data.toList.drop k)) := by
    unfold runeS
    rw [if_neg (by omega)]
    exact Lib.hid rfl
  have hlen : (s.data.toList.drop k).length = s.size - k := by simp
  have HLen := Lib.hid hlen
  clear hlen
  have hsk : decide (s.size ≤ k) = false := by simpa using h
  go_enter Tryz.func127, Tryz.ntmps127
  go_wp2
  go_loopw [6] (fun i wr => ∃ j : Nat, j ≤ 4 ∧ i = .int .i64 ((j : Int) + 1) ∧ Hid ((dec (s.data.toList.drop k)).2 = 0 ∨ (j : Int) < (dec (s.data.toList.drop k)).2) ∧ Below w.heap.size w wr) (fun i _ => (6 - intOf i).toNat)
  case atStart =>
    have hb := dec_bd (s.data.toList.drop k)
    exact ⟨0, by omega, rfl, Lib.hid (by omega), Below.refl _ _⟩
  case round =>
    obtain ⟨j, hj, rfl, HM, hbel⟩ := hrel
    by_cases hlt : j < 4 ∧ k + (j + 1) ≤ s.size
    · obtain ⟨hlt1, hlt2⟩ := hlt
      have hcs := cut_size s k (j + 1) hlt2
      have HC := Lib.hid (cut_list s k (j + 1))
      go_wp2_with fail
      refine (value_any _ _ (by omega) (by omega)).mono ?_
      rw [HC.out]
      obtain ⟨t, ht⟩ : ∃ t, t = (s.data.toList.drop k).take (j + 1) := ⟨_, rfl⟩
      have HT := Lib.hid ht
      rw [← ht] at HC ⊢
      clear ht hcs
      have HL : Hid ((s.extract k (k + (j + 1))).toList = t) := by
        rw [ByteArray.toList_eq]; exact HC.out
      rintro e w1 ⟨rfl, rfl⟩
      go_wp2_with fail
      refine (sign_any _ _).mono ?_
      cases hsg : sgn (val t)
      · have HS := Lib.hid hsg
        clear hsg
        rintro e w1 ⟨rfl, rfl⟩
        go_wp2
        go_roundw
        case rel =>
          refine ⟨j + 1, by omega, by go_num, Lib.hid ?_, hbel⟩
          have hm := miss (s.data.toList.drop k) (j + 1)
          have hb := dec_bd (s.data.toList.drop k)
          have h0 := HM.out
          rw [← HT.out, HS.out] at hm
          by_cases hx : (dec (s.data.toList.drop k)).2 = ((j + 1 : Nat) : Int)
          · have := (hm hx (by omega)).1
            simp at this
          · omega
        case measure => simp [intOf]; omega
      · have HS := Lib.hid hsg
        clear hsg
        rintro e w1 ⟨rfl, rfl⟩
        go_wp2_with fail
        refine (rput_any _ _).mono ?_
        rintro e w1 ⟨rfl, hb1⟩
        have hbw := hbel.trans (hb1.mono hbel.size)
        by_cases he : enc (val t) = t
        · have HE := Lib.hid he
          have q : (enc (val t) == (s.extract k (k + (j + 1))).toList) = true := by rw [HL.out, he]; simp
          clear he
          go_wp2
          go_ret2
          refine ⟨?_, hbw⟩
          have hh := hit (s.data.toList.drop k) (j + 1) (by rw [HLen.out]; omega)
          rw [← HT.out] at hh
          rw [HR.out, hh HS.out HE.out]
          rfl
        · have HE := Lib.hid he
          have q : (enc (val t) == (s.extract k (k + (j + 1))).toList) = false := by rw [HL.out]; simpa using he
          clear he
          go_wp2
          go_roundw
          case rel =>
            refine ⟨j + 1, by omega, by go_num, Lib.hid ?_, hbw⟩
            have hm := miss (s.data.toList.drop k) (j + 1)
            have hb := dec_bd (s.data.toList.drop k)
            have h0 := HM.out
            rw [← HT.out] at hm
            by_cases hx : (dec (s.data.toList.drop k)).2 = ((j + 1 : Nat) : Int)
            · exact absurd (hm hx (by omega)).2 HE.out
            · omega
          case measure => simp [intOf]; omega
    · have HZ : Hid (dec (s.data.toList.drop k) = (0, 0)) := by
        have hb := dec_bd (s.data.toList.drop k)
        rw [HLen.out] at hb
        have h0 := HM.out
        exact Lib.hid (dec_zero _ (by omega))
      by_cases hj4 : j < 4
      all_goals
        go_wp2
        go_ret2
        refine ⟨?_, hbel⟩
        rw [HR.out, HZ.out]
        rfl
theorem rrune_any (s : ByteArray) (i : Int) (w : World) (hs : s.size ≤ 1000000000) :
    Calls Tryz.prog 127 #[.string s, .int .i64 i] w fun e w' => e = .returned (.tuple #[.int .i64 (runeS s i).1, .int .i64 (runeS s i).2]) ∧ Below w.heap.size w w' := by
  by_cases h : i < 0 ∨ (s.size : Int) ≤ i
  · have := rrune_out s i w h
    unfold runeS
    rw [if_pos h]
    exact this
  · obtain ⟨k, rfl⟩ := Int.eq_ofNat_of_zero_le (by omega : 0 ≤ i)
    exact rrune_in s k w (by omega) hs
end Go.Proofs.YtlcjepnaljfpkaaGreatDoor
