
/- Contract of watchbillref01.Rune: it answers what utf.Rune answers. -/
import Derived.Test.YtclenfdhnccalaaDoorUtfD
import Derived.Lib.Strings
namespace Go.Proofs.YtclenfdhnccalaaDoor
open Go.RowKit Wb

set_option maxHeartbeats 1000000 in
theorem value_any (s : ByteArray) (w : World) (h1 : 1 ≤ s.size) (h4 : s.size ≤ 4) :
    Calls Tryd.prog 35 #[.string s] w fun e w' => e = .returned (.int .i64 (val s.data.toList)) ∧ w = w' := by
  have HV := Lib.hid (val_cons s h1)
  have HO : Hid (off s.size = if s.size = 2 then 192 else if s.size = 3 then 224 else if s.size = 4 then 240 else 0) := Lib.hid rfl
  go_enter Tryd.func35, Tryd.ntmps35
  go_wp2
  all_goals
    go_loop [3, 4] (fun n i => ∃ (k : Nat) (q : Int), 1 ≤ k ∧ k ≤ s.size ∧ i = .int .i64 k ∧ n = .int .i64 q ∧ Hid (q = ((s.data.toList.drop 1).take (k - 1)).foldl vstep ((s[0].toNat : Int) - off s.size)) ∧
      Hid (-(300 * 100 ^ (k - 1)) ≤ q ∧ q ≤ 300 * 100 ^ (k - 1))) (fun _ i => s.size - (intOf i).toNat)
    case atStart =>
      have hc := u8_lt s[0]
      refine ⟨1, (s[0].toNat : Int) - off s.size, by omega, by omega, rfl, congrArg (Value.int .i64) ?_, Lib.hid rfl, Lib.hid ?_⟩
      all_goals
        rw [HO.out]
        simp only [beq_iff_eq, beq_eq_false_iff_ne, ne_eq, Nat.sub_self, Int.pow_zero, wrap64] at *
        repeat' split
        all_goals omega
    case round =>
      obtain ⟨k, q, hk1, hk, rfl, rfl, HQ, HB⟩ := hrel
      by_cases hlt : k < s.size
      · obtain ⟨q1, q2⟩ := vbd k (by omega) q HB.out
        go_wp2
        go_round
        case rel =>
          have hc := u8_lt s[k]
          exact ⟨k + 1, q * 64 + (s[k].toNat : Int) - 128, by omega, by omega, by go_num, congrArg (Value.int .i64) (by simp only [wrap64]; omega),
            Lib.hid (by rw [show k + 1 - 1 = k from rfl, vals_next s _ k hk1 hlt, ← HQ.out]), Lib.hid (vbd_next k hk1 q _ HB.out (by omega) hc)⟩
        case measure => simp [intOf]; omega
      · go_wp2
        go_ret
        refine ⟨ret_i ?_, rfl⟩
        rw [HV.out, HQ.out, List.take_of_length_le (by simp; omega)]

set_option maxHeartbeats 400000 in
theorem rrune_out (s : ByteArray) (i : Int) (w : World) (h : i < 0 ∨ (s.size : Int) ≤ i) :
    Calls Tryd.prog 28 #[.string s, .int .i64 i] w fun e w' => e = .returned (.tuple #[.int .i64 0, .int .i64 0]) ∧ Below w.heap.size w w' := by
  by_cases h0 : i < 0
  · clear h
    go_enter Tryd.func28, Tryd.ntmps28
    go_wp2
    go_ret2
    exact ⟨rfl, Below.refl _ _⟩
  · have h1 : (s.size : Int) ≤ i := by omega
    clear h
    go_enter Tryd.func28, Tryd.ntmps28
    go_wp2
    go_ret2
    exact ⟨rfl, Below.refl _ _⟩

theorem cut_list (s : ByteArray) (k m : Nat) : (s.extract k (k + m)).data.toList = (s.data.toList.drop k).take m := by
  rw [Lib.extract_data]
  have : k + m - k = m := by omega
  rw [this]
theorem cut_size (s : ByteArray) (k m : Nat) (h : k + m ≤ s.size) : (s.extract k (k + m)).size = m := by
  simp; omega

set_option maxHeartbeats 1000000 in
theorem rrune_in (s : ByteArray) (k : Nat) (w : World) (h : k < s.size) (hs : s.size ≤ 1000000000) :
    Calls Tryd.prog 28 #[.string s, .int .i64 k] w fun e w' => e = .returned (.tuple #[.int .i64 (runeS s k).1, .int .i64 (runeS s k).2]) ∧ Below w.heap.size w w' := by
  have HR : Hid (runeS s k = dec (s.data.toList.drop k)) := by
    unfold runeS
    rw [if_neg (by omega)]
    exact Lib.hid rfl
  have hlen : (s.data.toList.drop k).length = s.size - k := by simp
  have HLen := Lib.hid hlen
  clear hlen
  have hsk : decide (s.size ≤ k) = false := by simpa using h
  go_enter Tryd.func28, Tryd.ntmps28
  go_wp2
  go_loopw [6] (fun i wr => ∃ j : Nat, j ≤ 4 ∧ i = .int .i64 ((j : Int) + 1) ∧ Hid ((dec (s.data.toList.drop k)).2 = 0 ∨ (j : Int) < (dec (s.data.toList.drop k)).2) ∧ Below w.heap.size w wr) (fun i _ => (6 - intOf i).toNat)
  case atStart =>
    have hb := dec_bd (s.data.toList.drop k)
    exact ⟨0, by omega, rfl, Lib.hid (by omega), Below.refl _ _⟩
  case round =>
    obtain ⟨j, hj, rfl, HM, hbel⟩ := hrel
    by_cases hlt : j < 4 ∧ k + (j + 1) ≤ s.size
    · obtain ⟨hlt1, hlt2⟩ := hlt
      have hcs := cut_size s k (j + 1) hlt2
      have HC := Lib.hid (cut_list s k (j + 1))
      go_wp2_with fail
      refine (value_any _ _ (by omega) (by omega)).mono ?_
      rw [HC.out]
      obtain ⟨t, ht⟩ : ∃ t, t = (s.data.toList.drop k).take (j + 1) := ⟨_, rfl⟩
      have HT := Lib.hid ht
      rw [← ht] at HC ⊢
      clear ht hcs
      have HL : Hid ((s.extract k (k + (j + 1))).toList = t) := by
        rw [ByteArray.toList_eq]; exact HC.out
      rintro e w1 ⟨rfl, rfl⟩
      go_wp2_with fail
      refine (sign_any _ _).mono ?_
      cases hsg : sgn (val t)
      · have HS := Lib.hid hsg
        clear hsg
        rintro e w1 ⟨rfl, rfl⟩
        go_wp2
        go_roundw
        case rel =>
          refine ⟨j + 1, by omega, by go_num, Lib.hid ?_, hbel⟩
          have hm := miss (s.data.toList.drop k) (j + 1)
          have hb := dec_bd (s.data.toList.drop k)
          have h0 := HM.out
          rw [← HT.out, HS.out] at hm
          by_cases hx : (dec (s.data.toList.drop k)).2 = ((j + 1 : Nat) : Int)
          · have := (hm hx (by omega)).1
            simp at this
          · omega
        case measure => simp [intOf]; omega
      · have HS := Lib.hid hsg
        clear hsg
        rintro e w1 ⟨rfl, rfl⟩
        go_wp2_with fail
        refine (rput_any _ _).mono ?_
        rintro e w1 ⟨rfl, hb1⟩
        have hbw := hbel.trans (hb1.mono hbel.size)
        by_cases he : enc (val t) = t
        · have HE := Lib.hid he
          have q : (enc (val t) == (s.extract k (k + (j + 1))).toList) = true := by rw [HL.out, he]; simp
          clear he
          go_wp2
          go_ret2
          refine ⟨?_, hbw⟩
          have hh := hit (s.data.toList.drop k) (j + 1) (by rw [HLen.out]; omega)
          rw [← HT.out] at hh
          rw [HR.out, hh HS.out HE.out]
          rfl
        · have HE := Lib.hid he
          have q : (enc (val t) == (s.extract k (k + (j + 1))).toList) = false := by rw [HL.out]; simpa using he
          clear he
          go_wp2
          go_roundw
          case rel =>
            refine ⟨j + 1, by omega, by go_num, Lib.hid ?_, hbw⟩
            have hm := miss (s.data.toList.drop k) (j + 1)
            have hb := dec_bd (s.data.toList.drop k)
            have h0 := HM.out
            rw [← HT.out] at hm
            by_cases hx : (dec (s.data.toList.drop k)).2 = ((j + 1 : Nat) : Int)
            · exact absurd (hm hx (by omega)).2 HE.out
            · omega
          case measure => simp [intOf]; omega
    · have HZ : Hid (dec (s.data.toList.drop k) = (0, 0)) := by
        have hb := dec_bd (s.data.toList.drop k)
        rw [HLen.out] at hb
        have h0 := HM.out
        exact Lib.hid (dec_zero _ (by omega))
      by_cases hj4 : j < 4
      all_goals
        go_wp2
        go_ret2
        refine ⟨?_, hbel⟩
        rw [HR.out, HZ.out]
        rfl

theorem rrune_any (s : ByteArray) (i : Int) (w : World) (hs : s.size ≤ 1000000000) :
    Calls Tryd.prog 28 #[.string s, .int .i64 i] w fun e w' => e = .returned (.tuple #[.int .i64 (runeS s i).1, .int .i64 (runeS s i).2]) ∧ Below w.heap.size w w' := by
  by_cases h : i < 0 ∨ (s.size : Int) ≤ i
  · have := rrune_out s i w h
    unfold runeS
    rw [if_pos h]
    exact this
  · obtain ⟨k, rfl⟩ := Int.eq_ofNat_of_zero_le (by omega : 0 ≤ i)
    exact rrune_in s k w (by omega) hs
end Go.Proofs.YtclenfdhnccalaaDoor
