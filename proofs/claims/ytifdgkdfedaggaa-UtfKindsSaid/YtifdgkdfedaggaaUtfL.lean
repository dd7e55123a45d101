/- Walks of the statements of layer 1. -/
import Derived.Test.YtifdgkdfedaggaaUtfG
import Derived.Test.YtifdgkdfedaggaaPlain3
namespace Go.Proofs.Ytifdgkdfedaggaa
open Go.RowKit Wb

set_option maxHeartbeats 1000000 in
theorem awake_any (w : World) : Calls Try.prog 9 #[] w fun e w' => e = .returned (.bool true) ∧ Below w.heap.size w w' := by
  go_enter Try.func9, Try.ntmps9
  go_wp2_with fail
  refine (rune_any ⟨#[195, 169]⟩ 0 _ (by decide)).mono ?_
  rw [show runeS ⟨#[195, 169]⟩ 0 = (233, 2) from by decide]
  rintro e w1 ⟨rfl, hb1⟩
  go_wp2_with fail
  refine (rune_any ⟨#[192, 128]⟩ 0 _ (by decide)).mono ?_
  rw [show runeS ⟨#[192, 128]⟩ 0 = (0, 0) from by decide]
  rintro e w2 ⟨rfl, hb2⟩
  have hb := hb1.trans (hb2.mono hb1.size)
  clear hb1 hb2
  go_wp2_with fail
  refine (put_any 233 _).mono ?_
  rw [show enc 233 = [195, 169] from by decide]
  rintro e w3 ⟨rfl, hb3⟩
  have hb := hb.trans (hb3.mono hb.size)
  clear hb3
  go_wp2_with fail
  refine (name_any ⟨#[97, 45, 49]⟩ _ (by decide)).mono ?_
  rw [show nameB (ByteArray.mk #[97, 45, 49]).data.toList = true from by decide]
  rintro e w4 ⟨rfl, hb4⟩
  have hb := hb.trans (hb4.mono hb.size)
  clear hb4
  go_wp2_with fail
  refine (name_any ⟨#[45, 97]⟩ _ (by decide)).mono ?_
  rw [show nameB (ByteArray.mk #[45, 97]).data.toList = false from by decide]
  rintro e w5 ⟨rfl, hb5⟩
  have hb := hb.trans (hb5.mono hb.size)
  clear hb5
  go_wp2_with fail
  refine (check_any ⟨#[97, 255]⟩ _ (by decide)).mono ?_
  rw [show chk (ByteArray.mk #[97, 255]).data.toList = 1 from by decide]
  rintro e w6 ⟨rfl, hb6⟩
  have hb := hb.trans (hb6.mono hb.size)
  clear hb6
  go_wp2_with fail
  refine (char_any 9 _).mono ?_
  rw [show charB 9 = true from by decide]
  rintro e w7 ⟨rfl, hb7⟩
  have hb := hb.trans (hb7.mono hb.size)
  clear hb7
  go_wp2_with fail
  refine (blank_any 32 _).mono ?_
  rw [show blk 32 = true from by decide]
  rintro e w8 ⟨rfl, rfl⟩
  go_wp2_with fail
  refine (trim_any ⟨#[32, 97, 32]⟩ _ (by decide)).mono ?_
  rw [show trimL (ByteArray.mk #[32, 97, 32]).data.toList = [97] from by decide]
  rintro e w9 ⟨rfl, rfl⟩
  go_wp2
  go_ret
  exact ⟨rfl, hb⟩

set_option maxHeartbeats 1000000 in
theorem runes_walk (s : ByteArray) (i : Int) (w : World) :
    Calls Try.prog 3 #[.string s, .int .i64 i] w fun e w' => e = .returned (.bool true) ∧ Below w.heap.size w w' := by
  go_enter Try.func3, Try.ntmps3
  go_wp2_with fail
  refine (awake_any _).mono ?_
  rintro e w1 ⟨rfl, hb⟩
  by_cases h : 20000 < s.size
  · go_wp2
    go_ret
    exact ⟨rfl, hb⟩
  · have hR := runeS_fst s i
    generalize hg : runeS s i = R at *
    obtain ⟨R, K⟩ := R
    have HG := Lib.hid hg
    clear hg
    obtain ⟨hR0, hR1⟩ := hR
    replace hR0 : 0 ≤ R := hR0
    replace hR1 : R ≤ 1114111 := hR1
    go_wp2_with fail
    refine (rune_any s i _ (by omega)).mono ?_
    rw [HG.out]
    rintro e w2 ⟨rfl, hb2⟩
    have hb := hb.trans (hb2.mono hb.size)
    clear hb2
    go_wp2_with fail
    refine (rrune_any s i _ (by omega)).mono ?_
    rw [HG.out]
    rintro e w3 ⟨rfl, hb3⟩
    have hb := hb.trans (hb3.mono hb.size)
    clear hb3
    go_wp2
    go_ret
    exact ⟨rfl, hb⟩

set_option maxHeartbeats 1000000 in
theorem kinds_at (r c : Int) (hr0 : -2147483648 ≤ r) (hr1 : r ≤ 2147483647) (w : World) (S P C B : Bool)
    (HS : Hid (startB r = S)) (HP : Hid (partB r = P)) (HC : Hid (charB r = C)) (HB : Hid (blk c = B)) (hsp : S = true → P = true) (hpc : P = true → C = true)
    (HE : Hid (C = true → enc r ≠ [])) :
    Calls Try.prog 6 #[.int .i32 r, .int .u8 c] w fun e w' => e = .returned (.bool true) ∧ Below w.heap.size w w' := by
  cases S <;> cases P <;> cases C <;> simp at hsp hpc
  all_goals
    go_enter Try.func6, Try.ntmps6
    go_wp2_with fail
    refine (awake_any _).mono ?_
    rintro e w1 ⟨rfl, hb⟩
    go_wp2_with (first
      | (go_at_call 15; refine (char_any r _).mono ?_; rw [HC.out]; rintro e w2 ⟨rfl, hb2⟩; replace hb := hb.trans (hb2.mono hb.size); clear hb2)
      | (go_at_call 16; refine (rchar_any r _).mono ?_; rw [HC.out]; rintro e w2 ⟨rfl, hb2⟩; replace hb := hb.trans (hb2.mono hb.size); clear hb2)
      | (go_at_call 17; refine (start_any r _).mono ?_; rw [HS.out]; rintro e w2 ⟨rfl, hb2⟩; replace hb := hb.trans (hb2.mono hb.size); clear hb2)
      | (go_at_call 18; refine (rstart_any r _).mono ?_; rw [HS.out]; rintro e w2 ⟨rfl, hb2⟩; replace hb := hb.trans (hb2.mono hb.size); clear hb2)
      | (go_at_call 19; refine (part_any r _).mono ?_; rw [HP.out]; rintro e w2 ⟨rfl, hb2⟩; replace hb := hb.trans (hb2.mono hb.size); clear hb2)
      | (go_at_call 20; refine (rpart_any r _).mono ?_; rw [HP.out]; rintro e w2 ⟨rfl, hb2⟩; replace hb := hb.trans (hb2.mono hb.size); clear hb2)
      | (go_at_call 21; refine (blank_any c _).mono ?_; rw [HB.out]; rintro e w2 ⟨rfl, rfl⟩)
      | (go_at_call 22; refine (rblank_any c _).mono ?_; rw [HB.out]; rintro e w2 ⟨rfl, rfl⟩)
      | (go_at_call 12; refine (put_any r _).mono ?_; rintro e w2 ⟨rfl, hb2⟩; replace hb := hb.trans (hb2.mono hb.size); clear hb2))
    go_ret
    first
      | exact ⟨rfl, hb⟩
      | exact ⟨ret_b (by have q := HE.out (by trivial); simpa using q), hb⟩

theorem kinds_walk (r c : Int) (hr0 : -2147483648 ≤ r) (hr1 : r ≤ 2147483647) (w : World) :
    Calls Try.prog 6 #[.int .i32 r, .int .u8 c] w fun e w' => e = .returned (.bool true) ∧ Below w.heap.size w w' :=
  kinds_at r c hr0 hr1 w _ _ _ _ (Lib.hid rfl) (Lib.hid rfl) (Lib.hid rfl) (Lib.hid rfl) (start_part r) (part_char r) (Lib.hid fun h => enc_ne r (char_sgn r h))

set_option maxHeartbeats 1000000 in
theorem names_walk (s : ByteArray) (w : World) :
    Calls Try.prog 7 #[.string s] w fun e w' => e = .returned (.bool true) ∧ Below w.heap.size w w' := by
  by_cases h : 20000 < s.size
  · go_enter Try.func7, Try.ntmps7
    go_wp2_with fail
    refine (awake_any _).mono ?_
    rintro e w1 ⟨rfl, hb⟩
    go_wp2
    go_ret
    exact ⟨rfl, hb⟩
  · have hs : s.size ≤ 1000000000 := by omega
    have ht : (trimL s.data.toList).length ≤ s.size := by
      have h1 := (List.dropWhile_suffix blkU (l := s.data.toList)).length_le
      have h2 := (List.dropWhile_suffix blkU (l := (s.data.toList.dropWhile blkU).reverse)).length_le
      have h3 : s.data.toList.length = s.size := by simp
      unfold trimL
      simp only [List.length_reverse] at *
      omega
    have HI := Lib.hid (trim_idem s.data.toList)
    generalize htt : trimL s.data.toList = t at *
    have HT := Lib.hid htt
    clear htt
    have hsz : (ByteArray.mk t.toArray).size ≤ 1000000000 := by
      have : (ByteArray.mk t.toArray).size = t.length := by simp [ByteArray.size]
      omega
    have HZ := Lib.hid hsz
    obtain ⟨N, hN⟩ : ∃ N, nameB s.data.toList = N := ⟨_, rfl⟩
    have HN := Lib.hid hN
    clear ht hsz hN
    cases N
    all_goals
      go_enter Try.func7, Try.ntmps7
      go_wp2_with fail
      refine (awake_any _).mono ?_
      rintro e w1 ⟨rfl, hb⟩
      go_wp2_with fail
      refine (name_any s _ hs).mono ?_
      rw [HN.out]
      rintro e w2 ⟨rfl, hb2⟩
      replace hb := hb.trans (hb2.mono hb.size)
      clear hb2
      go_wp2_with fail
      refine (rname_any s _ hs).mono ?_
      rw [HN.out]
      rintro e w2 ⟨rfl, hb2⟩
      replace hb := hb.trans (hb2.mono hb.size)
      clear hb2
      go_wp2_with fail
      refine (trim_any s _ hs).mono ?_
      rw [HT.out]
      rintro e w2 ⟨rfl, rfl⟩
      go_wp2_with fail
      refine (rtrim_any s _ hs).mono ?_
      rw [HT.out]
      rintro e w2 ⟨rfl, rfl⟩
      go_wp2_with fail
      refine (trim_any s _ hs).mono ?_
      rw [HT.out]
      rintro e w2 ⟨rfl, rfl⟩
      go_wp2_with fail
      refine (trim_any _ _ HZ.out).mono ?_
      rw [show (ByteArray.mk t.toArray).data.toList = t from rfl, HI.out]
      rintro e w2 ⟨rfl, rfl⟩
      go_wp2_with fail
      refine (trim_any s _ hs).mono ?_
      rw [HT.out]
      rintro e w2 ⟨rfl, rfl⟩
      go_wp2
      go_ret
      exact ⟨rfl, hb⟩

set_option maxHeartbeats 1000000 in
theorem checks_walk (s t : ByteArray) (w : World) :
    Calls Try.prog 5 #[.string s, .string t] w fun e w' => e = .returned (.bool true) ∧ Below w.heap.size w w' := by
  by_cases h : 20000 < s.size ∨ 20000 < t.size
  · by_cases h1 : 20000 < s.size
    all_goals
      go_enter Try.func5, Try.ntmps5
      go_wp2_with fail
      refine (awake_any _).mono ?_
      rintro e w1 ⟨rfl, hb⟩
      go_wp2
      go_ret
      exact ⟨rfl, hb⟩
  · have hs1 : ¬ 20000 < s.size := by omega
    have ht1 : ¬ 20000 < t.size := by omega
    clear h
    have hs : s.size ≤ 1000000000 := by omega
    have ht : t.size ≤ 1000000000 := by omega
    have hst : (s ++ t).size ≤ 1000000000 := by rw [ByteArray.size_append]; omega
    have HST := Lib.hid hst
    have hl : s.data.toList.length = s.size := by simp
    have hbd := chk_bd s.data.toList
    rw [hl] at hbd
    have HC2 := Lib.hid (chk_cut s.data.toList)
    have h2 := chk_two s.data.toList t.data.toList
    rw [hl] at h2
    have htd : (s ++ t).data.toList = s.data.toList ++ t.data.toList := by simp [ByteArray.data_append]
    rw [← htd] at h2
    have H2 := Lib.hid h2
    have hlt : t.data.toList.length = t.size := by simp
    have hbt := chk_bd t.data.toList
    rw [hlt] at hbt
    clear hl h2 htd hlt hst
    generalize hA : chk s.data.toList = a at *
    have HA := Lib.hid hA
    generalize hB : chk t.data.toList = b at *
    have HB := Lib.hid hB
    clear hA hB
    by_cases ha : 0 ≤ a
    · obtain ⟨ha0, ha1⟩ : 0 ≤ a ∧ a < s.size := by omega
      obtain ⟨n, rfl⟩ := Int.eq_ofNat_of_zero_le ha0
      have HX : Hid ((s.extract 0 n).data.toList = s.data.toList.take n) := by
        have := cut_list s 0 n
        simpa using Lib.hid this
      have HXS : Hid ((s.extract 0 n).size ≤ 1000000000) := by
        have := cut_size s 0 n (by omega)
        rw [Nat.zero_add] at this
        exact Lib.hid (by omega)
      clear hbd hbt ha
      go_enter Try.func5, Try.ntmps5
      go_wp2_with fail
      refine (awake_any _).mono ?_
      rintro e w1 ⟨rfl, hb⟩
      go_wp2_with fail
      refine (check_any s _ hs).mono ?_
      rw [HA.out]
      rintro e w2 ⟨rfl, hb2⟩
      replace hb := hb.trans (hb2.mono hb.size)
      clear hb2
      go_wp2_with fail
      refine (rcheck_any s _ hs).mono ?_
      rw [HA.out]
      rintro e w2 ⟨rfl, hb2⟩
      replace hb := hb.trans (hb2.mono hb.size)
      clear hb2
      go_wp2_with fail
      refine (check_any _ _ HXS.out).mono ?_
      rw [HX.out, show chk (s.data.toList.take n) = -1 from by have := HC2.out (by omega); simpa using this]
      rintro e w2 ⟨rfl, hb2⟩
      replace hb := hb.trans (hb2.mono hb.size)
      clear hb2
      go_wp2
      go_ret
      exact ⟨rfl, hb⟩
    · obtain rfl : a = -1 := by omega
      have HC := Lib.hid (H2.out rfl)
      clear hbd
      by_cases hb0 : b < 0
      all_goals
        go_enter Try.func5, Try.ntmps5
        go_wp2_with fail
        refine (awake_any _).mono ?_
        rintro e w1 ⟨rfl, hb⟩
        go_wp2_with fail
        refine (check_any s _ hs).mono ?_
        rw [HA.out]
        rintro e w2 ⟨rfl, hb2⟩
        replace hb := hb.trans (hb2.mono hb.size)
        clear hb2
        go_wp2_with fail
        refine (rcheck_any s _ hs).mono ?_
        rw [HA.out]
        rintro e w2 ⟨rfl, hb2⟩
        replace hb := hb.trans (hb2.mono hb.size)
        clear hb2
        go_wp2_with fail
        refine (check_any t _ ht).mono ?_
        rw [HB.out]
        rintro e w2 ⟨rfl, hb2⟩
        replace hb := hb.trans (hb2.mono hb.size)
        clear hb2
        go_wp2_with fail
        refine (check_any _ _ HST.out).mono ?_
        rw [HC.out]
        first | rw [if_pos hb0] | rw [if_neg (by omega)]
        rintro e w2 ⟨rfl, hb2⟩
        replace hb := hb.trans (hb2.mono hb.size)
        clear hb2
        go_wp2
        go_ret
        exact ⟨rfl, hb⟩

theorem runeS_zero (s : ByteArray) (i : Int) (h : (runeS s i).2 = 0) : runeS s i = (0, 0) := by
  unfold runeS at *
  split
  · rfl
  · rename_i q
    rw [if_neg q] at h
    exact dec_zero _ h

set_option maxHeartbeats 1000000 in
theorem back_walk (a : ByteArray) (r : Int) (b : ByteArray) (w : World) :
    Calls Try.prog 4 #[.string a, .int .i32 r, .string b] w fun e w' => e = .returned (.bool true) ∧ Below w.heap.size w w' := by
  by_cases h : 20000 < a.size ∨ 20000 < b.size
  · by_cases h1 : 20000 < a.size
    all_goals
      go_enter Try.func4, Try.ntmps4
      go_wp2_with fail
      refine (awake_any _).mono ?_
      rintro e w1 ⟨rfl, hb⟩
      go_wp2
      go_ret
      exact ⟨rfl, hb⟩
  · have ha1 : ¬ 20000 < a.size := by omega
    have hb1 : ¬ 20000 < b.size := by omega
    clear h
    by_cases hs : sgn r = true
    · obtain ⟨hr0, hr1, hr2⟩ := (sgn_iff r).1 hs
      have h1 := back_whole a b r hs
      have h2 := runeS_zero _ _ (back_cut a r hs)
      have hP : (ByteArray.mk (enc r).toArray).size = (enc r).length := by simp [ByteArray.size]
      have hel := enc_length r
      have hsl := slen_bd r
      have hso := slen_one r hs
      have hlt : slen r = 1 ↔ r < 128 := by
        unfold slen
        rw [if_pos hs]
        repeat' split
        all_goals omega
      rw [show slen r = ((ByteArray.mk (enc r).toArray).size : Int) from by omega] at h1 hsl hso hlt
      generalize hPP : ByteArray.mk (enc r).toArray = P at *
      have HP := Lib.hid hPP
      have HW := Lib.hid h1
      have HC := Lib.hid h2
      obtain ⟨hsl0, hsl4⟩ := hsl
      have hw1 : (a ++ P ++ b).size ≤ 1000000000 := by rw [ByteArray.size_append, ByteArray.size_append]; omega
      have hw2 : (a ++ P.extract 0 (P.size - 1)).size ≤ 1000000000 := by rw [ByteArray.size_append, ByteArray.size_extract]; omega
      have HW1 := Lib.hid hw1
      have HW2 := Lib.hid hw2
      clear hP hel hPP h1 h2 hs hw1 hw2
      by_cases hr : r < 128
      · have hp1 : ((P.size : Int) == 1) = true := by simpa using hlt.2 hr
        clear hlt
        have hr3 : r < 55296 := by omega
        clear hr2
        go_enter Try.func4, Try.ntmps4
        go_wp2_with fail
        refine (awake_any _).mono ?_
        rintro e w1 ⟨rfl, hb⟩
        go_wp2_with fail
        refine (put_any r _).mono ?_
        rw [HP.out]
        rintro e w2 ⟨rfl, hb2⟩
        replace hb := hb.trans (hb2.mono hb.size)
        clear hb2
        go_wp2_with fail
        refine (rune_any _ _ _ HW1.out).mono ?_
        rw [HW.out]
        rintro e w2 ⟨rfl, hb2⟩
        replace hb := hb.trans (hb2.mono hb.size)
        clear hb2
        go_wp2_with fail
        refine (rune_any _ _ _ HW2.out).mono ?_
        rw [HC.out]
        rintro e w2 ⟨rfl, hb2⟩
        replace hb := hb.trans (hb2.mono hb.size)
        clear hb2
        go_wp2
        go_ret
        exact ⟨rfl, hb⟩
      · have hp1 : ((P.size : Int) == 1) = false := by
          rw [beq_eq_false_iff_ne]
          exact fun q => hr (hlt.1 q)
        have hp2 : 2 ≤ P.size := by
          have : ¬ ((P.size : Int) = 1) := fun q => hr (hlt.1 q)
          omega
        clear hlt
        rcases hr2 with hr2 | hr2
        all_goals
          go_enter Try.func4, Try.ntmps4
          go_wp2_with fail
          refine (awake_any _).mono ?_
          rintro e w1 ⟨rfl, hb⟩
          go_wp2_with fail
          refine (put_any r _).mono ?_
          rw [HP.out]
          rintro e w2 ⟨rfl, hb2⟩
          replace hb := hb.trans (hb2.mono hb.size)
          clear hb2
          go_wp2_with fail
          refine (rune_any _ _ _ HW1.out).mono ?_
          rw [HW.out]
          rintro e w2 ⟨rfl, hb2⟩
          replace hb := hb.trans (hb2.mono hb.size)
          clear hb2
          go_wp2_with fail
          refine (rune_any _ _ _ HW2.out).mono ?_
          rw [HC.out]
          rintro e w2 ⟨rfl, hb2⟩
          replace hb := hb.trans (hb2.mono hb.size)
          clear hb2
          go_wp2
          go_ret
          exact ⟨ret_b (by simp; omega), hb⟩
    · have hns : r < 0 ∨ (0 ≤ r ∧ 1114111 < r) ∨ (55296 ≤ r ∧ r ≤ 57343) := by
        have := mt (sgn_iff r).2 hs
        omega
      have HE : Hid (enc r = []) := by unfold enc; rw [if_neg hs]; exact Lib.hid rfl
      clear hs
      rcases hns with q | ⟨q1, q2⟩ | ⟨q1, q2⟩
      all_goals
        go_enter Try.func4, Try.ntmps4
        go_wp2_with fail
        refine (awake_any _).mono ?_
        rintro e w1 ⟨rfl, hb⟩
        go_wp2_with fail
        refine (put_any r _).mono ?_
        rw [HE.out]
        rintro e w2 ⟨rfl, hb2⟩
        replace hb := hb.trans (hb2.mono hb.size)
        clear hb2
        go_wp2
        go_ret
        exact ⟨rfl, hb⟩
end Go.Proofs.Ytifdgkdfedaggaa
