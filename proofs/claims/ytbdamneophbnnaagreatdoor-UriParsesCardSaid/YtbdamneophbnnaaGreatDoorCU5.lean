/- UtfF UtfG TrV QnA QnB QnC. -/
import Derived.Test.YtbdamneophbnnaaGreatDoorCU1
import Derived.Test.YtbdamneophbnnaaGreatDoorCU2
import Derived.Test.YtbdamneophbnnaaGreatDoorCU3
import Derived.Test.YtbdamneophbnnaaGreatDoorCU4
namespace Go.Proofs.YtbdamneophbnnaaGreatDoor
open Go.RowKit Wb
theorem runeS_dec (s : ByteArray) (p : Nat) (h : p < s.size) : runeS s p = dec (s.data.toList.drop p) := by
  unfold runeS
  rw [if_neg (by omega)]
  rfl
theorem drop_ne (s : ByteArray) (p : Nat) (h : p < s.size) : s.data.toList.drop p = s[p] :: s.data.toList.drop (p + 1) := drop_cons s p h
theorem chkL_cons (g : Nat) (c : UInt8) (l : List UInt8) (b : Int) : chkL (g + 1) (c :: l) b = if (dec (c :: l)).2 = 0 then b else chkL g ((c :: l).drop (dec (c :: l)).2.toNat) (b + (dec (c :: l)).2) := rfl
theorem nameL_cons' (g : Nat) (c : UInt8) (l : List UInt8) : nameL (g + 1) (c :: l) = if (dec (c :: l)).2 = 0 then false else partB (dec (c :: l)).1 && nameL g ((c :: l).drop (dec (c :: l)).2.toNat) := rfl
theorem chk_step (s : ByteArray) (p f m : Nat) (h : p < s.size) (hf : s.size - p ≤ f) (hm : (dec (s.data.toList.drop p)).2 = (m : Int)) (hm0 : m ≠ 0)
    (hc : chk s.data.toList = chkL f (s.data.toList.drop p) p) : s.size - (p + m) ≤ f - 1 ∧ chk s.data.toList = chkL (f - 1) (s.data.toList.drop (p + m)) ((p + m : Nat) : Int) := by
  refine ⟨by omega, ?_⟩
  rw [hc]
  obtain ⟨g, rfl⟩ : ∃ g, f = g + 1 := ⟨f - 1, by omega⟩
  have hd : (s.data.toList.drop p).drop m = s.data.toList.drop (p + m) := by rw [List.drop_drop]
  have hl := drop_ne s p h
  rw [hl] at hm hd ⊢
  have e : ((p + m : Nat) : Int) = (p : Int) + (m : Int) := by omega
  rw [Nat.add_sub_cancel, chkL_cons, if_neg (by omega), hm, Int.toNat_natCast, hd, e]
theorem chk_stop (s : ByteArray) (p f : Nat) (h : p < s.size) (hf : s.size - p ≤ f) (hm : (dec (s.data.toList.drop p)).2 = 0)
    (hc : chk s.data.toList = chkL f (s.data.toList.drop p) p) : chk s.data.toList = p := by
  rw [hc]
  obtain ⟨g, rfl⟩ : ∃ g, f = g + 1 := ⟨f - 1, by omega⟩
  have hl := drop_ne s p h
  rw [hl] at hm ⊢
  rw [chkL_cons, if_pos hm]
theorem chk_end (s : ByteArray) (p f : Nat) (h : ¬ p < s.size) (hc : chk s.data.toList = chkL f (s.data.toList.drop p) p) : chk s.data.toList = -1 := by
  rw [hc, List.drop_eq_nil_of_le (by simp; omega)]
  cases f <;> rfl
theorem name_step (s : ByteArray) (p f m : Nat) (b : Bool) (h : p < s.size) (hf : s.size - p ≤ f) (hm : (dec (s.data.toList.drop p)).2 = (m : Int)) (hm0 : m ≠ 0) (hp : partB (dec (s.data.toList.drop p)).1 = true)
    (hc : b = nameL f (s.data.toList.drop p)) : s.size - (p + m) ≤ f - 1 ∧ b = nameL (f - 1) (s.data.toList.drop (p + m)) := by
  refine ⟨by omega, ?_⟩
  rw [hc]
  obtain ⟨g, rfl⟩ : ∃ g, f = g + 1 := ⟨f - 1, by omega⟩
  have hd : (s.data.toList.drop p).drop m = s.data.toList.drop (p + m) := by rw [List.drop_drop]
  have hl := drop_ne s p h
  rw [hl] at hm hd hp ⊢
  rw [Nat.add_sub_cancel, nameL_cons', if_neg (by omega), hm, Int.toNat_natCast, hd, hp, Bool.true_and]
theorem name_stop (s : ByteArray) (p f : Nat) (b : Bool) (h : p < s.size) (hf : s.size - p ≤ f) (hm : (dec (s.data.toList.drop p)).2 = 0 ∨ partB (dec (s.data.toList.drop p)).1 = false)
    (hc : b = nameL f (s.data.toList.drop p)) : b = false := by
  rw [hc]
  obtain ⟨g, rfl⟩ : ∃ g, f = g + 1 := ⟨f - 1, by omega⟩
  have hl := drop_ne s p h
  rw [hl] at hm ⊢
  rw [nameL_cons']
  split
  · rfl
  · rcases hm with hm | hm
    · contradiction
    · rw [hm]; rfl
theorem name_end (s : ByteArray) (p f : Nat) (b : Bool) (h : ¬ p < s.size) (hc : b = nameL f (s.data.toList.drop p)) : b = true := by
  rw [hc, List.drop_eq_nil_of_le (by simp; omega)]
  cases f <;> rfl
set_option maxHeartbeats 400000 in
theorem check_any (s : ByteArray) (w : World) (hs : s.size ≤ 1000000000) :
    Calls Tryz.prog 47 #[.string s] w fun e w' => e = .returned (.int .i64 (chk s.data.toList)) ∧ Below w.heap.size w w' := by
  go_enter Tryz.func47, Tryz.ntmps47
  go_wp2
  go_loopw [3] (fun i wr => ∃ p f : Nat, p ≤ s.size ∧ i = .int .i64 p ∧ Hid (s.size - p ≤ f) ∧ Hid (chk s.data.toList = chkL f (s.data.toList.drop p) p) ∧ Below w.heap.size w wr) (fun i _ => s.size - (intOf i).toNat)
  case atStart => exact ⟨0, s.data.toList.length, by omega, rfl, Lib.hid (by simp), Lib.hid rfl, Below.refl _ _⟩
  case round =>
    obtain ⟨p, f, hp, rfl, HF, HC, hbel⟩ := hrel
    by_cases hlt : p < s.size
    · obtain ⟨b0, b4, bl⟩ := dec_bd (s.data.toList.drop p)
      obtain ⟨m, hm⟩ := Int.eq_ofNat_of_zero_le b0
      rw [hm] at bl
      have hle : p + m ≤ s.size := by simp at bl; omega
      have HM := Lib.hid hm
      have HR := Lib.hid (runeS_dec s p hlt)
      clear hm b0 b4 bl
      go_wp2_with fail
      refine (rune_any s p _ hs).mono ?_
      rw [HR.out, HM.out]
      rintro e w1 ⟨rfl, hb1⟩
      have hbw := hbel.trans (hb1.mono hbel.size)
      by_cases h0 : m = 0
      · subst h0
        go_wp2
        go_ret
        exact ⟨ret_i (by rw [chk_stop s p f hlt HF.out HM.out HC.out]), hbw⟩
      · have hne : ((m : Int) == 0) = false := by simpa using h0
        have hst := chk_step s p f m hlt HF.out HM.out h0 HC.out
        have H1 := Lib.hid hst.1
        have H2 := Lib.hid hst.2
        clear hst
        go_wp2
        go_roundw
        case rel => exact ⟨p + m, f - 1, hle, by go_num, H1, H2, hbw⟩
        case measure => simp [intOf]; omega
    · go_wp2
      go_ret
      exact ⟨ret_i (by rw [chk_end s p f hlt HC.out]), hbel⟩
set_option maxHeartbeats 400000 in
theorem rcheck_any (s : ByteArray) (w : World) (hs : s.size ≤ 1000000000) :
    Calls Tryz.prog 30 #[.string s] w fun e w' => e = .returned (.int .i64 (chk s.data.toList)) ∧ Below w.heap.size w w' := by
  go_enter Tryz.func30, Tryz.ntmps30
  go_wp2
  go_loopw [3] (fun i wr => ∃ p f : Nat, p ≤ s.size ∧ i = .int .i64 p ∧ Hid (s.size - p ≤ f) ∧ Hid (chk s.data.toList = chkL f (s.data.toList.drop p) p) ∧ Below w.heap.size w wr) (fun i _ => s.size - (intOf i).toNat)
  case atStart => exact ⟨0, s.data.toList.length, by omega, rfl, Lib.hid (by simp), Lib.hid rfl, Below.refl _ _⟩
  case round =>
    obtain ⟨p, f, hp, rfl, HF, HC, hbel⟩ := hrel
    by_cases hlt : p < s.size
    · obtain ⟨b0, b4, bl⟩ := dec_bd (s.data.toList.drop p)
      obtain ⟨m, hm⟩ := Int.eq_ofNat_of_zero_le b0
      rw [hm] at bl
      have hle : p + m ≤ s.size := by simp at bl; omega
      have HM := Lib.hid hm
      have HR := Lib.hid (runeS_dec s p hlt)
      clear hm b0 b4 bl
      go_wp2_with fail
      refine (rrune_any s p _ hs).mono ?_
      rw [HR.out, HM.out]
      rintro e w1 ⟨rfl, hb1⟩
      have hbw := hbel.trans (hb1.mono hbel.size)
      by_cases h0 : m = 0
      · subst h0
        go_wp2
        go_ret
        exact ⟨ret_i (by rw [chk_stop s p f hlt HF.out HM.out HC.out]), hbw⟩
      · have hne : ((m : Int) == 0) = false := by simpa using h0
        have hst := chk_step s p f m hlt HF.out HM.out h0 HC.out
        have H1 := Lib.hid hst.1
        have H2 := Lib.hid hst.2
        clear hst
        go_wp2
        go_roundw
        case rel => exact ⟨p + m, f - 1, hle, by go_num, H1, H2, hbw⟩
        case measure => simp [intOf]; omega
    · go_wp2
      go_ret
      exact ⟨ret_i (by rw [chk_end s p f hlt HC.out]), hbel⟩
set_option maxHeartbeats 400000 in
theorem name_any (s : ByteArray) (w : World) (hs : s.size ≤ 1000000000) :
    Calls Tryz.prog 90 #[.string s] w fun e w' => e = .returned (.bool (nameB s.data.toList)) ∧ Below w.heap.size w w' := by
  have HN := Lib.hid (show nameB s.data.toList = (decide (s.data.toList.length ≤ 64) && (decide ((dec s.data.toList).2 ≠ 0) && (startB (dec s.data.toList).1 && nameL s.data.toList.length (s.data.toList.drop (dec s.data.toList).2.toNat)))) from rfl)
  have hlen : s.data.toList.length = s.size := by simp
  rw [hlen] at HN
  clear hlen
  by_cases h64 : 64 < s.size
  · go_enter Tryz.func90, Tryz.ntmps90
    go_wp2
    go_ret
    refine ⟨ret_b ?_, Below.refl _ _⟩
    rw [HN.out, decide_eq_false (by omega)]
    rfl
  · have HR : Hid (runeS s 0 = dec s.data.toList) := by
      by_cases h0 : 0 < s.size
      · have := runeS_dec s 0 h0
        simpa using Lib.hid this
      · have : s.data.toList = [] := List.eq_nil_of_length_eq_zero (by rw [show s.data.toList.length = s.size by simp]; omega)
        unfold runeS
        rw [if_pos (by omega), this]
        exact Lib.hid rfl
    obtain ⟨b0, b4, bl⟩ := dec_bd s.data.toList
    obtain ⟨r, k, hd⟩ := dec_pair s.data.toList
    rw [hd] at HR HN b0 bl
    obtain ⟨m, rfl⟩ := Int.eq_ofNat_of_zero_le (show 0 ≤ k from b0)
    have hm : m ≤ s.size := by simpa using bl
    clear b0 b4 bl hd
    go_enter Tryz.func90, Tryz.ntmps90
    go_wp2_with fail
    refine (rune_any s 0 _ hs).mono ?_
    rw [HR.out]
    rintro e w1 ⟨rfl, hb1⟩
    by_cases h0 : m = 0
    · subst h0
      go_wp2
      go_ret
      refine ⟨ret_b ?_, hb1⟩
      rw [HN.out]
      simp
    · have hne : ((m : Int) == 0) = false := by simpa using h0
      go_wp2_with fail
      refine (start_any r _).mono ?_
      cases hst : startB r
      · rw [hst] at HN
        clear hst
        rintro e w2 ⟨rfl, hb2⟩
        have hbw := hb1.trans (hb2.mono hb1.size)
        go_wp2
        go_ret
        refine ⟨ret_b ?_, hbw⟩
        rw [HN.out]
        simp
      · have HN' : Hid (nameB s.data.toList = nameL s.size (s.data.toList.drop m)) := by
          refine Lib.hid ?_
          rw [HN.out, hst, decide_eq_true (show s.size ≤ 64 by omega), decide_eq_true (show ¬ (m : Int) = 0 by omega)]
          rfl
        clear hst HN
        rintro e w2 ⟨rfl, hb2⟩
        have hbw := hb1.trans (hb2.mono hb1.size)
        go_wp2
        go_loopw [5] (fun i wr => ∃ p f : Nat, p ≤ s.size ∧ i = .int .i64 p ∧ Hid (s.size - p ≤ f) ∧ Hid (nameB s.data.toList = nameL f (s.data.toList.drop p)) ∧ Below w.heap.size w wr) (fun i _ => s.size - (intOf i).toNat)
        case atStart => exact ⟨m, s.size, hm, rfl, Lib.hid (by omega), HN', hbw⟩
        case round =>
          obtain ⟨p, f, hp, rfl, HF, HC, hbel⟩ := hrel
          clear HR hm hne h0
          by_cases hlt : p < s.size
          · obtain ⟨b0, b4, bl⟩ := dec_bd (s.data.toList.drop p)
            obtain ⟨r', k, hd⟩ := dec_pair (s.data.toList.drop p)
            have HD := Lib.hid hd
            rw [hd] at b0 bl
            obtain ⟨m', rfl⟩ := Int.eq_ofNat_of_zero_le (show 0 ≤ k from b0)
            have hle : p + m' ≤ s.size := by simp at bl; omega
            have HR := Lib.hid (runeS_dec s p hlt)
            clear b0 b4 bl hd
            go_wp2_with fail
            refine (rune_any s p _ hs).mono ?_
            rw [HR.out, HD.out]
            rintro e w3 ⟨rfl, hb3⟩
            have hbw3 := hbel.trans (hb3.mono hbel.size)
            by_cases h0 : m' = 0
            · subst h0
              go_wp2
              go_ret
              exact ⟨ret_b (name_stop s p f _ hlt HF.out (.inl (by rw [HD.out]; rfl)) HC.out).symm, hbw3⟩
            · have hne : ((m' : Int) == 0) = false := by simpa using h0
              go_wp2_with fail
              refine (part_any r' _).mono ?_
              cases hpt : partB r'
              · have HP := Lib.hid hpt
                clear hpt
                rintro e w4 ⟨rfl, hb4⟩
                have hbw4 := hbw3.trans (hb4.mono hbw3.size)
                go_wp2
                go_ret
                exact ⟨ret_b (name_stop s p f _ hlt HF.out (.inr (by rw [HD.out]; exact HP.out)) HC.out).symm, hbw4⟩
              · have hst := name_step s p f m' _ hlt HF.out (by rw [HD.out]) h0 (by rw [HD.out]; exact hpt) HC.out
                have H1 := Lib.hid hst.1
                have H2 := Lib.hid hst.2
                clear hst hpt
                rintro e w4 ⟨rfl, hb4⟩
                have hbw4 := hbw3.trans (hb4.mono hbw3.size)
                go_wp2
                go_roundw
                case rel => exact ⟨p + m', f - 1, hle, by go_num, H1, H2, hbw4⟩
                case measure => simp [intOf]; omega
          · go_wp2
            go_ret
            exact ⟨ret_b (name_end s p f _ hlt HC.out).symm, hbel⟩
set_option maxHeartbeats 1000000 in
theorem rname_any (s : ByteArray) (w : World) (hs : s.size ≤ 1000000000) :
    Calls Tryz.prog 43 #[.string s] w fun e w' => e = .returned (.bool (nameB s.data.toList)) ∧ Below w.heap.size w w' := by
  have HN := Lib.hid (show nameB s.data.toList = (decide (s.data.toList.length ≤ 64) && (decide ((dec s.data.toList).2 ≠ 0) && (startB (dec s.data.toList).1 && nameL s.data.toList.length (s.data.toList.drop (dec s.data.toList).2.toNat)))) from rfl)
  have hlen : s.data.toList.length = s.size := by simp
  rw [hlen] at HN
  by_cases h64 : 64 < s.size
  · clear hlen
    go_enter Tryz.func43, Tryz.ntmps43
    go_wp2
    go_ret
    refine ⟨ret_b ?_, Below.refl _ _⟩
    rw [HN.out, decide_eq_false (by omega)]
    rfl
  · by_cases hz : s.size < 1
    · have hnil : s.data.toList = [] := List.eq_nil_of_length_eq_zero (by omega)
      have HD : Hid ((dec s.data.toList).2 = 0) := by rw [hnil]; exact Lib.hid rfl
      clear hlen hnil
      go_enter Tryz.func43, Tryz.ntmps43
      go_wp2
      go_ret
      refine ⟨ret_b ?_, Below.refl _ _⟩
      rw [HN.out, HD.out]
      simp
    · clear hlen
      go_enter Tryz.func43, Tryz.ntmps43
      go_wp2
      go_loopw [3] (fun i wr => ∃ p f : Nat, p ≤ s.size ∧ i = .int .i64 p ∧ Hid (s.size - p ≤ f) ∧ Hid (p ≠ 0 → nameB s.data.toList = nameL f (s.data.toList.drop p)) ∧ Below w.heap.size w wr) (fun i _ => s.size - (intOf i).toNat)
      case atStart => exact ⟨0, s.size, by omega, rfl, Lib.hid (by omega), Lib.hid (fun h => absurd rfl h), Below.refl _ _⟩
      case round =>
        obtain ⟨p, f, hp, rfl, HF, HC, hbel⟩ := hrel
        by_cases hlt : p < s.size
        · obtain ⟨b0, b4, bl⟩ := dec_bd (s.data.toList.drop p)
          obtain ⟨r', k, hd⟩ := dec_pair (s.data.toList.drop p)
          have HD := Lib.hid hd
          rw [hd] at b0 bl
          obtain ⟨m', rfl⟩ := Int.eq_ofNat_of_zero_le (show 0 ≤ k from b0)
          have hle : p + m' ≤ s.size := by simp at bl; omega
          have HR := Lib.hid (runeS_dec s p hlt)
          clear b0 b4 bl hd
          go_wp2_with fail
          refine (rrune_any s p _ hs).mono ?_
          rw [HR.out, HD.out]
          rintro e w3 ⟨rfl, hb3⟩
          have hbw3 := hbel.trans (hb3.mono hbel.size)
          by_cases h0 : m' = 0
          · subst h0
            go_wp2
            go_ret
            refine ⟨ret_b ?_, hbw3⟩
            by_cases hp0 : p = 0
            · subst hp0
              have hdd := HD.out
              rw [List.drop_zero] at hdd
              rw [HN.out, hdd]
              simp
            · exact (name_stop s p f _ hlt HF.out (.inl (by rw [HD.out]; rfl)) (HC.out hp0)).symm
          · have hne : ((m' : Int) == 0) = false := by simpa using h0
            by_cases hp0 : p = 0
            · subst hp0
              go_wp2_with fail
              refine (rstart_any r' _).mono ?_
              cases hst : startB r'
              · have HS := Lib.hid hst
                clear hst
                rintro e w4 ⟨rfl, hb4⟩
                have hbw4 := hbw3.trans (hb4.mono hbw3.size)
                go_wp2
                go_ret
                refine ⟨ret_b ?_, hbw4⟩
                have hdd := HD.out
                rw [List.drop_zero] at hdd
                rw [HN.out, hdd, show startB r' = false from HS.out]
                simp
              · have hpt := start_part r' hst
                have HS := Lib.hid hst
                have H2 : Hid (nameB s.data.toList = nameL s.size (s.data.toList.drop (0 + m'))) := by
                  have hdd := HD.out
                  rw [List.drop_zero] at hdd
                  rw [HN.out, hdd, show startB r' = true from hst, decide_eq_true (show s.size ≤ 64 by omega), decide_eq_true (show ¬ (m' : Int) = 0 by omega), Nat.zero_add]
                  exact Lib.hid rfl
                clear hst
                rintro e w4 ⟨rfl, hb4⟩
                have hbw4 := hbw3.trans (hb4.mono hbw3.size)
                go_wp2_with fail
                refine (rpart_any r' _).mono ?_
                rw [hpt]
                clear hpt
                rintro e w5 ⟨rfl, hb5⟩
                have hbw5 := hbw4.trans (hb5.mono hbw4.size)
                go_wp2
                go_roundw
                case rel => exact ⟨m', s.size, by omega, by go_num, Lib.hid (by omega), Lib.hid (fun _ => by simpa using H2.out), hbw5⟩
                case measure => simp [intOf]; omega
            · have hp1 : ((p : Int) == 0) = false := by simpa using hp0
              go_wp2_with fail
              refine (rpart_any r' _).mono ?_
              cases hpt : partB r'
              · have HP := Lib.hid hpt
                clear hpt
                rintro e w4 ⟨rfl, hb4⟩
                have hbw4 := hbw3.trans (hb4.mono hbw3.size)
                go_wp2
                go_ret
                exact ⟨ret_b (name_stop s p f _ hlt HF.out (.inr (by rw [HD.out]; exact HP.out)) (HC.out hp0)).symm, hbw4⟩
              · have hst := name_step s p f m' _ hlt HF.out (by rw [HD.out]) h0 (by rw [HD.out]; exact hpt) (HC.out hp0)
                have H1 := Lib.hid hst.1
                have H2 := Lib.hid hst.2
                clear hst hpt
                rintro e w4 ⟨rfl, hb4⟩
                have hbw4 := hbw3.trans (hb4.mono hbw3.size)
                go_wp2
                go_roundw
                case rel => exact ⟨p + m', f - 1, hle, by go_num, H1, Lib.hid (fun _ => H2.out), hbw4⟩
                case measure => simp [intOf]; omega
        · have hp0 : p ≠ 0 := by omega
          go_wp2
          go_ret
          exact ⟨ret_b (name_end s p f _ hlt (HC.out hp0)).symm, hbel⟩
end Go.Proofs.YtbdamneophbnnaaGreatDoor
namespace Go.Proofs.YtbdamneophbnnaaGreatDoor
open Go.RowKit Wb
theorem t1_step (s : ByteArray) (k : Nat) (h : k < s.size) (hb : blk s[k].toNat = true) :
    (s.data.toList.drop k).dropWhile blkU = (s.data.toList.drop (k + 1)).dropWhile blkU := by
  rw [drop_cons s k h, List.dropWhile_cons, if_pos (show blkU s[k] = true from hb)]
theorem t1_stop (s : ByteArray) (k : Nat) (h : k < s.size) (hb : blk s[k].toNat = false) :
    (s.data.toList.drop k).dropWhile blkU = s.data.toList.drop k := by
  conv => lhs; rw [drop_cons s k h]
  rw [List.dropWhile_cons, if_neg (show ¬ blkU s[k] = true by unfold blkU; rw [hb]; simp), ← drop_cons s k h]
theorem t1_end (s : ByteArray) (k : Nat) (h : ¬ k < s.size) : (s.data.toList.drop k).dropWhile blkU = s.data.toList.drop k := by
  rw [List.drop_eq_nil_of_le (by rw [show s.data.toList.length = s.size by simp]; omega)]; rfl
theorem take_last (s : ByteArray) (k q : Nat) (hk : k ≤ q) (h : q < s.size) : (s.data.toList.take (q + 1)).drop k = (s.data.toList.take q).drop k ++ [s[q]] := by
  have hl : s.data.toList.length = s.size := by simp
  rw [List.take_succ_eq_append_getElem (by omega), List.drop_append_of_le_length (by rw [List.length_take]; omega)]
  rfl
theorem t2_step (s : ByteArray) (k q : Nat) (hk : k ≤ q) (h : q < s.size) (hb : blk s[q].toNat = true) :
    ((s.data.toList.take (q + 1)).drop k).reverse.dropWhile blkU = ((s.data.toList.take q).drop k).reverse.dropWhile blkU := by
  rw [take_last s k q hk h, List.reverse_append]
  show List.dropWhile blkU (s[q] :: _) = _
  rw [List.dropWhile_cons, if_pos (show blkU s[q] = true from hb)]
  rfl
theorem t2_stop (s : ByteArray) (k q : Nat) (hk : k ≤ q) (h : q < s.size) (hb : blk s[q].toNat = false) :
    ((s.data.toList.take (q + 1)).drop k).reverse.dropWhile blkU = ((s.data.toList.take (q + 1)).drop k).reverse := by
  rw [take_last s k q hk h, List.reverse_append]
  show List.dropWhile blkU (s[q] :: _) = s[q] :: _
  rw [List.dropWhile_cons, if_neg (show ¬ blkU s[q] = true by unfold blkU; rw [hb]; simp)]
theorem t2_end (s : ByteArray) (k m : Nat) (h : ¬ k < m) :
    ((s.data.toList.take m).drop k).reverse.dropWhile blkU = ((s.data.toList.take m).drop k).reverse := by
  rw [List.drop_eq_nil_of_le (by rw [List.length_take]; omega)]; rfl
theorem trim_end (s : ByteArray) (k m : Nat) (h1 : s.data.toList.dropWhile blkU = s.data.toList.drop k)
    (h2 : (s.data.toList.drop k).reverse.dropWhile blkU = ((s.data.toList.take m).drop k).reverse.dropWhile blkU)
    (h3 : ((s.data.toList.take m).drop k).reverse.dropWhile blkU = ((s.data.toList.take m).drop k).reverse) :
    s.extract k m = ⟨(trimL s.data.toList).toArray⟩ := by
  unfold trimL
  rw [h1, h2, h3, List.reverse_reverse]
  have hd := Lib.extract_data s k m
  rw [List.drop_take, ← hd]
set_option maxHeartbeats 400000 in
theorem trim_any (s : ByteArray) (w : World) (hs : s.size ≤ 1000000000) :
    Calls Tryz.prog 60 #[.string s] w fun e w' => e = .returned (.string ⟨(trimL s.data.toList).toArray⟩) ∧ w = w' := by
  go_enter Tryz.func60, Tryz.ntmps60
  go_wp2
  go_loop [3] (fun i => ∃ k : Nat, k ≤ s.size ∧ i = .int .i64 k ∧ Hid (s.data.toList.dropWhile blkU = (s.data.toList.drop k).dropWhile blkU)) (fun i => s.size - (intOf i).toNat)
  case atStart => exact ⟨0, by omega, rfl, Lib.hid (by rw [List.drop_zero])⟩
  case round =>
    obtain ⟨k, hk, rfl, HK⟩ := hrel
    by_cases hgo : ∃ h : k < s.size, blk s[k].toNat = true
    · obtain ⟨hlt, hb⟩ := hgo
      have HS := Lib.hid (t1_step s k hlt hb)
      have HB := Lib.hid hb
      clear hb
      go_wp2_with fail
      refine (blank_any _ _).mono ?_
      rw [HB.out]
      rintro e w1 ⟨rfl, rfl⟩
      go_wp2
      go_round
      case rel => exact ⟨k + 1, by omega, by go_num, Lib.hid (HK.out.trans HS.out)⟩
      case measure => simp [intOf] <;> omega
    · have HD : Hid (s.data.toList.dropWhile blkU = s.data.toList.drop k) := by
        by_cases hlt : k < s.size
        · have hb : blk s[k].toNat = false := by
            cases hq : blk s[k].toNat
            · rfl
            · exact absurd ⟨hlt, hq⟩ hgo
          exact Lib.hid (HK.out.trans (t1_stop s k hlt hb))
        · exact Lib.hid (HK.out.trans (t1_end s k hlt))
      have HG := Lib.hid hgo
      clear hgo HK
      by_cases hlt : k < s.size
      · go_wp2_with fail
        refine (blank_any _ _).mono ?_
        have hb : blk s[k].toNat = false := by
          cases hq : blk s[k].toNat
          · rfl
          · exact absurd ⟨hlt, hq⟩ HG.out
        rw [hb]
        clear hb
        rintro e w1 ⟨rfl, rfl⟩
        go_wp2
        go_loop [4] (fun i => ∃ m : Nat, k ≤ m ∧ m ≤ s.size ∧ i = .int .i64 m ∧ Hid ((s.data.toList.drop k).reverse.dropWhile blkU = ((s.data.toList.take m).drop k).reverse.dropWhile blkU)) (fun i => (intOf i).toNat)
        case atStart => exact ⟨s.size, by omega, by omega, rfl, Lib.hid (by rw [List.take_of_length_le (by simp)])⟩
        case round =>
          obtain ⟨m, hm1, hm2, rfl, HM⟩ := hrel
          by_cases hkm : k < m
          · obtain ⟨q, rfl⟩ : ∃ q, m = q + 1 := ⟨m - 1, by omega⟩
            have hq : q < s.size := by omega
            go_wp2_with fail
            refine (blank_any _ _).mono ?_
            cases hb : blk s[q].toNat
            · have HE := Lib.hid (trim_end s k (q + 1) HD.out HM.out (t2_stop s k q (by omega) hq hb))
              clear hb
              rintro e w1 ⟨rfl, rfl⟩
              go_wp2
              go_ret
              exact ⟨ret_s HE.out, rfl⟩
            · have HS := Lib.hid (t2_step s k q (by omega) hq hb)
              clear hb
              rintro e w1 ⟨rfl, rfl⟩
              go_wp2
              go_round
              case rel => exact ⟨q, by omega, by omega, by go_num, Lib.hid (HM.out.trans HS.out)⟩
              case measure => simp [intOf] <;> omega
          · have HE := Lib.hid (trim_end s k m HD.out HM.out (t2_end s k m hkm))
            go_wp2
            go_ret
            exact ⟨ret_s HE.out, rfl⟩
      · go_wp2
        go_loop [4] (fun i => ∃ m : Nat, k ≤ m ∧ m ≤ s.size ∧ i = .int .i64 m ∧ Hid ((s.data.toList.drop k).reverse.dropWhile blkU = ((s.data.toList.take m).drop k).reverse.dropWhile blkU)) (fun i => (intOf i).toNat)
        case atStart => exact ⟨s.size, by omega, by omega, rfl, Lib.hid (by rw [List.take_of_length_le (by simp)])⟩
        case round =>
          obtain ⟨m, hm1, hm2, rfl, HM⟩ := hrel
          have hkm : ¬ k < m := by omega
          have HE := Lib.hid (trim_end s k m HD.out HM.out (t2_end s k m hkm))
          go_wp2
          go_ret
          exact ⟨ret_s HE.out, rfl⟩
end Go.Proofs.YtbdamneophbnnaaGreatDoor
namespace Wb
theorem enc_four (n : Int) : (enc n).length ≤ 4 := by
  unfold enc
  split
  · split
    · simp
    · split
      · simp
      · split <;> simp
  · simp
theorem refV_len {t x : List UInt8} (h : refV t = some x) : x.length ≤ 4 := by
  unfold refV at h
  repeat' split at h
  all_goals first
    | (cases h; done)
    | (simp only [Option.some.injEq] at h; subst h; simp; done)
    | (simp only [Option.some.injEq] at h; subst h; exact enc_four _)
theorem map_ok {α β ε : Type} {f : α → β} {e : Except ε α} {b : β} (h : e.map f = .ok b) : ∃ a, e = .ok a ∧ b = f a := by
  cases e with
  | error _ => cases h
  | ok a => exact ⟨a, rfl, by injection h with h; exact h.symm⟩
theorem unL_len (attr : Bool) : ∀ (f : Nat) (l : List UInt8) (k : Nat) (x : List UInt8), unL attr f l k = .ok x → x.length ≤ 4 * l.length
  | 0, l, k, x, h => by
    unfold unL at h
    injection h with h
    subst h
    simp
  | f + 1, [], k, x, h => by
    unfold unL at h
    injection h with h
    subst h
    simp
  | f + 1, c :: l, k, x, h => by
    unfold unL at h
    split at h
    · split at h
      · cases h
      · rename_i t r hs
        split at h
        · cases h
        · rename_i y hy
          obtain ⟨z, hz, rfl⟩ := map_ok h
          have h1 := unL_len attr f _ _ _ hz
          have h2 := refV_len hy
          have h3 := congrArg List.length (semi_drop hs)
          simp only [List.length_append, List.length_cons] at h3 ⊢
          omega
    · split at h
      · split at h
        · obtain ⟨z, hz, rfl⟩ := map_ok h
          have h1 := unL_len attr f _ _ _ hz
          simp only [List.length_cons, List.length_drop] at h1 ⊢
          omega
        · obtain ⟨z, hz, rfl⟩ := map_ok h
          have h1 := unL_len attr f _ _ _ hz
          simp only [List.length_cons] at h1 ⊢
          omega
      · obtain ⟨z, hz, rfl⟩ := map_ok h
        have h1 := unL_len attr f _ _ _ hz
        simp only [List.length_cons] at h1 ⊢
        omega
end Wb
namespace Go.Proofs.YtbdamneophbnnaaGreatDoor
open Go.RowKit Wb
theorem ixb (s : ByteArray) (c : Int) (w : World) : (callFunc 134 #[.string s, .int .u8 c]).run Tryz.prog w = .ok (.value (.int .i64 (firstIdx s c.toNat.toUInt8))) w := by
  rw [run_callFunc_extern (P := Tryz.prog) (f := 134) (fn := Tryz.f134) (e := Extern.BytealgIndexByte.indexByte) (by kernel_rfl) (by kernel_rfl) (by kernel_rfl) (by kernel_rfl) (by kernel_rfl), run_indexByte_string]
  rfl
theorem colon_self (s : ByteArray) (h : ([58] == s.toList) = true) : s = ⟨#[58]⟩ := by
  have : eqT ⟨#[58]⟩ s = true := by unfold eqT; rw [ByteArray.toList_eq ⟨#[58]⟩]; exact h
  exact ((eqT_iff _ _).1 this).symm
theorem first58 : firstIdx ⟨#[58]⟩ 58 = 0 := by
  rw [firstIdx_c', (cIx_some ⟨#[58]⟩ 0).2 ⟨by decide, by decide, fun i hi => absurd hi (by omega)⟩]
  rfl
set_option maxHeartbeats 400000 in
theorem sindex_any (s : ByteArray) (w : World) :
    Calls Tryz.prog 86 #[.string s, .string ⟨#[58]⟩] w fun e w' => e = .returned (.int .i64 (firstIdx s 58)) ∧ w = w' := by
  have hx := ixb
  go_enter Tryz.func86, Tryz.ntmps86
  go_wp2_with go_in
  · have h : ([58] == s.toList) = true := by assumption
    have HF : Hid (firstIdx s 58 = 0) := by rw [colon_self s h]; exact first58
    go_ret
    rw [HF.out]
    exact ⟨rfl, rfl⟩
  · go_ret
    exact ⟨rfl, rfl⟩
def cutB (s : ByteArray) : ByteArray × ByteArray × Bool :=
  match cIx s with
  | none => (s, sE, false)
  | some k => (s.extract 0 k, s.extract (k + 1) s.size, true)
set_option maxHeartbeats 400000 in
theorem slcut_any (s : ByteArray) (w : World) (hs : s.size ≤ 1000000000) :
    Calls Tryz.prog 57 #[.string s, .string ⟨#[58]⟩] w fun e w' => e = .returned (.tuple #[.string (cutB s).1, .string (cutB s).2.1, .bool (cutB s).2.2]) ∧ Below w.heap.size w w' := by
  rcases hc : cIx s with _ | k
  · have H : Hid (cutB s = (s, sE, false)) := by unfold cutB; rw [hc]; exact rfl
    have HF := Lib.hid (show firstIdx s 58 = -1 from by rw [firstIdx_c', hc])
    clear hc
    go_enter Tryz.func57, Tryz.ntmps57
    go_wp2_with fail
    refine (sindex_any s w).mono ?_
    rw [HF.out]
    rintro e w2 ⟨rfl, rfl⟩
    go_wp2
    go_ret3
    rw [H.out]
    exact ⟨rfl, Below.refl _ _⟩
  · have H : Hid (cutB s = (s.extract 0 k, s.extract (k + 1) s.size, true)) := by unfold cutB; rw [hc]; exact rfl
    have HF := Lib.hid (show firstIdx s 58 = (k : Int) from by rw [firstIdx_c', hc])
    have hk := ((cIx_some s k).1 hc).1
    clear hc
    go_enter Tryz.func57, Tryz.ntmps57
    go_wp2_with fail
    refine (sindex_any s w).mono ?_
    rw [HF.out]
    rintro e w2 ⟨rfl, rfl⟩
    go_wp2
    go_region
    go_wp2
    go_ret3
    rw [H.out]
    exact ⟨rfl, (Below.refl _ _).drew⟩
set_option maxHeartbeats 400000 in
theorem cut_any (s : ByteArray) (w : World) (hs : s.size ≤ 1000000000) :
    Calls Tryz.prog 33 #[.string s, .string ⟨#[58]⟩] w fun e w' => e = .returned (.tuple #[.string (cutB s).1, .string (cutB s).2.1, .bool (cutB s).2.2]) ∧ Below w.heap.size w w' := by
  go_enter Tryz.func33, Tryz.ntmps33
  go_wp2_with fail
  refine (slcut_any s w hs).mono ?_
  rintro e w2 ⟨rfl, hb⟩
  go_wp2
  go_ret3
  exact ⟨rfl, hb⟩
set_option maxHeartbeats 400000 in
theorem split_any (q : ByteArray) (w : World) (hs : q.size ≤ 1000000000) :
    Calls Tryz.prog 153 #[.string q] w fun e w' => e = .returned (.tuple #[.string (splitB q).1, .string (splitB q).2.1, .bool (splitB q).2.2]) ∧ Below w.heap.size w w' := by
  rcases hc : cIx q with _ | k
  · have HC : Hid (cutB q = (q, sE, false)) := by unfold cutB; rw [hc]; exact rfl
    cases hn : nameB q.data.toList
    · have HN := Lib.hid hn
      have H : Hid (splitB q = (sE, sE, false)) := by unfold splitB; rw [hc]; simp only [hn]; exact rfl
      rw [H.out]
      clear H hn hc
      go_enter Tryz.func153, Tryz.ntmps153
      go_wp2_with fail
      refine (cut_any q _ hs).mono ?_
      rw [HC.out]
      rintro e w2 ⟨rfl, hb⟩
      go_wp2_with fail
      refine (name_any q _ hs).mono ?_
      rw [HN.out]
      rintro e w3 ⟨rfl, hb2⟩
      replace hb := hb.trans (hb2.mono hb.size)
      clear hb2
      go_wp2
      go_ret3
      exact ⟨rfl, hb⟩
    · have HN := Lib.hid hn
      have H : Hid (splitB q = (sE, q, true)) := by unfold splitB; rw [hc]; simp only [hn]; exact rfl
      rw [H.out]
      clear H hn hc
      go_enter Tryz.func153, Tryz.ntmps153
      go_wp2_with fail
      refine (cut_any q _ hs).mono ?_
      rw [HC.out]
      rintro e w2 ⟨rfl, hb⟩
      go_wp2_with fail
      refine (name_any q _ hs).mono ?_
      rw [HN.out]
      rintro e w3 ⟨rfl, hb2⟩
      replace hb := hb.trans (hb2.mono hb.size)
      clear hb2
      go_wp2
      go_ret3
      exact ⟨rfl, hb⟩
  · have HC : Hid (cutB q = (q.extract 0 k, q.extract (k + 1) q.size, true)) := by unfold cutB; rw [hc]; exact rfl
    have hk := ((cIx_some q k).1 hc).1
    have h1 : (q.extract 0 k).size ≤ 1000000000 := by simp; omega
    have h2 : (q.extract (k + 1) q.size).size ≤ 1000000000 := by simp; omega
    have H : Hid (splitB q = if nameB (q.extract 0 k).data.toList && nameB (q.extract (k + 1) q.size).data.toList then (q.extract 0 k, q.extract (k + 1) q.size, true) else (sE, sE, false)) := by unfold splitB; rw [hc]; exact rfl
    clear hc
    rw [H.out]
    clear H hk
    generalize q.extract 0 k = a at *
    generalize q.extract (k + 1) q.size = c at *
    cases ha : nameB a.data.toList
    · have HA := Lib.hid ha
      clear ha
      rw [Bool.false_and, if_neg (by decide)]
      go_enter Tryz.func153, Tryz.ntmps153
      go_wp2_with fail
      refine (cut_any q _ hs).mono ?_
      rw [HC.out]
      rintro e w2 ⟨rfl, hb⟩
      go_wp2_with fail
      refine (name_any a _ h1).mono ?_
      rw [HA.out]
      rintro e w3 ⟨rfl, hb2⟩
      replace hb := hb.trans (hb2.mono hb.size)
      clear hb2
      go_wp2
      go_ret3
      exact ⟨rfl, hb⟩
    · have HA := Lib.hid ha
      clear ha
      rw [Bool.true_and]
      cases hd : nameB c.data.toList
      all_goals
        have HD := Lib.hid hd
        clear hd
      · rw [if_neg (by decide)]
        go_enter Tryz.func153, Tryz.ntmps153
        go_wp2_with fail
        refine (cut_any q _ hs).mono ?_
        rw [HC.out]
        rintro e w2 ⟨rfl, hb⟩
        go_wp2_with fail
        refine (name_any a _ h1).mono ?_
        rw [HA.out]
        rintro e w3 ⟨rfl, hb2⟩
        replace hb := hb.trans (hb2.mono hb.size)
        clear hb2
        go_wp2_with fail
        refine (name_any c _ h2).mono ?_
        rw [HD.out]
        rintro e w3 ⟨rfl, hb2⟩
        replace hb := hb.trans (hb2.mono hb.size)
        clear hb2
        go_wp2
        go_ret3
        exact ⟨rfl, hb⟩
      · rw [if_pos rfl]
        go_enter Tryz.func153, Tryz.ntmps153
        go_wp2_with fail
        refine (cut_any q _ hs).mono ?_
        rw [HC.out]
        rintro e w2 ⟨rfl, hb⟩
        go_wp2_with fail
        refine (name_any a _ h1).mono ?_
        rw [HA.out]
        rintro e w3 ⟨rfl, hb2⟩
        replace hb := hb.trans (hb2.mono hb.size)
        clear hb2
        go_wp2_with fail
        refine (name_any c _ h2).mono ?_
        rw [HD.out]
        rintro e w3 ⟨rfl, hb2⟩
        replace hb := hb.trans (hb2.mono hb.size)
        clear hb2
        go_wp2
        go_ret3
        exact ⟨rfl, hb⟩
end Go.Proofs.YtbdamneophbnnaaGreatDoor
namespace Go.Proofs.YtbdamneophbnnaaGreatDoor
open Go.RowKit Wb
theorem eqT_nil (p : ByteArray) (h : eqT p sE = true) : p = ⟨#[]⟩ := (eqT_iff _ _).1 h
theorem ne_nil (p : ByteArray) (h : eqT p sE = false) : ¬ p.toList = [] := by
  rw [toList_nil_iff]; exact eqT_false.1 h
theorem ne_empty (p : ByteArray) (h : eqT p sE = false) : p.toList.isEmpty = false := by
  have := ne_nil p h
  simpa using this
theorem lit_of (p q : ByteArray) (l : List UInt8) (h : q.data.toList = l) : (p.toList == l) = eqT p q := by
  unfold eqT; rw [ByteArray.toList_eq q, h]
theorem nil_of (p : ByteArray) (h : eqT p sE = true) : p.toList = [] := (toList_nil_iff _).2 (eqT_nil p h)
theorem bind_fact (p s : ByteArray) {e1 n b1 b2 b3 b4 e5 : Bool} (h1 : eqT p sE = e1) (hn : nameB p.data.toList = n) (k1 : eqT p sXmlns = b1) (k2 : eqT p sXmlQ = b2) (k3 : eqT s sXML = b3) (k4 : eqT s sXMLNS = b4) (h5 : eqT s sE = e5) :
    bindB p s = if !e1 && !n then 12 else if b1 || (b2 && !b3) || (!b2 && (b3 || b4)) || (!e1 && e5) then 13 else 0 := by
  subst h1; subst hn; subst k1; subst k2; subst k3; subst k4; subst h5; rfl
set_option maxHeartbeats 4000000 in
theorem bind_any (p s : ByteArray) (w : World) (hp : p.size ≤ 1000000000) :
    Calls Tryz.prog 91 #[.string p, .string s] w fun e w' => e = .returned (.int .i64 (bindB p s)) ∧ Below w.heap.size w w' := by
  have t1 : (p.toList == [120, 109, 108, 110, 115]) = eqT p sXmlns := lit_of p sXmlns _ rfl
  have t2 : (p.toList == [120, 109, 108]) = eqT p sXmlQ := lit_of p sXmlQ _ rfl
  have t3 : (s.toList == [104, 116, 116, 112, 58, 47, 47, 119, 119, 119, 46, 119, 51, 46, 111, 114, 103, 47, 88, 77, 76, 47, 49, 57, 57, 56, 47, 110, 97, 109, 101, 115, 112, 97, 99, 101]) = eqT s sXML := lit_of s sXML _ rfl
  have t4 : (s.toList == [104, 116, 116, 112, 58, 47, 47, 119, 119, 119, 46, 119, 51, 46, 111, 114, 103, 47, 50, 48, 48, 48, 47, 120, 109, 108, 110, 115, 47]) = eqT s sXMLNS := lit_of s sXMLNS _ rfl
  obtain ⟨b1, k1⟩ : ∃ b, eqT p sXmlns = b := ⟨_, rfl⟩
  obtain ⟨b2, k2⟩ : ∃ b, eqT p sXmlQ = b := ⟨_, rfl⟩
  obtain ⟨b3, k3⟩ : ∃ b, eqT s sXML = b := ⟨_, rfl⟩
  obtain ⟨b4, k4⟩ : ∃ b, eqT s sXMLNS = b := ⟨_, rfl⟩
  obtain ⟨n, hn⟩ : ∃ b, nameB p.data.toList = b := ⟨_, rfl⟩
  obtain ⟨e1, h1⟩ : ∃ b, eqT p sE = b := ⟨_, rfl⟩
  obtain ⟨e5, h5⟩ : ∃ b, eqT s sE = b := ⟨_, rfl⟩
  rw [bind_fact p s h1 hn k1 k2 k3 k4 h5]
  have z1 : e1 = true → b1 = false ∧ b2 = false := by
    rintro rfl
    have := eqT_nil p h1
    subst this
    exact ⟨k1.symm.trans (eqT_false.2 (by decide)), k2.symm.trans (eqT_false.2 (by decide))⟩
  have z2 : e5 = true → b3 = false ∧ b4 = false := by
    rintro rfl
    have := eqT_nil s h5
    subst this
    exact ⟨k3.symm.trans (eqT_false.2 (by decide)), k4.symm.trans (eqT_false.2 (by decide))⟩
  rw [k1] at t1; rw [k2] at t2; rw [k3] at t3; rw [k4] at t4
  clear k1 k2 k3 k4
  have HN := Lib.hid hn
  clear hn
  cases e1
  · have hp0 := ne_nil p h1
    have hp1 := ne_empty p h1
    clear h1 z1
    go_enter Tryz.func91, Tryz.ntmps91
    go_wp2_with fail
    refine (name_any _ _ hp).mono ?_
    rw [HN.out]
    rintro e w3 ⟨rfl, hb⟩
    cases n
    · go_wp2
      go_ret
      exact ⟨rfl, hb⟩
    · cases e5
      · have hs0 := ne_nil s h5
        have hs1 := ne_empty s h5
        clear h5 z2
        cases b1 <;> cases b2 <;> cases b3 <;> cases b4 <;> (go_wp2; go_ret; exact ⟨rfl, hb⟩)
      · have hs0 := nil_of s h5
        clear h5 t3 t4
        obtain ⟨rfl, rfl⟩ := z2 rfl
        cases b1 <;> cases b2 <;> (go_wp2; go_ret; exact ⟨rfl, hb⟩)
  · have hp0 := nil_of p h1
    clear h1 t1 t2
    obtain ⟨rfl, rfl⟩ := z1 rfl
    clear z1 z2 h5
    cases b3 <;> cases b4 <;> (
      go_enter Tryz.func91, Tryz.ntmps91
      go_wp2
      go_ret
      exact ⟨rfl, Below.refl _ _⟩)
end Go.Proofs.YtbdamneophbnnaaGreatDoor
namespace Go.Proofs.YtbdamneophbnnaaGreatDoor
open Go.RowKit Wb
set_option maxHeartbeats 1000000 in
theorem find_any (A : Option Addr) (l : List Pr) (c : Nat) (p : ByteArray) (w : World) (hl : l.length ≤ 1000000000) (hA : Sl2 w A l) :
    Calls Tryz.prog 154 #[.slice A l.length c, .string p] w fun e w' => e = .returned (.tuple #[.string (findB l p).1, .bool (findB l p).2]) ∧ w = w' := by
  have t2 : (p.toList == [120, 109, 108]) = eqT p sXmlQ := lit_of p sXmlQ _ rfl
  cases hx : eqT p sXmlQ
  · rw [hx] at t2
    go_enter Tryz.func154, Tryz.ntmps154
    go_wp2
    go_loop [6] (fun i => ∃ k : Nat, k ≤ l.length ∧ i = .int .i64 ((k : Int) - 1) ∧ Hid (lastB l p = lastB (l.take k) p)) (fun i => (intOf i + 1).toNat)
    case atStart => exact ⟨l.length, Nat.le_refl _, rfl, Lib.hid (by rw [List.take_length])⟩
    case round =>
      obtain ⟨k, hk, rfl, HL⟩ := hrel
      by_cases h0 : k = 0
      · subst h0
        have H := Lib.hid (findB_none hx (HL.out.trans rfl))
        clear hx HL
        go_wp2
        go_ret2
        rw [H.out, ← empty_eq]
        exact ⟨rfl, rfl⟩
      · obtain ⟨j, rfl⟩ : ∃ j, k = j + 1 := ⟨k - 1, by omega⟩
        obtain ⟨⟨x1, x2⟩, he⟩ : ∃ x, l[j]? = some x := ⟨l[j], List.getElem?_eq_getElem (by omega)⟩
        obtain ⟨ad, rfl, _, c1, c2⟩ := hA.at_ he
        have HE := Lib.hid he
        clear he
        have e : ((j + 1 : Nat) : Int) - 1 = j := by omega
        rw [e]
        clear e
        cases hq : (x1.toList == p.toList)
        · go_wp2
          go_round
          case rel => exact ⟨j, by omega, by go_num, Lib.hid (HL.out.trans (lastB_miss HE.out hq))⟩
          case measure => simp [intOf]
        · have H := Lib.hid (findB_some hx (HL.out.trans (lastB_hit HE.out hq)))
          go_wp2
          go_ret2
          rw [H.out]
          exact ⟨rfl, rfl⟩
  · rw [hx] at t2
    rw [findB_xml hx]
    go_enter Tryz.func154, Tryz.ntmps154
    go_wp2
    go_ret2
    exact ⟨rfl, rfl⟩
end Go.Proofs.YtbdamneophbnnaaGreatDoor
