/- Walk of the statement UtfGrows. -/
import Derived.Test.YtifdgkdfedaggaaUtfL
import Derived.Test.YtifdgkdfedaggaaPlain4
namespace Go.Proofs.Ytifdgkdfedaggaa
open Go.RowKit Wb

theorem cut0 (s : ByteArray) (p : Nat) : (s.extract 0 p).data.toList = s.data.toList.take p := by
  simp

set_option maxHeartbeats 4000000 in
theorem grows_walk (s : ByteArray) (r : Int) (w : World) :
    Calls Try.prog 8 #[.string s, .int .i32 r] w fun e w' => e = .returned (.bool true) ∧ Below w.heap.size w w' := by
  by_cases h : 1000 < s.size
  · go_enter Try.func8, Try.ntmps8
    go_wp2_with fail
    refine (awake_any _).mono ?_
    rintro e w1 ⟨rfl, hb⟩
    go_wp2
    go_ret
    exact ⟨rfl, hb⟩
  · have hs : s.size ≤ 1000000000 := by omega
    cases hN : nameB s.data.toList
    · have HN := Lib.hid hN
      clear hN
      go_enter Try.func8, Try.ntmps8
      go_wp2_with fail
      refine (awake_any _).mono ?_
      rintro e w1 ⟨rfl, hb⟩
      go_wp2_with fail
      refine (name_any s _ hs).mono ?_
      rw [HN.out]
      rintro e w2 ⟨rfl, hb2⟩
      replace hb := hb.trans (hb2.mono hb.size)
      clear hb2
      go_wp2
      go_ret
      exact ⟨rfl, hb⟩
    · have HN := Lib.hid hN
      have h64 : s.size ≤ 64 := by
        have := ((nameB_iff _).1 hN).1
        simpa using this
      have hel := enc_length r
      have hsl := slen_bd r
      have hP : (ByteArray.mk (enc r).toArray).size = (enc r).length := by simp [ByteArray.size]
      have hps : (ByteArray.mk (enc r).toArray).size ≤ 4 := by omega
      have hm := name_more s.data.toList r hN
      have htd : (s ++ ByteArray.mk (enc r).toArray).data.toList = s.data.toList ++ enc r := by simp [ByteArray.data_append]
      rw [← htd] at hm
      have htl : (s ++ ByteArray.mk (enc r).toArray).data.toList.length = (s ++ ByteArray.mk (enc r).toArray).size := Array.length_toList
      rw [htl] at hm
      have hts : (s ++ ByteArray.mk (enc r).toArray).size ≤ 1000000000 := by rw [ByteArray.size_append]; omega
      have hpe : (ByteArray.mk (enc r).toArray).toList = enc r := ByteArray.toList_mk _
      generalize hPP : ByteArray.mk (enc r).toArray = P at *
      have HPP := Lib.hid hPP
      have HTS := Lib.hid hts
      have HM := Lib.hid hm
      have HPE := Lib.hid hpe
      have HST := Lib.hid (pre_start _ hN)
      have hne : s.data.toList ≠ [] := by
        intro q
        rw [q] at hN
        exact absurd hN (by decide)
      have HTR : Hid (trimL (⟨#[32, 9]⟩ ++ s ++ ⟨#[13, 10]⟩ : ByteArray).data.toList = s.data.toList) := by
        have := trim_about s.data.toList (name_bytes _ hN) hne
        rw [← this]
        exact Lib.hid (by simp [ByteArray.data_append])
      have HNB : Hid (nameB (⟨#[32]⟩ ++ s : ByteArray).data.toList = false) := by
        have := name_blank _ hN
        rw [← this]
        exact Lib.hid (by simp [ByteArray.data_append])
      have HNC : Hid (nameB (s ++ ⟨#[58]⟩ : ByteArray).data.toList = false) := by
        have := name_colon _ hN
        rw [← this]
        exact Lib.hid (by simp [ByteArray.data_append])
      have HS1 : Hid ((⟨#[32, 9]⟩ ++ s ++ ⟨#[13, 10]⟩ : ByteArray).size ≤ 1000000000) := by
        refine Lib.hid ?_
        rw [ByteArray.size_append, ByteArray.size_append, show (ByteArray.mk #[32, 9]).size = 2 from rfl, show (ByteArray.mk #[13, 10]).size = 2 from rfl]
        omega
      have HS2 : Hid ((⟨#[32]⟩ ++ s : ByteArray).size ≤ 1000000000) := by
        refine Lib.hid ?_
        rw [ByteArray.size_append, show (ByteArray.mk #[32]).size = 1 from rfl]
        omega
      have HS3 : Hid ((s ++ ⟨#[58]⟩ : ByteArray).size ≤ 1000000000) := by
        refine Lib.hid ?_
        rw [ByteArray.size_append, show (ByteArray.mk #[58]).size = 1 from rfl]
        omega
      clear hel hsl hP hm htd htl hts hpe hPP hN hne
      have hsa : (s ++ P).size = s.size + P.size := ByteArray.size_append
      have HSA := Lib.hid hsa
      clear hsa
      obtain ⟨NT, hNT⟩ : ∃ b, nameB (s ++ P).data.toList = b := ⟨_, rfl⟩
      have HNT := Lib.hid hNT
      clear hNT
      by_cases ht : s.size + P.size ≤ 64
      · have hd : decide ((s ++ P).size ≤ 64) = true := by rw [HSA.out]; exact decide_eq_true ht
        cases hpb : partB r
        · have HPB := Lib.hid hpb
          cases hie : (enc r).isEmpty
          · obtain rfl : false = NT := by rw [← HNT.out, HM.out, hd, hpb, hie]; rfl
            have hpl : P.toList.isEmpty = false := by rw [HPE.out]; exact hie
            clear hd hpb hie
            go_enter Try.func8, Try.ntmps8
            go_wp2_with fail
            refine (awake_any _).mono ?_
            rintro e w1 ⟨rfl, hb⟩
            go_wp2_with fail
            refine (name_any s _ hs).mono ?_
            rw [HN.out]
            rintro e w2 ⟨rfl, hb2⟩
            replace hb := hb.trans (hb2.mono hb.size)
            clear hb2
            go_wp2_with fail
            refine (put_any r _).mono ?_
            rw [HPP.out]
            rintro e w2 ⟨rfl, hb2⟩
            replace hb := hb.trans (hb2.mono hb.size)
            clear hb2
            go_wp2_with fail
            refine (name_any _ _ HTS.out).mono ?_
            rw [HNT.out]
            rintro e w2 ⟨rfl, hb2⟩
            replace hb := hb.trans (hb2.mono hb.size)
            clear hb2
            go_wp2_with fail
            refine (part_any r _).mono ?_
            rw [HPB.out]
            rintro e w2 ⟨rfl, hb2⟩
            replace hb := hb.trans (hb2.mono hb.size)
            clear hb2
            go_wp2_with fail
            refine (put_any r _).mono ?_
            rw [HPP.out]
            rintro e w2 ⟨rfl, hb2⟩
            replace hb := hb.trans (hb2.mono hb.size)
            clear hb2
            go_wp2
            go_loopw [6] (fun i wr => ∃ p : Nat, p ≤ s.size ∧ i = .int .i64 p ∧ Hid (Pre s.data.toList p) ∧ Below w.heap.size w wr) (fun i _ => s.size - (intOf i).toNat)
            case atStart => exact ⟨0, by omega, rfl, HST, hb⟩
            case round =>
              obtain ⟨p, hp, rfl, HP, hbel⟩ := hrel
              clear hb HNT HSA HPP HTS HPE HST
              by_cases hlt : p < s.size
              · obtain ⟨m, hm1, hm2, hm3, hm4⟩ := pre_next _ p HP.out (by rw [show s.data.toList.length = s.size from Array.length_toList]; exact hlt)
                rw [show s.data.toList.length = s.size from Array.length_toList] at hm3
                have HX := Lib.hid hm4
                have HR : Hid ((runeS s p).2 = m) := by rw [runeS_dec s p hlt]; exact Lib.hid hm2
                clear hm2 hm4
                by_cases hp0 : 0 < p
                · have HNP := Lib.hid (pre_name _ p HP.out hp0)
                  have HC : Hid ((s.extract 0 p).size ≤ 1000000000) := by
                    have := cut_size s 0 p (by omega)
                    rw [Nat.zero_add] at this
                    exact Lib.hid (by omega)
                  have HCL := Lib.hid (cut0 s p)
                  go_wp2_with fail
                  refine (name_any _ _ HC.out).mono ?_
                  rw [HCL.out, HNP.out]
                  rintro e w2 ⟨rfl, hb2⟩
                  replace hbel := hbel.trans (hb2.mono hbel.size)
                  clear hb2
                  go_wp2_with fail
                  refine (rune_any s p _ hs).mono ?_
                  rw [HR.out]
                  rintro e w2 ⟨rfl, hb2⟩
                  replace hbel := hbel.trans (hb2.mono hbel.size)
                  clear hb2
                  go_wp2
                  go_roundw
                  case rel => exact ⟨p + m, hm3, by go_num, HX, hbel⟩
                  case measure => simp [intOf]; omega
                · go_wp2_with fail
                  refine (rune_any s p _ hs).mono ?_
                  rw [HR.out]
                  rintro e w2 ⟨rfl, hb2⟩
                  replace hbel := hbel.trans (hb2.mono hbel.size)
                  clear hb2
                  go_wp2
                  go_roundw
                  case rel => exact ⟨p + m, hm3, by go_num, HX, hbel⟩
                  case measure => simp [intOf]; omega
              · go_wp2_with fail
                refine (trim_any _ _ HS1.out).mono ?_
                rw [HTR.out]
                rintro e w2 ⟨rfl, rfl⟩
                go_wp2_with fail
                refine (name_any _ _ HS2.out).mono ?_
                rw [HNB.out]
                rintro e w2 ⟨rfl, hb2⟩
                replace hbel := hbel.trans (hb2.mono hbel.size)
                clear hb2
                go_wp2_with fail
                refine (name_any _ _ HS3.out).mono ?_
                rw [HNC.out]
                rintro e w2 ⟨rfl, hb2⟩
                replace hbel := hbel.trans (hb2.mono hbel.size)
                clear hb2
                go_wp2
                go_ret
                exact ⟨rfl, hbel⟩
          · obtain rfl : true = NT := by rw [← HNT.out, HM.out, hd, hpb, hie]; rfl
            have hpl : P.toList.isEmpty = true := by rw [HPE.out]; exact hie
            clear hd hpb hie
            go_enter Try.func8, Try.ntmps8
            go_wp2_with fail
            refine (awake_any _).mono ?_
            rintro e w1 ⟨rfl, hb⟩
            go_wp2_with fail
            refine (name_any s _ hs).mono ?_
            rw [HN.out]
            rintro e w2 ⟨rfl, hb2⟩
            replace hb := hb.trans (hb2.mono hb.size)
            clear hb2
            go_wp2_with fail
            refine (put_any r _).mono ?_
            rw [HPP.out]
            rintro e w2 ⟨rfl, hb2⟩
            replace hb := hb.trans (hb2.mono hb.size)
            clear hb2
            go_wp2_with fail
            refine (name_any _ _ HTS.out).mono ?_
            rw [HNT.out]
            rintro e w2 ⟨rfl, hb2⟩
            replace hb := hb.trans (hb2.mono hb.size)
            clear hb2
            go_wp2_with fail
            refine (part_any r _).mono ?_
            rw [HPB.out]
            rintro e w2 ⟨rfl, hb2⟩
            replace hb := hb.trans (hb2.mono hb.size)
            clear hb2
            go_wp2_with fail
            refine (put_any r _).mono ?_
            rw [HPP.out]
            rintro e w2 ⟨rfl, hb2⟩
            replace hb := hb.trans (hb2.mono hb.size)
            clear hb2
            go_wp2
            go_loopw [6] (fun i wr => ∃ p : Nat, p ≤ s.size ∧ i = .int .i64 p ∧ Hid (Pre s.data.toList p) ∧ Below w.heap.size w wr) (fun i _ => s.size - (intOf i).toNat)
            case atStart => exact ⟨0, by omega, rfl, HST, hb⟩
            case round =>
              obtain ⟨p, hp, rfl, HP, hbel⟩ := hrel
              clear hb HNT HSA HPP HTS HPE HST
              by_cases hlt : p < s.size
              · obtain ⟨m, hm1, hm2, hm3, hm4⟩ := pre_next _ p HP.out (by rw [show s.data.toList.length = s.size from Array.length_toList]; exact hlt)
                rw [show s.data.toList.length = s.size from Array.length_toList] at hm3
                have HX := Lib.hid hm4
                have HR : Hid ((runeS s p).2 = m) := by rw [runeS_dec s p hlt]; exact Lib.hid hm2
                clear hm2 hm4
                by_cases hp0 : 0 < p
                · have HNP := Lib.hid (pre_name _ p HP.out hp0)
                  have HC : Hid ((s.extract 0 p).size ≤ 1000000000) := by
                    have := cut_size s 0 p (by omega)
                    rw [Nat.zero_add] at this
                    exact Lib.hid (by omega)
                  have HCL := Lib.hid (cut0 s p)
                  go_wp2_with fail
                  refine (name_any _ _ HC.out).mono ?_
                  rw [HCL.out, HNP.out]
                  rintro e w2 ⟨rfl, hb2⟩
                  replace hbel := hbel.trans (hb2.mono hbel.size)
                  clear hb2
                  go_wp2_with fail
                  refine (rune_any s p _ hs).mono ?_
                  rw [HR.out]
                  rintro e w2 ⟨rfl, hb2⟩
                  replace hbel := hbel.trans (hb2.mono hbel.size)
                  clear hb2
                  go_wp2
                  go_roundw
                  case rel => exact ⟨p + m, hm3, by go_num, HX, hbel⟩
                  case measure => simp [intOf]; omega
                · go_wp2_with fail
                  refine (rune_any s p _ hs).mono ?_
                  rw [HR.out]
                  rintro e w2 ⟨rfl, hb2⟩
                  replace hbel := hbel.trans (hb2.mono hbel.size)
                  clear hb2
                  go_wp2
                  go_roundw
                  case rel => exact ⟨p + m, hm3, by go_num, HX, hbel⟩
                  case measure => simp [intOf]; omega
              · go_wp2_with fail
                refine (trim_any _ _ HS1.out).mono ?_
                rw [HTR.out]
                rintro e w2 ⟨rfl, rfl⟩
                go_wp2_with fail
                refine (name_any _ _ HS2.out).mono ?_
                rw [HNB.out]
                rintro e w2 ⟨rfl, hb2⟩
                replace hbel := hbel.trans (hb2.mono hbel.size)
                clear hb2
                go_wp2_with fail
                refine (name_any _ _ HS3.out).mono ?_
                rw [HNC.out]
                rintro e w2 ⟨rfl, hb2⟩
                replace hbel := hbel.trans (hb2.mono hbel.size)
                clear hb2
                go_wp2
                go_ret
                exact ⟨rfl, hbel⟩
        · have HPB := Lib.hid hpb
          obtain rfl : true = NT := by rw [← HNT.out, HM.out, hd, hpb]; rfl
          clear hd hpb
          go_enter Try.func8, Try.ntmps8
          go_wp2_with fail
          refine (awake_any _).mono ?_
          rintro e w1 ⟨rfl, hb⟩
          go_wp2_with fail
          refine (name_any s _ hs).mono ?_
          rw [HN.out]
          rintro e w2 ⟨rfl, hb2⟩
          replace hb := hb.trans (hb2.mono hb.size)
          clear hb2
          go_wp2_with fail
          refine (put_any r _).mono ?_
          rw [HPP.out]
          rintro e w2 ⟨rfl, hb2⟩
          replace hb := hb.trans (hb2.mono hb.size)
          clear hb2
          go_wp2_with fail
          refine (name_any _ _ HTS.out).mono ?_
          rw [HNT.out]
          rintro e w2 ⟨rfl, hb2⟩
          replace hb := hb.trans (hb2.mono hb.size)
          clear hb2
          go_wp2_with fail
          refine (part_any r _).mono ?_
          rw [HPB.out]
          rintro e w2 ⟨rfl, hb2⟩
          replace hb := hb.trans (hb2.mono hb.size)
          clear hb2
          go_wp2
          go_loopw [6] (fun i wr => ∃ p : Nat, p ≤ s.size ∧ i = .int .i64 p ∧ Hid (Pre s.data.toList p) ∧ Below w.heap.size w wr) (fun i _ => s.size - (intOf i).toNat)
          case atStart => exact ⟨0, by omega, rfl, HST, hb⟩
          case round =>
            obtain ⟨p, hp, rfl, HP, hbel⟩ := hrel
            clear hb HNT HSA HPP HTS HPE HST
            by_cases hlt : p < s.size
            · obtain ⟨m, hm1, hm2, hm3, hm4⟩ := pre_next _ p HP.out (by rw [show s.data.toList.length = s.size from Array.length_toList]; exact hlt)
              rw [show s.data.toList.length = s.size from Array.length_toList] at hm3
              have HX := Lib.hid hm4
              have HR : Hid ((runeS s p).2 = m) := by rw [runeS_dec s p hlt]; exact Lib.hid hm2
              clear hm2 hm4
              by_cases hp0 : 0 < p
              · have HNP := Lib.hid (pre_name _ p HP.out hp0)
                have HC : Hid ((s.extract 0 p).size ≤ 1000000000) := by
                  have := cut_size s 0 p (by omega)
                  rw [Nat.zero_add] at this
                  exact Lib.hid (by omega)
                have HCL := Lib.hid (cut0 s p)
                go_wp2_with fail
                refine (name_any _ _ HC.out).mono ?_
                rw [HCL.out, HNP.out]
                rintro e w2 ⟨rfl, hb2⟩
                replace hbel := hbel.trans (hb2.mono hbel.size)
                clear hb2
                go_wp2_with fail
                refine (rune_any s p _ hs).mono ?_
                rw [HR.out]
                rintro e w2 ⟨rfl, hb2⟩
                replace hbel := hbel.trans (hb2.mono hbel.size)
                clear hb2
                go_wp2
                go_roundw
                case rel => exact ⟨p + m, hm3, by go_num, HX, hbel⟩
                case measure => simp [intOf]; omega
              · go_wp2_with fail
                refine (rune_any s p _ hs).mono ?_
                rw [HR.out]
                rintro e w2 ⟨rfl, hb2⟩
                replace hbel := hbel.trans (hb2.mono hbel.size)
                clear hb2
                go_wp2
                go_roundw
                case rel => exact ⟨p + m, hm3, by go_num, HX, hbel⟩
                case measure => simp [intOf]; omega
            · go_wp2_with fail
              refine (trim_any _ _ HS1.out).mono ?_
              rw [HTR.out]
              rintro e w2 ⟨rfl, rfl⟩
              go_wp2_with fail
              refine (name_any _ _ HS2.out).mono ?_
              rw [HNB.out]
              rintro e w2 ⟨rfl, hb2⟩
              replace hbel := hbel.trans (hb2.mono hbel.size)
              clear hb2
              go_wp2_with fail
              refine (name_any _ _ HS3.out).mono ?_
              rw [HNC.out]
              rintro e w2 ⟨rfl, hb2⟩
              replace hbel := hbel.trans (hb2.mono hbel.size)
              clear hb2
              go_wp2
              go_ret
              exact ⟨rfl, hbel⟩
      · obtain rfl : false = NT := by rw [← HNT.out, HM.out, HSA.out, decide_eq_false ht]; rfl
        go_enter Try.func8, Try.ntmps8
        go_wp2_with fail
        refine (awake_any _).mono ?_
        rintro e w1 ⟨rfl, hb⟩
        go_wp2_with fail
        refine (name_any s _ hs).mono ?_
        rw [HN.out]
        rintro e w2 ⟨rfl, hb2⟩
        replace hb := hb.trans (hb2.mono hb.size)
        clear hb2
        go_wp2_with fail
        refine (put_any r _).mono ?_
        rw [HPP.out]
        rintro e w2 ⟨rfl, hb2⟩
        replace hb := hb.trans (hb2.mono hb.size)
        clear hb2
        go_wp2_with fail
        refine (name_any _ _ HTS.out).mono ?_
        rw [HNT.out]
        rintro e w2 ⟨rfl, hb2⟩
        replace hb := hb.trans (hb2.mono hb.size)
        clear hb2
        go_wp2
        go_loopw [6] (fun i wr => ∃ p : Nat, p ≤ s.size ∧ i = .int .i64 p ∧ Hid (Pre s.data.toList p) ∧ Below w.heap.size w wr) (fun i _ => s.size - (intOf i).toNat)
        case atStart => exact ⟨0, by omega, rfl, HST, hb⟩
        case round =>
          obtain ⟨p, hp, rfl, HP, hbel⟩ := hrel
          clear hb HNT HSA HPP HTS HPE HST
          by_cases hlt : p < s.size
          · obtain ⟨m, hm1, hm2, hm3, hm4⟩ := pre_next _ p HP.out (by rw [show s.data.toList.length = s.size from Array.length_toList]; exact hlt)
            rw [show s.data.toList.length = s.size from Array.length_toList] at hm3
            have HX := Lib.hid hm4
            have HR : Hid ((runeS s p).2 = m) := by rw [runeS_dec s p hlt]; exact Lib.hid hm2
            clear hm2 hm4
            by_cases hp0 : 0 < p
            · have HNP := Lib.hid (pre_name _ p HP.out hp0)
              have HC : Hid ((s.extract 0 p).size ≤ 1000000000) := by
                have := cut_size s 0 p (by omega)
                rw [Nat.zero_add] at this
                exact Lib.hid (by omega)
              have HCL := Lib.hid (cut0 s p)
              go_wp2_with fail
              refine (name_any _ _ HC.out).mono ?_
              rw [HCL.out, HNP.out]
              rintro e w2 ⟨rfl, hb2⟩
              replace hbel := hbel.trans (hb2.mono hbel.size)
              clear hb2
              go_wp2_with fail
              refine (rune_any s p _ hs).mono ?_
              rw [HR.out]
              rintro e w2 ⟨rfl, hb2⟩
              replace hbel := hbel.trans (hb2.mono hbel.size)
              clear hb2
              go_wp2
              go_roundw
              case rel => exact ⟨p + m, hm3, by go_num, HX, hbel⟩
              case measure => simp [intOf]; omega
            · go_wp2_with fail
              refine (rune_any s p _ hs).mono ?_
              rw [HR.out]
              rintro e w2 ⟨rfl, hb2⟩
              replace hbel := hbel.trans (hb2.mono hbel.size)
              clear hb2
              go_wp2
              go_roundw
              case rel => exact ⟨p + m, hm3, by go_num, HX, hbel⟩
              case measure => simp [intOf]; omega
          · go_wp2_with fail
            refine (trim_any _ _ HS1.out).mono ?_
            rw [HTR.out]
            rintro e w2 ⟨rfl, rfl⟩
            go_wp2_with fail
            refine (name_any _ _ HS2.out).mono ?_
            rw [HNB.out]
            rintro e w2 ⟨rfl, hb2⟩
            replace hbel := hbel.trans (hb2.mono hbel.size)
            clear hb2
            go_wp2_with fail
            refine (name_any _ _ HS3.out).mono ?_
            rw [HNC.out]
            rintro e w2 ⟨rfl, hb2⟩
            replace hbel := hbel.trans (hb2.mono hbel.size)
            clear hb2
            go_wp2
            go_ret
            exact ⟨rfl, hbel⟩
end Go.Proofs.Ytifdgkdfedaggaa
