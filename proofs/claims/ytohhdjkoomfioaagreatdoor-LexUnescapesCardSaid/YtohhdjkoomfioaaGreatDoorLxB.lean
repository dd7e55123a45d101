
/- Contract of the reference's number. -/
import Derived.Test.YtohhdjkoomfioaaGreatDoorLxA
namespace Go.Proofs.YtohhdjkoomfioaaGreatDoor
open Go.RowKit Wb

/-- What number answers: -1, or the digits' number, counted no further than past two millions. -/
def numR (base : Int) (l : List UInt8) : Int :=
  match (if l = [] then none else capL base 0 l) with
  | some n => n
  | none => -1

theorem digV_lt (c : Int) : digV c < 100 := by
  unfold digV
  split
  · omega
  · split <;> omega
theorem capL_bad {base n : Int} {c : UInt8} {l : List UInt8} (h : base ≤ digV c.toNat) : capL base n (c :: l) = none := by
  unfold capL; rw [if_pos h]
theorem capL_low {base n : Int} {c : UInt8} {l : List UInt8} (h : ¬ base ≤ digV c.toNat) (hn : n < 2000000) : capL base n (c :: l) = capL base (n * base + digV c.toNat) l := by
  conv => lhs; unfold capL
  rw [if_neg h, if_pos hn]
theorem capL_high {base n : Int} {c : UInt8} {l : List UInt8} (h : ¬ base ≤ digV c.toNat) (hn : ¬ n < 2000000) : capL base n (c :: l) = capL base n l := by
  conv => lhs; unfold capL
  rw [if_neg h, if_neg hn]
theorem numR_some {base n : Int} {l : List UInt8} (h : l ≠ []) (ho : capL base 0 l = some n) : numR base l = n := by
  unfold numR; rw [if_neg h, ho]
theorem numR_none {base : Int} {l : List UInt8} (ho : capL base 0 l = none) : numR base l = -1 := by
  unfold numR
  split
  · rename_i n hn
    split at hn
    · cases hn
    · rw [ho] at hn; cases hn
  · rfl
theorem numR_nil {base : Int} : numR base [] = -1 := rfl

theorem drop_byte (s : ByteArray) (k : Nat) (h : k < s.size) : s.data.toList.drop k = s[k] :: s.data.toList.drop (k + 1) := by
  have hk : k < s.data.toList.length := by simpa using h
  rw [List.drop_eq_getElem_cons hk]
  rfl

set_option maxHeartbeats 2000000 in
set_option maxRecDepth 100000 in
theorem number10_any (s : ByteArray) (w : World) (hs : s.size ≤ 1000000000) :
    Calls Tryz.prog 41 #[.string s, .int .i64 10] w fun e w' => e = .returned (.int .i64 (numR 10 s.data.toList)) ∧ w = w' := by
  obtain ⟨r, hr⟩ : ∃ r, numR 10 s.data.toList = r := ⟨_, rfl⟩
  have HR := Lib.hid hr
  rw [hr]
  clear hr
  go_enter Tryz.func41, Tryz.ntmps41
  go_wp2
  go_loop [5, 6, 7, 8] (fun nv i dv cv => ∃ (k : Nat) (n : Int), k ≤ s.size ∧ i = .int .i64 k ∧ nv = .int .i64 n ∧ 0 ≤ n ∧ n ≤ 33000000 ∧ Hid (capL 10 0 s.data.toList = capL 10 n (s.data.toList.drop k))) (fun _ i _ _ => ((s.size : Int) - intOf i).toNat)
  case atStart => exact ⟨0, 0, by omega, rfl, rfl, by omega, by omega, Lib.hid rfl⟩
  case round =>
    obtain ⟨k, n, hk, rfl, rfl, hn0, hn1, HC⟩ := hrel
    by_cases hlt : k < s.size
    · have HD := Lib.hid (drop_byte s k hlt)
      go_wp2_with fail
      have hc := u8_lt s[k]
      refine (small_any _ _ (by omega) hc).mono ?_
      rintro e w2 ⟨rfl, rfl⟩
      have HV : Hid (∀ x, lowB (s[k].toNat : Int) = x → digV (s[k].toNat : Int) = if 48 ≤ x ∧ x ≤ 57 then x - 48 else if 97 ≤ x ∧ x ≤ 102 then x - 87 else 99) := Lib.hid (by rintro x rfl; rfl)
      have hx : 0 ≤ lowB (s[k].toNat : Int) ∧ lowB (s[k].toNat : Int) < 256 := by unfold lowB; split <;> omega
      obtain ⟨x, hxe⟩ : ∃ x, lowB (s[k].toNat : Int) = x := ⟨_, rfl⟩
      have HV2 := Lib.hid (HV.out x hxe)
      rw [hxe] at hx ⊢
      clear hxe HV hc
      by_cases h48 : 48 ≤ x ∧ x ≤ 57
      · have HDV : Hid (digV (s[k].toNat : Int) = x - 48) := Lib.hid (by rw [HV2.out, if_pos h48])
        clear HV2
        obtain ⟨h48, h57⟩ := h48
        have hd : digV (s[k].toNat : Int) = x - 48 := HDV.out
        by_cases hn : n < 2000000
        · have HS : Hid (capL 10 0 s.data.toList = capL 10 (n * 10 + (x - 48)) (s.data.toList.drop (k + 1))) := Lib.hid (by
            rw [HC.out, HD.out, capL_low (by rw [hd]; omega) hn, hd])
          clear hd HC HDV
          go_wp2
          go_round
          case rel => exact ⟨k + 1, n * 10 + (x - 48), by omega, by go_num, by go_num, by omega, by omega, HS⟩
          case measure => simp [intOf]; omega
        · have HS : Hid (capL 10 0 s.data.toList = capL 10 n (s.data.toList.drop (k + 1))) := Lib.hid (by
            rw [HC.out, HD.out, capL_high (by rw [hd]; omega) hn])
          clear hd HC HDV
          go_wp2
          go_round
          case rel => exact ⟨k + 1, n, by omega, by go_num, rfl, by omega, by omega, HS⟩
          case measure => simp [intOf]; omega
      · by_cases h97 : 97 ≤ x ∧ x ≤ 102
        · have HDV : Hid (digV (s[k].toNat : Int) = x - 87) := Lib.hid (by rw [HV2.out, if_neg h48, if_pos h97])
          clear HV2 h48
          obtain ⟨h97, h102⟩ := h97
          by_cases hbad : 10 ≤ x - 87
          · have HN : Hid (r = -1) := Lib.hid (by rw [← HR.out]; exact numR_none (by rw [HC.out, HD.out, capL_bad (by rw [HDV.out]; omega)]))
            clear HC HDV
            go_wp2
            go_ret
            rw [HN.out]
            exact ⟨rfl, rfl⟩
          · exact absurd (by omega) hbad
        · have HDV : Hid (digV (s[k].toNat : Int) = 99) := Lib.hid (by rw [HV2.out, if_neg h48, if_neg h97])
          clear HV2
          have h3 : x < 48 ∨ (57 < x ∧ x < 97) ∨ 102 < x := by omega
          clear h48 h97
          rcases h3 with h3 | ⟨h3, h4⟩ | h3
          all_goals
            have HN : Hid (r = -1) := Lib.hid (by rw [← HR.out]; exact numR_none (by rw [HC.out, HD.out, capL_bad (by rw [HDV.out]; omega)]))
            clear HC HDV
            go_wp2
            go_ret
            rw [HN.out]
            exact ⟨rfl, rfl⟩
    · have HE : Hid (capL 10 0 s.data.toList = some n) := Lib.hid (by
        rw [HC.out, List.drop_eq_nil_of_le (by simpa using Nat.le_of_not_lt hlt)]; rfl)
      clear HC
      by_cases h0 : s.data.toList = []
      · have hs0 : s.toList = [] := by rw [ByteArray.toList_eq]; exact h0
        have hs1 : s.toList.isEmpty = true := by rw [hs0]; rfl
        have HN : Hid (r = -1) := Lib.hid (by rw [← HR.out, h0]; exact numR_nil)
        clear HR h0
        go_wp2
        go_ret
        rw [HN.out]
        exact ⟨rfl, rfl⟩
      · have hs0 : ¬ s.toList = [] := by rw [ByteArray.toList_eq]; exact h0
        have hs1 : s.toList.isEmpty = false := by simpa using hs0
        have HN : Hid (r = n) := Lib.hid (by rw [← HR.out]; exact numR_some h0 HE.out)
        clear HR h0
        go_wp2
        go_ret
        rw [HN.out]
        exact ⟨rfl, rfl⟩

set_option maxHeartbeats 2000000 in
set_option maxRecDepth 100000 in
theorem number16_any (s : ByteArray) (w : World) (hs : s.size ≤ 1000000000) :
    Calls Tryz.prog 41 #[.string s, .int .i64 16] w fun e w' => e = .returned (.int .i64 (numR 16 s.data.toList)) ∧ w = w' := by
  obtain ⟨r, hr⟩ : ∃ r, numR 16 s.data.toList = r := ⟨_, rfl⟩
  have HR := Lib.hid hr
  rw [hr]
  clear hr
  go_enter Tryz.func41, Tryz.ntmps41
  go_wp2
  go_loop [5, 6, 7, 8] (fun nv i dv cv => ∃ (k : Nat) (n : Int), k ≤ s.size ∧ i = .int .i64 k ∧ nv = .int .i64 n ∧ 0 ≤ n ∧ n ≤ 33000000 ∧ Hid (capL 16 0 s.data.toList = capL 16 n (s.data.toList.drop k))) (fun _ i _ _ => ((s.size : Int) - intOf i).toNat)
  case atStart => exact ⟨0, 0, by omega, rfl, rfl, by omega, by omega, Lib.hid rfl⟩
  case round =>
    obtain ⟨k, n, hk, rfl, rfl, hn0, hn1, HC⟩ := hrel
    by_cases hlt : k < s.size
    · have HD := Lib.hid (drop_byte s k hlt)
      go_wp2_with fail
      have hc := u8_lt s[k]
      refine (small_any _ _ (by omega) hc).mono ?_
      rintro e w2 ⟨rfl, rfl⟩
      have HV : Hid (∀ x, lowB (s[k].toNat : Int) = x → digV (s[k].toNat : Int) = if 48 ≤ x ∧ x ≤ 57 then x - 48 else if 97 ≤ x ∧ x ≤ 102 then x - 87 else 99) := Lib.hid (by rintro x rfl; rfl)
      have hx : 0 ≤ lowB (s[k].toNat : Int) ∧ lowB (s[k].toNat : Int) < 256 := by unfold lowB; split <;> omega
      obtain ⟨x, hxe⟩ : ∃ x, lowB (s[k].toNat : Int) = x := ⟨_, rfl⟩
      have HV2 := Lib.hid (HV.out x hxe)
      rw [hxe] at hx ⊢
      clear hxe HV hc
      by_cases h48 : 48 ≤ x ∧ x ≤ 57
      · have HDV : Hid (digV (s[k].toNat : Int) = x - 48) := Lib.hid (by rw [HV2.out, if_pos h48])
        clear HV2
        obtain ⟨h48, h57⟩ := h48
        have hd : digV (s[k].toNat : Int) = x - 48 := HDV.out
        by_cases hn : n < 2000000
        · have HS : Hid (capL 16 0 s.data.toList = capL 16 (n * 16 + (x - 48)) (s.data.toList.drop (k + 1))) := Lib.hid (by
            rw [HC.out, HD.out, capL_low (by rw [hd]; omega) hn, hd])
          clear hd HC HDV
          go_wp2
          go_round
          case rel => exact ⟨k + 1, n * 16 + (x - 48), by omega, by go_num, by go_num, by omega, by omega, HS⟩
          case measure => simp [intOf]; omega
        · have HS : Hid (capL 16 0 s.data.toList = capL 16 n (s.data.toList.drop (k + 1))) := Lib.hid (by
            rw [HC.out, HD.out, capL_high (by rw [hd]; omega) hn])
          clear hd HC HDV
          go_wp2
          go_round
          case rel => exact ⟨k + 1, n, by omega, by go_num, rfl, by omega, by omega, HS⟩
          case measure => simp [intOf]; omega
      · by_cases h97 : 97 ≤ x ∧ x ≤ 102
        · have HDV : Hid (digV (s[k].toNat : Int) = x - 87) := Lib.hid (by rw [HV2.out, if_neg h48, if_pos h97])
          clear HV2 h48
          obtain ⟨h97, h102⟩ := h97
          have hd : digV (s[k].toNat : Int) = x - 87 := HDV.out
          by_cases hn : n < 2000000
          · have HS : Hid (capL 16 0 s.data.toList = capL 16 (n * 16 + (x - 87)) (s.data.toList.drop (k + 1))) := Lib.hid (by
              rw [HC.out, HD.out, capL_low (by rw [hd]; omega) hn, hd])
            clear hd HC HDV
            go_wp2
            go_round
            case rel => exact ⟨k + 1, n * 16 + (x - 87), by omega, by go_num, by go_num, by omega, by omega, HS⟩
            case measure => simp [intOf]; omega
          · have HS : Hid (capL 16 0 s.data.toList = capL 16 n (s.data.toList.drop (k + 1))) := Lib.hid (by
              rw [HC.out, HD.out, capL_high (by rw [hd]; omega) hn])
            clear hd HC HDV
            go_wp2
            go_round
            case rel => exact ⟨k + 1, n, by omega, by go_num, rfl, by omega, by omega, HS⟩
            case measure => simp [intOf]; omega
        · have HDV : Hid (digV (s[k].toNat : Int) = 99) := Lib.hid (by rw [HV2.out, if_neg h48, if_neg h97])
          clear HV2
          have h3 : x < 48 ∨ (57 < x ∧ x < 97) ∨ 102 < x := by omega
          clear h48 h97
          rcases h3 with h3 | ⟨h3, h4⟩ | h3
          all_goals
            have HN : Hid (r = -1) := Lib.hid (by rw [← HR.out]; exact numR_none (by rw [HC.out, HD.out, capL_bad (by rw [HDV.out]; omega)]))
            clear HC HDV
            go_wp2
            go_ret
            rw [HN.out]
            exact ⟨rfl, rfl⟩
    · have HE : Hid (capL 16 0 s.data.toList = some n) := Lib.hid (by
        rw [HC.out, List.drop_eq_nil_of_le (by simpa using Nat.le_of_not_lt hlt)]; rfl)
      clear HC
      by_cases h0 : s.data.toList = []
      · have hs0 : s.toList = [] := by rw [ByteArray.toList_eq]; exact h0
        have hs1 : s.toList.isEmpty = true := by rw [hs0]; rfl
        have HN : Hid (r = -1) := Lib.hid (by rw [← HR.out, h0]; exact numR_nil)
        clear HR h0
        go_wp2
        go_ret
        rw [HN.out]
        exact ⟨rfl, rfl⟩
      · have hs0 : ¬ s.toList = [] := by rw [ByteArray.toList_eq]; exact h0
        have hs1 : s.toList.isEmpty = false := by simpa using hs0
        have HN : Hid (r = n) := Lib.hid (by rw [← HR.out]; exact numR_some h0 HE.out)
        clear HR h0
        go_wp2
        go_ret
        rw [HN.out]
        exact ⟨rfl, rfl⟩

end Go.Proofs.YtohhdjkoomfioaaGreatDoor
