/- LxAa LxA LxB LxC LxD LxE. -/
import Derived.Test.YtbdamneophbnnaaGreatDoorCZ1
import Derived.Test.YtbdamneophbnnaaGreatDoorCZ2
namespace Go.Proofs.YtbdamneophbnnaaGreatDoor
open Go.RowKit Wb
def begB (s : ByteArray) (at_ : Int) (t : ByteArray) : Bool := decide (0 ≤ at_) && (decide (at_ + t.size ≤ s.size) && begAt s at_.toNat t)
set_option maxHeartbeats 400000 in
theorem begins_any (s t : ByteArray) (at_ : Int) (w : World) (hs : s.size ≤ 1000000000) (ht : t.size ≤ 1000000000) (h1 : -1000000000 ≤ at_) (h2 : at_ ≤ 2000000000) :
    Calls Tryz.prog 42 #[.string s, .int .i64 at_, .string t] w fun e w' => e = .returned (.bool (begB s at_ t)) ∧ w = w' := by
  by_cases h0 : 0 ≤ at_
  · obtain ⟨k, rfl⟩ := Int.eq_ofNat_of_zero_le h0
    by_cases hk : (k : Int) + t.size ≤ s.size
    · cases hb : begAt s k t
      all_goals
        have H : Hid (begB s k t = _) := Lib.hid (show begB s k t = begAt s k t from by unfold begB; rw [decide_eq_true h0, decide_eq_true hk]; simp)
        rw [H.out, hb]
        clear H
        have hq : ((s.extract k (k + t.size)).toList == t.toList) = _ := hb
        clear hb
        have g1 : (t.size : Int) ≤ (s.size : Int) - k := by omega
        go_enter Tryz.func42, Tryz.ntmps42
        go_wp2
        go_ret
        exact ⟨rfl, rfl⟩
    · have H : begB s k t = false := by unfold begB; rw [decide_eq_false hk]; simp
      rw [H]
      clear H
      have g1 : ¬ (t.size : Int) ≤ (s.size : Int) - k := by omega
      go_enter Tryz.func42, Tryz.ntmps42
      go_wp2
      go_ret
      exact ⟨rfl, rfl⟩
  · have H : begB s at_ t = false := by unfold begB; rw [decide_eq_false h0]; simp
    rw [H]
    clear H
    go_enter Tryz.func42, Tryz.ntmps42
    go_wp2
    go_ret
    exact ⟨rfl, rfl⟩
end Go.Proofs.YtbdamneophbnnaaGreatDoor
namespace Go.Proofs.YtbdamneophbnnaaGreatDoor
open Go.RowKit Wb
theorem small_any (c : Int) (w : World) (h0 : 0 ≤ c) (h1 : c < 256) :
    Calls Tryz.prog 145 #[.int .u8 c] w fun e w' => e = .returned (.int .u8 (lowB c)) ∧ w = w' := by
  by_cases h : 65 ≤ c
  · by_cases h' : c ≤ 90
    · have H := Lib.hid (show lowB c = c + 32 from by unfold lowB; rw [if_pos ⟨h, h'⟩])
      rw [H.out]
      go_enter Tryz.func145, Tryz.ntmps145
      go_wp2
      go_ret
      refine ⟨ret_i ?_, rfl⟩
      omega
    · have H := Lib.hid (show lowB c = c from by unfold lowB; rw [if_neg (by omega)])
      rw [H.out]
      go_enter Tryz.func145, Tryz.ntmps145
      go_wp2
      go_ret
      exact ⟨rfl, rfl⟩
  · have H := Lib.hid (show lowB c = c from by unfold lowB; rw [if_neg (by omega)])
    rw [H.out]
    go_enter Tryz.func145, Tryz.ntmps145
    go_wp2
    go_ret
    exact ⟨rfl, rfl⟩
end Go.Proofs.YtbdamneophbnnaaGreatDoor
namespace Go.Proofs.YtbdamneophbnnaaGreatDoor
open Go.RowKit Wb
def numR (base : Int) (l : List UInt8) : Int :=
  match (if l = [] then none else capL base 0 l) with
  | some n => n
  | none => -1
theorem capL_bad {base n : Int} {c : UInt8} {l : List UInt8} (h : base ≤ digV c.toNat) : capL base n (c :: l) = none := by
  unfold capL; rw [if_pos h]
theorem capL_low {base n : Int} {c : UInt8} {l : List UInt8} (h : ¬ base ≤ digV c.toNat) (hn : n < 2000000) : capL base n (c :: l) = capL base (n * base + digV c.toNat) l := by
  conv => lhs; unfold capL
  rw [if_neg h, if_pos hn]
theorem capL_high {base n : Int} {c : UInt8} {l : List UInt8} (h : ¬ base ≤ digV c.toNat) (hn : ¬ n < 2000000) : capL base n (c :: l) = capL base n l := by
  conv => lhs; unfold capL
  rw [if_neg h, if_neg hn]
theorem numR_some {base n : Int} {l : List UInt8} (h : l ≠ []) (ho : capL base 0 l = some n) : numR base l = n := by
  unfold numR; rw [if_neg h, ho]
theorem numR_none {base : Int} {l : List UInt8} (ho : capL base 0 l = none) : numR base l = -1 := by
  unfold numR
  split
  · rename_i n hn
    split at hn
    · cases hn
    · rw [ho] at hn; cases hn
  · rfl
theorem numR_nil {base : Int} : numR base [] = -1 := rfl
theorem drop_byte (s : ByteArray) (k : Nat) (h : k < s.size) : s.data.toList.drop k = s[k] :: s.data.toList.drop (k + 1) := by
  have hk : k < s.data.toList.length := by simpa using h
  rw [List.drop_eq_getElem_cons hk]
  rfl
set_option maxHeartbeats 2000000 in
set_option maxRecDepth 100000 in
theorem number10_any (s : ByteArray) (w : World) (hs : s.size ≤ 1000000000) :
    Calls Tryz.prog 125 #[.string s, .int .i64 10] w fun e w' => e = .returned (.int .i64 (numR 10 s.data.toList)) ∧ w = w' := by
  obtain ⟨r, hr⟩ : ∃ r, numR 10 s.data.toList = r := ⟨_, rfl⟩
  have HR := Lib.hid hr
  rw [hr]
  clear hr
  go_enter Tryz.func125, Tryz.ntmps125
  go_wp2
  go_loop [5, 6, 7, 8] (fun nv i dv cv => ∃ (k : Nat) (n : Int), k ≤ s.size ∧ i = .int .i64 k ∧ nv = .int .i64 n ∧ 0 ≤ n ∧ n ≤ 33000000 ∧ Hid (capL 10 0 s.data.toList = capL 10 n (s.data.toList.drop k))) (fun _ i _ _ => ((s.size : Int) - intOf i).toNat)
  case atStart => exact ⟨0, 0, by omega, rfl, rfl, by omega, by omega, Lib.hid rfl⟩
  case round =>
    obtain ⟨k, n, hk, rfl, rfl, hn0, hn1, HC⟩ := hrel
    by_cases hlt : k < s.size
    · have HD := Lib.hid (drop_byte s k hlt)
      go_wp2_with fail
      have hc := u8_lt s[k]
      refine (small_any _ _ (by omega) hc).mono ?_
      rintro e w2 ⟨rfl, rfl⟩
      have HV : Hid (∀ x, lowB (s[k].toNat : Int) = x → digV (s[k].toNat : Int) = if 48 ≤ x ∧ x ≤ 57 then x - 48 else if 97 ≤ x ∧ x ≤ 102 then x - 87 else 99) := Lib.hid (by rintro x rfl; rfl)
      have hx : 0 ≤ lowB (s[k].toNat : Int) ∧ lowB (s[k].toNat : Int) < 256 := by unfold lowB; split <;> omega
      obtain ⟨x, hxe⟩ : ∃ x, lowB (s[k].toNat : Int) = x := ⟨_, rfl⟩
      have HV2 := Lib.hid (HV.out x hxe)
      rw [hxe] at hx ⊢
      clear hxe HV hc
      by_cases h48 : 48 ≤ x ∧ x ≤ 57
      · have HDV : Hid (digV (s[k].toNat : Int) = x - 48) := Lib.hid (by rw [HV2.out, if_pos h48])
        clear HV2
        obtain ⟨h48, h57⟩ := h48
        have hd : digV (s[k].toNat : Int) = x - 48 := HDV.out
        by_cases hn : n < 2000000
        · have HS : Hid (capL 10 0 s.data.toList = capL 10 (n * 10 + (x - 48)) (s.data.toList.drop (k + 1))) := Lib.hid (by
            rw [HC.out, HD.out, capL_low (by rw [hd]; omega) hn, hd])
          clear hd HC HDV
          go_wp2
          go_round
          case rel => exact ⟨k + 1, n * 10 + (x - 48), by omega, by go_num, by go_num, by omega, by omega, HS⟩
          case measure => simp [intOf]; omega
        · have HS : Hid (capL 10 0 s.data.toList = capL 10 n (s.data.toList.drop (k + 1))) := Lib.hid (by
            rw [HC.out, HD.out, capL_high (by rw [hd]; omega) hn])
          clear hd HC HDV
          go_wp2
          go_round
          case rel => exact ⟨k + 1, n, by omega, by go_num, rfl, by omega, by omega, HS⟩
          case measure => simp [intOf]; omega
      · by_cases h97 : 97 ≤ x ∧ x ≤ 102
        · have HDV : Hid (digV (s[k].toNat : Int) = x - 87) := Lib.hid (by rw [HV2.out, if_neg h48, if_pos h97])
          clear HV2 h48
          obtain ⟨h97, h102⟩ := h97
          by_cases hbad : 10 ≤ x - 87
          · have HN : Hid (r = -1) := Lib.hid (by rw [← HR.out]; exact numR_none (by rw [HC.out, HD.out, capL_bad (by rw [HDV.out]; omega)]))
            clear HC HDV
            go_wp2
            go_ret
            rw [HN.out]
            exact ⟨rfl, rfl⟩
          · exact absurd (by omega) hbad
        · have HDV : Hid (digV (s[k].toNat : Int) = 99) := Lib.hid (by rw [HV2.out, if_neg h48, if_neg h97])
          clear HV2
          have h3 : x < 48 ∨ (57 < x ∧ x < 97) ∨ 102 < x := by omega
          clear h48 h97
          rcases h3 with h3 | ⟨h3, h4⟩ | h3
          all_goals
            have HN : Hid (r = -1) := Lib.hid (by rw [← HR.out]; exact numR_none (by rw [HC.out, HD.out, capL_bad (by rw [HDV.out]; omega)]))
            clear HC HDV
            go_wp2
            go_ret
            rw [HN.out]
            exact ⟨rfl, rfl⟩
    · have HE : Hid (capL 10 0 s.data.toList = some n) := Lib.hid (by
        rw [HC.out, List.drop_eq_nil_of_le (by simpa using Nat.le_of_not_lt hlt)]; rfl)
      clear HC
      by_cases h0 : s.data.toList = []
      · have hs0 : s.toList = [] := by rw [ByteArray.toList_eq]; exact h0
        have hs1 : s.toList.isEmpty = true := by rw [hs0]; rfl
        have HN : Hid (r = -1) := Lib.hid (by rw [← HR.out, h0]; exact numR_nil)
        clear HR h0
        go_wp2
        go_ret
        rw [HN.out]
        exact ⟨rfl, rfl⟩
      · have hs0 : ¬ s.toList = [] := by rw [ByteArray.toList_eq]; exact h0
        have hs1 : s.toList.isEmpty = false := by simpa using hs0
        have HN : Hid (r = n) := Lib.hid (by rw [← HR.out]; exact numR_some h0 HE.out)
        clear HR h0
        go_wp2
        go_ret
        rw [HN.out]
        exact ⟨rfl, rfl⟩
set_option maxHeartbeats 2000000 in
set_option maxRecDepth 100000 in
theorem number16_any (s : ByteArray) (w : World) (hs : s.size ≤ 1000000000) :
    Calls Tryz.prog 125 #[.string s, .int .i64 16] w fun e w' => e = .returned (.int .i64 (numR 16 s.data.toList)) ∧ w = w' := by
  obtain ⟨r, hr⟩ : ∃ r, numR 16 s.data.toList = r := ⟨_, rfl⟩
  have HR := Lib.hid hr
  rw [hr]
  clear hr
  go_enter Tryz.func125, Tryz.ntmps125
  go_wp2
  go_loop [5, 6, 7, 8] (fun nv i dv cv => ∃ (k : Nat) (n : Int), k ≤ s.size ∧ i = .int .i64 k ∧ nv = .int .i64 n ∧ 0 ≤ n ∧ n ≤ 33000000 ∧ Hid (capL 16 0 s.data.toList = capL 16 n (s.data.toList.drop k))) (fun _ i _ _ => ((s.size : Int) - intOf i).toNat)
  case atStart => exact ⟨0, 0, by omega, rfl, rfl, by omega, by omega, Lib.hid rfl⟩
  case round =>
    obtain ⟨k, n, hk, rfl, rfl, hn0, hn1, HC⟩ := hrel
    by_cases hlt : k < s.size
    · have HD := Lib.hid (drop_byte s k hlt)
      go_wp2_with fail
      have hc := u8_lt s[k]
      refine (small_any _ _ (by omega) hc).mono ?_
      rintro e w2 ⟨rfl, rfl⟩
      have HV : Hid (∀ x, lowB (s[k].toNat : Int) = x → digV (s[k].toNat : Int) = if 48 ≤ x ∧ x ≤ 57 then x - 48 else if 97 ≤ x ∧ x ≤ 102 then x - 87 else 99) := Lib.hid (by rintro x rfl; rfl)
      have hx : 0 ≤ lowB (s[k].toNat : Int) ∧ lowB (s[k].toNat : Int) < 256 := by unfold lowB; split <;> omega
      obtain ⟨x, hxe⟩ : ∃ x, lowB (s[k].toNat : Int) = x := ⟨_, rfl⟩
      have HV2 := Lib.hid (HV.out x hxe)
      rw [hxe] at hx ⊢
      clear hxe HV hc
      by_cases h48 : 48 ≤ x ∧ x ≤ 57
      · have HDV : Hid (digV (s[k].toNat : Int) = x - 48) := Lib.hid (by rw [HV2.out, if_pos h48])
        clear HV2
        obtain ⟨h48, h57⟩ := h48
        have hd : digV (s[k].toNat : Int) = x - 48 := HDV.out
        by_cases hn : n < 2000000
        · have HS : Hid (capL 16 0 s.data.toList = capL 16 (n * 16 + (x - 48)) (s.data.toList.drop (k + 1))) := Lib.hid (by
            rw [HC.out, HD.out, capL_low (by rw [hd]; omega) hn, hd])
          clear hd HC HDV
          go_wp2
          go_round
          case rel => exact ⟨k + 1, n * 16 + (x - 48), by omega, by go_num, by go_num, by omega, by omega, HS⟩
          case measure => simp [intOf]; omega
        · have HS : Hid (capL 16 0 s.data.toList = capL 16 n (s.data.toList.drop (k + 1))) := Lib.hid (by
            rw [HC.out, HD.out, capL_high (by rw [hd]; omega) hn])
          clear hd HC HDV
          go_wp2
          go_round
          case rel => exact ⟨k + 1, n, by omega, by go_num, rfl, by omega, by omega, HS⟩
          case measure => simp [intOf]; omega
      · by_cases h97 : 97 ≤ x ∧ x ≤ 102
        · have HDV : Hid (digV (s[k].toNat : Int) = x - 87) := Lib.hid (by rw [HV2.out, if_neg h48, if_pos h97])
          clear HV2 h48
          obtain ⟨h97, h102⟩ := h97
          have hd : digV (s[k].toNat : Int) = x - 87 := HDV.out
          by_cases hn : n < 2000000
          · have HS : Hid (capL 16 0 s.data.toList = capL 16 (n * 16 + (x - 87)) (s.data.toList.drop (k + 1))) := Lib.hid (by
              rw [HC.out, HD.out, capL_low (by rw [hd]; omega) hn, hd])
            clear hd HC HDV
            go_wp2
            go_round
            case rel => exact ⟨k + 1, n * 16 + (x - 87), by omega, by go_num, by go_num, by omega, by omega, HS⟩
            case measure => simp [intOf]; omega
          · have HS : Hid (capL 16 0 s.data.toList = capL 16 n (s.data.toList.drop (k + 1))) := Lib.hid (by
              rw [HC.out, HD.out, capL_high (by rw [hd]; omega) hn])
            clear hd HC HDV
            go_wp2
            go_round
            case rel => exact ⟨k + 1, n, by omega, by go_num, rfl, by omega, by omega, HS⟩
            case measure => simp [intOf]; omega
        · have HDV : Hid (digV (s[k].toNat : Int) = 99) := Lib.hid (by rw [HV2.out, if_neg h48, if_neg h97])
          clear HV2
          have h3 : x < 48 ∨ (57 < x ∧ x < 97) ∨ 102 < x := by omega
          clear h48 h97
          rcases h3 with h3 | ⟨h3, h4⟩ | h3
          all_goals
            have HN : Hid (r = -1) := Lib.hid (by rw [← HR.out]; exact numR_none (by rw [HC.out, HD.out, capL_bad (by rw [HDV.out]; omega)]))
            clear HC HDV
            go_wp2
            go_ret
            rw [HN.out]
            exact ⟨rfl, rfl⟩
    · have HE : Hid (capL 16 0 s.data.toList = some n) := Lib.hid (by
        rw [HC.out, List.drop_eq_nil_of_le (by simpa using Nat.le_of_not_lt hlt)]; rfl)
      clear HC
      by_cases h0 : s.data.toList = []
      · have hs0 : s.toList = [] := by rw [ByteArray.toList_eq]; exact h0
        have hs1 : s.toList.isEmpty = true := by rw [hs0]; rfl
        have HN : Hid (r = -1) := Lib.hid (by rw [← HR.out, h0]; exact numR_nil)
        clear HR h0
        go_wp2
        go_ret
        rw [HN.out]
        exact ⟨rfl, rfl⟩
      · have hs0 : ¬ s.toList = [] := by rw [ByteArray.toList_eq]; exact h0
        have hs1 : s.toList.isEmpty = false := by simpa using hs0
        have HN : Hid (r = n) := Lib.hid (by rw [← HR.out]; exact numR_some h0 HE.out)
        clear HR h0
        go_wp2
        go_ret
        rw [HN.out]
        exact ⟨rfl, rfl⟩
end Go.Proofs.YtbdamneophbnnaaGreatDoor
namespace Go.Proofs.YtbdamneophbnnaaGreatDoor
open Go.RowKit Wb
theorem cap_num {base : Int} (hb : 1 ≤ base) (l : List UInt8) :
    (numL base l = none ∧ numR base l = -1) ∨ ∃ m M, numL base l = some M ∧ numR base l = m ∧ 0 ≤ m ∧ (m = M ∨ (2000000 ≤ m ∧ 2000000 ≤ M)) := by
  by_cases h : l = []
  · subst h; exact .inl ⟨rfl, rfl⟩
  · rcases cap_dig base hb l 0 0 (Int.le_refl _) (.inl rfl) with ⟨h1, h2⟩ | ⟨m, M, h1, h2, h3, h4⟩
    · exact .inl ⟨by unfold numL; rw [if_neg h, h2], numR_none h1⟩
    · exact .inr ⟨m, M, by unfold numL; rw [if_neg h, h2], numR_some h h1, h3, h4⟩
theorem charB_big {n : Int} (h : 2000000 ≤ n) : charB n = false := by
  unfold charB
  simp [inS, charS]
  omega
def refM (t : List UInt8) : Int := if t.take 2 = [35, 120] then numR 16 (t.drop 2) else if t.take 1 = [35] then numR 10 (t.drop 1) else -1
theorem refN_M (t : List UInt8) : (match refN t with | some n => if charB n then some (enc n) else none | none => none) = if 0 ≤ refM t ∧ charB (refM t) = true then some (enc (refM t)) else none := by
  have key : ∀ (base : Int) (l : List UInt8), 1 ≤ base → (match numL base l with | some n => if charB n then some (enc n) else none | none => none) = if 0 ≤ numR base l ∧ charB (numR base l) = true then some (enc (numR base l)) else none := by
    intro base l hb
    rcases cap_num hb l with ⟨h1, h2⟩ | ⟨m, M, h1, h2, h3, h4⟩
    · rw [h1, h2]; simp
    · rw [h1, h2]
      rcases h4 with rfl | ⟨h5, h6⟩
      · simp [h3]
      · simp only [charB_big h5, charB_big h6]; simp
  unfold refN refM
  by_cases h1 : t.take 2 = [35, 120]
  · simp only [if_pos h1]; exact key 16 _ (by omega)
  · simp only [if_neg h1]
    by_cases h2 : t.take 1 = [35]
    · simp only [if_pos h2]; exact key 10 _ (by omega)
    · simp only [if_neg h2]; simp
theorem refV_M {t : List UInt8} (h1 : t ≠ sLt) (h2 : t ≠ sGt) (h3 : t ≠ sAmp) (h4 : t ≠ sQuot) (h5 : t ≠ sApos) :
    refV t = if 0 ≤ refM t ∧ charB (refM t) = true then some (enc (refM t)) else none := by
  unfold refV
  rw [if_neg h1, if_neg h2, if_neg h3, if_neg h4, if_neg h5]
  exact refN_M t
theorem begAt_L (s t : ByteArray) (i : Nat) : begAt s i t = true ↔ (s.data.toList.drop i).take t.size = t.data.toList := by
  unfold begAt
  rw [ByteArray.toList_eq, ByteArray.toList_eq, beq_iff_eq, extract_L]
  rw [show i + t.size - i = t.size from by omega]
theorem begAt_one (s : ByteArray) (i : Nat) (c : UInt8) (h : i < s.size) : begAt s i ⟨#[c]⟩ = true ↔ s[i] = c := by
  rw [begAt_L, drop_byte s i h]
  show [s[i]] = [c] ↔ _
  simp
def refAt (s : ByteArray) (k : Nat) : Option (List UInt8 × Nat) :=
  match semi (s.data.toList.drop (k + 1)) with
  | none => none
  | some (t, _) => match refV t with
    | none => none
    | some x => some (x, t.length)
theorem semi_at {s : ByteArray} {k : Nat} (hk : k < s.size) (h38 : s[k] = 38) {r : Int} (h : IdxIs s k ⟨#[59]⟩ r) :
    (r = -1 ∧ semi (s.data.toList.drop (k + 1)) = none) ∨ ∃ e : Nat, r = e ∧ k + 1 ≤ e ∧ e < s.size ∧ semi (s.data.toList.drop (k + 1)) = some ((s.extract (k + 1) e).data.toList, s.data.toList.drop (e + 1)) ∧ (s.extract (k + 1) e).data.toList.length = e - (k + 1) := by
  have one : (⟨#[59]⟩ : ByteArray).size = 1 := rfl
  have hL : s.data.toList.length = s.size := by simp
  have at_ : ∀ j (hj : j < (s.data.toList.drop (k + 1)).length), (s.data.toList.drop (k + 1))[j] = s[k + 1 + j]'(by simp at hj; omega) := by
    intro j hj
    rw [List.getElem_drop]; rfl
  rcases h with ⟨rfl, h⟩ | ⟨e, rfl, h1, h2, h3, h4⟩
  · refine .inl ⟨rfl, semi_none _ (fun j hj => ?_)⟩
    rw [at_ j hj]
    intro he
    simp at hj
    have := (begAt_one s (k + 1 + j) 59 (by omega)).2 he
    rw [h (k + 1 + j) (by omega) (by rw [one]; omega)] at this
    cases this
  · rw [one] at h2
    have h5 := (begAt_one s e 59 (by omega)).1 h3
    have hne : e ≠ k := by
      rintro rfl
      rw [h38] at h5
      exact absurd h5 (by decide)
    refine .inr ⟨e, rfl, by omega, by omega, ?_, ?_⟩
    · have hj : e - (k + 1) < (s.data.toList.drop (k + 1)).length := by simp; omega
      rw [semi_some _ (e - (k + 1)) hj]
      · rw [extract_L, List.drop_drop]
        congr 3
        omega
      · rw [at_ _ hj]
        have : k + 1 + (e - (k + 1)) = e := by omega
        simp only [this, h5]
      · intro j hjk
        rw [at_ j (by omega)]
        intro he
        have := (begAt_one s (k + 1 + j) 59 (by omega)).2 he
        rw [h4 (k + 1 + j) (by omega) (by omega)] at this
        cases this
    · rw [extract_L]; simp; omega
end Go.Proofs.YtbdamneophbnnaaGreatDoor
namespace Go.Proofs.YtbdamneophbnnaaGreatDoor
open Go.RowKit Wb
def refT (s : ByteArray) (k : Nat) : ByteArray × Int :=
  match refAt s k with
  | some (x, n) => (⟨x.toArray⟩, (k : Int) + n + 2)
  | none => (⟨#[]⟩, k)
theorem refT_no {s : ByteArray} {k : Nat} (h : semi (s.data.toList.drop (k + 1)) = none) : refT s k = (⟨#[]⟩, (k : Int)) := by
  unfold refT refAt; rw [h]
theorem refT_bad {s : ByteArray} {k : Nat} {t r : List UInt8} (h : semi (s.data.toList.drop (k + 1)) = some (t, r)) (hv : refV t = none) : refT s k = (⟨#[]⟩, (k : Int)) := by
  unfold refT refAt; rw [h]; simp only [hv]
theorem refT_ok {s : ByteArray} {k : Nat} {t r x : List UInt8} (h : semi (s.data.toList.drop (k + 1)) = some (t, r)) (hv : refV t = some x) : refT s k = (⟨x.toArray⟩, (k : Int) + t.length + 2) := by
  unfold refT refAt; rw [h]; simp only [hv]
theorem begB_0 (t x : ByteArray) : begB t 0 x = true ↔ t.data.toList.take x.size = x.data.toList := by
  unfold begB
  have h := begAt_L t x 0
  rw [List.drop_zero] at h
  rw [← h]
  simp only [Int.le_refl, decide_true, Bool.true_and, Bool.and_eq_true, decide_eq_true_eq, Int.toNat_zero]
  constructor
  · exact fun h => h.2
  · intro h'
    refine ⟨?_, h'⟩
    have h2 := congrArg List.length (h.1 h')
    simp at h2
    omega
theorem begB_size {t x : ByteArray} (h : begB t 0 x = true) : (x.size : Int) ≤ t.size := by
  unfold begB at h
  simp at h
  omega
def nm : Nat → List UInt8
  | 0 => sLt
  | 1 => sGt
  | 2 => sAmp
  | 3 => sQuot
  | _ => sApos
set_option maxHeartbeats 2000000 in
set_option maxRecDepth 100000 in
theorem reference_any (s : ByteArray) (k : Nat) (w : World) (hk : k < s.size) (h38 : s[k] = 38) (hs : s.size ≤ 1000000000) :
    Calls Tryz.prog 100 #[.string s, .int .i64 k] w fun e w' => e = .returned (.tuple #[.string (refT s k).1, .int .i64 (refT s k).2]) ∧ Below w.heap.size w w' := by
  obtain ⟨x0, nx, hr⟩ : ∃ x0 nx, refT s k = (x0, nx) := ⟨_, _, rfl⟩
  have HR := Lib.hid hr
  have H38 := Lib.hid h38
  rw [hr]
  clear hr h38
  go_enter Tryz.func100, Tryz.ntmps100
  go_wp2_with fail
  refine (index_any s ⟨#[59]⟩ k _ hs (by decide) (by omega)).mono ?_
  rintro e w1 ⟨r, rfl, hix, rfl⟩
  rcases semi_at hk H38.out hix with ⟨rfl, hsm⟩ | ⟨e, rfl, he1, he2, hsm, hlen⟩
  · obtain ⟨r1, r2⟩ : x0 = ⟨#[]⟩ ∧ nx = (k : Int) := by have := HR.out.symm.trans (refT_no hsm); simpa using this
    clear hix hsm HR H38
    subst r1 r2
    go_wp2
    go_ret2
    exact ⟨rfl, Below.refl _ _⟩
  · have HS := Lib.hid hsm
    have HL := Lib.hid hlen
    have hts : (s.extract (k + 1) e).size ≤ 1000000000 := by simp; omega
    clear hix hsm hlen H38
    go_wp2
    generalize s.extract (k + 1) e = t at *
    go_loop [9] (fun i => ∃ j : Nat, j ≤ 5 ∧ i = .int .i64 ((2 * j : Nat) : Int) ∧ Hid (∀ i, i < j → t.data.toList ≠ nm i)) (fun i => (10 - intOf i).toNat)
    case atStart => exact ⟨0, by omega, rfl, Lib.hid (fun i hi => absurd hi (by omega))⟩
    case round =>
      obtain ⟨j, hj, rfl, HJ⟩ := hrel
      rcases (by omega : j = 0 ∨ j = 1 ∨ j = 2 ∨ j = 3 ∨ j = 4 ∨ j = 5) with rfl | rfl | rfl | rfl | rfl | rfl
      · by_cases q : t.data.toList = sLt
        · obtain ⟨r1, r2⟩ : x0 = ⟨#[60]⟩ ∧ nx = (e : Int) + 1 := by
            have h1 := refT_ok HS.out (show refV t.data.toList = some [60] from by rw [q]; rfl)
            have h2 := HR.out.symm.trans h1
            simp only [Prod.mk.injEq] at h2
            have h3 := HL.out
            exact ⟨h2.1, by omega⟩
          have hq : t.toList = [108, 116] := by rw [ByteArray.toList_eq, q]; rfl
          clear HJ HS HL HR q
          subst r1 r2
          go_wp2
          go_ret2
          exact ⟨rfl, (Below.refl _ _).alloc (Nat.le_refl _) _⟩
        · have hq : ([108, 116] == t.toList) = false := by
            rw [ByteArray.toList_eq]
            cases hh : ([108, 116] == t.data.toList)
            · rfl
            · exact absurd (beq_iff_eq.1 hh).symm q
          have HQ := Lib.hid q
          clear q
          go_wp2
          go_round
          case rel => exact ⟨1, by omega, rfl, Lib.hid (fun i hi => by
            rcases (by omega : i = 0 ∨ i < 0) with h | h
            · rw [h]; exact HQ.out
            · exact HJ.out i h)⟩
          case measure => decide
      · by_cases q : t.data.toList = sGt
        · obtain ⟨r1, r2⟩ : x0 = ⟨#[62]⟩ ∧ nx = (e : Int) + 1 := by
            have h1 := refT_ok HS.out (show refV t.data.toList = some [62] from by rw [q]; rfl)
            have h2 := HR.out.symm.trans h1
            simp only [Prod.mk.injEq] at h2
            have h3 := HL.out
            exact ⟨h2.1, by omega⟩
          have hq : t.toList = [103, 116] := by rw [ByteArray.toList_eq, q]; rfl
          clear HJ HS HL HR q
          subst r1 r2
          go_wp2
          go_ret2
          exact ⟨rfl, (Below.refl _ _).alloc (Nat.le_refl _) _⟩
        · have hq : ([103, 116] == t.toList) = false := by
            rw [ByteArray.toList_eq]
            cases hh : ([103, 116] == t.data.toList)
            · rfl
            · exact absurd (beq_iff_eq.1 hh).symm q
          have HQ := Lib.hid q
          clear q
          go_wp2
          go_round
          case rel => exact ⟨2, by omega, rfl, Lib.hid (fun i hi => by
            rcases (by omega : i = 1 ∨ i < 1) with h | h
            · rw [h]; exact HQ.out
            · exact HJ.out i h)⟩
          case measure => decide
      · by_cases q : t.data.toList = sAmp
        · obtain ⟨r1, r2⟩ : x0 = ⟨#[38]⟩ ∧ nx = (e : Int) + 1 := by
            have h1 := refT_ok HS.out (show refV t.data.toList = some [38] from by rw [q]; rfl)
            have h2 := HR.out.symm.trans h1
            simp only [Prod.mk.injEq] at h2
            have h3 := HL.out
            exact ⟨h2.1, by omega⟩
          have hq : t.toList = [97, 109, 112] := by rw [ByteArray.toList_eq, q]; rfl
          clear HJ HS HL HR q
          subst r1 r2
          go_wp2
          go_ret2
          exact ⟨rfl, (Below.refl _ _).alloc (Nat.le_refl _) _⟩
        · have hq : ([97, 109, 112] == t.toList) = false := by
            rw [ByteArray.toList_eq]
            cases hh : ([97, 109, 112] == t.data.toList)
            · rfl
            · exact absurd (beq_iff_eq.1 hh).symm q
          have HQ := Lib.hid q
          clear q
          go_wp2
          go_round
          case rel => exact ⟨3, by omega, rfl, Lib.hid (fun i hi => by
            rcases (by omega : i = 2 ∨ i < 2) with h | h
            · rw [h]; exact HQ.out
            · exact HJ.out i h)⟩
          case measure => decide
      · by_cases q : t.data.toList = sQuot
        · obtain ⟨r1, r2⟩ : x0 = ⟨#[34]⟩ ∧ nx = (e : Int) + 1 := by
            have h1 := refT_ok HS.out (show refV t.data.toList = some [34] from by rw [q]; rfl)
            have h2 := HR.out.symm.trans h1
            simp only [Prod.mk.injEq] at h2
            have h3 := HL.out
            exact ⟨h2.1, by omega⟩
          have hq : t.toList = [113, 117, 111, 116] := by rw [ByteArray.toList_eq, q]; rfl
          clear HJ HS HL HR q
          subst r1 r2
          go_wp2
          go_ret2
          exact ⟨rfl, (Below.refl _ _).alloc (Nat.le_refl _) _⟩
        · have hq : ([113, 117, 111, 116] == t.toList) = false := by
            rw [ByteArray.toList_eq]
            cases hh : ([113, 117, 111, 116] == t.data.toList)
            · rfl
            · exact absurd (beq_iff_eq.1 hh).symm q
          have HQ := Lib.hid q
          clear q
          go_wp2
          go_round
          case rel => exact ⟨4, by omega, rfl, Lib.hid (fun i hi => by
            rcases (by omega : i = 3 ∨ i < 3) with h | h
            · rw [h]; exact HQ.out
            · exact HJ.out i h)⟩
          case measure => decide
      · by_cases q : t.data.toList = sApos
        · obtain ⟨r1, r2⟩ : x0 = ⟨#[39]⟩ ∧ nx = (e : Int) + 1 := by
            have h1 := refT_ok HS.out (show refV t.data.toList = some [39] from by rw [q]; rfl)
            have h2 := HR.out.symm.trans h1
            simp only [Prod.mk.injEq] at h2
            have h3 := HL.out
            exact ⟨h2.1, by omega⟩
          have hq : t.toList = [97, 112, 111, 115] := by rw [ByteArray.toList_eq, q]; rfl
          clear HJ HS HL HR q
          subst r1 r2
          go_wp2
          go_ret2
          exact ⟨rfl, (Below.refl _ _).alloc (Nat.le_refl _) _⟩
        · have hq : ([97, 112, 111, 115] == t.toList) = false := by
            rw [ByteArray.toList_eq]
            cases hh : ([97, 112, 111, 115] == t.data.toList)
            · rfl
            · exact absurd (beq_iff_eq.1 hh).symm q
          have HQ := Lib.hid q
          clear q
          go_wp2
          go_round
          case rel => exact ⟨5, by omega, rfl, Lib.hid (fun i hi => by
            rcases (by omega : i = 4 ∨ i < 4) with h | h
            · rw [h]; exact HQ.out
            · exact HJ.out i h)⟩
          case measure => decide
      · have n0 := HJ.out 0 (by omega)
        have n1 := HJ.out 1 (by omega)
        have n2 := HJ.out 2 (by omega)
        have n3 := HJ.out 3 (by omega)
        have n4 := HJ.out 4 (by omega)
        have HV := Lib.hid (refV_M n0 n1 n2 n3 n4)
        clear HJ n0 n1 n2 n3 n4
        have hb0 : Below w.heap.size w (w.alloc (.cells #[.string ⟨#[108, 116]⟩, .string ⟨#[60]⟩, .string ⟨#[103, 116]⟩, .string ⟨#[62]⟩, .string ⟨#[97, 109, 112]⟩, .string ⟨#[38]⟩, .string ⟨#[113, 117, 111, 116]⟩, .string ⟨#[34]⟩, .string ⟨#[97, 112, 111, 115]⟩, .string ⟨#[39]⟩] 9)) := (Below.refl _ _).alloc (Nat.le_refl _) _
        go_wp2_with fail
        refine (begins_any t ⟨#[35, 120]⟩ 0 _ hts (by decide) (by omega) (by omega)).mono ?_
        cases hb16 : begB t 0 ⟨#[35, 120]⟩
        · have q16 : ¬ t.data.toList.take 2 = [35, 120] := fun h => by
            rw [(begB_0 t ⟨#[35, 120]⟩).2 h] at hb16; cases hb16
          have Q16 := Lib.hid q16
          clear hb16 q16
          rintro e' w2 ⟨rfl, rfl⟩
          go_wp2_with fail
          refine (begins_any t ⟨#[35]⟩ 0 _ hts (by decide) (by omega) (by omega)).mono ?_
          cases hb10 : begB t 0 ⟨#[35]⟩
          · have q10 : ¬ t.data.toList.take 1 = [35] := fun h => by
              rw [(begB_0 t ⟨#[35]⟩).2 h] at hb10; cases hb10
            obtain ⟨m, hme, hm⟩ : ∃ m : Int, m = -1 ∧ refM t.data.toList = m := ⟨-1, rfl, by unfold refM; rw [if_neg Q16.out, if_neg q10]⟩
            have HM2 := Lib.hid hm
            clear hb10 q10 Q16 hm
            subst hme
            obtain ⟨r1, r2⟩ : x0 = ⟨#[]⟩ ∧ nx = (k : Int) := by
              have h1 := refT_bad HS.out (HV.out.trans (if_neg (by rw [HM2.out]; omega)))
              have h2 := HR.out.symm.trans h1
              simpa using h2
            clear HS HL HR HV HM2
            subst r1 r2
            rintro e' w2 ⟨rfl, rfl⟩
            go_wp2
            go_ret2
            exact ⟨rfl, hb0⟩
          · have q10 : t.data.toList.take 1 = [35] := (begB_0 t ⟨#[35]⟩).1 hb10
            have hsz := begB_size hb10
            obtain ⟨m, hm⟩ : ∃ m : Int, refM t.data.toList = m := ⟨_, rfl⟩
            have HN : Hid (numR 10 (t.extract 1 t.size).data.toList = m) := Lib.hid (by
              rw [← hm]
              unfold refM
              rw [if_neg Q16.out, if_pos q10, extract_L, List.take_of_length_le (by simp)])
            have h1 : (1 : Int) ≤ t.size := hsz
            clear hb10 q10 Q16 hsz
            rintro e' w2 ⟨rfl, rfl⟩
            go_wp2_with fail
            refine (number10_any (t.extract 1 t.size) _ (by simp; omega)).mono ?_
            rw [HN.out]
            clear HN
            rintro e' w2 ⟨rfl, rfl⟩
            have HM2 := Lib.hid hm
            clear hm
            by_cases hneg : m < 0
            · obtain ⟨r1, r2⟩ : x0 = ⟨#[]⟩ ∧ nx = (k : Int) := by
                have h1 := refT_bad HS.out (HV.out.trans (if_neg (by rw [HM2.out]; omega)))
                have h2 := HR.out.symm.trans h1
                simpa using h2
              clear HS HL HR HV HM2
              subst r1 r2
              go_wp2
              go_ret2
              exact ⟨rfl, hb0⟩
            · go_wp2_with fail
              refine (rchar_any m _).mono ?_
              cases hc : charB m
              · obtain ⟨r1, r2⟩ : x0 = ⟨#[]⟩ ∧ nx = (k : Int) := by
                  have h1 := refT_bad HS.out (HV.out.trans (if_neg (by rw [HM2.out, hc]; simp)))
                  have h2 := HR.out.symm.trans h1
                  simpa using h2
                clear HS HL HR HV HM2 hc
                subst r1 r2
                rintro e' w2 ⟨rfl, hb2⟩
                replace hb0 := hb0.trans (hb2.mono hb0.size)
                go_wp2
                go_ret2
                exact ⟨rfl, hb0⟩
              · obtain ⟨r1, r2⟩ : x0 = ⟨(enc m).toArray⟩ ∧ nx = (e : Int) + 1 := by
                  have h1 := refT_ok HS.out (HV.out.trans (if_pos (by rw [HM2.out]; exact ⟨by omega, hc⟩)))
                  have h2 := HR.out.symm.trans h1
                  rw [HM2.out] at h2
                  simp only [Prod.mk.injEq] at h2
                  have h3 := HL.out
                  exact ⟨h2.1, by omega⟩
                clear HS HL HR HV HM2 hc
                subst r1 r2
                rintro e' w2 ⟨rfl, hb2⟩
                replace hb0 := hb0.trans (hb2.mono hb0.size)
                clear hb2
                go_wp2_with fail
                refine (rput_any m _).mono ?_
                rintro e' w3 ⟨rfl, hb2⟩
                replace hb0 := hb0.trans (hb2.mono hb0.size)
                clear hb2
                go_wp2
                go_ret2
                exact ⟨rfl, hb0⟩
        · have q16 : t.data.toList.take 2 = [35, 120] := (begB_0 t ⟨#[35, 120]⟩).1 hb16
          have hsz := begB_size hb16
          obtain ⟨m, hm⟩ : ∃ m : Int, refM t.data.toList = m := ⟨_, rfl⟩
          have HN : Hid (numR 16 (t.extract 2 t.size).data.toList = m) := Lib.hid (by
            rw [← hm]
            unfold refM
            rw [if_pos q16, extract_L, List.take_of_length_le (by simp)])
          have h1 : (2 : Int) ≤ t.size := hsz
          clear hb16 q16 hsz
          rintro e' w2 ⟨rfl, rfl⟩
          go_wp2_with fail
          refine (number16_any (t.extract 2 t.size) _ (by simp; omega)).mono ?_
          rw [HN.out]
          clear HN
          rintro e' w2 ⟨rfl, rfl⟩
          have HM2 := Lib.hid hm
          clear hm
          by_cases hneg : m < 0
          · obtain ⟨r1, r2⟩ : x0 = ⟨#[]⟩ ∧ nx = (k : Int) := by
              have h1 := refT_bad HS.out (HV.out.trans (if_neg (by rw [HM2.out]; omega)))
              have h2 := HR.out.symm.trans h1
              simpa using h2
            clear HS HL HR HV HM2
            subst r1 r2
            go_wp2
            go_ret2
            exact ⟨rfl, hb0⟩
          · go_wp2_with fail
            refine (rchar_any m _).mono ?_
            cases hc : charB m
            · obtain ⟨r1, r2⟩ : x0 = ⟨#[]⟩ ∧ nx = (k : Int) := by
                have h1 := refT_bad HS.out (HV.out.trans (if_neg (by rw [HM2.out, hc]; simp)))
                have h2 := HR.out.symm.trans h1
                simpa using h2
              clear HS HL HR HV HM2 hc
              subst r1 r2
              rintro e' w2 ⟨rfl, hb2⟩
              replace hb0 := hb0.trans (hb2.mono hb0.size)
              go_wp2
              go_ret2
              exact ⟨rfl, hb0⟩
            · obtain ⟨r1, r2⟩ : x0 = ⟨(enc m).toArray⟩ ∧ nx = (e : Int) + 1 := by
                have h1 := refT_ok HS.out (HV.out.trans (if_pos (by rw [HM2.out]; exact ⟨by omega, hc⟩)))
                have h2 := HR.out.symm.trans h1
                rw [HM2.out] at h2
                simp only [Prod.mk.injEq] at h2
                have h3 := HL.out
                exact ⟨h2.1, by omega⟩
              clear HS HL HR HV HM2 hc
              subst r1 r2
              rintro e' w2 ⟨rfl, hb2⟩
              replace hb0 := hb0.trans (hb2.mono hb0.size)
              clear hb2
              go_wp2_with fail
              refine (rput_any m _).mono ?_
              rintro e' w3 ⟨rfl, hb2⟩
              replace hb0 := hb0.trans (hb2.mono hb0.size)
              clear hb2
              go_wp2
              go_ret2
              exact ⟨rfl, hb0⟩
end Go.Proofs.YtbdamneophbnnaaGreatDoor
namespace Go.Proofs.YtbdamneophbnnaaGreatDoor
open Go.RowKit Wb
theorem map_app (o : Except Nat (List UInt8)) (out x : List UInt8) : (o.map (x ++ ·)).map (out ++ ·) = o.map ((out ++ x) ++ ·) := by
  cases o <;> simp [Except.map]
theorem map_cons (o : Except Nat (List UInt8)) (out : List UInt8) (c : UInt8) : (o.map (c :: ·)).map (out ++ ·) = o.map ((out ++ [c]) ++ ·) := by
  cases o <;> simp [Except.map]
theorem refAt_semi {s : ByteArray} {k : Nat} {x : List UInt8} {n : Nat} (h : refAt s k = some (x, n)) :
    ∃ t r, semi (s.data.toList.drop (k + 1)) = some (t, r) ∧ refV t = some x ∧ t.length = n := by
  unfold refAt at h
  cases hs : semi (s.data.toList.drop (k + 1)) with
  | none => rw [hs] at h; cases h
  | some p =>
    obtain ⟨t, r⟩ := p
    rw [hs] at h
    simp only at h
    cases hv : refV t with
    | none => rw [hv] at h; cases h
    | some y =>
      rw [hv] at h
      simp only [Option.some.injEq, Prod.mk.injEq] at h
      obtain ⟨rfl, rfl⟩ := h
      exact ⟨t, r, rfl, hv, rfl⟩
theorem semi_len : ∀ {l t r : List UInt8}, semi l = some (t, r) → r = l.drop (t.length + 1) ∧ t.length + 1 ≤ l.length
  | [], _, _, h => by cases h
  | c :: l, t, r, h => by
    unfold semi at h
    split at h
    · simp only [Option.some.injEq, Prod.mk.injEq] at h
      obtain ⟨rfl, rfl⟩ := h
      simp
    · cases hs : semi l with
      | none => rw [hs] at h; cases h
      | some p =>
        obtain ⟨a, b⟩ := p
        rw [hs] at h
        simp only [Option.some.injEq, Prod.mk.injEq] at h
        obtain ⟨rfl, rfl⟩ := h
        obtain ⟨h1, h2⟩ := semi_len hs
        refine ⟨by rw [h1]; simp, by simp; omega⟩
theorem un_ref {s : ByteArray} {k f : Nat} {x : List UInt8} {n : Nat} {attr : Bool} (hk : k < s.size) (h38 : s[k] = 38) (h : refAt s k = some (x, n)) :
    unL attr (f + 1) (s.data.toList.drop k) k = (unL attr f (s.data.toList.drop (k + n + 2)) (k + n + 2)).map (x ++ ·) ∧ k + n + 2 ≤ s.size := by
  obtain ⟨t, r, h1, h2, rfl⟩ := refAt_semi h
  obtain ⟨h3, h4⟩ := semi_len h1
  have hL : s.data.toList.length = s.size := by simp
  constructor
  · rw [drop_byte s k hk]
    conv => lhs; unfold unL
    rw [if_pos h38, h1]
    simp only [h2]
    rw [h3, List.drop_drop, show k + 1 + (t.length + 1) = k + t.length + 2 from by omega]
  · simp at h4
    omega
theorem un_bad {s : ByteArray} {k f : Nat} {attr : Bool} (hk : k < s.size) (h38 : s[k] = 38) (h : refAt s k = none) :
    unL attr (f + 1) (s.data.toList.drop k) k = .error k := by
  rw [drop_byte s k hk]
  unfold unL
  rw [if_pos h38]
  unfold refAt at h
  cases hs : semi (s.data.toList.drop (k + 1)) with
  | none => rfl
  | some p =>
    obtain ⟨t, r⟩ := p
    rw [hs] at h
    simp only at h ⊢
    cases hv : refV t with
    | none => rfl
    | some y => rw [hv] at h; cases h
theorem un_crlf {s : ByteArray} {k f : Nat} {attr : Bool} (hk : k < s.size) (hk1 : k + 1 < s.size) (h13 : s[k] = 13) (h10 : s[k + 1] = 10) :
    unL attr (f + 1) (s.data.toList.drop k) k = (unL attr f (s.data.toList.drop (k + 2)) (k + 2)).map ((if attr then 32 else 10) :: ·) := by
  rw [drop_byte s k hk]
  conv => lhs; unfold unL
  rw [if_neg (by rw [h13]; decide), if_pos h13, drop_byte s (k + 1) hk1, h10]
  simp
theorem un_cr {s : ByteArray} {k f : Nat} {attr : Bool} (hk : k < s.size) (h13 : s[k] = 13) (h : ∀ h1 : k + 1 < s.size, s[k + 1] ≠ 10) :
    unL attr (f + 1) (s.data.toList.drop k) k = (unL attr f (s.data.toList.drop (k + 1)) (k + 1)).map ((if attr then 32 else 10) :: ·) := by
  rw [drop_byte s k hk]
  conv => lhs; unfold unL
  rw [if_neg (by rw [h13]; decide), if_pos h13, if_neg]
  by_cases h1 : k + 1 < s.size
  · rw [drop_byte s (k + 1) h1]
    simp [h h1]
  · rw [List.drop_eq_nil_of_le (by simp; omega)]
    simp
theorem un_other {s : ByteArray} {k f : Nat} {attr : Bool} (hk : k < s.size) (h38 : s[k] ≠ 38) (h13 : s[k] ≠ 13) :
    unL attr (f + 1) (s.data.toList.drop k) k = (unL attr f (s.data.toList.drop (k + 1)) (k + 1)).map ((if attr && (s[k] == 9 || s[k] == 10) then 32 else s[k]) :: ·) := by
  rw [drop_byte s k hk]
  conv => lhs; unfold unL
  rw [if_neg h38, if_neg h13]
theorem byte_eq (s : ByteArray) (k : Nat) (h : k < s.size) (c : UInt8) : ((s[k].toNat : Int) == (c.toNat : Int)) = decide (s[k] = c) := by
  by_cases e : s[k] = c
  · rw [e]; simp
  · have : s[k].toNat ≠ c.toNat := fun h => e (UInt8.toNat_inj.1 h)
    rw [decide_eq_false e]
    simp
    omega
end Go.Proofs.YtbdamneophbnnaaGreatDoor
