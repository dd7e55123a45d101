
/- Contracts of Check, Name and Trim of packages utf and watchbillref01. -/
import Derived.Test.YtclenfdhnccalaaDoorUtfE
import Derived.Test.YtclenfdhnccalaaDoorPlain2
namespace Go.Proofs.YtclenfdhnccalaaDoor
open Go.RowKit Wb

theorem runeS_dec (s : ByteArray) (p : Nat) (h : p < s.size) : runeS s p = dec (s.data.toList.drop p) := by
  unfold runeS
  rw [if_neg (by omega)]
  rfl

theorem drop_ne (s : ByteArray) (p : Nat) (h : p < s.size) : s.data.toList.drop p = s[p] :: s.data.toList.drop (p + 1) := drop_cons s p h

theorem chkL_cons (g : Nat) (c : UInt8) (l : List UInt8) (b : Int) : chkL (g + 1) (c :: l) b = if (dec (c :: l)).2 = 0 then b else chkL g ((c :: l).drop (dec (c :: l)).2.toNat) (b + (dec (c :: l)).2) := rfl
theorem nameL_cons' (g : Nat) (c : UInt8) (l : List UInt8) : nameL (g + 1) (c :: l) = if (dec (c :: l)).2 = 0 then false else partB (dec (c :: l)).1 && nameL g ((c :: l).drop (dec (c :: l)).2.toNat) := rfl

/-- One step of Check. -/
theorem chk_step (s : ByteArray) (p f m : Nat) (h : p < s.size) (hf : s.size - p ≤ f) (hm : (dec (s.data.toList.drop p)).2 = (m : Int)) (hm0 : m ≠ 0)
    (hc : chk s.data.toList = chkL f (s.data.toList.drop p) p) : s.size - (p + m) ≤ f - 1 ∧ chk s.data.toList = chkL (f - 1) (s.data.toList.drop (p + m)) ((p + m : Nat) : Int) := by
  refine ⟨by omega, ?_⟩
  rw [hc]
  obtain ⟨g, rfl⟩ : ∃ g, f = g + 1 := ⟨f - 1, by omega⟩
  have hd : (s.data.toList.drop p).drop m = s.data.toList.drop (p + m) := by rw [List.drop_drop]
  have hl := drop_ne s p h
  rw [hl] at hm hd ⊢
  have e : ((p + m : Nat) : Int) = (p : Int) + (m : Int) := by omega
  rw [Nat.add_sub_cancel, chkL_cons, if_neg (by omega), hm, Int.toNat_natCast, hd, e]

theorem chk_stop (s : ByteArray) (p f : Nat) (h : p < s.size) (hf : s.size - p ≤ f) (hm : (dec (s.data.toList.drop p)).2 = 0)
    (hc : chk s.data.toList = chkL f (s.data.toList.drop p) p) : chk s.data.toList = p := by
  rw [hc]
  obtain ⟨g, rfl⟩ : ∃ g, f = g + 1 := ⟨f - 1, by omega⟩
  have hl := drop_ne s p h
  rw [hl] at hm ⊢
  rw [chkL_cons, if_pos hm]

theorem chk_end (s : ByteArray) (p f : Nat) (h : ¬ p < s.size) (hc : chk s.data.toList = chkL f (s.data.toList.drop p) p) : chk s.data.toList = -1 := by
  rw [hc, List.drop_eq_nil_of_le (by simp; omega)]
  cases f <;> rfl

/-- One step of Name. -/
theorem name_step (s : ByteArray) (p f m : Nat) (b : Bool) (h : p < s.size) (hf : s.size - p ≤ f) (hm : (dec (s.data.toList.drop p)).2 = (m : Int)) (hm0 : m ≠ 0) (hp : partB (dec (s.data.toList.drop p)).1 = true)
    (hc : b = nameL f (s.data.toList.drop p)) : s.size - (p + m) ≤ f - 1 ∧ b = nameL (f - 1) (s.data.toList.drop (p + m)) := by
  refine ⟨by omega, ?_⟩
  rw [hc]
  obtain ⟨g, rfl⟩ : ∃ g, f = g + 1 := ⟨f - 1, by omega⟩
  have hd : (s.data.toList.drop p).drop m = s.data.toList.drop (p + m) := by rw [List.drop_drop]
  have hl := drop_ne s p h
  rw [hl] at hm hd hp ⊢
  rw [Nat.add_sub_cancel, nameL_cons', if_neg (by omega), hm, Int.toNat_natCast, hd, hp, Bool.true_and]

theorem name_stop (s : ByteArray) (p f : Nat) (b : Bool) (h : p < s.size) (hf : s.size - p ≤ f) (hm : (dec (s.data.toList.drop p)).2 = 0 ∨ partB (dec (s.data.toList.drop p)).1 = false)
    (hc : b = nameL f (s.data.toList.drop p)) : b = false := by
  rw [hc]
  obtain ⟨g, rfl⟩ : ∃ g, f = g + 1 := ⟨f - 1, by omega⟩
  have hl := drop_ne s p h
  rw [hl] at hm ⊢
  rw [nameL_cons']
  split
  · rfl
  · rcases hm with hm | hm
    · contradiction
    · rw [hm]; rfl

theorem name_end (s : ByteArray) (p f : Nat) (b : Bool) (h : ¬ p < s.size) (hc : b = nameL f (s.data.toList.drop p)) : b = true := by
  rw [hc, List.drop_eq_nil_of_le (by simp; omega)]
  cases f <;> rfl

set_option maxHeartbeats 400000 in
theorem check_any (s : ByteArray) (w : World) (hs : s.size ≤ 1000000000) :
    Calls Tryd.prog 13 #[.string s] w fun e w' => e = .returned (.int .i64 (chk s.data.toList)) ∧ Below w.heap.size w w' := by
  go_enter Tryd.func13, Tryd.ntmps13
  go_wp2
  go_loopw [3] (fun i wr => ∃ p f : Nat, p ≤ s.size ∧ i = .int .i64 p ∧ Hid (s.size - p ≤ f) ∧ Hid (chk s.data.toList = chkL f (s.data.toList.drop p) p) ∧ Below w.heap.size w wr) (fun i _ => s.size - (intOf i).toNat)
  case atStart => exact ⟨0, s.data.toList.length, by omega, rfl, Lib.hid (by simp), Lib.hid rfl, Below.refl _ _⟩
  case round =>
    obtain ⟨p, f, hp, rfl, HF, HC, hbel⟩ := hrel
    by_cases hlt : p < s.size
    · obtain ⟨b0, b4, bl⟩ := dec_bd (s.data.toList.drop p)
      obtain ⟨m, hm⟩ := Int.eq_ofNat_of_zero_le b0
      rw [hm] at bl
      have hle : p + m ≤ s.size := by simp at bl; omega
      have HM := Lib.hid hm
      have HR := Lib.hid (runeS_dec s p hlt)
      clear hm b0 b4 bl
      go_wp2_with fail
      refine (rune_any s p _ hs).mono ?_
      rw [HR.out, HM.out]
      rintro e w1 ⟨rfl, hb1⟩
      have hbw := hbel.trans (hb1.mono hbel.size)
      by_cases h0 : m = 0
      · subst h0
        go_wp2
        go_ret
        exact ⟨ret_i (by rw [chk_stop s p f hlt HF.out HM.out HC.out]), hbw⟩
      · have hne : ((m : Int) == 0) = false := by simpa using h0
        have hst := chk_step s p f m hlt HF.out HM.out h0 HC.out
        have H1 := Lib.hid hst.1
        have H2 := Lib.hid hst.2
        clear hst
        go_wp2
        go_roundw
        case rel => exact ⟨p + m, f - 1, hle, by go_num, H1, H2, hbw⟩
        case measure => simp [intOf]; omega
    · go_wp2
      go_ret
      exact ⟨ret_i (by rw [chk_end s p f hlt HC.out]), hbel⟩

set_option maxHeartbeats 400000 in
theorem rcheck_any (s : ByteArray) (w : World) (hs : s.size ≤ 1000000000) :
    Calls Tryd.prog 21 #[.string s] w fun e w' => e = .returned (.int .i64 (chk s.data.toList)) ∧ Below w.heap.size w w' := by
  go_enter Tryd.func21, Tryd.ntmps21
  go_wp2
  go_loopw [3] (fun i wr => ∃ p f : Nat, p ≤ s.size ∧ i = .int .i64 p ∧ Hid (s.size - p ≤ f) ∧ Hid (chk s.data.toList = chkL f (s.data.toList.drop p) p) ∧ Below w.heap.size w wr) (fun i _ => s.size - (intOf i).toNat)
  case atStart => exact ⟨0, s.data.toList.length, by omega, rfl, Lib.hid (by simp), Lib.hid rfl, Below.refl _ _⟩
  case round =>
    obtain ⟨p, f, hp, rfl, HF, HC, hbel⟩ := hrel
    by_cases hlt : p < s.size
    · obtain ⟨b0, b4, bl⟩ := dec_bd (s.data.toList.drop p)
      obtain ⟨m, hm⟩ := Int.eq_ofNat_of_zero_le b0
      rw [hm] at bl
      have hle : p + m ≤ s.size := by simp at bl; omega
      have HM := Lib.hid hm
      have HR := Lib.hid (runeS_dec s p hlt)
      clear hm b0 b4 bl
      go_wp2_with fail
      refine (rrune_any s p _ hs).mono ?_
      rw [HR.out, HM.out]
      rintro e w1 ⟨rfl, hb1⟩
      have hbw := hbel.trans (hb1.mono hbel.size)
      by_cases h0 : m = 0
      · subst h0
        go_wp2
        go_ret
        exact ⟨ret_i (by rw [chk_stop s p f hlt HF.out HM.out HC.out]), hbw⟩
      · have hne : ((m : Int) == 0) = false := by simpa using h0
        have hst := chk_step s p f m hlt HF.out HM.out h0 HC.out
        have H1 := Lib.hid hst.1
        have H2 := Lib.hid hst.2
        clear hst
        go_wp2
        go_roundw
        case rel => exact ⟨p + m, f - 1, hle, by go_num, H1, H2, hbw⟩
        case measure => simp [intOf]; omega
    · go_wp2
      go_ret
      exact ⟨ret_i (by rw [chk_end s p f hlt HC.out]), hbel⟩

end Go.Proofs.YtclenfdhnccalaaDoor
