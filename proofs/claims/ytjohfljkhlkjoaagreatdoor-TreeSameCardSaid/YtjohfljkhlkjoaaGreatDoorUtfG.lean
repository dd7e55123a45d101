import Derived.Test.YtjohfljkhlkjoaaGreatDoorMgU
namespace Go.Proofs.YtjohfljkhlkjoaaGreatDoor
open Go.RowKit Wb
theorem t1_step (s : ByteArray) (k : Nat) (h : k < s.size) (hb : blk s[k].toNat = true) :
    (s.data.toList.drop k).dropWhile blkU = (s.data.toList.drop (k + 1)).dropWhile blkU := by
  rw [drop_cons s k h, List.dropWhile_cons, if_pos (show blkU s[k] = true from hb)]
theorem t1_stop (s : ByteArray) (k : Nat) (h : k < s.size) (hb : blk s[k].toNat = false) :
    (s.data.toList.drop k).dropWhile blkU = s.data.toList.drop k := by
  conv => lhs; rw [drop_cons s k h]
  rw [List.dropWhile_cons, if_neg (show ¬ blkU s[k] = true by unfold blkU; rw [hb]; simp), ← drop_cons s k h]
theorem t1_end (s : ByteArray) (k : Nat) (h : ¬ k < s.size) : (s.data.toList.drop k).dropWhile blkU = s.data.toList.drop k := by
  rw [List.drop_eq_nil_of_le (by rw [show s.data.toList.length = s.size by simp]; omega)]; rfl
theorem take_last (s : ByteArray) (k q : Nat) (hk : k ≤ q) (h : q < s.size) : (s.data.toList.take (q + 1)).drop k = (s.data.toList.take q).drop k ++ [s[q]] := by
  have hl : s.data.toList.length = s.size := by simp
  rw [List.take_succ_eq_append_getElem (by omega), List.drop_append_of_le_length (by rw [List.length_take]; omega)]
  rfl
theorem t2_step (s : ByteArray) (k q : Nat) (hk : k ≤ q) (h : q < s.size) (hb : blk s[q].toNat = true) :
    ((s.data.toList.take (q + 1)).drop k).reverse.dropWhile blkU = ((s.data.toList.take q).drop k).reverse.dropWhile blkU := by
  rw [take_last s k q hk h, List.reverse_append]
  show List.dropWhile blkU (s[q] :: _) = _
  rw [List.dropWhile_cons, if_pos (show blkU s[q] = true from hb)]
  rfl
theorem t2_stop (s : ByteArray) (k q : Nat) (hk : k ≤ q) (h : q < s.size) (hb : blk s[q].toNat = false) :
    ((s.data.toList.take (q + 1)).drop k).reverse.dropWhile blkU = ((s.data.toList.take (q + 1)).drop k).reverse := by
  rw [take_last s k q hk h, List.reverse_append]
  show List.dropWhile blkU (s[q] :: _) = s[q] :: _
  rw [List.dropWhile_cons, if_neg (show ¬ blkU s[q] = true by unfold blkU; rw [hb]; simp)]
theorem t2_end (s : ByteArray) (k m : Nat) (h : ¬ k < m) :
    ((s.data.toList.take m).drop k).reverse.dropWhile blkU = ((s.data.toList.take m).drop k).reverse := by
  rw [List.drop_eq_nil_of_le (by rw [List.length_take]; omega)]; rfl
theorem trim_end (s : ByteArray) (k m : Nat) (h1 : s.data.toList.dropWhile blkU = s.data.toList.drop k)
    (h2 : (s.data.toList.drop k).reverse.dropWhile blkU = ((s.data.toList.take m).drop k).reverse.dropWhile blkU)
    (h3 : ((s.data.toList.take m).drop k).reverse.dropWhile blkU = ((s.data.toList.take m).drop k).reverse) :
    s.extract k m = ⟨(trimL s.data.toList).toArray⟩ := by
  unfold trimL
  rw [h1, h2, h3, List.reverse_reverse]
  have hd := Lib.extract_data s k m
  rw [List.drop_take, ← hd]
set_option maxHeartbeats 400000 in
theorem trim_any (s : ByteArray) (w : World) (hs : s.size ≤ 1000000000) :
    Calls Tryz.prog 121 #[.string s] w fun e w' => e = .returned (.string ⟨(trimL s.data.toList).toArray⟩) ∧ w = w' := by
  go_enter Tryz.func121, Tryz.ntmps121
  go_wp2
  go_loop [3] (fun i => ∃ k : Nat, k ≤ s.size ∧ i = .int .i64 k ∧ Hid (s.data.toList.dropWhile blkU = (s.data.toList.drop k).dropWhile blkU)) (fun i => s.size - (intOf i).toNat)
  case atStart => exact ⟨0, by omega, rfl, Lib.hid (by rw [List.drop_zero])⟩
  case round =>
    obtain ⟨k, hk, rfl, HK⟩ := hrel
    by_cases hgo : ∃ h : k < s.size, blk s[k].toNat = true
    · obtain ⟨hlt, hb⟩ := hgo
      have HS := Lib.hid (t1_step s k hlt hb)
      have HB := Lib.hid hb
      clear hb
      go_wp2_with fail
      refine (blank_any _ _).mono ?_
      rw [HB.out]
      rintro e w1 ⟨rfl, rfl⟩
      go_wp2
      go_round
      case rel => exact ⟨k + 1, by omega, by go_num, Lib.hid (HK.out.trans HS.out)⟩
      case measure => simp [intOf] <;> omega
    · have HD : Hid (s.data.toList.dropWhile blkU = s.data.toList.drop k) := by
        by_cases hlt : k < s.size
        · have hb : blk s[k].toNat = false := by
            cases hq : blk s[k].toNat
            · rfl
            · exact absurd ⟨hlt, hq⟩ hgo
          exact Lib.hid (HK.out.trans (t1_stop s k hlt hb))
        · exact Lib.hid (HK.out.trans (t1_end s k hlt))
      have HG := Lib.hid hgo
      clear hgo HK
      by_cases hlt : k < s.size
      · go_wp2_with fail
        refine (blank_any _ _).mono ?_
        have hb : blk s[k].toNat = false := by
          cases hq : blk s[k].toNat
          · rfl
          · exact absurd ⟨hlt, hq⟩ HG.out
        rw [hb]
        clear hb
        rintro e w1 ⟨rfl, rfl⟩
        go_wp2
        go_loop [4] (fun i => ∃ m : Nat, k ≤ m ∧ m ≤ s.size ∧ i = .int .i64 m ∧ Hid ((s.data.toList.drop k).reverse.dropWhile blkU = ((s.data.toList.take m).drop k).reverse.dropWhile blkU)) (fun i => (intOf i).toNat)
        case atStart => exact ⟨s.size, by omega, by omega, rfl, Lib.hid (by rw [List.take_of_length_le (by simp)])⟩
        case round =>
          obtain ⟨m, hm1, hm2, rfl, HM⟩ := hrel
          by_cases hkm : k < m
          · obtain ⟨q, rfl⟩ : ∃ q, m = q + 1 := ⟨m - 1, by omega⟩
            have hq : q < s.size := by omega
            go_wp2_with fail
            refine (blank_any _ _).mono ?_
            cases hb : blk s[q].toNat
            · have HE := Lib.hid (trim_end s k (q + 1) HD.out HM.out (t2_stop s k q (by omega) hq hb))
              clear hb
              rintro e w1 ⟨rfl, rfl⟩
              go_wp2
              go_ret
              exact ⟨ret_s HE.out, rfl⟩
            · have HS := Lib.hid (t2_step s k q (by omega) hq hb)
              clear hb
              rintro e w1 ⟨rfl, rfl⟩
              go_wp2
              go_round
              case rel => exact ⟨q, by omega, by omega, by go_num, Lib.hid (HM.out.trans HS.out)⟩
              case measure => simp [intOf] <;> omega
          · have HE := Lib.hid (trim_end s k m HD.out HM.out (t2_end s k m hkm))
            go_wp2
            go_ret
            exact ⟨ret_s HE.out, rfl⟩
      · go_wp2
        go_loop [4] (fun i => ∃ m : Nat, k ≤ m ∧ m ≤ s.size ∧ i = .int .i64 m ∧ Hid ((s.data.toList.drop k).reverse.dropWhile blkU = ((s.data.toList.take m).drop k).reverse.dropWhile blkU)) (fun i => (intOf i).toNat)
        case atStart => exact ⟨s.size, by omega, by omega, rfl, Lib.hid (by rw [List.take_of_length_le (by simp)])⟩
        case round =>
          obtain ⟨m, hm1, hm2, rfl, HM⟩ := hrel
          have hkm : ¬ k < m := by omega
          have HE := Lib.hid (trim_end s k m HD.out HM.out (t2_end s k m hkm))
          go_wp2
          go_ret
          exact ⟨ret_s HE.out, rfl⟩
end Go.Proofs.YtjohfljkhlkjoaaGreatDoor
