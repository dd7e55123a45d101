
/- LexPlain (written by gen_LdP.py). -/
import Derived.Test.YtflfnnkdkfcpkaaGreatDoorLdE
import Derived.Test.YtflfnnkdkfcpkaaGreatDoorLxU
namespace Go.Proofs.YtflfnnkdkfcpkaaGreatDoor
open Go.RowKit Wb
set_option linter.unusedVariables false

set_option maxHeartbeats 4000000 in
set_option maxRecDepth 100000 in
theorem plain_long (s t : ByteArray) (w : World) (hG : Gv w) (hl : (20000 : Int) < s.size ∨ (20000 : Int) < t.size) :
    Calls Tryz.prog 4 #[.string s, .string t] w fun e w' => e = .returned (.bool true) ∧ Below w.heap.size w w' := by
  have HA := Lib.hid (awake_any w hG)
  clear hG
  by_cases h1 : (20000 : Int) < s.size
  · clear hl
    go_enter Tryz.func4, Tryz.ntmps4
    go_wp2_with fail
    refine HA.out.mono ?_
    rintro e w1 ⟨rfl, hb⟩
    go_wp2
    go_ret
    exact ⟨rfl, hb⟩
  · have h2 : (20000 : Int) < t.size := by omega
    clear hl
    go_enter Tryz.func4, Tryz.ntmps4
    go_wp2_with fail
    refine HA.out.mono ?_
    rintro e w1 ⟨rfl, hb⟩
    go_wp2
    go_ret
    exact ⟨rfl, hb⟩

set_option maxHeartbeats 8000000 in
set_option maxRecDepth 100000 in
theorem plain_bad (s t : ByteArray) (w : World) (hG : Gv w) (hl1 : s.size ≤ 20000) (hl2 : t.size ≤ 20000) (p : Nat) (hx : unB s false = (⟨#[]⟩, (p : Int), 16)) :
    Calls Tryz.prog 4 #[.string s, .string t] w fun e w' => e = .returned (.bool true) ∧ Below w.heap.size w w' := by
  have HA := Lib.hid (awake_any w hG)
  have HG := Lib.hid hG
  have hgz : (s ++ ⟨#[38, 103, 116, 59]⟩).size ≤ 100000000 := by rw [ByteArray.size_append]; show s.size + 4 ≤ _; omega
  have HV := Lib.hid (fun (w : World) (hG : Gv w) => Unescape_any (s ++ ⟨#[38, 103, 116, 59]⟩) false w hG hgz)
  have hgw : (s ++ t).size ≤ 100000000 := by rw [ByteArray.size_append]; omega
  have HW := Lib.hid (fun (w : World) (hG : Gv w) => Unescape_any (s ++ t) false w hG hgw)
  clear hG hgz hgw
  obtain ⟨b, p2, e2, hy⟩ : ∃ b p2 e2, unB t false = (b, p2, e2) := ⟨_, _, _, rfl⟩
  have HX := Lib.hid hx
  have HY := Lib.hid hy
  clear hx hy
  go_enter Tryz.func4, Tryz.ntmps4
  go_wp2_with fail
  refine HA.out.mono ?_
  rintro e w1 ⟨rfl, hb⟩
  go_wp2_with fail
  refine (Unescape_any s false _ (HG.out.next hb) (by omega)).mono ?_
  rw [HX.out]
  rintro e w2 ⟨rfl, hb2⟩
  replace hb := hb.trans (hb2.mono hb.size)
  clear hb2
  go_wp2_with fail
  refine (Unescape_any t false _ (HG.out.next hb) (by omega)).mono ?_
  rw [HY.out]
  rintro e w3 ⟨rfl, hb2⟩
  replace hb := hb.trans (hb2.mono hb.size)
  clear hb2

  clear HY
  go_wp2
  go_loop [14] (fun i => ∃ k : Nat, k ≤ s.size ∧ i = .int .i64 k ∧ Hid (∀ j (h : j < s.size), j < k → s[j] ≠ 38 ∧ s[j] ≠ 13)) (fun i => ((s.size : Int) - intOf i).toNat)
  case atStart => exact ⟨0, by omega, rfl, Lib.hid (fun j _ h => absurd h (by omega))⟩
  case round =>
    obtain ⟨k, hk, rfl, HK⟩ := hrel
    by_cases hlt : k < s.size
    · by_cases h38 : s[k] = 38
      · have t38 : ((s[k].toNat : Int) == 38) = true := (byte_eq s k hlt 38).trans (decide_eq_true h38)
        clear h38
        go_wp2
        go_ret
        exact ⟨rfl, hb⟩
      · have t38 : ((s[k].toNat : Int) == 38) = false := (byte_eq s k hlt 38).trans (decide_eq_false h38)
        by_cases h13 : s[k] = 13
        · have t13 : ((s[k].toNat : Int) == 13) = true := (byte_eq s k hlt 13).trans (decide_eq_true h13)
          clear h38 h13
          go_wp2
          go_ret
          exact ⟨rfl, hb⟩
        · have t13 : ((s[k].toNat : Int) == 13) = false := (byte_eq s k hlt 13).trans (decide_eq_false h13)
          have HS : Hid (∀ j (h : j < s.size), j < k + 1 → s[j] ≠ 38 ∧ s[j] ≠ 13) := Lib.hid (fun j h hj => by
            by_cases e : j = k
            · subst e; exact ⟨h38, h13⟩
            · exact HK.out j h (by omega))
          clear h38 h13
          go_wp2
          go_round
          case rel => exact ⟨k + 1, by omega, by go_num, HS⟩
          case measure => simp [intOf]; omega
    · have hall : ∀ b ∈ s.data.toList, b ≠ 38 ∧ b ≠ 13 := by
        intro b hbm
        obtain ⟨j, hj, rfl⟩ := List.getElem_of_mem hbm
        have hj' : j < s.size := by simpa using hj
        exact HK.out j hj' (by omega)
      have HP := Lib.hid (unB_plain hall)
      clear hall HK
      exact absurd (HX.out.symm.trans HP.out.1) (by intro e; simp at e)


set_option maxHeartbeats 8000000 in
set_option maxRecDepth 100000 in
theorem plain_two (s t : ByteArray) (w : World) (hG : Gv w) (hl1 : s.size ≤ 20000) (hl2 : t.size ≤ 20000) (p : Nat) (a : ByteArray) (hx : unB s false = (a, 0, 0)) (hy : unB t false = (⟨#[]⟩, (p : Int), 16)) :
    Calls Tryz.prog 4 #[.string s, .string t] w fun e w' => e = .returned (.bool true) ∧ Below w.heap.size w w' := by
  have HA := Lib.hid (awake_any w hG)
  have HG := Lib.hid hG
  have hgz : (s ++ ⟨#[38, 103, 116, 59]⟩).size ≤ 100000000 := by rw [ByteArray.size_append]; show s.size + 4 ≤ _; omega
  have HV := Lib.hid (fun (w : World) (hG : Gv w) => Unescape_any (s ++ ⟨#[38, 103, 116, 59]⟩) false w hG hgz)
  have hgw : (s ++ t).size ≤ 100000000 := by rw [ByteArray.size_append]; omega
  have HW := Lib.hid (fun (w : World) (hG : Gv w) => Unescape_any (s ++ t) false w hG hgw)
  clear hG hgz hgw
  have HX := Lib.hid hx
  have HY := Lib.hid hy
  clear hx hy
  go_enter Tryz.func4, Tryz.ntmps4
  go_wp2_with fail
  refine HA.out.mono ?_
  rintro e w1 ⟨rfl, hb⟩
  go_wp2_with fail
  refine (Unescape_any s false _ (HG.out.next hb) (by omega)).mono ?_
  rw [HX.out]
  rintro e w2 ⟨rfl, hb2⟩
  replace hb := hb.trans (hb2.mono hb.size)
  clear hb2
  go_wp2_with fail
  refine (Unescape_any t false _ (HG.out.next hb) (by omega)).mono ?_
  rw [HY.out]
  rintro e w3 ⟨rfl, hb2⟩
  replace hb := hb.trans (hb2.mono hb.size)
  clear hb2

  clear HY
  go_wp2
  go_loop [14] (fun i => ∃ k : Nat, k ≤ s.size ∧ i = .int .i64 k ∧ Hid (∀ j (h : j < s.size), j < k → s[j] ≠ 38 ∧ s[j] ≠ 13)) (fun i => ((s.size : Int) - intOf i).toNat)
  case atStart => exact ⟨0, by omega, rfl, Lib.hid (fun j _ h => absurd h (by omega))⟩
  case round =>
    obtain ⟨k, hk, rfl, HK⟩ := hrel
    by_cases hlt : k < s.size
    · by_cases h38 : s[k] = 38
      · have t38 : ((s[k].toNat : Int) == 38) = true := (byte_eq s k hlt 38).trans (decide_eq_true h38)
        clear h38
        go_wp2
        go_ret
        exact ⟨rfl, hb⟩
      · have t38 : ((s[k].toNat : Int) == 38) = false := (byte_eq s k hlt 38).trans (decide_eq_false h38)
        by_cases h13 : s[k] = 13
        · have t13 : ((s[k].toNat : Int) == 13) = true := (byte_eq s k hlt 13).trans (decide_eq_true h13)
          clear h38 h13
          go_wp2
          go_ret
          exact ⟨rfl, hb⟩
        · have t13 : ((s[k].toNat : Int) == 13) = false := (byte_eq s k hlt 13).trans (decide_eq_false h13)
          have HS : Hid (∀ j (h : j < s.size), j < k + 1 → s[j] ≠ 38 ∧ s[j] ≠ 13) := Lib.hid (fun j h hj => by
            by_cases e : j = k
            · subst e; exact ⟨h38, h13⟩
            · exact HK.out j h (by omega))
          clear h38 h13
          go_wp2
          go_round
          case rel => exact ⟨k + 1, by omega, by go_num, HS⟩
          case measure => simp [intOf]; omega
    · have hall : ∀ b ∈ s.data.toList, b ≠ 38 ∧ b ≠ 13 := by
        intro b hbm
        obtain ⟨j, hj, rfl⟩ := List.getElem_of_mem hbm
        have hj' : j < s.size := by simpa using hj
        exact HK.out j hj' (by omega)
      have HP := Lib.hid (unB_plain hall)
      clear hall HK
      have r1 : a = s := congrArg Prod.fst (HX.out.symm.trans HP.out.1)
      have tas : (a.toList == s.toList) = true := by rw [r1]; exact beq_self_eq_true _
      have z1 : ¬ 9223372036854775807 < s.size + 4 := by omega
      have z2 : ¬ 9223372036854775807 < s.size + 1 := by omega
      clear HX r1
      go_wp2_with fail
      have hv := HV.out _ (HG.out.next hb)
      rw [HP.out.2] at hv
      refine hv.mono ?_
      rintro e w9 ⟨rfl, hb9⟩
      replace hb := hb.trans (hb9.mono hb.size)
      clear hb9 HP hv
      go_wp2
      go_ret
      exact ⟨rfl, hb⟩


set_option maxHeartbeats 8000000 in
set_option maxRecDepth 100000 in
theorem plain_none (s t : ByteArray) (w : World) (hG : Gv w) (hl1 : s.size ≤ 20000) (hl2 : t.size ≤ 20000) (a b : ByteArray) (asz : a.size ≤ 80000) (bsz : b.size ≤ 80000) (hx : unB s false = (a, 0, 0)) (hy : unB t false = (b, 0, 0)) (h0 : s.size = 0) (hz : unB (s ++ t) false = (a ++ b, 0, 0)) :
    Calls Tryz.prog 4 #[.string s, .string t] w fun e w' => e = .returned (.bool true) ∧ Below w.heap.size w w' := by
  have HA := Lib.hid (awake_any w hG)
  have HG := Lib.hid hG
  have hgz : (s ++ ⟨#[38, 103, 116, 59]⟩).size ≤ 100000000 := by rw [ByteArray.size_append]; show s.size + 4 ≤ _; omega
  have HV := Lib.hid (fun (w : World) (hG : Gv w) => Unescape_any (s ++ ⟨#[38, 103, 116, 59]⟩) false w hG hgz)
  have hgw : (s ++ t).size ≤ 100000000 := by rw [ByteArray.size_append]; omega
  have HW := Lib.hid (fun (w : World) (hG : Gv w) => Unescape_any (s ++ t) false w hG hgw)
  clear hG hgz hgw
  have HX := Lib.hid hx
  have HY := Lib.hid hy
  clear hx hy
  have HZ := Lib.hid hz
  have q0 : ((s.size : Int) == 0) = true := by rw [h0]; rfl
  clear hz
  go_enter Tryz.func4, Tryz.ntmps4
  go_wp2_with fail
  refine HA.out.mono ?_
  rintro e w1 ⟨rfl, hb⟩
  go_wp2_with fail
  refine (Unescape_any s false _ (HG.out.next hb) (by omega)).mono ?_
  rw [HX.out]
  rintro e w2 ⟨rfl, hb2⟩
  replace hb := hb.trans (hb2.mono hb.size)
  clear hb2
  go_wp2_with fail
  refine (Unescape_any t false _ (HG.out.next hb) (by omega)).mono ?_
  rw [HY.out]
  rintro e w3 ⟨rfl, hb2⟩
  replace hb := hb.trans (hb2.mono hb.size)
  clear hb2
  have z0 : ¬ 9223372036854775807 < s.size + t.size := by omega

  go_wp2_with fail
  have hv := HW.out _ (HG.out.next hb)
  rw [HZ.out] at hv
  refine hv.mono ?_
  rintro e w4 ⟨rfl, hb2⟩
  replace hb := hb.trans (hb2.mono hb.size)
  clear hb2 hv
  have z5 : ¬ 9223372036854775807 < a.size + b.size := by omega
  clear HY
  go_wp2
  go_loop [14] (fun i => ∃ k : Nat, k ≤ s.size ∧ i = .int .i64 k ∧ Hid (∀ j (h : j < s.size), j < k → s[j] ≠ 38 ∧ s[j] ≠ 13)) (fun i => ((s.size : Int) - intOf i).toNat)
  case atStart => exact ⟨0, by omega, rfl, Lib.hid (fun j _ h => absurd h (by omega))⟩
  case round =>
    obtain ⟨k, hk, rfl, HK⟩ := hrel
    by_cases hlt : k < s.size
    · exact absurd hlt (by omega)
    · have hall : ∀ b ∈ s.data.toList, b ≠ 38 ∧ b ≠ 13 := by
        intro b hbm
        obtain ⟨j, hj, rfl⟩ := List.getElem_of_mem hbm
        have hj' : j < s.size := by simpa using hj
        exact HK.out j hj' (by omega)
      have HP := Lib.hid (unB_plain hall)
      clear hall HK
      have r1 : a = s := congrArg Prod.fst (HX.out.symm.trans HP.out.1)
      have tas : (a.toList == s.toList) = true := by rw [r1]; exact beq_self_eq_true _
      have z1 : ¬ 9223372036854775807 < s.size + 4 := by omega
      have z2 : ¬ 9223372036854775807 < s.size + 1 := by omega
      clear HX r1
      go_wp2_with fail
      have hv := HV.out _ (HG.out.next hb)
      rw [HP.out.2] at hv
      refine hv.mono ?_
      rintro e w9 ⟨rfl, hb9⟩
      replace hb := hb.trans (hb9.mono hb.size)
      clear hb9 HP hv
      go_wp2
      go_ret
      exact ⟨rfl, hb⟩


set_option maxHeartbeats 8000000 in
set_option maxRecDepth 100000 in
theorem plain_both (s t : ByteArray) (w : World) (hG : Gv w) (hl1 : s.size ≤ 20000) (hl2 : t.size ≤ 20000) (a b : ByteArray) (asz : a.size ≤ 80000) (bsz : b.size ≤ 80000) (hx : unB s false = (a, 0, 0)) (hy : unB t false = (b, 0, 0)) (k0 : Nat) (h0 : s.size = k0 + 1) (h13 : s[k0] ≠ 13) (hz : unB (s ++ t) false = (a ++ b, 0, 0)) :
    Calls Tryz.prog 4 #[.string s, .string t] w fun e w' => e = .returned (.bool true) ∧ Below w.heap.size w w' := by
  have HA := Lib.hid (awake_any w hG)
  have HG := Lib.hid hG
  have hgz : (s ++ ⟨#[38, 103, 116, 59]⟩).size ≤ 100000000 := by rw [ByteArray.size_append]; show s.size + 4 ≤ _; omega
  have HV := Lib.hid (fun (w : World) (hG : Gv w) => Unescape_any (s ++ ⟨#[38, 103, 116, 59]⟩) false w hG hgz)
  have hgw : (s ++ t).size ≤ 100000000 := by rw [ByteArray.size_append]; omega
  have HW := Lib.hid (fun (w : World) (hG : Gv w) => Unescape_any (s ++ t) false w hG hgw)
  clear hG hgz hgw
  have HX := Lib.hid hx
  have HY := Lib.hid hy
  clear hx hy
  have HZ := Lib.hid hz
  have q0 : ((s.size : Int) == 0) = false := by rw [h0]; exact decide_eq_false (by omega)
  have ix : ((s.size : Int) - 1) = (k0 : Int) := by omega
  have hk0 : k0 < s.size := by omega
  have q3 : ((s[k0].toNat : Int) == 13) = false := (byte_eq s k0 hk0 13).trans (decide_eq_false h13)
  have HS0 := Lib.hid h0
  clear hz h0 h13
  go_enter Tryz.func4, Tryz.ntmps4
  go_wp2_with fail
  refine HA.out.mono ?_
  rintro e w1 ⟨rfl, hb⟩
  go_wp2_with fail
  refine (Unescape_any s false _ (HG.out.next hb) (by omega)).mono ?_
  rw [HX.out]
  rintro e w2 ⟨rfl, hb2⟩
  replace hb := hb.trans (hb2.mono hb.size)
  clear hb2
  go_wp2_with fail
  refine (Unescape_any t false _ (HG.out.next hb) (by omega)).mono ?_
  rw [HY.out]
  rintro e w3 ⟨rfl, hb2⟩
  replace hb := hb.trans (hb2.mono hb.size)
  clear hb2
  have z0 : ¬ 9223372036854775807 < s.size + t.size := by omega

  go_wp2_with fail
  have hv := HW.out _ (HG.out.next hb)
  rw [HZ.out] at hv
  refine hv.mono ?_
  rintro e w4 ⟨rfl, hb2⟩
  replace hb := hb.trans (hb2.mono hb.size)
  clear hb2 hv
  have z5 : ¬ 9223372036854775807 < a.size + b.size := by omega
  clear HY
  go_wp2
  go_loop [14] (fun i => ∃ k : Nat, k ≤ s.size ∧ i = .int .i64 k ∧ Hid (∀ j (h : j < s.size), j < k → s[j] ≠ 38 ∧ s[j] ≠ 13)) (fun i => ((s.size : Int) - intOf i).toNat)
  case atStart => exact ⟨0, by omega, rfl, Lib.hid (fun j _ h => absurd h (by omega))⟩
  case round =>
    obtain ⟨k, hk, rfl, HK⟩ := hrel
    by_cases hlt : k < s.size
    · by_cases h38 : s[k] = 38
      · have t38 : ((s[k].toNat : Int) == 38) = true := (byte_eq s k hlt 38).trans (decide_eq_true h38)
        clear h38
        go_wp2
        go_ret
        exact ⟨rfl, hb⟩
      · have t38 : ((s[k].toNat : Int) == 38) = false := (byte_eq s k hlt 38).trans (decide_eq_false h38)
        by_cases h13 : s[k] = 13
        · have t13 : ((s[k].toNat : Int) == 13) = true := (byte_eq s k hlt 13).trans (decide_eq_true h13)
          clear h38 h13
          go_wp2
          go_ret
          exact ⟨rfl, hb⟩
        · have t13 : ((s[k].toNat : Int) == 13) = false := (byte_eq s k hlt 13).trans (decide_eq_false h13)
          have HS : Hid (∀ j (h : j < s.size), j < k + 1 → s[j] ≠ 38 ∧ s[j] ≠ 13) := Lib.hid (fun j h hj => by
            by_cases e : j = k
            · subst e; exact ⟨h38, h13⟩
            · exact HK.out j h (by omega))
          clear h38 h13
          go_wp2
          go_round
          case rel => exact ⟨k + 1, by omega, by go_num, HS⟩
          case measure => simp [intOf]; omega
    · have hall : ∀ b ∈ s.data.toList, b ≠ 38 ∧ b ≠ 13 := by
        intro b hbm
        obtain ⟨j, hj, rfl⟩ := List.getElem_of_mem hbm
        have hj' : j < s.size := by simpa using hj
        exact HK.out j hj' (by omega)
      have HP := Lib.hid (unB_plain hall)
      clear hall HK
      have r1 : a = s := congrArg Prod.fst (HX.out.symm.trans HP.out.1)
      have tas : (a.toList == s.toList) = true := by rw [r1]; exact beq_self_eq_true _
      have z1 : ¬ 9223372036854775807 < s.size + 4 := by omega
      have z2 : ¬ 9223372036854775807 < s.size + 1 := by omega
      clear HX r1
      go_wp2_with fail
      have hv := HV.out _ (HG.out.next hb)
      rw [HP.out.2] at hv
      refine hv.mono ?_
      rintro e w9 ⟨rfl, hb9⟩
      replace hb := hb.trans (hb9.mono hb.size)
      clear hb9 HP hv
      go_wp2
      go_ret
      exact ⟨rfl, hb⟩


set_option maxHeartbeats 8000000 in
set_option maxRecDepth 100000 in
theorem plain_cr (s t : ByteArray) (w : World) (hG : Gv w) (hl1 : s.size ≤ 20000) (hl2 : t.size ≤ 20000) (a b : ByteArray) (hx : unB s false = (a, 0, 0)) (hy : unB t false = (b, 0, 0)) (k0 : Nat) (h0 : s.size = k0 + 1) (h13 : s[k0] = 13) :
    Calls Tryz.prog 4 #[.string s, .string t] w fun e w' => e = .returned (.bool true) ∧ Below w.heap.size w w' := by
  have HA := Lib.hid (awake_any w hG)
  have HG := Lib.hid hG
  have hgz : (s ++ ⟨#[38, 103, 116, 59]⟩).size ≤ 100000000 := by rw [ByteArray.size_append]; show s.size + 4 ≤ _; omega
  have HV := Lib.hid (fun (w : World) (hG : Gv w) => Unescape_any (s ++ ⟨#[38, 103, 116, 59]⟩) false w hG hgz)
  have hgw : (s ++ t).size ≤ 100000000 := by rw [ByteArray.size_append]; omega
  have HW := Lib.hid (fun (w : World) (hG : Gv w) => Unescape_any (s ++ t) false w hG hgw)
  clear hG hgz hgw
  have HX := Lib.hid hx
  have HY := Lib.hid hy
  clear hx hy
  have q0 : ((s.size : Int) == 0) = false := by rw [h0]; exact decide_eq_false (by omega)
  have ix : ((s.size : Int) - 1) = (k0 : Int) := by omega
  have hk0 : k0 < s.size := by omega
  have q3 : ((s[k0].toNat : Int) == 13) = true := (byte_eq s k0 hk0 13).trans (decide_eq_true h13)
  have HS0 := Lib.hid h0
  clear h0 h13
  go_enter Tryz.func4, Tryz.ntmps4
  go_wp2_with fail
  refine HA.out.mono ?_
  rintro e w1 ⟨rfl, hb⟩
  go_wp2_with fail
  refine (Unescape_any s false _ (HG.out.next hb) (by omega)).mono ?_
  rw [HX.out]
  rintro e w2 ⟨rfl, hb2⟩
  replace hb := hb.trans (hb2.mono hb.size)
  clear hb2
  go_wp2_with fail
  refine (Unescape_any t false _ (HG.out.next hb) (by omega)).mono ?_
  rw [HY.out]
  rintro e w3 ⟨rfl, hb2⟩
  replace hb := hb.trans (hb2.mono hb.size)
  clear hb2
  have z0 : ¬ 9223372036854775807 < s.size + t.size := by omega

  clear HY
  go_wp2
  go_loop [14] (fun i => ∃ k : Nat, k ≤ s.size ∧ i = .int .i64 k ∧ Hid (∀ j (h : j < s.size), j < k → s[j] ≠ 38 ∧ s[j] ≠ 13)) (fun i => ((s.size : Int) - intOf i).toNat)
  case atStart => exact ⟨0, by omega, rfl, Lib.hid (fun j _ h => absurd h (by omega))⟩
  case round =>
    obtain ⟨k, hk, rfl, HK⟩ := hrel
    by_cases hlt : k < s.size
    · by_cases h38 : s[k] = 38
      · have t38 : ((s[k].toNat : Int) == 38) = true := (byte_eq s k hlt 38).trans (decide_eq_true h38)
        clear h38
        go_wp2
        go_ret
        exact ⟨rfl, hb⟩
      · have t38 : ((s[k].toNat : Int) == 38) = false := (byte_eq s k hlt 38).trans (decide_eq_false h38)
        by_cases h13 : s[k] = 13
        · have t13 : ((s[k].toNat : Int) == 13) = true := (byte_eq s k hlt 13).trans (decide_eq_true h13)
          clear h38 h13
          go_wp2
          go_ret
          exact ⟨rfl, hb⟩
        · have t13 : ((s[k].toNat : Int) == 13) = false := (byte_eq s k hlt 13).trans (decide_eq_false h13)
          have HS : Hid (∀ j (h : j < s.size), j < k + 1 → s[j] ≠ 38 ∧ s[j] ≠ 13) := Lib.hid (fun j h hj => by
            by_cases e : j = k
            · subst e; exact ⟨h38, h13⟩
            · exact HK.out j h (by omega))
          clear h38 h13
          go_wp2
          go_round
          case rel => exact ⟨k + 1, by omega, by go_num, HS⟩
          case measure => simp [intOf]; omega
    · have hall : ∀ b ∈ s.data.toList, b ≠ 38 ∧ b ≠ 13 := by
        intro b hbm
        obtain ⟨j, hj, rfl⟩ := List.getElem_of_mem hbm
        have hj' : j < s.size := by simpa using hj
        exact HK.out j hj' (by omega)
      have HP := Lib.hid (unB_plain hall)
      clear hall HK
      have r1 : a = s := congrArg Prod.fst (HX.out.symm.trans HP.out.1)
      have tas : (a.toList == s.toList) = true := by rw [r1]; exact beq_self_eq_true _
      have z1 : ¬ 9223372036854775807 < s.size + 4 := by omega
      have z2 : ¬ 9223372036854775807 < s.size + 1 := by omega
      clear HX r1
      go_wp2_with fail
      have hv := HV.out _ (HG.out.next hb)
      rw [HP.out.2] at hv
      refine hv.mono ?_
      rintro e w9 ⟨rfl, hb9⟩
      replace hb := hb.trans (hb9.mono hb.size)
      clear hb9 HP hv
      go_wp2
      go_ret
      exact ⟨rfl, hb⟩


theorem plain_all (s t : ByteArray) (w : World) (hG : Gv w) :
    Calls Tryz.prog 4 #[.string s, .string t] w fun e w' => e = .returned (.bool true) ∧ Below w.heap.size w w' := by
  by_cases hl : (20000 : Int) < s.size ∨ (20000 : Int) < t.size
  · exact plain_long s t w hG hl
  have h1 : s.size ≤ 20000 := by omega
  have h2 : t.size ≤ 20000 := by omega
  rcases unB_cases s false with ⟨x, hux, hxe, hxl⟩ | ⟨p, hxe⟩
  · rcases unB_cases t false with ⟨y, huy, hye, hyl⟩ | ⟨p, hye⟩
    · have asz : (⟨x.toArray⟩ : ByteArray).size ≤ 80000 := by show x.length ≤ _; omega
      have bsz : (⟨y.toArray⟩ : ByteArray).size ≤ 80000 := by show y.length ≤ _; omega
      have app : (⟨x.toArray⟩ : ByteArray) ++ ⟨y.toArray⟩ = ⟨(x ++ y).toArray⟩ := by
        apply ba_extL
        simp [ByteArray.data_append]
      by_cases h0 : s.size = 0
      · exact plain_none s t w hG h1 h2 _ _ asz bsz hxe hye h0 (by rw [app]; exact unB_app hux huy (.inl h0))
      · have hk : s.size - 1 < s.size := by omega
        by_cases h13 : s[s.size - 1] = 13
        · exact plain_cr s t w hG h1 h2 _ _ hxe hye (s.size - 1) (by omega) h13
        · exact plain_both s t w hG h1 h2 _ _ asz bsz hxe hye (s.size - 1) (by omega) h13 (by rw [app]; exact unB_app hux huy (.inr ⟨hk, h13⟩))
    · exact plain_two s t w hG h1 h2 p _ hxe hye
  · exact plain_bad s t w hG h1 h2 p hxe
end Go.Proofs.YtflfnnkdkfcpkaaGreatDoor
