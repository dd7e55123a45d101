
/- Contracts of the reference's small functions of layer 3: Begins, Index, small, number. -/
import Derived.Test.YtohhdjkoomfioaaGreatDoorUtfF
import Derived.Test.YtohhdjkoomfioaaGreatDoorLxPlain
import Derived.Test.YtohhdjkoomfioaaGreatDoorMem3
namespace Go.Proofs.YtohhdjkoomfioaaGreatDoor
open Go.RowKit Wb

/-- A text stands at a place. -/
def begAt (s : ByteArray) (i : Nat) (t : ByteArray) : Bool := (s.extract i (i + t.size)).toList == t.toList
def begB (s : ByteArray) (at_ : Int) (t : ByteArray) : Bool := decide (0 ≤ at_) && (decide (at_ + t.size ≤ s.size) && begAt s at_.toNat t)

set_option maxHeartbeats 400000 in
theorem begins_any (s t : ByteArray) (at_ : Int) (w : World) (hs : s.size ≤ 1000000000) (ht : t.size ≤ 1000000000) (h1 : -1000000000 ≤ at_) (h2 : at_ ≤ 2000000000) :
    Calls Tryz.prog 16 #[.string s, .int .i64 at_, .string t] w fun e w' => e = .returned (.bool (begB s at_ t)) ∧ w = w' := by
  by_cases h0 : 0 ≤ at_
  · obtain ⟨k, rfl⟩ := Int.eq_ofNat_of_zero_le h0
    by_cases hk : (k : Int) + t.size ≤ s.size
    · cases hb : begAt s k t
      all_goals
        have H : Hid (begB s k t = _) := Lib.hid (show begB s k t = begAt s k t from by unfold begB; rw [decide_eq_true h0, decide_eq_true hk]; simp)
        rw [H.out, hb]
        clear H
        have hq : ((s.extract k (k + t.size)).toList == t.toList) = _ := hb
        clear hb
        have g1 : (t.size : Int) ≤ (s.size : Int) - k := by omega
        go_enter Tryz.func16, Tryz.ntmps16
        go_wp2
        go_ret
        exact ⟨rfl, rfl⟩
    · have H : begB s k t = false := by unfold begB; rw [decide_eq_false hk]; simp
      rw [H]
      clear H
      have g1 : ¬ (t.size : Int) ≤ (s.size : Int) - k := by omega
      go_enter Tryz.func16, Tryz.ntmps16
      go_wp2
      go_ret
      exact ⟨rfl, rfl⟩
  · have H : begB s at_ t = false := by unfold begB; rw [decide_eq_false h0]; simp
    rw [H]
    clear H
    go_enter Tryz.func16, Tryz.ntmps16
    go_wp2
    go_ret
    exact ⟨rfl, rfl⟩

/-- What Index answers. -/
def IdxIs (s : ByteArray) (a : Nat) (t : ByteArray) (r : Int) : Prop :=
  (r = -1 ∧ ∀ i, a ≤ i → i + t.size ≤ s.size → begAt s i t = false) ∨
  (∃ k : Nat, r = k ∧ a ≤ k ∧ k + t.size ≤ s.size ∧ begAt s k t = true ∧ ∀ i, a ≤ i → i < k → begAt s i t = false)

set_option maxHeartbeats 400000 in
theorem index_any (s t : ByteArray) (a : Nat) (w : World) (hs : s.size ≤ 1000000000) (ht : t.size ≤ 1000000000) (ha : a ≤ 2000000000) :
    Calls Tryz.prog 40 #[.string s, .int .i64 a, .string t] w fun e w' => ∃ r, e = .returned (.int .i64 r) ∧ IdxIs s a t r ∧ w = w' := by
  go_enter Tryz.func40, Tryz.ntmps40
  go_wp2
  go_loop [7] (fun i => ∃ k : Nat, a ≤ k ∧ (k : Int) ≤ 2000000000 ∧ i = .int .i64 k ∧ Hid (∀ i, a ≤ i → i < k → begAt s i t = false)) (fun i => (2000000001 - intOf i).toNat)
  case atStart => exact ⟨a, Nat.le_refl _, by omega, rfl, Lib.hid (fun i h1 h2 => absurd h2 (by omega))⟩
  case round =>
    obtain ⟨k, hk, hk2, rfl, HI⟩ := hrel
    by_cases hr : (k : Int) ≤ (s.size : Int) - t.size
    · have g1 : (k : Int) + t.size ≤ s.size := by omega
      cases hb : begAt s k t
      · have HB := Lib.hid hb
        have hq : ((s.extract k (k + t.size)).toList == t.toList) = false := hb
        clear hb
        go_wp2
        go_round
        case rel => exact ⟨k + 1, by omega, by omega, by go_num, Lib.hid (fun i h1 h2 => by
          by_cases e : i = k
          · subst e; exact HB.out
          · exact HI.out i h1 (by omega))⟩
        case measure => simp [intOf]; omega
      · have HB := Lib.hid hb
        have hq : ((s.extract k (k + t.size)).toList == t.toList) = true := hb
        clear hb
        go_wp2
        go_ret
        exact ⟨k, rfl, .inr ⟨k, rfl, hk, by omega, HB.out, HI.out⟩, rfl⟩
    · go_wp2
      go_ret
      exact ⟨-1, rfl, .inl ⟨rfl, fun i h1 h2 => HI.out i h1 (by omega)⟩, rfl⟩

theorem small_any (c : Int) (w : World) (h0 : 0 ≤ c) (h1 : c < 256) :
    Calls Tryz.prog 68 #[.int .u8 c] w fun e w' => e = .returned (.int .u8 (lowB c)) ∧ w = w' := by
  by_cases h : 65 ≤ c
  · by_cases h' : c ≤ 90
    · have H := Lib.hid (show lowB c = c + 32 from by unfold lowB; rw [if_pos ⟨h, h'⟩])
      rw [H.out]
      go_enter Tryz.func68, Tryz.ntmps68
      go_wp2
      go_ret
      refine ⟨ret_i ?_, rfl⟩
      omega
    · have H := Lib.hid (show lowB c = c from by unfold lowB; rw [if_neg (by omega)])
      rw [H.out]
      go_enter Tryz.func68, Tryz.ntmps68
      go_wp2
      go_ret
      exact ⟨rfl, rfl⟩
  · have H := Lib.hid (show lowB c = c from by unfold lowB; rw [if_neg (by omega)])
    rw [H.out]
    go_enter Tryz.func68, Tryz.ntmps68
    go_wp2
    go_ret
    exact ⟨rfl, rfl⟩
end Go.Proofs.YtohhdjkoomfioaaGreatDoor
