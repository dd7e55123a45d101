
/- Contracts of the reference's small functions of layer 3: Begins, Index, small, number. -/
import Derived.Test.YtflfnnkdkfcpkaaGreatDoorUtfF
import Derived.Test.YtflfnnkdkfcpkaaGreatDoorLxPlain
import Derived.Test.YtflfnnkdkfcpkaaGreatDoorMem3
namespace Go.Proofs.YtflfnnkdkfcpkaaGreatDoor
open Go.RowKit Wb

/-- A text stands at a place. -/
def begAt (s : ByteArray) (i : Nat) (t : ByteArray) : Bool := (s.extract i (i + t.size)).toList == t.toList
def begB (s : ByteArray) (at_ : Int) (t : ByteArray) : Bool := decide (0 ≤ at_) && (decide (at_ + t.size ≤ s.size) && begAt s at_.toNat t)

set_option maxHeartbeats 400000 in
theorem begins_any (s t : ByteArray) (at_ : Int) (w : World) (hs : s.size ≤ 1000000000) (ht : t.size ≤ 1000000000) (h1 : -1000000000 ≤ at_) (h2 : at_ ≤ 2000000000) :
    Calls Tryz.prog 17 #[.string s, .int .i64 at_, .string t] w fun e w' => e = .returned (.bool (begB s at_ t)) ∧ w = w' := by
  by_cases h0 : 0 ≤ at_
  · obtain ⟨k, rfl⟩ := Int.eq_ofNat_of_zero_le h0
    by_cases hk : (k : Int) + t.size ≤ s.size
    · cases hb : begAt s k t
      all_goals
        have H : Hid (begB s k t = _) := Lib.hid (show begB s k t = begAt s k t from by unfold begB; rw [decide_eq_true h0, decide_eq_true hk]; simp)
        rw [H.out, hb]
        clear H
        have hq : ((s.extract k (k + t.size)).toList == t.toList) = _ := hb
        clear hb
        have g1 : (t.size : Int) ≤ (s.size : Int) - k := by omega
        go_enter Tryz.func17, Tryz.ntmps17
        go_wp2
        go_ret
        exact ⟨rfl, rfl⟩
    · have H : begB s k t = false := by unfold begB; rw [decide_eq_false hk]; simp
      rw [H]
      clear H
      have g1 : ¬ (t.size : Int) ≤ (s.size : Int) - k := by omega
      go_enter Tryz.func17, Tryz.ntmps17
      go_wp2
      go_ret
      exact ⟨rfl, rfl⟩
  · have H : begB s at_ t = false := by unfold begB; rw [decide_eq_false h0]; simp
    rw [H]
    clear H
    go_enter Tryz.func17, Tryz.ntmps17
    go_wp2
    go_ret
    exact ⟨rfl, rfl⟩

/-- What Index answers. -/
def IdxIs (s : ByteArray) (a : Nat) (t : ByteArray) (r : Int) : Prop :=
  (r = -1 ∧ ∀ i, a ≤ i → i + t.size ≤ s.size → begAt s i t = false) ∨
  (∃ k : Nat, r = k ∧ a ≤ k ∧ k + t.size ≤ s.size ∧ begAt s k t = true ∧ ∀ i, a ≤ i → i < k → begAt s i t = false)

end Go.Proofs.YtflfnnkdkfcpkaaGreatDoor
