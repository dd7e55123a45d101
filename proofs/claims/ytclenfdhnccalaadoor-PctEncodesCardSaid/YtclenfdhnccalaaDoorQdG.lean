
/- Contracts of package pct: plain, digit, escaped. -/
import Derived.Test.YtclenfdhnccalaaDoorQdF
namespace Wb
/-- What two digits count; is it an escape? (s: what stands behind the percent sign.) -/
def escV (s : List UInt8) : UInt8 := match s with
  | a :: b :: _ => if dgV a < 0 ∨ dgV b < 0 then 0 else UInt8.ofNat (dgV a * 16 + dgV b).toNat
  | _ => 0
def escO (s : List UInt8) : Bool := match s with
  | a :: b :: _ => !decide (dgV a < 0 ∨ dgV b < 0)
  | _ => false
end Wb
namespace Go.Proofs.YtclenfdhnccalaaDoor
open Go.RowKit Wb

set_option maxRecDepth 100000 in
set_option maxHeartbeats 4000000 in
theorem pplain_any (c : UInt8) (w : World) :
    Calls Tryd.prog 29 #[.int .u8 c.toNat] w fun e w' => e = .returned (.bool (plC c)) ∧ w = w' := by
  have hv : ∀ b : Bool, (plC c = b ↔ ((97 ≤ c.toNat ∧ c.toNat ≤ 122) ∨ (65 ≤ c.toNat ∧ c.toNat ≤ 90) ∨ (48 ≤ c.toNat ∧ c.toNat ≤ 57) ∨ c.toNat = 45 ∨ c.toNat = 46 ∨ c.toNat = 95 ∨ c.toNat = 126 ↔ b = true)) := by
    intro b
    unfold plC
    rw [Bool.eq_iff_iff]
    have e : ∀ d : UInt8, (c == d) = true ↔ c.toNat = d.toNat := fun d => by rw [beq_iff_eq, UInt8.toNat_inj]
    simp only [Bool.or_eq_true, Bool.and_eq_true, decide_eq_true_eq, or_assoc, e]
    rfl
  have hr : (plC c = true ∧ 97 ≤ c.toNat ∧ c.toNat ≤ 122) ∨ (plC c = true ∧ 65 ≤ c.toNat ∧ c.toNat ≤ 90) ∨ (plC c = true ∧ 48 ≤ c.toNat ∧ c.toNat ≤ 57) ∨
      (plC c = true ∧ (c.toNat = 45 ∨ c.toNat = 46 ∨ c.toNat = 95 ∨ c.toNat = 126)) ∨
      (plC c = false ∧ c.toNat < 48 ∧ c.toNat ≠ 45 ∧ c.toNat ≠ 46) ∨ (plC c = false ∧ 57 < c.toNat ∧ c.toNat < 65) ∨ (plC c = false ∧ 90 < c.toNat ∧ c.toNat < 97 ∧ c.toNat ≠ 95) ∨ (plC c = false ∧ 122 < c.toNat ∧ c.toNat ≠ 126) := by
    rw [hv true, hv false]
    simp only [Bool.false_eq_true, iff_false, iff_true]
    omega
  clear hv
  go_enter Tryd.func29, Tryd.ntmps29
  rcases hr with ⟨hr, h1, h2⟩ | ⟨hr, h1, h2⟩ | ⟨hr, h1, h2⟩ | ⟨hr, h1 | h1 | h1 | h1⟩ | ⟨hr, h1, h2, h3⟩ | ⟨hr, h1, h2⟩ | ⟨hr, h1, h2, h3⟩ | ⟨hr, h1, h2⟩
  all_goals
    rw [hr]
    clear hr
    go_wp2
    go_ret
  all_goals first
    | exact ⟨rfl, rfl⟩
    | (refine ⟨?_, rfl⟩; simp; omega)
    | (refine ⟨?_, rfl⟩; simp [h1])

/-- A digit's number as a byte; is it one? -/
def dgO (c : UInt8) : Bool := decide (0 ≤ dgV c)
def dgW (c : UInt8) : Int := if dgV c < 0 then 0 else dgV c

set_option maxRecDepth 100000 in
set_option maxHeartbeats 4000000 in
theorem pdigit_any (c : UInt8) (w : World) :
    Calls Tryd.prog 26 #[.int .u8 c.toNat] w fun e w' => e = .returned (.tuple #[.int .u8 (dgW c), .bool (dgO c)]) ∧ w = w' := by
  have hr : (dgW c = c.toNat - 48 ∧ dgO c = true ∧ 48 ≤ c.toNat ∧ c.toNat ≤ 57) ∨ (dgW c = c.toNat - 55 ∧ dgO c = true ∧ 65 ≤ c.toNat ∧ c.toNat ≤ 70) ∨ (dgW c = c.toNat - 87 ∧ dgO c = true ∧ 97 ≤ c.toNat ∧ c.toNat ≤ 102) ∨
      (dgW c = 0 ∧ dgO c = false ∧ c.toNat < 48) ∨ (dgW c = 0 ∧ dgO c = false ∧ 57 < c.toNat ∧ c.toNat < 65) ∨ (dgW c = 0 ∧ dgO c = false ∧ 70 < c.toNat ∧ c.toNat < 97) ∨ (dgW c = 0 ∧ dgO c = false ∧ 102 < c.toNat) := by
    have hd : (dgV c = c.toNat - 48 ∧ 48 ≤ c.toNat ∧ c.toNat ≤ 57) ∨ (dgV c = c.toNat - 55 ∧ 65 ≤ c.toNat ∧ c.toNat ≤ 70) ∨ (dgV c = c.toNat - 87 ∧ 97 ≤ c.toNat ∧ c.toNat ≤ 102) ∨
        (dgV c = -1 ∧ c.toNat < 48) ∨ (dgV c = -1 ∧ 57 < c.toNat ∧ c.toNat < 65) ∨ (dgV c = -1 ∧ 70 < c.toNat ∧ c.toNat < 97) ∨ (dgV c = -1 ∧ 102 < c.toNat) := by
      unfold dgV
      repeat' split
      all_goals omega
    unfold dgW dgO
    rcases hd with ⟨h, h1, h2⟩ | ⟨h, h1, h2⟩ | ⟨h, h1, h2⟩ | ⟨h, h1⟩ | ⟨h, h1, h2⟩ | ⟨h, h1, h2⟩ | ⟨h, h1⟩
    · refine .inl ⟨?_, ?_, h1, h2⟩
      · rw [if_neg (by omega)]; exact h
      · rw [decide_eq_true_eq]; omega
    · refine .inr (.inl ⟨?_, ?_, h1, h2⟩)
      · rw [if_neg (by omega)]; exact h
      · rw [decide_eq_true_eq]; omega
    · refine .inr (.inr (.inl ⟨?_, ?_, h1, h2⟩))
      · rw [if_neg (by omega)]; exact h
      · rw [decide_eq_true_eq]; omega
    all_goals have hz : (if dgV c < 0 then (0 : Int) else dgV c) = 0 ∧ decide (0 ≤ dgV c) = false := ⟨by rw [if_pos (by omega)], by rw [decide_eq_false_iff_not]; omega⟩
    · exact .inr (.inr (.inr (.inl ⟨hz.1, hz.2, h1⟩)))
    · exact .inr (.inr (.inr (.inr (.inl ⟨hz.1, hz.2, h1, h2⟩))))
    · exact .inr (.inr (.inr (.inr (.inr (.inl ⟨hz.1, hz.2, h1, h2⟩)))))
    · exact .inr (.inr (.inr (.inr (.inr (.inr ⟨hz.1, hz.2, h1⟩)))))
  have hk := c.toNat_lt
  go_enter Tryd.func26, Tryd.ntmps26
  rcases hr with ⟨hr, hq, h1, h2⟩ | ⟨hr, hq, h1, h2⟩ | ⟨hr, hq, h1, h2⟩ | ⟨hr, hq, h1⟩ | ⟨hr, hq, h1, h2⟩ | ⟨hr, hq, h1, h2⟩ | ⟨hr, hq, h1⟩
  all_goals
    rw [hr, hq]
    clear hr hq
    go_wp2
    go_ret2
  all_goals first
    | exact ⟨rfl, rfl⟩
    | (refine ⟨?_, rfl⟩; go_num)
end Go.Proofs.YtclenfdhnccalaaDoor
