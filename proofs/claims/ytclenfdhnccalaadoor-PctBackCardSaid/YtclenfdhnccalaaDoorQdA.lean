
/- Contracts of the document's answer: Plain, digit. -/
import Derived.Test.YtclenfdhnccalaaDoorQdQ
import Derived.Test.YtclenfdhnccalaaDoorTxt
import Derived.Test.YtclenfdhnccalaaDoorUtfF
import Derived.Deep.Cut
namespace Go.Proofs.YtclenfdhnccalaaDoor
open Go.RowKit Wb

set_option maxRecDepth 100000 in
set_option maxHeartbeats 4000000 in
theorem rplain_any (c : UInt8) (w : World) :
    Calls Tryd.prog 12 #[.int .u8 c.toNat] w fun e w' => e = .returned (.bool (plC c)) ∧ w = w' := by
  have hv : ∀ b : Bool, (plC c = b ↔ ((97 ≤ c.toNat ∧ c.toNat ≤ 122) ∨ (65 ≤ c.toNat ∧ c.toNat ≤ 90) ∨ (48 ≤ c.toNat ∧ c.toNat ≤ 57) ∨ c.toNat = 45 ∨ c.toNat = 46 ∨ c.toNat = 95 ∨ c.toNat = 126 ↔ b = true)) := by
    intro b
    unfold plC
    rw [Bool.eq_iff_iff]
    have e : ∀ d : UInt8, (c == d) = true ↔ c.toNat = d.toNat := fun d => by rw [beq_iff_eq, UInt8.toNat_inj]
    simp only [Bool.or_eq_true, Bool.and_eq_true, decide_eq_true_eq, or_assoc, e]
    rfl
  have hr : (plC c = true ∧ 97 ≤ c.toNat ∧ c.toNat ≤ 122) ∨ (plC c = true ∧ 65 ≤ c.toNat ∧ c.toNat ≤ 90) ∨ (plC c = true ∧ 48 ≤ c.toNat ∧ c.toNat ≤ 57) ∨
      (plC c = true ∧ (c.toNat = 45 ∨ c.toNat = 46 ∨ c.toNat = 95 ∨ c.toNat = 126)) ∨
      (plC c = false ∧ c.toNat < 48 ∧ c.toNat ≠ 45 ∧ c.toNat ≠ 46) ∨ (plC c = false ∧ 57 < c.toNat ∧ c.toNat < 65) ∨ (plC c = false ∧ 90 < c.toNat ∧ c.toNat < 97 ∧ c.toNat ≠ 95) ∨ (plC c = false ∧ 122 < c.toNat ∧ c.toNat ≠ 126) := by
    rw [hv true, hv false]
    simp only [Bool.false_eq_true, iff_false, iff_true]
    omega
  clear hv
  go_enter Tryd.func12, Tryd.ntmps12
  rcases hr with ⟨hr, h1, h2⟩ | ⟨hr, h1, h2⟩ | ⟨hr, h1, h2⟩ | ⟨hr, h1 | h1 | h1 | h1⟩ | ⟨hr, h1, h2, h3⟩ | ⟨hr, h1, h2⟩ | ⟨hr, h1, h2, h3⟩ | ⟨hr, h1, h2⟩
  all_goals
    rw [hr]
    clear hr
    go_wp2
    go_ret
  all_goals first
    | exact ⟨rfl, rfl⟩
    | (refine ⟨?_, rfl⟩; simp; omega)
    | (refine ⟨?_, rfl⟩; simp [h1])

set_option maxRecDepth 100000 in
set_option maxHeartbeats 4000000 in
theorem rdigit_any (c : UInt8) (w : World) :
    Calls Tryd.prog 20 #[.int .u8 c.toNat] w fun e w' => e = .returned (.int .i64 (dgV c)) ∧ w = w' := by
  have hr : (dgV c = c.toNat - 48 ∧ 48 ≤ c.toNat ∧ c.toNat ≤ 57) ∨ (dgV c = c.toNat - 55 ∧ 65 ≤ c.toNat ∧ c.toNat ≤ 70) ∨ (dgV c = c.toNat - 87 ∧ 97 ≤ c.toNat ∧ c.toNat ≤ 102) ∨
      (dgV c = -1 ∧ c.toNat < 48) ∨ (dgV c = -1 ∧ 57 < c.toNat ∧ c.toNat < 65) ∨ (dgV c = -1 ∧ 70 < c.toNat ∧ c.toNat < 97) ∨ (dgV c = -1 ∧ 102 < c.toNat) := by
    unfold dgV
    repeat' split
    all_goals omega
  have hk := c.toNat_lt
  go_enter Tryd.func20, Tryd.ntmps20
  rcases hr with ⟨hr, h1, h2⟩ | ⟨hr, h1, h2⟩ | ⟨hr, h1, h2⟩ | ⟨hr, h1⟩ | ⟨hr, h1, h2⟩ | ⟨hr, h1, h2⟩ | ⟨hr, h1⟩
  all_goals
    rw [hr]
    clear hr
    go_wp2
    go_ret
  all_goals first
    | exact ⟨rfl, rfl⟩
    | (refine ⟨?_, rfl⟩; go_num)
end Go.Proofs.YtclenfdhnccalaaDoor
