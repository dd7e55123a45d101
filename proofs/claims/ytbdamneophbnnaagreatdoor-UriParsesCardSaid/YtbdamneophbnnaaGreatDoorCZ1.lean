/- LxPlain UtfA. -/
import Derived.Test.YtbdamneophbnnaaGreatDoorCU15
import Derived.Test.YtbdamneophbnnaaGreatDoorCU17
namespace Wb
def capL (base : Int) : Int → List UInt8 → Option Int
  | n, [] => some n
  | n, c :: l => if base ≤ digV c.toNat then none else capL base (if n < 2000000 then n * base + digV c.toNat else n) l
theorem cap_dig (base : Int) (hb : 1 ≤ base) : ∀ (l : List UInt8) (n N : Int), 0 ≤ n → (n = N ∨ (2000000 ≤ n ∧ 2000000 ≤ N)) →
    (capL base n l = none ∧ digL base N l = none) ∨ ∃ m M, capL base n l = some m ∧ digL base N l = some M ∧ 0 ≤ m ∧ (m = M ∨ (2000000 ≤ m ∧ 2000000 ≤ M))
  | [], n, N, h0, h => .inr ⟨n, N, rfl, rfl, h0, h⟩
  | c :: l, n, N, h0, h => by
    unfold capL digL
    have hd := digV_nn c.toNat
    by_cases hbad : base ≤ digV c.toNat
    · rw [if_pos hbad, if_pos hbad]; exact .inl ⟨rfl, rfl⟩
    · rw [if_neg hbad, if_neg hbad]
      by_cases hn : n < 2000000
      · rw [if_pos hn]
        rcases h with rfl | ⟨h1, _⟩
        · exact cap_dig base hb l _ _ (Int.add_nonneg (Int.mul_nonneg h0 (by omega)) hd) (.inl rfl)
        · omega
      · rw [if_neg hn]
        refine cap_dig base hb l _ _ h0 (.inr ⟨by omega, ?_⟩)
        have hN : 2000000 ≤ N := by rcases h with rfl | ⟨_, h⟩ <;> omega
        have : N * 1 ≤ N * base := Int.mul_le_mul_of_nonneg_left hb (by omega)
        omega
end Wb
namespace Go.Proofs.YtbdamneophbnnaaGreatDoor
open Go.RowKit Wb
set_option maxHeartbeats 400000 in
theorem rblank_any (c : Int) (w : World) :
    Calls Tryz.prog 41 #[.int .u8 c] w fun e w' => e = .returned (.bool (blk c)) ∧ w = w' := by
  go_enter Tryz.func41, Tryz.ntmps41
  go_wp2
  all_goals
    go_ret
    refine ⟨ret_b ?_, rfl⟩
    unfold blk
    simp_all
end Go.Proofs.YtbdamneophbnnaaGreatDoor
