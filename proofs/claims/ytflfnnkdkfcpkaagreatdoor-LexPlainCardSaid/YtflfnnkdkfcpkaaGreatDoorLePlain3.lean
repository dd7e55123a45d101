
/- Plain: the landed code's functions over the signs that a range comes to. No program in sight. -/
import Derived.Test.YtflfnnkdkfcpkaaGreatDoorLeV
import Derived.Test.YtflfnnkdkfcpkaaGreatDoorMgF
namespace Wb
open Go

theorem idx_behind (s : ByteArray) : ∀ (f pos : Nat), s.size ≤ pos + f →
    (Lib.idxFuncFrom (fun x => partB (x : Int)) false s f pos = -1 ∧ behindU f (s.data.toList.drop pos) = []) ∨
    ∃ k : Nat, Lib.idxFuncFrom (fun x => partB (x : Int)) false s f pos = (k : Int) ∧ k < s.size ∧ behindU f (s.data.toList.drop pos) = s.data.toList.drop k
  | 0, pos, h => .inl ⟨rfl, by
      show s.data.toList.drop pos = []
      exact List.drop_eq_nil_of_le (by have : s.size = s.data.toList.length := by simp
                                       omega)⟩
  | f + 1, pos, h => by
    have hs : s.size = s.data.toList.length := by simp
    unfold Lib.idxFuncFrom behindU
    by_cases hp : pos < s.size
    · have hne : s.data.toList.drop pos ≠ [] := by
        intro e
        have := congrArg List.length e
        rw [List.length_drop] at this
        simp at this
        omega
      rw [if_pos hp, if_neg hne, decode_U s pos hp]
      by_cases hq : partB ((decU (s.data.toList.drop pos)).1 : Int) = true
      · rw [if_neg (by rw [hq]; decide), if_pos hq, List.drop_drop]
        exact idx_behind s f _ (by have := decU_pos (s.data.toList.drop pos); omega)
      · rw [if_pos (Bool.eq_false_iff.2 hq), if_neg hq]
        exact .inr ⟨pos, rfl, hp, rfl⟩
    · have he : s.data.toList.drop pos = [] := List.drop_eq_nil_of_le (by omega)
      rw [if_neg hp, he, if_pos rfl]
      exact .inl ⟨rfl, rfl⟩
theorem trim_behind (s : ByteArray) : (Lib.trimLeftF (fun x => partB (x : Int)) s).data.toList = behindU s.size s.data.toList := by
  have hs : s.size = s.data.toList.length := by simp
  unfold Lib.trimLeftF Lib.idxFunc
  rcases idx_behind s s.size 0 (by omega) with ⟨h1, h2⟩ | ⟨k, h1, h2, h3⟩
  · rw [h1, if_pos rfl]
    rw [List.drop_zero] at h2
    rw [h2]
  · rw [h1, if_neg (by omega)]
    rw [List.drop_zero] at h3
    rw [h3]
    rw [Go.Proofs.YtflfnnkdkfcpkaaGreatDoor.extract_L, Int.toNat_natCast, List.take_of_length_le (by rw [List.length_drop]; omega)]

theorem low_all : ∀ d ∈ [120, 109, 108, 117, 116, 102, 45, 56], ∀ c : Fin 256, (decide (c.val < 128) && foldE c.val (UInt8.toNat d)) = ((if 65 ≤ UInt8.ofNat c.val ∧ UInt8.ofNat c.val ≤ 90 then UInt8.ofNat c.val + 32 else UInt8.ofNat c.val) == d) := by decide +kernel
end Wb
