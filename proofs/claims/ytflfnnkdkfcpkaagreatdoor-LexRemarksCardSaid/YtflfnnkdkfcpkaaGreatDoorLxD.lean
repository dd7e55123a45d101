
/- Contract of the reference's reference: the walk. -/
import Derived.Test.YtflfnnkdkfcpkaaGreatDoorLxC
namespace Go.Proofs.YtflfnnkdkfcpkaaGreatDoor
open Go.RowKit Wb

/-- What reference answers at a place at which & stands. -/
def refT (s : ByteArray) (k : Nat) : ByteArray × Int :=
  match refAt s k with
  | some (x, n) => (⟨x.toArray⟩, (k : Int) + n + 2)
  | none => (⟨#[]⟩, k)

theorem refT_no {s : ByteArray} {k : Nat} (h : semi (s.data.toList.drop (k + 1)) = none) : refT s k = (⟨#[]⟩, (k : Int)) := by
  unfold refT refAt; rw [h]
theorem refT_bad {s : ByteArray} {k : Nat} {t r : List UInt8} (h : semi (s.data.toList.drop (k + 1)) = some (t, r)) (hv : refV t = none) : refT s k = (⟨#[]⟩, (k : Int)) := by
  unfold refT refAt; rw [h]; simp only [hv]
theorem refT_ok {s : ByteArray} {k : Nat} {t r x : List UInt8} (h : semi (s.data.toList.drop (k + 1)) = some (t, r)) (hv : refV t = some x) : refT s k = (⟨x.toArray⟩, (k : Int) + t.length + 2) := by
  unfold refT refAt; rw [h]; simp only [hv]

theorem begB_0 (t x : ByteArray) : begB t 0 x = true ↔ t.data.toList.take x.size = x.data.toList := by
  unfold begB
  have h := begAt_L t x 0
  rw [List.drop_zero] at h
  rw [← h]
  simp only [Int.le_refl, decide_true, Bool.true_and, Bool.and_eq_true, decide_eq_true_eq, Int.toNat_zero]
  constructor
  · exact fun h => h.2
  · intro h'
    refine ⟨?_, h'⟩
    have h2 := congrArg List.length (h.1 h')
    simp at h2
    omega
theorem begB_size {t x : ByteArray} (h : begB t 0 x = true) : (x.size : Int) ≤ t.size := by
  unfold begB at h
  simp at h
  omega

def nm : Nat → List UInt8
  | 0 => sLt
  | 1 => sGt
  | 2 => sAmp
  | 3 => sQuot
  | _ => sApos

end Go.Proofs.YtflfnnkdkfcpkaaGreatDoor
