/- LxC LxE. -/
import Derived.Deep.AppendSrc
import Derived.Laws.Strings
import Derived.Test.YtlcjepnaljfpkaaGreatDoorQl1
import Derived.Test.YtlcjepnaljfpkaaGreatDoorQl5
import Derived.Test.YtlcjepnaljfpkaaGreatDoorQl10
namespace Go.Proofs.YtlcjepnaljfpkaaGreatDoor
open Go.RowKit Wb
theorem extract_L (s : ByteArray) (a b : Nat) : (s.extract a b).data.toList = (s.data.toList.drop a).take (b - a) := by
  simp only [ByteArray.data_extract, Array.toList_extract]
theorem enc_ne {n : Int} (h : charB n = true) : enc n ≠ [] := by
  have hs : sgn n = true := by
    unfold charB at h
    simp [inS, charS] at h
    rw [sgn_iff]
    omega
  unfold enc
  rw [if_pos hs]
  split
  · simp
  · split
    · simp
    · split <;> simp
theorem refV_ne {t x : List UInt8} (h : refV t = some x) : x ≠ [] := by
  unfold refV at h
  split at h
  · cases h; simp
  · split at h
    · cases h; simp
    · split at h
      · cases h; simp
      · split at h
        · cases h; simp
        · split at h
          · cases h; simp
          · split at h
            · split at h
              · cases h; exact enc_ne (by assumption)
              · cases h
            · cases h
end Go.Proofs.YtlcjepnaljfpkaaGreatDoor
namespace Go.Proofs.YtlcjepnaljfpkaaGreatDoor
open Go.RowKit Wb
def unB (s : ByteArray) (attr : Bool) : ByteArray × Int × Int :=
  match unL attr (s.size + 1) s.data.toList 0 with
  | .ok x => (⟨x.toArray⟩, 0, 0)
  | .error p => (⟨#[]⟩, p, 16)
theorem unB_ok {s : ByteArray} {attr : Bool} {x : List UInt8} (h : unL attr (s.size + 1) s.data.toList 0 = .ok x) : unB s attr = (⟨x.toArray⟩, 0, 0) := by unfold unB; rw [h]
theorem unB_bad {s : ByteArray} {attr : Bool} {p : Nat} (h : unL attr (s.size + 1) s.data.toList 0 = .error p) : unB s attr = (⟨#[]⟩, (p : Int), 16) := by unfold unB; rw [h]
theorem un_end {s : ByteArray} {k f : Nat} {attr : Bool} (hk : s.size ≤ k) : unL attr (f + 1) (s.data.toList.drop k) k = .ok [] := by
  rw [List.drop_eq_nil_of_le (by simpa using hk)]; rfl
theorem enc_le (n : Int) : (enc n).length ≤ 4 := by
  unfold enc
  split
  · split
    · simp
    · split
      · simp
      · split <;> simp
  · simp
theorem refV_le {t x : List UInt8} (h : refV t = some x) : x.length ≤ 4 := by
  unfold refV at h
  split at h
  · cases h; simp
  · split at h
    · cases h; simp
    · split at h
      · cases h; simp
      · split at h
        · cases h; simp
        · split at h
          · cases h; simp
          · split at h
            · split at h
              · cases h; exact enc_le _
              · cases h
            · cases h
end Go.Proofs.YtlcjepnaljfpkaaGreatDoor
