import Derived.Test.YtjohfljkhlkjoaaGreatDoorMgU
import Derived.Test.YtjohfljkhlkjoaaGreatDoorMgX
import Derived.Test.YtjohfljkhlkjoaaGreatDoorMem3
import Derived.Laws.Strings
namespace Go.Proofs.YtjohfljkhlkjoaaGreatDoor
open Go.RowKit Wb
end Go.Proofs.YtjohfljkhlkjoaaGreatDoor

namespace Go.Proofs.YtjohfljkhlkjoaaGreatDoor
open Go.RowKit Wb
end Go.Proofs.YtjohfljkhlkjoaaGreatDoor

namespace Go.Proofs.YtjohfljkhlkjoaaGreatDoor
open Go.RowKit Wb
theorem extract_L (s : ByteArray) (a b : Nat) : (s.extract a b).data.toList = (s.data.toList.drop a).take (b - a) := by
  simp only [ByteArray.data_extract, Array.toList_extract]
theorem enc_ne {n : Int} (h : charB n = true) : enc n ≠ [] := by
  have hs : sgn n = true := by
    unfold charB at h
    simp [inS, charS] at h
    rw [sgn_iff]
    omega
  unfold enc
  rw [if_pos hs]
  split
  · simp
  · split
    · simp
    · split <;> simp
theorem refV_ne {t x : List UInt8} (h : refV t = some x) : x ≠ [] := by
  unfold refV at h
  split at h
  · cases h; simp
  · split at h
    · cases h; simp
    · split at h
      · cases h; simp
      · split at h
        · cases h; simp
        · split at h
          · cases h; simp
          · split at h
            · split at h
              · cases h; exact enc_ne (by assumption)
              · cases h
            · cases h
end Go.Proofs.YtjohfljkhlkjoaaGreatDoor

namespace Go.Proofs.YtjohfljkhlkjoaaGreatDoor
open Go.RowKit Wb
def nm : Nat → List UInt8
  | 0 => sLt
  | 1 => sGt
  | 2 => sAmp
  | 3 => sQuot
  | _ => sApos
end Go.Proofs.YtjohfljkhlkjoaaGreatDoor

namespace Go.Proofs.YtjohfljkhlkjoaaGreatDoor
open Go.RowKit Wb
theorem map_cons (o : Except Nat (List UInt8)) (out : List UInt8) (c : UInt8) : (o.map (c :: ·)).map (out ++ ·) = o.map ((out ++ [c]) ++ ·) := by
  cases o <;> simp [Except.map]
theorem enc_le (n : Int) : (enc n).length ≤ 4 := by
  unfold enc
  split
  · split
    · simp
    · split
      · simp
      · split <;> simp
  · simp
theorem refV_le {t x : List UInt8} (h : refV t = some x) : x.length ≤ 4 := by
  unfold refV at h
  split at h
  · cases h; simp
  · split at h
    · cases h; simp
    · split at h
      · cases h; simp
      · split at h
        · cases h; simp
        · split at h
          · cases h; simp
          · split at h
            · split at h
              · cases h; exact enc_le _
              · cases h
            · cases h
end Go.Proofs.YtjohfljkhlkjoaaGreatDoor

namespace Go.Proofs.YtjohfljkhlkjoaaGreatDoor
open Go.RowKit Wb
theorem b8_toNat (b : UInt8) : b8 (b.toNat : Int) = b := by unfold b8; simp
theorem map_nil (o : Except Nat (List UInt8)) : o = o.map ([] ++ ·) := by cases o <;> rfl
end Go.Proofs.YtjohfljkhlkjoaaGreatDoor

namespace Go.Proofs.YtjohfljkhlkjoaaGreatDoor
open Go.RowKit Wb
theorem unL_len (attr : Bool) : ∀ (f : Nat) (l : List UInt8) (k : Nat) (a : List UInt8), unL attr f l k = .ok a → a.length ≤ 4 * l.length := by
  intro f
  induction f with
  | zero =>
    intro l k a h
    simp only [unL, Except.ok.injEq] at h
    subst h
    simp
  | succ f ih =>
    intro l k a h
    cases l with
    | nil =>
      simp only [unL, Except.ok.injEq] at h
      subst h
      simp
    | cons c l =>
      unfold unL at h
      split at h
      · cases hs : semi l with
        | none => rw [hs] at h; cases h
        | some p =>
          obtain ⟨t, r⟩ := p
          rw [hs] at h
          simp only at h
          cases hv : refV t with
          | none => rw [hv] at h; cases h
          | some x =>
            rw [hv] at h
            simp only at h
            obtain ⟨b, hb, rfl⟩ := ex_map_ok h
            have h1 := ih _ _ _ hb
            have h2 := refV_le hv
            have h3 := congrArg List.length (semi_drop hs)
            simp only [List.length_append, List.length_cons] at h3 ⊢
            omega
      · split at h
        · split at h
          · obtain ⟨b, hb, rfl⟩ := ex_map_ok h
            have h1 := ih _ _ _ hb
            simp only [List.length_drop, List.length_cons] at h1 ⊢
            omega
          · obtain ⟨b, hb, rfl⟩ := ex_map_ok h
            have h1 := ih _ _ _ hb
            simp only [List.length_cons] at h1 ⊢
            omega
        · obtain ⟨b, hb, rfl⟩ := ex_map_ok h
          have h1 := ih _ _ _ hb
          simp only [List.length_cons] at h1 ⊢
          omega
end Go.Proofs.YtjohfljkhlkjoaaGreatDoor

