
/- Contract of the reference's reference. -/
import Derived.Test.YtflfnnkdkfcpkaaGreatDoorLxB
import Derived.Laws.Strings
namespace Go.Proofs.YtflfnnkdkfcpkaaGreatDoor
open Go.RowKit Wb

theorem cap_num {base : Int} (hb : 1 ≤ base) (l : List UInt8) :
    (numL base l = none ∧ numR base l = -1) ∨ ∃ m M, numL base l = some M ∧ numR base l = m ∧ 0 ≤ m ∧ (m = M ∨ (2000000 ≤ m ∧ 2000000 ≤ M)) := by
  by_cases h : l = []
  · subst h; exact .inl ⟨rfl, rfl⟩
  · rcases cap_dig base hb l 0 0 (Int.le_refl _) (.inl rfl) with ⟨h1, h2⟩ | ⟨m, M, h1, h2, h3, h4⟩
    · exact .inl ⟨by unfold numL; rw [if_neg h, h2], numR_none h1⟩
    · exact .inr ⟨m, M, by unfold numL; rw [if_neg h, h2], numR_some h h1, h3, h4⟩

theorem charB_big {n : Int} (h : 2000000 ≤ n) : charB n = false := by
  unfold charB
  simp [inS, charS]
  omega

/-- The number that the reference reckons with. -/
def refM (t : List UInt8) : Int := if t.take 2 = [35, 120] then numR 16 (t.drop 2) else if t.take 1 = [35] then numR 10 (t.drop 1) else -1

theorem refN_M (t : List UInt8) : (match refN t with | some n => if charB n then some (enc n) else none | none => none) = if 0 ≤ refM t ∧ charB (refM t) = true then some (enc (refM t)) else none := by
  have key : ∀ (base : Int) (l : List UInt8), 1 ≤ base → (match numL base l with | some n => if charB n then some (enc n) else none | none => none) = if 0 ≤ numR base l ∧ charB (numR base l) = true then some (enc (numR base l)) else none := by
    intro base l hb
    rcases cap_num hb l with ⟨h1, h2⟩ | ⟨m, M, h1, h2, h3, h4⟩
    · rw [h1, h2]; simp
    · rw [h1, h2]
      rcases h4 with rfl | ⟨h5, h6⟩
      · simp [h3]
      · simp only [charB_big h5, charB_big h6]; simp
  unfold refN refM
  by_cases h1 : t.take 2 = [35, 120]
  · simp only [if_pos h1]; exact key 16 _ (by omega)
  · simp only [if_neg h1]
    by_cases h2 : t.take 1 = [35]
    · simp only [if_pos h2]; exact key 10 _ (by omega)
    · simp only [if_neg h2]; simp

theorem refV_M {t : List UInt8} (h1 : t ≠ sLt) (h2 : t ≠ sGt) (h3 : t ≠ sAmp) (h4 : t ≠ sQuot) (h5 : t ≠ sApos) :
    refV t = if 0 ≤ refM t ∧ charB (refM t) = true then some (enc (refM t)) else none := by
  unfold refV
  rw [if_neg h1, if_neg h2, if_neg h3, if_neg h4, if_neg h5]
  exact refN_M t

theorem extract_L (s : ByteArray) (a b : Nat) : (s.extract a b).data.toList = (s.data.toList.drop a).take (b - a) := by
  simp only [ByteArray.data_extract, Array.toList_extract]

theorem begAt_L (s t : ByteArray) (i : Nat) : begAt s i t = true ↔ (s.data.toList.drop i).take t.size = t.data.toList := by
  unfold begAt
  rw [ByteArray.toList_eq, ByteArray.toList_eq, beq_iff_eq, extract_L]
  rw [show i + t.size - i = t.size from by omega]

theorem begAt_one (s : ByteArray) (i : Nat) (c : UInt8) (h : i < s.size) : begAt s i ⟨#[c]⟩ = true ↔ s[i] = c := by
  rw [begAt_L, drop_byte s i h]
  show [s[i]] = [c] ↔ _
  simp

/-- What stands at a reference's place: what it stands for, and how long it is between & and ;. -/
def refAt (s : ByteArray) (k : Nat) : Option (List UInt8 × Nat) :=
  match semi (s.data.toList.drop (k + 1)) with
  | none => none
  | some (t, _) => match refV t with
    | none => none
    | some x => some (x, t.length)

theorem semi_at {s : ByteArray} {k : Nat} (hk : k < s.size) (h38 : s[k] = 38) {r : Int} (h : IdxIs s k ⟨#[59]⟩ r) :
    (r = -1 ∧ semi (s.data.toList.drop (k + 1)) = none) ∨ ∃ e : Nat, r = e ∧ k + 1 ≤ e ∧ e < s.size ∧ semi (s.data.toList.drop (k + 1)) = some ((s.extract (k + 1) e).data.toList, s.data.toList.drop (e + 1)) ∧ (s.extract (k + 1) e).data.toList.length = e - (k + 1) := by
  have one : (⟨#[59]⟩ : ByteArray).size = 1 := rfl
  have hL : s.data.toList.length = s.size := by simp
  have at_ : ∀ j (hj : j < (s.data.toList.drop (k + 1)).length), (s.data.toList.drop (k + 1))[j] = s[k + 1 + j]'(by simp at hj; omega) := by
    intro j hj
    rw [List.getElem_drop]; rfl
  rcases h with ⟨rfl, h⟩ | ⟨e, rfl, h1, h2, h3, h4⟩
  · refine .inl ⟨rfl, semi_none _ (fun j hj => ?_)⟩
    rw [at_ j hj]
    intro he
    simp at hj
    have := (begAt_one s (k + 1 + j) 59 (by omega)).2 he
    rw [h (k + 1 + j) (by omega) (by rw [one]; omega)] at this
    cases this
  · rw [one] at h2
    have h5 := (begAt_one s e 59 (by omega)).1 h3
    have hne : e ≠ k := by
      rintro rfl
      rw [h38] at h5
      exact absurd h5 (by decide)
    refine .inr ⟨e, rfl, by omega, by omega, ?_, ?_⟩
    · have hj : e - (k + 1) < (s.data.toList.drop (k + 1)).length := by simp; omega
      rw [semi_some _ (e - (k + 1)) hj]
      · rw [extract_L, List.drop_drop]
        congr 3
        omega
      · rw [at_ _ hj]
        have : k + 1 + (e - (k + 1)) = e := by omega
        simp only [this, h5]
      · intro j hjk
        rw [at_ j (by omega)]
        intro he
        have := (begAt_one s (k + 1 + j) 59 (by omega)).2 he
        rw [h4 (k + 1 + j) (by omega) (by omega)] at this
        cases this
    · rw [extract_L]; simp; omega

theorem enc_ne {n : Int} (h : charB n = true) : enc n ≠ [] := by
  have hs : sgn n = true := by
    unfold charB at h
    simp [inS, charS] at h
    rw [sgn_iff]
    omega
  unfold enc
  rw [if_pos hs]
  split
  · simp
  · split
    · simp
    · split <;> simp
theorem refV_ne {t x : List UInt8} (h : refV t = some x) : x ≠ [] := by
  unfold refV at h
  split at h
  · cases h; simp
  · split at h
    · cases h; simp
    · split at h
      · cases h; simp
      · split at h
        · cases h; simp
        · split at h
          · cases h; simp
          · split at h
            · split at h
              · cases h; exact enc_ne (by assumption)
              · cases h
            · cases h
end Go.Proofs.YtflfnnkdkfcpkaaGreatDoor
