
/- Plain: the landed code's functions over the signs that a range comes to. No program in sight. -/
import Derived.Test.YtohhdjkoomfioaaGreatDoorLeV
namespace Wb
open Go

def behindU : Nat → List UInt8 → List UInt8
  | 0, l => l
  | f + 1, l => if l = [] then [] else if partB (decU l).1 = true then behindU f (l.drop (decU l).2) else l

theorem decU_pos (l : List UInt8) : 1 ≤ (decU l).2 := by
  have hn := (dec_bd l).1
  unfold decU
  by_cases h : (dec l).2 = 0
  · simp [h]
  · simp only [h, if_false]
    omega

theorem behindU_drop : ∀ (f : Nat) (l : List UInt8), ∃ k, k ≤ l.length ∧ behindU f l = l.drop k
  | 0, l => ⟨0, Nat.zero_le _, rfl⟩
  | f + 1, l => by
    unfold behindU
    split
    · rename_i h; exact ⟨0, Nat.zero_le _, by rw [h]; rfl⟩
    · split
      · obtain ⟨k, hk, he⟩ := behindU_drop f (l.drop (decU l).2)
        rw [List.length_drop] at hk
        by_cases hd : (decU l).2 ≤ l.length
        · exact ⟨(decU l).2 + k, by omega, by rw [he, List.drop_drop]⟩
        · exact ⟨l.length, Nat.le_refl _, by rw [he, List.drop_drop, List.drop_eq_nil_of_le (by omega), List.drop_eq_nil_of_le (Nat.le_refl _)]⟩
      · exact ⟨0, Nat.zero_le _, rfl⟩

theorem idx_behind (s : ByteArray) : ∀ (f pos : Nat), s.size ≤ pos + f →
    (Lib.idxFuncFrom (fun x => partB (x : Int)) false s f pos = -1 ∧ behindU f (s.data.toList.drop pos) = []) ∨
    ∃ k : Nat, Lib.idxFuncFrom (fun x => partB (x : Int)) false s f pos = (k : Int) ∧ k < s.size ∧ behindU f (s.data.toList.drop pos) = s.data.toList.drop k
  | 0, pos, h => .inl ⟨rfl, by
      show s.data.toList.drop pos = []
      exact List.drop_eq_nil_of_le (by have : s.size = s.data.toList.length := by simp
                                       omega)⟩
  | f + 1, pos, h => by
    have hs : s.size = s.data.toList.length := by simp
    unfold Lib.idxFuncFrom behindU
    by_cases hp : pos < s.size
    · have hne : s.data.toList.drop pos ≠ [] := by
        intro e
        have := congrArg List.length e
        rw [List.length_drop] at this
        simp at this
        omega
      rw [if_pos hp, if_neg hne, decode_U s pos hp]
      by_cases hq : partB ((decU (s.data.toList.drop pos)).1 : Int) = true
      · rw [if_neg (by rw [hq]; decide), if_pos hq, List.drop_drop]
        exact idx_behind s f _ (by have := decU_pos (s.data.toList.drop pos); omega)
      · rw [if_pos (Bool.eq_false_iff.2 hq), if_neg hq]
        exact .inr ⟨pos, rfl, hp, rfl⟩
    · have he : s.data.toList.drop pos = [] := List.drop_eq_nil_of_le (by omega)
      rw [if_neg hp, he, if_pos rfl]
      exact .inl ⟨rfl, rfl⟩
theorem trim_behind (s : ByteArray) : (Lib.trimLeftF (fun x => partB (x : Int)) s).data.toList = behindU s.size s.data.toList := by
  have hs : s.size = s.data.toList.length := by simp
  unfold Lib.trimLeftF Lib.idxFunc
  rcases idx_behind s s.size 0 (by omega) with ⟨h1, h2⟩ | ⟨k, h1, h2, h3⟩
  · rw [h1, if_pos rfl]
    rw [List.drop_zero] at h2
    rw [h2]
  · rw [h1, if_neg (by omega)]
    rw [List.drop_zero] at h3
    rw [h3]
    rw [Go.Proofs.YtohhdjkoomfioaaGreatDoor.extract_L, Int.toNat_natCast, List.take_of_length_le (by rw [List.length_drop]; omega)]

def instructionU (L : List UInt8) (fr : Nat) : Er Nat :=
  let r := L.drop (fr + 2)
  let b := behindU r.length r
  let name := r.take (r.length - b.length)
  if nameB name = false ∨ lowL name = sXml then .error (fr, 12)
  else if b ≠ [] ∧ (b.take 1).any blkB = false ∧ b.take 2 ≠ [63, 62] then .error (fr, 4)
  else match upToX L fr (fr + 2) [63, 62] with
    | .error e => .error e
    | .ok (_, a) => .ok a

def tokenU (L : List UInt8) (fr : Nat) : Er (Option Tk × Nat) :=
  let r := L.drop fr
  if r.take 1 ≠ [60] then someX (textX L fr)
  else if r.take 2 = [60, 63] then noneX (instructionU L fr)
  else if r.take 4 = [60, 33, 45, 45] then noneX (commentX L fr)
  else if r.take 9 = [60, 33, 91, 67, 68, 65, 84, 65, 91] then someX (sectionX L fr)
  else if r.take 3 = [60, 33, 68] then .error (fr, 17)
  else if r.take 2 = [60, 33] then .error (fr, 4)
  else if r.take 2 = [60, 47] then someX (endTagX L fr)
  else someX (startTagX L fr)

def tokLU (L : List UInt8) : Nat → Nat → Er (List (Nat × Tk))
  | 0, _ => .ok []
  | f + 1, at_ =>
    if L.length ≤ at_ then .ok []
    else match tokenU L at_ with
      | .error e => .error e
      | .ok (t, a) => match tokLU L f a with
        | .error e => .error e
        | .ok ts => .ok (consT at_ t ts)

/-- The place of the first sign that is none of XML's. -/
def badU : Nat → List UInt8 → Nat → Option Nat
  | 0, _, _ => none
  | f + 1, l, b => if l = [] then none else if charB (decU l).1 = true then badU f (l.drop (decU l).2) (b + (decU l).2) else some b

def checkU (L : List UInt8) : Er Unit :=
  if 32768 < L.length then .error (0, 3)
  else if 0 ≤ chk L then .error ((chk L).toNat, 10)
  else match badU L.length L 0 with
    | some p => .error (p, 11)
    | none => .ok ()

def tokensU (L : List UInt8) : Er (List (Nat × Tk)) :=
  match checkU L with
  | .error e => .error e
  | .ok _ => match declX L with
    | .error e => .error e
    | .ok a => tokLU L (L.length + 1) a

theorem low_all : ∀ d ∈ [120, 109, 108, 117, 116, 102, 45, 56], ∀ c : Fin 256, (decide (c.val < 128) && foldE c.val (UInt8.toNat d)) = ((if 65 ≤ UInt8.ofNat c.val ∧ UInt8.ofNat c.val ≤ 90 then UInt8.ofNat c.val + 32 else UInt8.ofNat c.val) == d) := by decide +kernel
end Wb
