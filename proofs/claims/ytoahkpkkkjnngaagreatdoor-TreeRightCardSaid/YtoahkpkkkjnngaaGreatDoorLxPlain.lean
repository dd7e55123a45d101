
/- Plain functions of layer 3's texts: references, line ends, what a text stands for. No program in sight. -/
import Derived.Test.YtoahkpkkkjnngaaGreatDoorPlain2
namespace Wb

def lowB (c : Int) : Int := if 65 ≤ c ∧ c ≤ 90 then c + 32 else c
/-- A digit's value, whatever the base; 99: no digit. -/
def digV (c : Int) : Int := if 48 ≤ lowB c ∧ lowB c ≤ 57 then lowB c - 48 else if 97 ≤ lowB c ∧ lowB c ≤ 102 then lowB c - 87 else 99

/-- Digits to a base behind a number; none: another sign stands among them. -/
def digL (base : Int) : Int → List UInt8 → Option Int
  | n, [] => some n
  | n, c :: l => if base ≤ digV c.toNat then none else digL base (n * base + digV c.toNat) l
def numL (base : Int) (l : List UInt8) : Option Int := if l = [] then none else digL base 0 l

/-- The same, counted no further than past two millions. -/
def capL (base : Int) : Int → List UInt8 → Option Int
  | n, [] => some n
  | n, c :: l => if base ≤ digV c.toNat then none else capL base (if n < 2000000 then n * base + digV c.toNat else n) l

theorem digV_nn (c : Int) : 0 ≤ digV c := by
  unfold digV
  split
  · omega
  · split <;> omega

theorem cap_dig (base : Int) (hb : 1 ≤ base) : ∀ (l : List UInt8) (n N : Int), 0 ≤ n → (n = N ∨ (2000000 ≤ n ∧ 2000000 ≤ N)) →
    (capL base n l = none ∧ digL base N l = none) ∨ ∃ m M, capL base n l = some m ∧ digL base N l = some M ∧ 0 ≤ m ∧ (m = M ∨ (2000000 ≤ m ∧ 2000000 ≤ M))
  | [], n, N, h0, h => .inr ⟨n, N, rfl, rfl, h0, h⟩
  | c :: l, n, N, h0, h => by
    unfold capL digL
    have hd := digV_nn c.toNat
    by_cases hbad : base ≤ digV c.toNat
    · rw [if_pos hbad, if_pos hbad]; exact .inl ⟨rfl, rfl⟩
    · rw [if_neg hbad, if_neg hbad]
      by_cases hn : n < 2000000
      · rw [if_pos hn]
        rcases h with rfl | ⟨h1, _⟩
        · exact cap_dig base hb l _ _ (Int.add_nonneg (Int.mul_nonneg h0 (by omega)) hd) (.inl rfl)
        · omega
      · rw [if_neg hn]
        refine cap_dig base hb l _ _ h0 (.inr ⟨by omega, ?_⟩)
        have hN : 2000000 ≤ N := by rcases h with rfl | ⟨_, h⟩ <;> omega
        have : N * 1 ≤ N * base := Int.mul_le_mul_of_nonneg_left hb (by omega)
        omega

def sLt : List UInt8 := [108, 116]
def sGt : List UInt8 := [103, 116]
def sAmp : List UInt8 := [97, 109, 112]
def sQuot : List UInt8 := [113, 117, 111, 116]
def sApos : List UInt8 := [97, 112, 111, 115]

/-- The number that stands behind &, up to the ;. -/
def refN (t : List UInt8) : Option Int :=
  if t.take 2 = [35, 120] then numL 16 (t.drop 2) else if t.take 1 = [35] then numL 10 (t.drop 1) else none

/-- What stands between & and ; stands for. -/
def refV (t : List UInt8) : Option (List UInt8) :=
  if t = sLt then some [60] else if t = sGt then some [62] else if t = sAmp then some [38] else if t = sQuot then some [34] else if t = sApos then some [39]
  else match refN t with
    | some n => if charB n then some (enc n) else none
    | none => none

/-- Up to the first ;, and behind it. -/
def semi : List UInt8 → Option (List UInt8 × List UInt8)
  | [] => none
  | c :: l => if c = 59 then some ([], l) else match semi l with
    | some (a, b) => some (c :: a, b)
    | none => none

theorem semi_none : ∀ (l : List UInt8), (∀ j (h : j < l.length), l[j] ≠ 59) → semi l = none
  | [], _ => rfl
  | c :: l, h => by
    unfold semi
    have h0 := h 0 (by simp)
    simp only [List.getElem_cons_zero] at h0
    rw [if_neg h0, semi_none l (fun j hj => by have := h (j + 1) (by simpa using hj); simpa using this)]
theorem semi_some : ∀ (l : List UInt8) (k : Nat) (hk : k < l.length), l[k] = 59 → (∀ j (h : j < k), l[j]'(by omega) ≠ 59) → semi l = some (l.take k, l.drop (k + 1))
  | c :: l, 0, _, h, _ => by
    simp only [List.getElem_cons_zero] at h
    unfold semi; rw [if_pos h]; rfl
  | c :: l, k + 1, hk, h, hj => by
    have h0 := hj 0 (by omega)
    simp only [List.getElem_cons_zero] at h0
    unfold semi
    rw [if_neg h0, semi_some l k (by simpa using hk) (by simpa using h) (fun j hjk => by have := hj (j + 1) (by omega); simpa using this)]
    rfl

/-- What a text stands for, from its place on; or the place of the first reference that is none. -/
def unL (attr : Bool) : Nat → List UInt8 → Nat → Except Nat (List UInt8)
  | 0, _, _ => .ok []
  | _ + 1, [], _ => .ok []
  | f + 1, c :: l, at_ =>
    if c = 38 then match semi l with
      | none => .error at_
      | some (t, r) => match refV t with
        | none => .error at_
        | some x => (unL attr f r (at_ + t.length + 2)).map (x ++ ·)
    else if c = 13 then
      if l.take 1 = [10] then (unL attr f (l.drop 1) (at_ + 2)).map ((if attr then 32 else 10) :: ·)
      else (unL attr f l (at_ + 1)).map ((if attr then 32 else 10) :: ·)
    else (unL attr f l (at_ + 1)).map ((if attr && (c == 9 || c == 10) then 32 else c) :: ·)
end Wb
