/- LxPlain2 LxTok LxTok2 LePlain LeFit. -/
import Derived.Test.YtlcjepnaljfpkaaGreatDoorQl1
namespace Wb
theorem semi_drop : ∀ {l a b : List UInt8}, semi l = some (a, b) → l = a ++ 59 :: b
  | [], _, _, h => by cases h
  | c :: l, a, b, h => by
    unfold semi at h
    split at h
    · rename_i hc
      simp only [Option.some.injEq, Prod.mk.injEq] at h
      obtain ⟨rfl, rfl⟩ := h
      rw [hc]; rfl
    · cases hs : semi l with
      | none => rw [hs] at h; cases h
      | some p =>
        obtain ⟨x, y⟩ := p
        rw [hs] at h
        simp only [Option.some.injEq, Prod.mk.injEq] at h
        obtain ⟨rfl, rfl⟩ := h
        rw [semi_drop hs]; rfl
theorem unL_fuel (attr : Bool) : ∀ (n : Nat) (l : List UInt8), l.length ≤ n → ∀ (f g k : Nat), l.length < f → l.length < g → unL attr f l k = unL attr g l k := by
  intro n
  induction n with
  | zero =>
    intro l hl f g k hf hg
    obtain rfl : l = [] := List.eq_nil_of_length_eq_zero (by omega)
    obtain ⟨f, rfl⟩ : ∃ f', f = f' + 1 := ⟨f - 1, by omega⟩
    obtain ⟨g, rfl⟩ : ∃ f', g = f' + 1 := ⟨g - 1, by omega⟩
    rfl
  | succ n ih =>
    intro l hl f g k hf hg
    obtain ⟨f, rfl⟩ : ∃ f', f = f' + 1 := ⟨f - 1, by omega⟩
    obtain ⟨g, rfl⟩ : ∃ f', g = f' + 1 := ⟨g - 1, by omega⟩
    cases l with
    | nil => rfl
    | cons c l =>
      simp only [List.length_cons] at hl hf hg
      unfold unL
      split
      · cases hs : semi l with
        | none => rfl
        | some p =>
          obtain ⟨t, r⟩ := p
          have hlen := congrArg List.length (semi_drop hs)
          simp only [List.length_append, List.length_cons] at hlen
          simp only
          cases refV t with
          | none => rfl
          | some x => simp only; rw [ih r (by omega) f g _ (by omega) (by omega)]
      · split
        · split
          · rw [ih (l.drop 1) (by simp; omega) f g _ (by simp; omega) (by simp; omega)]
          · rw [ih l (by omega) f g _ (by omega) (by omega)]
        · rw [ih l (by omega) f g _ (by omega) (by omega)]
theorem map_two (o : Except Nat (List UInt8)) (x a : List UInt8) : (o.map (a ++ ·)).map (x ++ ·) = o.map ((x ++ a) ++ ·) := by
  cases o <;> simp [Except.map]
theorem map_one (o : Except Nat (List UInt8)) (c : UInt8) (a : List UInt8) : (o.map (a ++ ·)).map (c :: ·) = o.map ((c :: a) ++ ·) := by
  cases o <;> simp [Except.map]
theorem unL_plain : ∀ (l : List UInt8) (f k : Nat), l.length < f → (∀ b ∈ l, b ≠ 38 ∧ b ≠ 13) → unL false f l k = .ok l
  | [], f, k, hf, _ => by
    obtain ⟨f, rfl⟩ : ∃ f', f = f' + 1 := ⟨f - 1, by omega⟩
    rfl
  | c :: l, f, k, hf, h => by
    obtain ⟨f, rfl⟩ : ∃ f', f = f' + 1 := ⟨f - 1, by omega⟩
    have hc := h c (by simp)
    unfold unL
    rw [if_neg hc.1, if_neg hc.2, unL_plain l f (k + 1) (by simpa using hf) (fun b hb => h b (by simp [hb]))]
    rfl
theorem unL_gt (f k : Nat) : unL false (f + 5) [38, 103, 116, 59] k = .ok [62] := by
  unfold unL
  rw [if_pos rfl, show semi [103, 116, 59] = some ([103, 116], []) from rfl]
  simp only [show refV [103, 116] = some [62] from rfl]
  rfl
theorem ba_extL {a b : ByteArray} (h : a.data.toList = b.data.toList) : a = b := by
  cases a; cases b; simp only at h; rw [Array.toList_inj.1 h]
end Wb
namespace Wb
abbrev Rd (α : Type) := List UInt8 → Option (Nat × α)
def untilR (p : List UInt8) : Rd (List UInt8)
  | [] => if p = [] then some (0, []) else none
  | c :: l => if (c :: l).take p.length = p then some (p.length, []) else match untilR p l with
    | none => none
    | some (n, a) => some (n + 1, c :: a)
def blkB (c : UInt8) : Bool := c == 9 || c == 10 || c == 13 || c == 32
def wordB (c : UInt8) : Bool := !(blkB c) && c != 47 && c != 62 && c != 61 && c != 60 && c != 34 && c != 39 && c != 38
def lowL (l : List UInt8) : List UInt8 := l.map fun c => if 65 ≤ c ∧ c ≤ 90 then c + 32 else c
def endsL : List UInt8 → List UInt8
  | [] => []
  | c :: l => if c = 13 then (if l.take 1 = [10] then endsL l else 10 :: endsL l) else c :: endsL l
abbrev Tk := Int × List UInt8 × List (List UInt8 × List UInt8) × List UInt8
end Wb
namespace Wb
def consT (at_ : Nat) (t : Option Tk) (ts : List (Nat × Tk)) : List (Nat × Tk) :=
  match t with
  | none => ts
  | some t => (at_, t) :: ts
end Wb
namespace Wb
abbrev Er (α : Type) := Except (Nat × Nat) α
def takeX (L : List UInt8) (fr at_ : Nat) (c : UInt8) : Er Nat :=
  match L.drop at_ with
  | [] => .error (fr, 2)
  | d :: _ => if d = c then .ok (at_ + 1) else .error (at_, 4)
def upToX (L : List UInt8) (fr at_ : Nat) (p : List UInt8) : Er (List UInt8 × Nat) :=
  match untilR p (L.drop at_) with
  | none => .error (fr, 2)
  | some (n, v) => .ok (v, at_ + n)
def blankN (L : List UInt8) (at_ : Nat) : Nat := ((L.drop at_).takeWhile blkB).length
def wordX (L : List UInt8) (at_ : Nat) : List UInt8 :=
  if ((L.drop at_).takeWhile wordB).length ≤ 129 then (L.drop at_).takeWhile wordB else []
def valueX (L : List UInt8) (fr at_ : Nat) : Er (List UInt8 × Nat) :=
  match L.drop at_ with
  | [] => .error (fr, 2)
  | q :: r =>
    if q = 34 ∨ q = 39 then
      match untilR [q] r with
      | none => .error (fr, 2)
      | some (n, v) =>
        match v.findIdx? (· == 60) with
        | some k => .error (at_ + 1 + k, 11)
        | none => match unL true (v.length + 1) v (at_ + 1) with
          | .error p => .error (p, 16)
          | .ok x => .ok (x, at_ + 1 + n)
    else .error (at_, 4)
def attributeX (L : List UInt8) (fr at_ others : Nat) (apart : Bool) : Er ((List UInt8 × List UInt8) × Nat) :=
  if wordX L at_ = [] then .error (at_, 4)
  else if others = 65 then .error (at_, 3)
  else if apart = false then .error (at_, 4)
  else match takeX L fr (at_ + (wordX L at_).length + blankN L (at_ + (wordX L at_).length)) 61 with
    | .error e => .error e
    | .ok a => match valueX L fr (a + blankN L a) with
      | .error e => .error e
      | .ok (v, b) => .ok ((wordX L at_, v), b)
def namedX (L : List UInt8) (fr at_ : Nat) : Er (List UInt8 × Nat) :=
  match L.drop at_ with
  | [] => .error (fr, 2)
  | _ :: _ => if wordX L at_ = [] then .error (at_, 12) else .ok (wordX L at_, at_ + (wordX L at_).length)
def endTagX (L : List UInt8) (fr : Nat) : Er (Tk × Nat) :=
  match namedX L fr (fr + 2) with
  | .error e => .error e
  | .ok (w, a) => match takeX L fr (a + blankN L a) 62 with
    | .error e => .error e
    | .ok b => .ok ((2, w, [], []), b)
def attrsX (L : List UInt8) (fr : Nat) : Nat → Nat → List (List UInt8 × List UInt8) → Er ((Int × List (List UInt8 × List UInt8)) × Nat)
  | 0, at_, _ => .error (at_, 4)
  | f + 1, at_, acc =>
    match L.drop (at_ + blankN L at_) with
    | [] => .error (fr, 2)
    | c :: _ =>
      if c = 47 then match takeX L fr (at_ + blankN L at_ + 1) 62 with
        | .error e => .error e
        | .ok b => .ok ((3, acc), b)
      else if c = 62 then .ok ((1, acc), at_ + blankN L at_ + 1)
      else match attributeX L fr (at_ + blankN L at_) acc.length (decide (0 < blankN L at_)) with
        | .error e => .error e
        | .ok (a, b) => attrsX L fr f b (acc ++ [a])
def startTagX (L : List UInt8) (fr : Nat) : Er (Tk × Nat) :=
  match namedX L fr (fr + 1) with
  | .error e => .error e
  | .ok (w, a) => match attrsX L fr 67 a [] with
    | .error e => .error e
    | .ok ((k, l), b) => .ok ((k, w, l, []), b)
def sXml : List UInt8 := [120, 109, 108]
def commentX (L : List UInt8) (fr : Nat) : Er Nat :=
  match upToX L fr (fr + 4) [45, 45] with
  | .error e => .error e
  | .ok (_, a) => if (L.drop a).take 1 = [62] then .ok (a + 1) else .error (fr, 4)
def sectionX (L : List UInt8) (fr : Nat) : Er (Tk × Nat) :=
  match upToX L fr (fr + 9) [93, 93, 62] with
  | .error e => .error e
  | .ok (v, a) => .ok ((4, [], [], endsL v), a)
def cdAt : List UInt8 → Option Nat
  | [] => none
  | c :: l => if (c :: l).take 3 = [93, 93, 62] then some 0 else (cdAt l).map (· + 1)
def textX (L : List UInt8) (fr : Nat) : Er (Tk × Nat) :=
  let n := (L.drop fr).takeWhile (· != 60)
  match cdAt n with
  | some k => match unL false (k + 1) (n.take k) fr with
    | .error p => .error (p, 16)
    | .ok _ => .error (fr + k, 11)
  | none => match unL false (n.length + 1) n fr with
    | .error p => .error (p, 16)
    | .ok x => .ok ((4, [], [], x), fr + n.length)
def someX (e : Er (Tk × Nat)) : Er (Option Tk × Nat) :=
  match e with
  | .error e => .error e
  | .ok (t, a) => .ok (some t, a)
def noneX (e : Er Nat) : Er (Option Tk × Nat) :=
  match e with
  | .error e => .error e
  | .ok a => .ok (none, a)
def toldX (s name other : List UInt8) : List UInt8 × List UInt8 :=
  let r := s.dropWhile blkB
  if r.length = s.length then (other, s)
  else if r.take name.length ≠ name then (other, s)
  else
    let r2 := (r.drop name.length).dropWhile blkB
    if r2.take 1 ≠ [61] then (other, s)
    else match (r2.drop 1).dropWhile blkB with
      | [] => (other, s)
      | q :: r3 => if q = 34 ∨ q = 39 then match untilR [q] r3 with
          | none => (other, s)
          | some (n, v) => (v, r3.drop n)
        else (other, s)
def sVersion : List UInt8 := [118, 101, 114, 115, 105, 111, 110]
def sEncoding : List UInt8 := [101, 110, 99, 111, 100, 105, 110, 103]
def sUtf8 : List UInt8 := [117, 116, 102, 45, 56]
def sStandalone : List UInt8 := [115, 116, 97, 110, 100, 97, 108, 111, 110, 101]
def sNo : List UInt8 := [110, 111]
def sYes : List UInt8 := [121, 101, 115]
def sOne : List UInt8 := [49, 46, 48]
def declX (L : List UInt8) : Er Nat :=
  if L.take 5 = [60, 63, 120, 109, 108] ∧ ((L.drop 5).take 1).any blkB = true then
    let v := toldX (L.drop 5) sVersion []
    let e := toldX v.2 sEncoding sUtf8
    let a := toldX e.2 sStandalone sNo
    let r := a.2.dropWhile blkB
    if v.1 = sOne ∧ lowL e.1 = sUtf8 ∧ (a.1 = sYes ∨ a.1 = sNo) ∧ r.take 2 = [63, 62] then .ok (L.length - (r.length - 2)) else .error (0, 4)
  else .ok 0
end Wb
namespace Wb
theorem drop_cons_len {L : List UInt8} {k : Nat} {c : UInt8} {r : List UInt8} (h : L.drop k = c :: r) : k < L.length := by
  have := congrArg List.length h; simp at this; omega
theorem drop_cons_next {L : List UInt8} {k : Nat} {c : UInt8} {r : List UInt8} (h : L.drop k = c :: r) : L.drop (k + 1) = r := by
  rw [← List.drop_drop, h]; rfl
theorem untilR_le {p l : List UInt8} {n : Nat} {v : List UInt8} (h : untilR p l = some (n, v)) : n ≤ l.length ∧ n = v.length + p.length := by
  induction l generalizing n v with
  | nil =>
    unfold untilR at h
    split at h
    · rename_i hp
      simp only [Option.some.injEq, Prod.mk.injEq] at h
      obtain ⟨rfl, rfl⟩ := h
      simp [hp]
    · cases h
  | cons c l ih =>
    unfold untilR at h
    split at h
    · rename_i hc
      simp only [Option.some.injEq, Prod.mk.injEq] at h
      obtain ⟨rfl, rfl⟩ := h
      have := congrArg List.length hc
      simp at this ⊢
      omega
    · cases hu : untilR p l with
      | none => rw [hu] at h; cases h
      | some q =>
        obtain ⟨m, b⟩ := q
        rw [hu] at h
        simp only [Option.some.injEq, Prod.mk.injEq] at h
        obtain ⟨rfl, rfl⟩ := h
        have := ih hu
        simp
        omega
theorem tw_le (p : UInt8 → Bool) (l : List UInt8) : (l.takeWhile p).length ≤ l.length := (List.takeWhile_sublist _).length_le
end Wb
