/- LxTok. -/
import Derived.Test.YtlcjepnaljfpkaaGreatDoorQp10
namespace Wb
abbrev Rd (α : Type) := List UInt8 → Option (Nat × α)
def Loc {α : Type} (j : Nat) (f : Rd α) : Prop :=
  ∀ l n a, f l = some (n, a) → n ≤ l.length ∧ ∀ l', l'.take (n + j) = l.take (n + j) → f l' = some (n, a)
theorem take_le {l l' : List UInt8} {n m : Nat} (h : l'.take n = l.take n) (hm : m ≤ n) : l'.take m = l.take m := by
  have := congrArg (List.take m) h
  rwa [List.take_take, List.take_take, Nat.min_eq_left hm] at this
theorem take_drop_eq {l l' : List UInt8} {n m : Nat} (h : l'.take (n + m) = l.take (n + m)) : (l'.drop n).take m = (l.drop n).take m := by
  have := congrArg (List.drop n) h
  rwa [List.drop_take, List.drop_take, show n + m - n = m from by omega] at this
theorem Loc.mono {α : Type} {i j : Nat} {f : Rd α} (h : Loc i f) (hij : i ≤ j) : Loc j f := by
  intro l n a hf
  obtain ⟨h1, h2⟩ := h l n a hf
  exact ⟨h1, fun l' hl => h2 l' (take_le hl (by omega))⟩
def bindR {α β : Type} (f : Rd α) (g : α → Rd β) : Rd β := fun l =>
  match f l with
  | none => none
  | some (n, a) => match g a (l.drop n) with
    | none => none
    | some (m, b) => some (n + m, b)
def pureR {α : Type} (a : α) : Rd α := fun _ => some (0, a)
def guardR {α : Type} (c : Bool) (f : Rd α) : Rd α := fun l => if c then f l else none
def Takes {α : Type} (f : Rd α) : Prop := ∀ l n a, f l = some (n, a) → 1 ≤ n
theorem bindR_some {α β : Type} {f : Rd α} {g : α → Rd β} {l : List UInt8} {k : Nat} {b : β} (h : bindR f g l = some (k, b)) :
    ∃ n a m, f l = some (n, a) ∧ g a (l.drop n) = some (m, b) ∧ k = n + m := by
  unfold bindR at h
  cases hf : f l with
  | none => rw [hf] at h; cases h
  | some p =>
    obtain ⟨n, a⟩ := p
    rw [hf] at h
    simp only at h
    cases hg : g a (l.drop n) with
    | none => rw [hg] at h; cases h
    | some q =>
      obtain ⟨m, b'⟩ := q
      rw [hg] at h
      simp only [Option.some.injEq, Prod.mk.injEq] at h
      obtain ⟨rfl, rfl⟩ := h
      exact ⟨n, a, m, rfl, hg, rfl⟩
theorem bindR_of {α β : Type} {f : Rd α} {g : α → Rd β} {l : List UInt8} {n m : Nat} {a : α} {b : β} (h : f l = some (n, a)) (hg : g a (l.drop n) = some (m, b)) : bindR f g l = some (n + m, b) := by
  unfold bindR; rw [h]; simp only [hg]
theorem Loc.bind {α β : Type} {i j : Nat} {f : Rd α} {g : α → Rd β} (hf : Loc i f) (hg : ∀ a, Loc j (g a)) (ht : i = 0 ∨ (i ≤ 1 ∧ ∀ a, Takes (g a))) : Loc j (bindR f g) := by
  intro l k b h
  obtain ⟨n, a, m, h1, h2, rfl⟩ := bindR_some h
  obtain ⟨f1, f2⟩ := hf l n a h1
  obtain ⟨g1, g2⟩ := hg a _ m b h2
  have hi : i ≤ m + j := by
    rcases ht with rfl | ⟨h3, h4⟩
    · omega
    · have := h4 a _ _ _ h2; omega
  refine ⟨by simp at g1; omega, fun l' hl => ?_⟩
  exact bindR_of (f2 l' (take_le hl (by omega))) (g2 _ (take_drop_eq (by rw [← Nat.add_assoc]; exact hl)))
theorem Takes.bindL {α β : Type} {f : Rd α} {g : α → Rd β} (hf : Takes f) : Takes (bindR f g) := by
  intro l k b h
  obtain ⟨n, a, m, h1, _, rfl⟩ := bindR_some h
  have := hf _ _ _ h1
  omega
theorem Takes.bindR {α β : Type} {f : Rd α} {g : α → Rd β} (hg : ∀ a, Takes (g a)) : Takes (bindR f g) := by
  intro l k b h
  obtain ⟨n, a, m, _, h2, rfl⟩ := bindR_some h
  have := hg a _ _ _ h2
  omega
theorem Loc.pure {α : Type} (a : α) : Loc 0 (pureR a) := by
  intro l n b h
  simp only [pureR, Option.some.injEq, Prod.mk.injEq] at h
  obtain ⟨rfl, rfl⟩ := h
  exact ⟨Nat.zero_le _, fun _ _ => rfl⟩
theorem Loc.guard {α : Type} {j : Nat} {f : Rd α} (c : Bool) (h : Loc j f) : Loc j (guardR c f) := by
  intro l n a hf
  unfold guardR at hf
  cases c
  · cases hf
  · obtain ⟨h1, h2⟩ := h l n a hf
    exact ⟨h1, fun l' hl => h2 l' hl⟩
theorem Takes.guard {α : Type} {f : Rd α} (c : Bool) (h : Takes f) : Takes (guardR c f) := by
  intro l n a hf
  unfold guardR at hf
  cases c
  · cases hf
  · exact h l n a hf
def litR (p : List UInt8) : Rd Unit := fun l => if l.take p.length = p then some (p.length, ()) else none
theorem Loc.lit (p : List UInt8) : Loc 0 (litR p) := by
  intro l n a h
  unfold litR at h
  split at h
  · rename_i hp
    simp only [Option.some.injEq, Prod.mk.injEq] at h
    obtain ⟨rfl, _⟩ := h
    refine ⟨by have := congrArg List.length hp; simp at this; omega, fun l' hl => ?_⟩
    unfold litR
    rw [Nat.add_zero] at hl
    rw [hl, if_pos hp]
  · cases h
theorem Takes.lit {p : List UInt8} (hp : p ≠ []) : Takes (litR p) := by
  intro l n a h
  unfold litR at h
  split at h
  · simp only [Option.some.injEq, Prod.mk.injEq] at h
    obtain ⟨rfl, _⟩ := h
    cases p with
    | nil => exact absurd rfl hp
    | cons c r => simp
  · cases h
def spanR (p : UInt8 → Bool) : Rd (List UInt8) := fun l => if (l.takeWhile p).length < l.length then some ((l.takeWhile p).length, l.takeWhile p) else none
theorem span_take (p : UInt8 → Bool) : ∀ (l l' : List UInt8), (l.takeWhile p).length < l.length → l'.take ((l.takeWhile p).length + 1) = l.take ((l.takeWhile p).length + 1) →
    l'.takeWhile p = l.takeWhile p ∧ (l.takeWhile p).length < l'.length
  | [], _, h, _ => by simp at h
  | c :: l, l', h, ht => by
    cases l' with
    | nil => simp at ht
    | cons d l' =>
      simp only [List.takeWhile_cons] at h ht ⊢
      by_cases hc : p c = true
      · simp only [hc, if_true, List.length_cons, List.take_succ_cons, List.cons.injEq] at h ht ⊢
        obtain ⟨rfl, ht⟩ := ht
        obtain ⟨h1, h2⟩ := span_take p l l' (by omega) ht
        simp only [hc, if_true]
        exact ⟨by rw [h1], by omega⟩
      · simp only [hc, Bool.false_eq_true, if_false, List.length_nil, Nat.zero_add, List.take_succ_cons, List.take_zero, List.cons.injEq, and_true] at ht ⊢
        subst ht
        simp [hc]
theorem Loc.span (p : UInt8 → Bool) : Loc 1 (spanR p) := by
  intro l n a h
  unfold spanR at h
  split at h
  · rename_i hl
    simp only [Option.some.injEq, Prod.mk.injEq] at h
    obtain ⟨rfl, rfl⟩ := h
    refine ⟨by omega, fun l' ht => ?_⟩
    obtain ⟨h1, h2⟩ := span_take p l l' hl ht
    unfold spanR
    rw [h1, if_pos h2]
  · cases h
def untilR (p : List UInt8) : Rd (List UInt8)
  | [] => if p = [] then some (0, []) else none
  | c :: l => if (c :: l).take p.length = p then some (p.length, []) else match untilR p l with
    | none => none
    | some (n, a) => some (n + 1, c :: a)
theorem Loc.until (p : List UInt8) (hp : p ≠ []) : Loc 0 (untilR p) := by
  intro l
  induction l with
  | nil =>
    intro n a h
    simp [untilR, hp] at h
  | cons c l ih =>
    intro n a h
    unfold untilR at h
    split at h
    · rename_i hc
      simp only [Option.some.injEq, Prod.mk.injEq] at h
      obtain ⟨rfl, rfl⟩ := h
      refine ⟨by have := congrArg List.length hc; simp at this ⊢; omega, fun l' hl => ?_⟩
      rw [Nat.add_zero] at hl
      cases l' with
      | nil =>
        rw [hc] at hl
        simp at hl
        exact absurd hl hp
      | cons d l' =>
        unfold untilR
        rw [hl, if_pos hc]
    · rename_i hc
      cases hu : untilR p l with
      | none => rw [hu] at h; cases h
      | some q =>
        obtain ⟨m, b⟩ := q
        rw [hu] at h
        simp only [Option.some.injEq, Prod.mk.injEq] at h
        obtain ⟨rfl, rfl⟩ := h
        obtain ⟨h1, h2⟩ := ih m b hu
        refine ⟨by simpa using h1, fun l' hl => ?_⟩
        rw [Nat.add_zero] at hl
        cases l' with
        | nil => simp at hl
        | cons d l' =>
          simp only [List.take_succ_cons, List.cons.injEq] at hl
          obtain ⟨rfl, hl⟩ := hl
          have hpm : p.length ≤ m := by
            have := untilR_len hu
            exact this
          unfold untilR
          have e : (d :: l').take p.length = (d :: l).take p.length := by
            refine take_le (n := m + 1) ?_ (by omega)
            simp [hl]
          rw [e, if_neg hc, h2 l' (by simpa using hl)]
where
  untilR_len {p l : List UInt8} {m : Nat} {b : List UInt8} (h : untilR p l = some (m, b)) : p.length ≤ m := by
    induction l generalizing m b with
    | nil =>
      unfold untilR at h
      split at h
      · rename_i hp
        simp [hp]
      · cases h
    | cons c l ih =>
      unfold untilR at h
      split at h
      · simp only [Option.some.injEq, Prod.mk.injEq] at h
        omega
      · cases hu : untilR p l with
        | none => rw [hu] at h; cases h
        | some q =>
          obtain ⟨m', b'⟩ := q
          rw [hu] at h
          simp only [Option.some.injEq, Prod.mk.injEq] at h
          have := ih hu
          omega
theorem Takes.until {p : List UInt8} (hp : p ≠ []) : Takes (untilR p) := by
  intro l n a h
  have := Loc.until.untilR_len h
  cases p with
  | nil => exact absurd rfl hp
  | cons c r => simp at this; omega
def byteR : Rd UInt8
  | [] => none
  | c :: _ => some (1, c)
theorem Loc.byte : Loc 0 byteR := by
  intro l n a h
  cases l with
  | nil => cases h
  | cons c l =>
    simp only [byteR, Option.some.injEq, Prod.mk.injEq] at h
    obtain ⟨rfl, rfl⟩ := h
    refine ⟨by simp, fun l' hl => ?_⟩
    cases l' with
    | nil => simp at hl
    | cons d l' =>
      simp at hl
      rw [hl]; rfl
theorem Takes.byte : Takes byteR := by
  intro l n a h
  cases l with
  | nil => cases h
  | cons c l =>
    simp only [byteR, Option.some.injEq, Prod.mk.injEq] at h
    omega
def mapR {α β : Type} (f : Rd α) (g : α → Option β) : Rd β := fun l =>
  match f l with
  | none => none
  | some (n, a) => match g a with
    | none => none
    | some b => some (n, b)
theorem mapR_some {α β : Type} {f : Rd α} {g : α → Option β} {l : List UInt8} {n : Nat} {b : β} (h : mapR f g l = some (n, b)) : ∃ a, f l = some (n, a) ∧ g a = some b := by
  unfold mapR at h
  cases hf : f l with
  | none => rw [hf] at h; cases h
  | some p =>
    obtain ⟨m, a⟩ := p
    rw [hf] at h
    simp only at h
    cases hg : g a with
    | none => rw [hg] at h; cases h
    | some b' =>
      rw [hg] at h
      simp only [Option.some.injEq, Prod.mk.injEq] at h
      obtain ⟨rfl, rfl⟩ := h
      exact ⟨a, rfl, hg⟩
theorem Loc.map {α β : Type} {j : Nat} {f : Rd α} (g : α → Option β) (h : Loc j f) : Loc j (mapR f g) := by
  intro l n b hf
  obtain ⟨a, h1, h2⟩ := mapR_some hf
  obtain ⟨h3, h4⟩ := h l n a h1
  refine ⟨h3, fun l' hl => ?_⟩
  unfold mapR
  rw [h4 l' hl]
  simp only [h2]
theorem Takes.map {α β : Type} {f : Rd α} (g : α → Option β) (h : Takes f) : Takes (mapR f g) := by
  intro l n b hf
  obtain ⟨a, h1, _⟩ := mapR_some hf
  exact h _ _ _ h1
def blkB (c : UInt8) : Bool := c == 9 || c == 10 || c == 13 || c == 32
def wordB (c : UInt8) : Bool := !(blkB c) && c != 47 && c != 62 && c != 61 && c != 60 && c != 34 && c != 39 && c != 38
def lowL (l : List UInt8) : List UInt8 := l.map fun c => if 65 ≤ c ∧ c ≤ 90 then c + 32 else c
def endsL : List UInt8 → List UInt8
  | [] => []
  | c :: l => if c = 13 then (if l.take 1 = [10] then endsL l else 10 :: endsL l) else c :: endsL l
def hasCd : List UInt8 → Bool
  | [] => false
  | c :: l => (c :: l).take 3 == [93, 93, 62] || hasCd l
abbrev Tk := Int × List UInt8 × List (List UInt8 × List UInt8) × List UInt8
def okL (o : Except Nat (List UInt8)) : Option (List UInt8) :=
  match o with
  | .ok x => some x
  | .error _ => none
def valueR : Rd (List UInt8) :=
  bindR byteR fun q => guardR (q == 34 || q == 39) (mapR (untilR [q]) fun v => if v.any (· == 60) then none else okL (unL true (v.length + 1) v 0))
def attrR (c : UInt8) : Rd (List UInt8 × List UInt8) :=
  bindR (spanR wordB) fun w => guardR (decide (w.length < 129)) <| bindR (spanR blkB) fun _ => bindR (litR [61]) fun _ => bindR (spanR blkB) fun _ => mapR valueR fun v => some (c :: w, v)
def attrsR : Nat → List (List UInt8 × List UInt8) → Rd (Int × List (List UInt8 × List UInt8))
  | 0, _ => fun _ => none
  | f + 1, acc => bindR (spanR blkB) fun bs => bindR byteR fun c =>
      if c = 62 then pureR (1, acc)
      else if c = 47 then mapR (litR [62]) fun _ => some (3, acc)
      else guardR (wordB c && !(bs.isEmpty) && decide (acc.length < 65)) (bindR (attrR c) fun a => attrsR f (acc ++ [a]))
def startR (c : UInt8) : Rd (Option Tk) :=
  bindR (spanR wordB) fun w => guardR (decide (w.length < 129)) (mapR (attrsR 67 []) fun (k, l) => some (some (k, c :: w, l, [])))
def endR : Rd (Option Tk) :=
  bindR (spanR wordB) fun w => guardR (!(w.isEmpty) && decide (w.length ≤ 129)) (bindR (spanR blkB) fun _ => mapR (litR [62]) fun _ => some (some (2, w, [], [])))
def piEndR : Rd Unit := fun l => if l.take 2 = [63, 62] ∨ (l.take 1).any blkB = true then (mapR (untilR [63, 62]) fun _ => some ()) l else none
def piR : Rd (Option Tk) :=
  bindR (spanR fun b => !(blkB b) && b != 63) fun w => guardR (nameB w && !(lowL w == [120, 109, 108])) (mapR piEndR fun _ => some none)
def bangR : Rd (Option Tk) :=
  bindR byteR fun c =>
    if c = 45 then bindR (litR [45]) fun _ => bindR (untilR [45, 45]) fun _ => mapR (litR [62]) fun _ => some none
    else guardR (c == 91) (bindR (litR [67, 68, 65, 84, 65, 91]) fun _ => mapR (untilR [93, 93, 62]) fun v => some (some (4, [], [], endsL v)))
def markR : Rd (Option Tk) :=
  bindR (litR [60]) fun _ => bindR byteR fun c =>
    if c = 63 then piR else if c = 33 then bangR else if c = 47 then endR else guardR (wordB c) (startR c)
def textR : Rd (Option Tk) := fun l =>
  let n := l.takeWhile (· != 60)
  if n.isEmpty then none else if hasCd n then none else match okL (unL false (n.length + 1) n 0) with
    | none => none
    | some x => some (n.length, some (4, [], [], x))
def pieceR : Rd (Option Tk) := fun l => if l.take 1 = [60] then markR l else textR l
theorem Loc.none {α : Type} (j : Nat) : Loc j (fun _ => none : Rd α) := fun _ _ _ h => by cases h
theorem Takes.none {α : Type} : Takes (fun _ => none : Rd α) := fun _ _ _ h => by cases h
theorem Takes.lit1 (c : UInt8) (r : List UInt8) : Takes (litR (c :: r)) := Takes.lit (by simp)
theorem value_loc : Loc 0 valueR := Loc.bind Loc.byte (fun q => Loc.guard _ (Loc.map _ (Loc.until _ (by simp)))) (.inl rfl)
theorem value_takes : Takes valueR := Takes.bindL Takes.byte
theorem attr_loc (c : UInt8) : Loc 0 (attrR c) :=
  Loc.bind (Loc.span _) (fun _ => Loc.guard _ (Loc.bind (Loc.span _) (fun _ => Loc.bind (Loc.lit _) (fun _ => Loc.bind (Loc.span _) (fun _ => Loc.map _ value_loc) (.inr ⟨Nat.le_refl _, fun _ => Takes.map _ value_takes⟩)) (.inl rfl))
    (.inr ⟨Nat.le_refl _, fun _ => Takes.bindL (Takes.lit1 _ _)⟩))) (.inr ⟨Nat.le_refl _, fun _ => Takes.guard _ (Takes.bindR fun _ => Takes.bindL (Takes.lit1 _ _))⟩)
theorem attrs_loc : ∀ (f : Nat) (acc : List (List UInt8 × List UInt8)), Loc 0 (attrsR f acc)
  | 0, _ => Loc.none 0
  | f + 1, acc => by
    refine Loc.bind (Loc.span _) (fun bs => Loc.bind Loc.byte (fun c => ?_) (.inl rfl)) (.inr ⟨Nat.le_refl _, fun _ => Takes.bindL Takes.byte⟩)
    split
    · exact Loc.pure _
    · split
      · exact Loc.map _ (Loc.lit _)
      · exact Loc.guard _ (Loc.bind (attr_loc c) (fun a => attrs_loc f _) (.inl rfl))
theorem attrs_takes : ∀ (f : Nat) (acc : List (List UInt8 × List UInt8)), Takes (attrsR f acc)
  | 0, _ => Takes.none
  | _ + 1, _ => Takes.bindR fun _ => Takes.bindL Takes.byte
theorem start_loc (c : UInt8) : Loc 0 (startR c) :=
  Loc.bind (Loc.span _) (fun _ => Loc.guard _ (Loc.map _ (attrs_loc _ _))) (.inr ⟨Nat.le_refl _, fun _ => Takes.guard _ (Takes.map _ (attrs_takes _ _))⟩)
theorem end_loc : Loc 0 endR :=
  Loc.bind (Loc.span _) (fun _ => Loc.guard _ (Loc.bind (Loc.span _) (fun _ => Loc.map _ (Loc.lit _)) (.inr ⟨Nat.le_refl _, fun _ => Takes.map _ (Takes.lit1 _ _)⟩)))
    (.inr ⟨Nat.le_refl _, fun _ => Takes.guard _ (Takes.bindR fun _ => Takes.map _ (Takes.lit1 _ _))⟩)
theorem piEnd_takes : Takes piEndR := by
  intro l n a h
  unfold piEndR at h
  split at h
  · exact Takes.map _ (Takes.until (p := [63, 62]) (by simp)) _ _ _ h
  · cases h
theorem piEnd_loc : Loc 0 piEndR := by
  intro l n a h
  unfold piEndR at h
  split at h
  · rename_i hc
    obtain ⟨v, h1, h2⟩ := mapR_some h
    have hn := Loc.until.untilR_len h1
    simp only [List.length_cons, List.length_nil] at hn
    obtain ⟨h3, h4⟩ := Loc.map _ (Loc.until [63, 62] (by simp)) l n a h
    refine ⟨h3, fun l' hl => ?_⟩
    unfold piEndR
    rw [take_le hl (show 2 ≤ n + 0 from by omega), take_le hl (show 1 ≤ n + 0 from by omega), if_pos hc]
    exact h4 l' hl
  · cases h
theorem pi_loc : Loc 0 piR :=
  Loc.bind (Loc.span _) (fun _ => Loc.guard _ (Loc.map _ piEnd_loc)) (.inr ⟨Nat.le_refl _, fun _ => Takes.guard _ (Takes.map _ piEnd_takes)⟩)
theorem bang_loc : Loc 0 bangR := by
  refine Loc.bind Loc.byte (fun c => ?_) (.inl rfl)
  split
  · exact Loc.bind (Loc.lit _) (fun _ => Loc.bind (Loc.until _ (by simp)) (fun _ => Loc.map _ (Loc.lit _)) (.inl rfl)) (.inl rfl)
  · exact Loc.guard _ (Loc.bind (Loc.lit _) (fun _ => Loc.map _ (Loc.until _ (by simp))) (.inl rfl))
theorem mark_loc : Loc 0 markR := by
  refine Loc.bind (Loc.lit _) (fun _ => Loc.bind Loc.byte (fun c => ?_) (.inl rfl)) (.inl rfl)
  split
  · exact pi_loc
  · split
    · exact bang_loc
    · split
      · exact end_loc
      · exact Loc.guard _ (start_loc c)
theorem mark_takes : Takes markR := Takes.bindL (Takes.lit1 _ _)
end Wb
