
/- Plain facts on what a text stands for: two texts one behind the other; a text without references and line ends. No program in sight. -/
import Derived.Test.YtoahkpkkkjnngaaGreatDoorLxPlain
namespace Wb

theorem semi_app : ∀ {l a b : List UInt8} (t : List UInt8), semi l = some (a, b) → semi (l ++ t) = some (a, b ++ t)
  | [], _, _, _, h => by cases h
  | c :: l, a, b, t, h => by
    unfold semi at h
    rw [List.cons_append]
    unfold semi
    split at h
    · rename_i hc
      simp only [Option.some.injEq, Prod.mk.injEq] at h
      obtain ⟨rfl, rfl⟩ := h
      rw [if_pos hc]
    · rename_i hc
      rw [if_neg hc]
      cases hs : semi l with
      | none => rw [hs] at h; cases h
      | some p =>
        obtain ⟨x, y⟩ := p
        rw [hs] at h
        simp only [Option.some.injEq, Prod.mk.injEq] at h
        obtain ⟨rfl, rfl⟩ := h
        rw [semi_app t hs]
theorem semi_drop : ∀ {l a b : List UInt8}, semi l = some (a, b) → l = a ++ 59 :: b
  | [], _, _, h => by cases h
  | c :: l, a, b, h => by
    unfold semi at h
    split at h
    · rename_i hc
      simp only [Option.some.injEq, Prod.mk.injEq] at h
      obtain ⟨rfl, rfl⟩ := h
      rw [hc]; rfl
    · cases hs : semi l with
      | none => rw [hs] at h; cases h
      | some p =>
        obtain ⟨x, y⟩ := p
        rw [hs] at h
        simp only [Option.some.injEq, Prod.mk.injEq] at h
        obtain ⟨rfl, rfl⟩ := h
        rw [semi_drop hs]; rfl

theorem ex_map_ok {o : Except Nat (List UInt8)} {f : List UInt8 → List UInt8} {a : List UInt8} (h : o.map f = .ok a) : ∃ b, o = .ok b ∧ f b = a := by
  cases o with
  | error e => cases h
  | ok b => exact ⟨b, rfl, by simpa [Except.map] using h⟩

/-- Enough fuel is enough. -/
theorem unL_fuel (attr : Bool) : ∀ (n : Nat) (l : List UInt8), l.length ≤ n → ∀ (f g k : Nat), l.length < f → l.length < g → unL attr f l k = unL attr g l k := by
  intro n
  induction n with
  | zero =>
    intro l hl f g k hf hg
    obtain rfl : l = [] := List.eq_nil_of_length_eq_zero (by omega)
    obtain ⟨f, rfl⟩ : ∃ f', f = f' + 1 := ⟨f - 1, by omega⟩
    obtain ⟨g, rfl⟩ : ∃ f', g = f' + 1 := ⟨g - 1, by omega⟩
    rfl
  | succ n ih =>
    intro l hl f g k hf hg
    obtain ⟨f, rfl⟩ : ∃ f', f = f' + 1 := ⟨f - 1, by omega⟩
    obtain ⟨g, rfl⟩ : ∃ f', g = f' + 1 := ⟨g - 1, by omega⟩
    cases l with
    | nil => rfl
    | cons c l =>
      simp only [List.length_cons] at hl hf hg
      unfold unL
      split
      · cases hs : semi l with
        | none => rfl
        | some p =>
          obtain ⟨t, r⟩ := p
          have hlen := congrArg List.length (semi_drop hs)
          simp only [List.length_append, List.length_cons] at hlen
          simp only
          cases refV t with
          | none => rfl
          | some x => simp only; rw [ih r (by omega) f g _ (by omega) (by omega)]
      · split
        · split
          · rw [ih (l.drop 1) (by simp; omega) f g _ (by simp; omega) (by simp; omega)]
          · rw [ih l (by omega) f g _ (by omega) (by omega)]
        · rw [ih l (by omega) f g _ (by omega) (by omega)]

theorem last_tail {c : UInt8} {l : List UInt8} (h : ∀ hn : c :: l ≠ [], (c :: l).getLast hn ≠ 13) : ∀ hn : l ≠ [], l.getLast hn ≠ 13 := by
  intro hn
  have := h (by simp)
  rwa [List.getLast_cons hn] at this
theorem last_app {a b : List UInt8} (h : ∀ hn : a ++ b ≠ [], (a ++ b).getLast hn ≠ 13) : ∀ hn : b ≠ [], b.getLast hn ≠ 13 := by
  intro hn
  have := h (by simp [hn])
  rwa [List.getLast_append_of_ne_nil _ hn] at this

theorem map_two (o : Except Nat (List UInt8)) (x a : List UInt8) : (o.map (a ++ ·)).map (x ++ ·) = o.map ((x ++ a) ++ ·) := by
  cases o <;> simp [Except.map]
theorem map_one (o : Except Nat (List UInt8)) (c : UInt8) (a : List UInt8) : (o.map (a ++ ·)).map (c :: ·) = o.map ((c :: a) ++ ·) := by
  cases o <;> simp [Except.map]

/-- A text that is right, not ending in 13, and another behind it. -/
theorem unL_app (attr : Bool) (t : List UInt8) : ∀ (n : Nat) (s : List UInt8), s.length ≤ n → ∀ (a : List UInt8) (k f g h : Nat), unL attr f s k = .ok a → s.length < f → (s ++ t).length < g → t.length < h →
    (∀ hn : s ≠ [], s.getLast hn ≠ 13) → unL attr g (s ++ t) k = (unL attr h t (k + s.length)).map (a ++ ·) := by
  intro n
  induction n with
  | zero =>
    intro s hs a k f g h ho hf hg hh _
    obtain rfl : s = [] := List.eq_nil_of_length_eq_zero (by omega)
    obtain ⟨f, rfl⟩ : ∃ f', f = f' + 1 := ⟨f - 1, by omega⟩
    simp only [unL, Except.ok.injEq] at ho
    subst ho
    rw [List.nil_append, unL_fuel attr t.length t (Nat.le_refl _) g h k (by simpa using hg) hh]
    simp only [List.length_nil, Nat.add_zero]
    cases unL attr h t k <;> rfl
  | succ n ih =>
    intro s hs a k f g h ho hf hg hh hlast
    obtain ⟨f, rfl⟩ : ∃ f', f = f' + 1 := ⟨f - 1, by omega⟩
    obtain ⟨g, rfl⟩ : ∃ f', g = f' + 1 := ⟨g - 1, by omega⟩
    cases s with
    | nil =>
      simp only [unL, Except.ok.injEq] at ho
      subst ho
      rw [List.nil_append, unL_fuel attr t.length t (Nat.le_refl _) (g + 1) h k (by simpa using hg) hh]
      simp only [List.length_nil, Nat.add_zero]
      cases unL attr h t k <;> rfl
    | cons c l =>
      simp only [List.length_cons, List.length_append] at hs hf hg
      have hl := last_tail hlast
      unfold unL at ho
      rw [List.cons_append]
      conv => lhs; unfold unL
      by_cases h38 : c = 38
      · rw [if_pos h38] at ho ⊢
        cases hsm : semi l with
        | none => rw [hsm] at ho; cases ho
        | some p =>
          obtain ⟨x, r⟩ := p
          rw [hsm] at ho
          rw [semi_app t hsm]
          have hd := semi_drop hsm
          have hlen := congrArg List.length hd
          simp only [List.length_append, List.length_cons] at hlen
          simp only at ho ⊢
          cases hv : refV x with
          | none => rw [hv] at ho; cases ho
          | some v =>
            rw [hv] at ho
            simp only at ho ⊢
            obtain ⟨b, hb, rfl⟩ := ex_map_ok ho
            have hr : ∀ hn : r ≠ [], r.getLast hn ≠ 13 := by
              rw [hd] at hl
              exact last_tail (last_app hl)
            rw [ih r (by omega) b _ f g h hb (by omega) (by simp; omega) hh hr, map_two]
            congr 2
            simp only [List.length_cons]
            omega
      · rw [if_neg h38] at ho ⊢
        by_cases h13 : c = 13
        · rw [if_pos h13] at ho ⊢
          cases l with
          | nil => exact absurd h13 (by simpa using hlast (by simp))
          | cons d l =>
            simp only [List.length_cons] at hs hf hg
            by_cases h10 : d = 10
            · subst h10
              simp only [List.take_succ_cons, List.take_zero, if_true, List.cons_append, List.drop_succ_cons, List.drop_zero] at ho ⊢
              obtain ⟨b, hb, rfl⟩ := ex_map_ok ho
              rw [ih l (by omega) b _ f g h hb (by omega) (by simp; omega) hh (last_tail hl), map_one]
              congr 2
              simp only [List.length_cons]
              omega
            · have e1 : ¬ ((d :: l).take 1 = [10]) := by simpa using h10
              have e2 : ¬ ((d :: l ++ t).take 1 = [10]) := by simpa using h10
              rw [if_neg e1] at ho
              rw [if_neg e2]
              obtain ⟨b, hb, rfl⟩ := ex_map_ok ho
              rw [ih (d :: l) (by simp; omega) b _ f g h hb (by simp; omega) (by simp; omega) hh hl, map_one]
              congr 2
              simp only [List.length_cons]
              omega
        · rw [if_neg h13] at ho ⊢
          obtain ⟨b, hb, rfl⟩ := ex_map_ok ho
          rw [ih l (by omega) b _ f g h hb (by omega) (by simp; omega) hh hl, map_one]
          congr 2
          simp only [List.length_cons]
          omega

/-- A text without & and 13 stands for itself. -/
theorem unL_plain : ∀ (l : List UInt8) (f k : Nat), l.length < f → (∀ b ∈ l, b ≠ 38 ∧ b ≠ 13) → unL false f l k = .ok l
  | [], f, k, hf, _ => by
    obtain ⟨f, rfl⟩ : ∃ f', f = f' + 1 := ⟨f - 1, by omega⟩
    rfl
  | c :: l, f, k, hf, h => by
    obtain ⟨f, rfl⟩ : ∃ f', f = f' + 1 := ⟨f - 1, by omega⟩
    have hc := h c (by simp)
    unfold unL
    rw [if_neg hc.1, if_neg hc.2, unL_plain l f (k + 1) (by simpa using hf) (fun b hb => h b (by simp [hb]))]
    rfl
theorem unL_gt (f k : Nat) : unL false (f + 5) [38, 103, 116, 59] k = .ok [62] := by
  unfold unL
  rw [if_pos rfl, show semi [103, 116, 59] = some ([103, 116], []) from rfl]
  simp only [show refV [103, 116] = some [62] from rfl]
  rfl

theorem ba_extL {a b : ByteArray} (h : a.data.toList = b.data.toList) : a = b := by
  cases a; cases b; simp only at h; rw [Array.toList_inj.1 h]

/-- What is right, is right at any place. -/
theorem unL_place {attr : Bool} : ∀ {f : Nat} {l : List UInt8} {k : Nat} {a : List UInt8}, unL attr f l k = .ok a → ∀ j, unL attr f l j = .ok a := by
  intro f
  induction f with
  | zero => intro l k a h j; simpa [unL] using h
  | succ f ih =>
    intro l k a h j
    cases l with
    | nil => simpa [unL] using h
    | cons c l =>
      unfold unL at h ⊢
      by_cases h38 : c = 38
      · rw [if_pos h38] at h ⊢
        cases hs : semi l with
        | none => rw [hs] at h; cases h
        | some p =>
          obtain ⟨t, r⟩ := p
          rw [hs] at h
          simp only at h ⊢
          cases hv : refV t with
          | none => rw [hv] at h; cases h
          | some x =>
            rw [hv] at h
            simp only at h ⊢
            obtain ⟨b, hb, rfl⟩ := ex_map_ok h
            rw [ih hb]
            rfl
      · rw [if_neg h38] at h ⊢
        by_cases h13 : c = 13
        · rw [if_pos h13] at h ⊢
          by_cases h10 : l.take 1 = [10]
          · rw [if_pos h10] at h ⊢
            obtain ⟨b, hb, rfl⟩ := ex_map_ok h
            rw [ih hb]
            rfl
          · rw [if_neg h10] at h ⊢
            obtain ⟨b, hb, rfl⟩ := ex_map_ok h
            rw [ih hb]
            rfl
        · rw [if_neg h13] at h ⊢
          obtain ⟨b, hb, rfl⟩ := ex_map_ok h
          rw [ih hb]
          rfl
end Wb
