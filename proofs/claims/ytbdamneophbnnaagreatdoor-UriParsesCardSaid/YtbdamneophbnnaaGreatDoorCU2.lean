/- LxPlain2 PrA Kit Mem PrD QnPlain. -/
import Derived.WalkKit
import Derived.WalkSpells
import Derived.WalkLawsBesides
import Derived.Lib.Hide
import Derived.Laws.BitsAllLaws
import Derived.Below
import Derived.Laws.OwnMore
import Derived.Laws.AppendOwnNone
import Derived.Deep.AppendLies
import Derived.Deep.Draws
import Derived.Maps.OwnSet
import Derived.OwnWalk
import Derived.Laws.ResultCell
import Derived.Laws.Rows
import Derived.Lib.Bytealg
import Derived.Laws.Strings
import Derived.Laws.Externs
import Derived.Test.YtbdamneophbnnaaGreatDoorCU1
namespace Wb
theorem semi_app : ∀ {l a b : List UInt8} (t : List UInt8), semi l = some (a, b) → semi (l ++ t) = some (a, b ++ t)
  | [], _, _, _, h => by cases h
  | c :: l, a, b, t, h => by
    unfold semi at h
    rw [List.cons_append]
    unfold semi
    split at h
    · rename_i hc
      simp only [Option.some.injEq, Prod.mk.injEq] at h
      obtain ⟨rfl, rfl⟩ := h
      rw [if_pos hc]
    · rename_i hc
      rw [if_neg hc]
      cases hs : semi l with
      | none => rw [hs] at h; cases h
      | some p =>
        obtain ⟨x, y⟩ := p
        rw [hs] at h
        simp only [Option.some.injEq, Prod.mk.injEq] at h
        obtain ⟨rfl, rfl⟩ := h
        rw [semi_app t hs]
theorem semi_drop : ∀ {l a b : List UInt8}, semi l = some (a, b) → l = a ++ 59 :: b
  | [], _, _, h => by cases h
  | c :: l, a, b, h => by
    unfold semi at h
    split at h
    · rename_i hc
      simp only [Option.some.injEq, Prod.mk.injEq] at h
      obtain ⟨rfl, rfl⟩ := h
      rw [hc]; rfl
    · cases hs : semi l with
      | none => rw [hs] at h; cases h
      | some p =>
        obtain ⟨x, y⟩ := p
        rw [hs] at h
        simp only [Option.some.injEq, Prod.mk.injEq] at h
        obtain ⟨rfl, rfl⟩ := h
        rw [semi_drop hs]; rfl
theorem ex_map_ok {o : Except Nat (List UInt8)} {f : List UInt8 → List UInt8} {a : List UInt8} (h : o.map f = .ok a) : ∃ b, o = .ok b ∧ f b = a := by
  cases o with
  | error e => cases h
  | ok b => exact ⟨b, rfl, by simpa [Except.map] using h⟩
theorem unL_fuel (attr : Bool) : ∀ (n : Nat) (l : List UInt8), l.length ≤ n → ∀ (f g k : Nat), l.length < f → l.length < g → unL attr f l k = unL attr g l k := by
  intro n
  induction n with
  | zero =>
    intro l hl f g k hf hg
    obtain rfl : l = [] := List.eq_nil_of_length_eq_zero (by omega)
    obtain ⟨f, rfl⟩ : ∃ f', f = f' + 1 := ⟨f - 1, by omega⟩
    obtain ⟨g, rfl⟩ : ∃ f', g = f' + 1 := ⟨g - 1, by omega⟩
    rfl
  | succ n ih =>
    intro l hl f g k hf hg
    obtain ⟨f, rfl⟩ : ∃ f', f = f' + 1 := ⟨f - 1, by omega⟩
    obtain ⟨g, rfl⟩ : ∃ f', g = f' + 1 := ⟨g - 1, by omega⟩
    cases l with
    | nil => rfl
    | cons c l =>
      simp only [List.length_cons] at hl hf hg
      unfold unL
      split
      · cases hs : semi l with
        | none => rfl
        | some p =>
          obtain ⟨t, r⟩ := p
          have hlen := congrArg List.length (semi_drop hs)
          simp only [List.length_append, List.length_cons] at hlen
          simp only
          cases refV t with
          | none => rfl
          | some x => simp only; rw [ih r (by omega) f g _ (by omega) (by omega)]
      · split
        · split
          · rw [ih (l.drop 1) (by simp; omega) f g _ (by simp; omega) (by simp; omega)]
          · rw [ih l (by omega) f g _ (by omega) (by omega)]
        · rw [ih l (by omega) f g _ (by omega) (by omega)]
theorem last_tail {c : UInt8} {l : List UInt8} (h : ∀ hn : c :: l ≠ [], (c :: l).getLast hn ≠ 13) : ∀ hn : l ≠ [], l.getLast hn ≠ 13 := by
  intro hn
  have := h (by simp)
  rwa [List.getLast_cons hn] at this
theorem last_app {a b : List UInt8} (h : ∀ hn : a ++ b ≠ [], (a ++ b).getLast hn ≠ 13) : ∀ hn : b ≠ [], b.getLast hn ≠ 13 := by
  intro hn
  have := h (by simp [hn])
  rwa [List.getLast_append_of_ne_nil _ hn] at this
theorem map_two (o : Except Nat (List UInt8)) (x a : List UInt8) : (o.map (a ++ ·)).map (x ++ ·) = o.map ((x ++ a) ++ ·) := by
  cases o <;> simp [Except.map]
theorem map_one (o : Except Nat (List UInt8)) (c : UInt8) (a : List UInt8) : (o.map (a ++ ·)).map (c :: ·) = o.map ((c :: a) ++ ·) := by
  cases o <;> simp [Except.map]
theorem unL_app (attr : Bool) (t : List UInt8) : ∀ (n : Nat) (s : List UInt8), s.length ≤ n → ∀ (a : List UInt8) (k f g h : Nat), unL attr f s k = .ok a → s.length < f → (s ++ t).length < g → t.length < h →
    (∀ hn : s ≠ [], s.getLast hn ≠ 13) → unL attr g (s ++ t) k = (unL attr h t (k + s.length)).map (a ++ ·) := by
  intro n
  induction n with
  | zero =>
    intro s hs a k f g h ho hf hg hh _
    obtain rfl : s = [] := List.eq_nil_of_length_eq_zero (by omega)
    obtain ⟨f, rfl⟩ : ∃ f', f = f' + 1 := ⟨f - 1, by omega⟩
    simp only [unL, Except.ok.injEq] at ho
    subst ho
    rw [List.nil_append, unL_fuel attr t.length t (Nat.le_refl _) g h k (by simpa using hg) hh]
    simp only [List.length_nil, Nat.add_zero]
    cases unL attr h t k <;> rfl
  | succ n ih =>
    intro s hs a k f g h ho hf hg hh hlast
    obtain ⟨f, rfl⟩ : ∃ f', f = f' + 1 := ⟨f - 1, by omega⟩
    obtain ⟨g, rfl⟩ : ∃ f', g = f' + 1 := ⟨g - 1, by omega⟩
    cases s with
    | nil =>
      simp only [unL, Except.ok.injEq] at ho
      subst ho
      rw [List.nil_append, unL_fuel attr t.length t (Nat.le_refl _) (g + 1) h k (by simpa using hg) hh]
      simp only [List.length_nil, Nat.add_zero]
      cases unL attr h t k <;> rfl
    | cons c l =>
      simp only [List.length_cons, List.length_append] at hs hf hg
      have hl := last_tail hlast
      unfold unL at ho
      rw [List.cons_append]
      conv => lhs; unfold unL
      by_cases h38 : c = 38
      · rw [if_pos h38] at ho ⊢
        cases hsm : semi l with
        | none => rw [hsm] at ho; cases ho
        | some p =>
          obtain ⟨x, r⟩ := p
          rw [hsm] at ho
          rw [semi_app t hsm]
          have hd := semi_drop hsm
          have hlen := congrArg List.length hd
          simp only [List.length_append, List.length_cons] at hlen
          simp only at ho ⊢
          cases hv : refV x with
          | none => rw [hv] at ho; cases ho
          | some v =>
            rw [hv] at ho
            simp only at ho ⊢
            obtain ⟨b, hb, rfl⟩ := ex_map_ok ho
            have hr : ∀ hn : r ≠ [], r.getLast hn ≠ 13 := by
              rw [hd] at hl
              exact last_tail (last_app hl)
            rw [ih r (by omega) b _ f g h hb (by omega) (by simp; omega) hh hr, map_two]
            congr 2
            simp only [List.length_cons]
            omega
      · rw [if_neg h38] at ho ⊢
        by_cases h13 : c = 13
        · rw [if_pos h13] at ho ⊢
          cases l with
          | nil => exact absurd h13 (by simpa using hlast (by simp))
          | cons d l =>
            simp only [List.length_cons] at hs hf hg
            by_cases h10 : d = 10
            · subst h10
              simp only [List.take_succ_cons, List.take_zero, if_true, List.cons_append, List.drop_succ_cons, List.drop_zero] at ho ⊢
              obtain ⟨b, hb, rfl⟩ := ex_map_ok ho
              rw [ih l (by omega) b _ f g h hb (by omega) (by simp; omega) hh (last_tail hl), map_one]
              congr 2
              simp only [List.length_cons]
              omega
            · have e1 : ¬ ((d :: l).take 1 = [10]) := by simpa using h10
              have e2 : ¬ ((d :: l ++ t).take 1 = [10]) := by simpa using h10
              rw [if_neg e1] at ho
              rw [if_neg e2]
              obtain ⟨b, hb, rfl⟩ := ex_map_ok ho
              rw [ih (d :: l) (by simp; omega) b _ f g h hb (by simp; omega) (by simp; omega) hh hl, map_one]
              congr 2
              simp only [List.length_cons]
              omega
        · rw [if_neg h13] at ho ⊢
          obtain ⟨b, hb, rfl⟩ := ex_map_ok ho
          rw [ih l (by omega) b _ f g h hb (by omega) (by simp; omega) hh hl, map_one]
          congr 2
          simp only [List.length_cons]
          omega
theorem unL_plain : ∀ (l : List UInt8) (f k : Nat), l.length < f → (∀ b ∈ l, b ≠ 38 ∧ b ≠ 13) → unL false f l k = .ok l
  | [], f, k, hf, _ => by
    obtain ⟨f, rfl⟩ : ∃ f', f = f' + 1 := ⟨f - 1, by omega⟩
    rfl
  | c :: l, f, k, hf, h => by
    obtain ⟨f, rfl⟩ : ∃ f', f = f' + 1 := ⟨f - 1, by omega⟩
    have hc := h c (by simp)
    unfold unL
    rw [if_neg hc.1, if_neg hc.2, unL_plain l f (k + 1) (by simpa using hf) (fun b hb => h b (by simp [hb]))]
    rfl
theorem unL_gt (f k : Nat) : unL false (f + 5) [38, 103, 116, 59] k = .ok [62] := by
  unfold unL
  rw [if_pos rfl, show semi [103, 116, 59] = some ([103, 116], []) from rfl]
  simp only [show refV [103, 116] = some [62] from rfl]
  rfl
theorem ba_extL {a b : ByteArray} (h : a.data.toList = b.data.toList) : a = b := by
  cases a; cases b; simp only at h; rw [Array.toList_inj.1 h]
theorem unL_place {attr : Bool} : ∀ {f : Nat} {l : List UInt8} {k : Nat} {a : List UInt8}, unL attr f l k = .ok a → ∀ j, unL attr f l j = .ok a := by
  intro f
  induction f with
  | zero => intro l k a h j; simpa [unL] using h
  | succ f ih =>
    intro l k a h j
    cases l with
    | nil => simpa [unL] using h
    | cons c l =>
      unfold unL at h ⊢
      by_cases h38 : c = 38
      · rw [if_pos h38] at h ⊢
        cases hs : semi l with
        | none => rw [hs] at h; cases h
        | some p =>
          obtain ⟨t, r⟩ := p
          rw [hs] at h
          simp only at h ⊢
          cases hv : refV t with
          | none => rw [hv] at h; cases h
          | some x =>
            rw [hv] at h
            simp only at h ⊢
            obtain ⟨b, hb, rfl⟩ := ex_map_ok h
            rw [ih hb]
            rfl
      · rw [if_neg h38] at h ⊢
        by_cases h13 : c = 13
        · rw [if_pos h13] at h ⊢
          by_cases h10 : l.take 1 = [10]
          · rw [if_pos h10] at h ⊢
            obtain ⟨b, hb, rfl⟩ := ex_map_ok h
            rw [ih hb]
            rfl
          · rw [if_neg h10] at h ⊢
            obtain ⟨b, hb, rfl⟩ := ex_map_ok h
            rw [ih hb]
            rfl
        · rw [if_neg h13] at h ⊢
          obtain ⟨b, hb, rfl⟩ := ex_map_ok h
          rw [ih hb]
          rfl
end Wb
namespace Wb
def refB (attr : Bool) (c : UInt8) : List UInt8 :=
  if c = 38 then [38, 97, 109, 112, 59] else if c = 60 then [38, 108, 116, 59] else if c = 62 ∧ attr = false then [38, 103, 116, 59]
  else if c = 34 ∧ attr = true then [38, 113, 117, 111, 116, 59] else if c = 13 then [38, 35, 49, 51, 59]
  else if c = 10 ∧ attr = true then [38, 35, 49, 48, 59] else if c = 9 ∧ attr = true then [38, 35, 57, 59] else []
def escB (attr : Bool) (c : UInt8) : List UInt8 := if refB attr c = [] then [c] else refB attr c
def escL (attr : Bool) : List UInt8 → List UInt8
  | [] => []
  | c :: l => escB attr c ++ escL attr l
theorem escL_app (attr : Bool) (a b : List UInt8) : escL attr (a ++ b) = escL attr a ++ escL attr b := by
  induction a with
  | nil => rfl
  | cons c a ih => rw [List.cons_append, escL, ih, escL, List.append_assoc]
theorem escL_plain {attr : Bool} {l : List UInt8} (h : ∀ c ∈ l, refB attr c = []) : escL attr l = l := by
  induction l with
  | nil => rfl
  | cons c l ih =>
    rw [escL, ih (fun x hx => h x (List.mem_cons_of_mem _ hx))]
    unfold escB
    rw [if_pos (h c (List.mem_cons_self ..))]
    rfl
theorem refB_len (attr : Bool) (c : UInt8) : (refB attr c).length ≤ 6 := by
  unfold refB
  repeat' split
  all_goals simp
theorem escB_len (attr : Bool) (c : UInt8) : 1 ≤ (escB attr c).length ∧ (escB attr c).length ≤ 6 := by
  unfold escB
  split
  · simp
  · rename_i h
    exact ⟨List.length_pos_iff.2 h, refB_len attr c⟩
theorem escL_len (attr : Bool) (l : List UInt8) : l.length ≤ (escL attr l).length ∧ (escL attr l).length ≤ 6 * l.length := by
  induction l with
  | nil => simp [escL]
  | cons c l ih =>
    have := escB_len attr c
    rw [escL, List.length_append, List.length_cons]
    omega
theorem un_escB (attr : Bool) (c : UInt8) (k : Nat) : unL attr 7 (escB attr c) k = .ok [c] ∧ ∀ hn : escB attr c ≠ [], (escB attr c).getLast hn ≠ 13 := by
  unfold escB
  by_cases h : refB attr c = []
  · rw [if_pos h]
    unfold refB at h
    have h1 : c ≠ 38 := fun e => by subst e; simp at h
    have h2 : c ≠ 13 := fun e => by subst e; simp at h
    have h3 : (attr && (c == 9 || c == 10)) = false := by
      cases attr with
      | false => rfl
      | true =>
        have h3 : c ≠ 10 := fun e => by subst e; simp at h
        have h4 : c ≠ 9 := fun e => by subst e; simp at h
        simp [h3, h4]
    refine ⟨?_, fun _ => by simpa using h2⟩
    unfold unL
    rw [if_neg h1, if_neg h2, h3]
    rfl
  · rw [if_neg h]
    have hd : ∀ l : List UInt8, refB attr c = l → l ≠ [] → (c = 38 ∧ l = [38, 97, 109, 112, 59]) ∨ (c = 60 ∧ l = [38, 108, 116, 59]) ∨ (c = 62 ∧ l = [38, 103, 116, 59]) ∨ (c = 34 ∧ l = [38, 113, 117, 111, 116, 59]) ∨ (c = 13 ∧ l = [38, 35, 49, 51, 59]) ∨ (c = 10 ∧ l = [38, 35, 49, 48, 59]) ∨ (c = 9 ∧ l = [38, 35, 57, 59]) := by
      intro l hl hne
      subst hl
      unfold refB at hne ⊢
      by_cases c1 : c = 38
      · simp [c1]
      by_cases c2 : c = 60
      · simp [c2]
      by_cases c3 : c = 62 ∧ attr = false
      · simp [c3]
      by_cases c4 : c = 34 ∧ attr = true
      · simp [c4]
      by_cases c5 : c = 13
      · simp [c5]
      by_cases c6 : c = 10 ∧ attr = true
      · simp [c6]
      by_cases c7 : c = 9 ∧ attr = true
      · simp [c7]
      rw [if_neg c1, if_neg c2, if_neg c3, if_neg c4, if_neg c5, if_neg c6, if_neg c7] at hne
      exact absurd rfl hne
    rcases hd _ rfl h with ⟨rfl, e⟩ | ⟨rfl, e⟩ | ⟨rfl, e⟩ | ⟨rfl, e⟩ | ⟨rfl, e⟩ | ⟨rfl, e⟩ | ⟨rfl, e⟩
    all_goals
      rw [e]
      exact ⟨by rfl, by decide⟩
theorem un_esc (attr : Bool) : ∀ (l : List UInt8) (k f : Nat), (escL attr l).length < f → unL attr f (escL attr l) k = .ok l
  | [], k, f, h => by
    obtain ⟨f, rfl⟩ : ∃ f', f = f' + 1 := ⟨f - 1, by omega⟩
    rfl
  | c :: l, k, f, h => by
    obtain ⟨h1, h2⟩ := un_escB attr c k
    have hl := escB_len attr c
    rw [escL] at h ⊢
    rw [unL_app attr (escL attr l) (escB attr c).length (escB attr c) (Nat.le_refl _) [c] k 7 f ((escL attr l).length + 1) h1 (by omega) h (by omega) h2, un_esc attr l _ _ (by omega)]
    rfl
theorem esc_bytes (attr : Bool) (l : List UInt8) : ∀ b ∈ escL attr l, b ≠ 60 ∧ b ≠ 13 ∧ (attr = true → b ≠ 34 ∧ b ≠ 9 ∧ b ≠ 10) ∧ (attr = false → b ≠ 62) := by
  induction l with
  | nil => intro b hb; cases hb
  | cons c l ih =>
    intro b hb
    rw [escL] at hb
    rcases List.mem_append.1 hb with hb | hb
    · unfold escB at hb
      by_cases h : refB attr c = []
      · rw [if_pos h] at hb
        simp only [List.mem_singleton] at hb
        subst hb
        unfold refB at h
        refine ⟨fun e => by subst e; simp at h, fun e => by subst e; simp at h, fun ha => ⟨fun e => by subst e ha; simp at h, fun e => by subst e ha; simp at h, fun e => by subst e ha; simp at h⟩, fun ha e => by subst e ha; simp at h⟩
      · rw [if_neg h] at hb
        have hx : ∀ b ∈ refB attr c, b ≠ 60 ∧ b ≠ 13 ∧ b ≠ 34 ∧ b ≠ 9 ∧ b ≠ 10 ∧ b ≠ 62 := by
          unfold refB
          repeat' split
          all_goals decide
        obtain ⟨a1, a2, a3, a4, a5, a6⟩ := hx b hb
        exact ⟨a1, a2, fun _ => ⟨a3, a4, a5⟩, fun _ => a6⟩
    · exact ih b hb
end Wb
namespace Wb
open Go
theorem ret_b {a b : Bool} (h : a = b) : Ending.returned (.bool a) = Ending.returned (.bool b) := by rw [h]
theorem ret_i {k : IntKind} {a b : Int} (h : a = b) : Ending.returned (.int k a) = Ending.returned (.int k b) := by rw [h]
theorem ret_s {a b : ByteArray} (h : a = b) : Ending.returned (.string a) = Ending.returned (.string b) := by rw [h]
theorem ret_ii {k k' : IntKind} {a b a' b' : Int} (h : a = b) (h' : a' = b') :
    Ending.returned (.tuple #[.int k a, .int k' a']) = Ending.returned (.tuple #[.int k b, .int k' b']) := by rw [h, h']
theorem and_low_nat (x k : Nat) : x &&& (2 ^ k - 1) = x % 2 ^ k := Nat.and_two_pow_sub_one_eq_mod x k
theorem u8_and15 (c : Int) (h0 : 0 ≤ c) (h1 : c < 256) : bits .and .u8 c 15 = c % 16 := by
  rw [u8_and c 15 h0 h1 (by omega) (by omega)]
  have := and_low_nat c.toNat 4
  simp only [show (2 : Nat) ^ 4 - 1 = 15 from rfl, show (2 : Nat) ^ 4 = 16 from rfl] at this
  rw [show (15 : Int).toNat = 15 from rfl, this]
  omega
theorem or_nat (a b k : Nat) (hb : b < 2 ^ k) : a * 2 ^ k ||| b = a * 2 ^ k + b := by
  have := Nat.shiftLeft_add_eq_or_of_lt hb a
  rw [Nat.shiftLeft_eq] at this
  exact this.symm
theorem u8_or_base (m k M K : Nat) (x : Int) (eK : K = 2 ^ k) (eM : M = m * K) (h0 : 0 ≤ x) (h1 : x < (K : Int)) (hs : (M : Int) + x < 256) : bits .or .u8 (M : Int) x = (M : Int) + x := by
  obtain ⟨X, rfl⟩ := Int.eq_ofNat_of_zero_le h0
  have hX : X < K := by omega
  rw [u8_or_nat M X (by omega) (by omega)]
  subst eM
  subst eK
  rw [or_nat m X k hX]
  omega
theorem ofInt_i32 (a : Nat) (ha : a < 2147483648) : (BitVec.ofInt 32 (a : Int)).toNat = a := by
  rw [BitVec.ofInt_natCast, BitVec.toNat_ofNat]; exact Nat.mod_eq_of_lt (by omega)
theorem i32_and_nat (a b : Nat) (ha : a < 2147483648) (hb : b < 2147483648) : bits .and .i32 (a : Int) (b : Int) = ((a &&& b : Nat) : Int) := by
  have hx : a &&& b < 2 ^ 31 := Nat.and_lt_two_pow _ (by omega)
  show IntKind.i32.wrap ((BitVec.ofInt 32 (a : Int) &&& BitVec.ofInt 32 (b : Int)).toNat : Int) = _
  rw [BitVec.toNat_and, ofInt_i32 a ha, ofInt_i32 b hb]
  simp only [IntKind.wrap, IntKind.bits, IntKind.signed]
  simp
  omega
theorem i32_or_nat (a b : Nat) (ha : a < 2147483648) (hb : b < 2147483648) : bits .or .i32 (a : Int) (b : Int) = ((a ||| b : Nat) : Int) := by
  have hx : a ||| b < 2 ^ 31 := Nat.or_lt_two_pow (by omega) (by omega)
  show IntKind.i32.wrap ((BitVec.ofInt 32 (a : Int) ||| BitVec.ofInt 32 (b : Int)).toNat : Int) = _
  rw [BitVec.toNat_or, ofInt_i32 a ha, ofInt_i32 b hb]
  simp only [IntKind.wrap, IntKind.bits, IntKind.signed]
  simp
  omega
theorem i32_and63 (c : Int) (h0 : 0 ≤ c) (h1 : c < 2147483648) : bits .and .i32 c 63 = c % 64 := by
  obtain ⟨C, rfl⟩ := Int.eq_ofNat_of_zero_le h0
  have h := i32_and_nat C 63 (by omega) (by decide)
  have := and_low_nat C 6
  simp only [show (2 : Nat) ^ 6 - 1 = 63 from rfl, show (2 : Nat) ^ 6 = 64 from rfl] at this
  rw [this] at h
  simpa using h
theorem i32_or64 (a b : Int) (h0 : 0 ≤ a) (h1 : a < 33554432) (h2 : 0 ≤ b) (h3 : b < 64) : bits .or .i32 (a * 64) b = a * 64 + b := by
  obtain ⟨A, rfl⟩ := Int.eq_ofNat_of_zero_le h0
  obtain ⟨B, rfl⟩ := Int.eq_ofNat_of_zero_le h2
  have h := i32_or_nat (A * 2 ^ 6) B (by simp; omega) (by omega)
  rw [or_nat A B 6 (by simp; omega)] at h
  simpa using h
end Wb
namespace Wb
open Go Go.RowKit
theorem add_succ (a : Addr) (n k : Nat) (hk : 0 < k) : a.add (n + k) = ⟨(a.add n).block, (a.add n).off + k, none⟩ := by
  unfold Addr.add
  rw [if_neg (by omega)]
  split
  · subst_vars; simp
  · simp; omega
theorem add_block (a : Addr) (n : Nat) : (a.add n).block = a.block := by unfold Addr.add; split <;> rfl
theorem of_alloc {w w' : World} {o : Obj} (h : Below (w.alloc o).heap.size (w.alloc o) w') : Below w.heap.size w w' :=
  ((Below.refl w.heap.size w).alloc (Nat.le_refl _) o).trans (h.mono (by simp))
def Sl (w : World) (sz : Nat) (A : Option Addr) (n : Nat) (xs : List Value) : Prop :=
  xs.length = n * sz ∧ (0 < n → ∃ ad, A = some ad ∧ ad.block < w.heap.size ∧ ∀ j u, xs[j]? = some u → w.cell? (ad.add j) = some u)
theorem Sl.nil (w : World) (sz : Nat) (A : Option Addr) : Sl w sz A 0 [] := ⟨by simp, fun h => absurd h (by omega)⟩
theorem Sl.keep {w w' : World} {sz n : Nat} {A : Option Addr} {xs : List Value} (h : Sl w sz A n xs) (hs : w.heap.size ≤ w'.heap.size)
    (hc : ∀ p : Addr, p.block < w.heap.size → w'.cell? p = w.cell? p) : Sl w' sz A n xs := by
  refine ⟨h.1, fun hn => ?_⟩
  obtain ⟨ad, e, hb, hcell⟩ := h.2 hn
  exact ⟨ad, e, by omega, fun j u hu => (hc _ (by rw [add_block]; exact hb)).trans (hcell j u hu)⟩
theorem Sl.below {w w' : World} {sz n : Nat} {A : Option Addr} {xs : List Value} (h : Sl w sz A n xs) (hb : Below w.heap.size w w') : Sl w' sz A n xs :=
  h.keep hb.size fun _ hp => hb.cell hp
theorem Sl.alloc {w : World} {sz n : Nat} {A : Option Addr} {xs : List Value} (h : Sl w sz A n xs) (o : Obj) : Sl (w.alloc o) sz A n xs :=
  h.below ((Below.refl _ _).alloc (Nat.le_refl _) o)
theorem Sl.of_own {w : World} {base sz n c : Nat} {e : TypeId} {A : Option Addr} {xs : List Value} (h : w.ownsRow base e sz (.slice A n c) n xs) : Sl w sz A n xs := by
  refine ⟨h.1, fun hn => ?_⟩
  obtain ⟨g, cap, hv, _, hlt⟩ := h.form hn
  have hA : A = some ⟨g, 0, none⟩ := by injection hv
  subst hA
  exact ⟨_, rfl, hlt, h.cells (g := g) rfl⟩
abbrev Pr := ByteArray × ByteArray
def cells2 (l : List Pr) : List Value := l.flatMap fun p => [.string p.1, .string p.2]
theorem cells2_nil : cells2 [] = [] := rfl
theorem cells2_cons (p : Pr) (l : List Pr) : cells2 (p :: l) = .string p.1 :: .string p.2 :: cells2 l := rfl
theorem cells2_append (a b : List Pr) : cells2 (a ++ b) = cells2 a ++ cells2 b := by simp [cells2]
theorem cells2_length (l : List Pr) : (cells2 l).length = l.length * 2 := by
  induction l with
  | nil => rfl
  | cons p l ih => rw [cells2_cons]; simp [ih]; omega
theorem cells2_at : ∀ (l : List Pr) (k : Nat) (x : Pr), l[k]? = some x → (cells2 l)[k * 2]? = some (.string x.1) ∧ (cells2 l)[k * 2 + 1]? = some (.string x.2)
  | [], k, x, h => by simp at h
  | p :: l, 0, x, h => by simp at h; subst h; simp [cells2_cons]
  | p :: l, k + 1, x, h => by
    have := cells2_at l k x (by simpa using h)
    rw [cells2_cons, show (k + 1) * 2 = k * 2 + 1 + 1 from by omega]
    simpa using this
theorem cells2_one (l : List Pr) : ∀ u ∈ cells2 l, u.oneCell' = true := by
  intro u hu
  simp only [cells2, List.mem_flatMap] at hu
  obtain ⟨p, _, hp⟩ := hu
  simp at hp
  rcases hp with rfl | rfl <;> rfl
def Sl2 (w : World) (A : Option Addr) (l : List Pr) : Prop := Sl w 2 A l.length (cells2 l)
theorem Sl2.nil (w : World) (A : Option Addr) : Sl2 w A [] := Sl.nil w 2 A
theorem Sl2.below {w w' : World} {A : Option Addr} {l : List Pr} (h : Sl2 w A l) (hb : Below w.heap.size w w') : Sl2 w' A l := Sl.below h hb
theorem Sl2.alloc {w : World} {A : Option Addr} {l : List Pr} (h : Sl2 w A l) (o : Obj) : Sl2 (w.alloc o) A l := Sl.alloc h o
theorem Sl2.at_ {w : World} {A : Option Addr} {l : List Pr} (h : Sl2 w A l) {k : Nat} {x : Pr} (hx : l[k]? = some x) :
    ∃ ad, A = some ad ∧ ad.block < w.heap.size ∧ w.cell? (ad.add (k * 2)) = some (.string x.1) ∧ w.cell? ⟨(ad.add (k * 2)).block, (ad.add (k * 2)).off + 1, none⟩ = some (.string x.2) := by
  have hk : k < l.length := (List.getElem?_eq_some_iff.1 hx).1
  obtain ⟨ad, e, hb, hc⟩ := h.2 (by omega)
  obtain ⟨h1, h2⟩ := cells2_at l k x hx
  refine ⟨ad, e, hb, hc _ _ h1, ?_⟩
  rw [← hc _ _ h2, add_succ _ _ 1 (by omega)]
theorem Sl2.of_own {w : World} {base c : Nat} {e : TypeId} {A : Option Addr} {l : List Pr} (h : w.ownsRow base e 2 (.slice A l.length c) l.length (cells2 l)) : Sl2 w A l := Sl.of_own h
section
variable {P : Program} (w : World)
theorem run_append_none' (base : Nat) (t ty e : TypeId) (i : TypeInfo) (size : Nat) (ht : P.underlying t = some (.slice e)) (hi : P.info? e = some i)
    (v : Value) (n : Nat) (xs : List Value) (hown : w.ownsRow base e size v n xs) (c : Nat) : (Builtin.append_ #[t, t] ty #[v, .slice none 0 c]).run P w = .ok v w := by
  rcases hown.2 with ⟨rfl, rfl⟩ | ⟨g, cap, cur, rfl, _, _, hnc, _⟩
  · simp [Builtin.append_, run_underlying ht, Go.sizeOf, typeInfo, hi, Builtin.lenOf, Builtin.firstCells]
  · simp [Builtin.append_, run_underlying ht, Go.sizeOf, typeInfo, hi, Builtin.lenOf, Builtin.firstCells, hnc, storeCells]
theorem run_append_sl (base : Nat) (t ty e : TypeId) (i : TypeInfo) (z : Value) (size bytes : Nat) (ht : P.underlying t = some (.slice e)) (hi : P.info? e = some i) (hz : i.zero = some z)
    (hsize : i.size = size) (hby : i.bytes = bytes) (hzs : z.cells.size = size) (hsz : 0 < size)
    (v : Value) (n : Nat) (xs : List Value) (hown : w.ownsRow base e size v n xs) (A : Option Addr) (m c : Nat) (news : List Value) (hr : Sl w size A m news) (h1 : ∀ u ∈ news, u.oneCell' = true)
    (h63 : n + m ≤ maxLen) (hbytes : (n + m) * bytes ≤ 140737488355328) (hbase : base ≤ w.heap.size) :
    ∃ v' w', (Builtin.append_ #[t, t] ty #[v, .slice A m c]).run P w = .ok v' w' ∧ w'.ownsRow base e size v' (n + m) (xs ++ news) ∧ w.grownBy w' v.ownBlock ∧
      (v'.ownBlock = v.ownBlock ∨ v'.ownBlock = some w.heap.size) := by
  by_cases hm : m = 0
  · subst hm
    have hn : news = [] := List.eq_nil_of_length_eq_zero (by simpa using hr.1)
    subst hn
    cases A with
    | none => exact ⟨v, w, run_append_none' w base t ty e i size ht hi v n xs hown c, by simpa using hown, World.grownBy.refl w _, .inl rfl⟩
    | some ad =>
      obtain ⟨v', w', h, h2, h3, _, h5⟩ := run_append_own_at (P := P) w base t ty e i z size bytes ht hi hz hsize hby hzs hsz v n xs hown ad 0 c [] (by simp) (by simp) h1 h63 hbytes hbase
      exact ⟨v', w', h, h2, h3, h5⟩
  · obtain ⟨ad, rfl, _, hc⟩ := hr.2 (by omega)
    obtain ⟨v', w', h, h2, h3, _, h5⟩ := run_append_own_at (P := P) w base t ty e i z size bytes ht hi hz hsize hby hzs hsz v n xs hown ad m c news hr.1 hc h1 h63 hbytes hbase
    exact ⟨v', w', h, h2, h3, h5⟩
theorem wp_append_sl {o : Oper} {a : Act} {K : Act → World → Prop} {Q : Exit → Act → World → Prop} (s x : Operand) (t : TypeId)
    (ho : o.op = .call { callee := .builtin .append, args := #[s, x], argTypes := #[t, t] })
    (base : Nat) (e : TypeId) (i : TypeInfo) (z : Value) (size bytes : Nat) (ht : P.underlying t = some (.slice e)) (hi : P.info? e = some i) (hz : i.zero = some z)
    (hsize : i.size = size) (hby : i.bytes = bytes) (hzs : z.cells.size = size) (hsz : 0 < size)
    (v : Value) (n : Nat) (xs : List Value) (hs : a.eval s = v) (hown : w.ownsRow base e size v n xs) (A : Option Addr) (m c : Nat) (news : List Value) (hx : a.eval x = .slice A m c)
    (hr : Sl w size A m news) (h1 : ∀ u ∈ news, u.oneCell' = true) (h63 : n + m ≤ maxLen) (hbytes : (n + m) * bytes ≤ 140737488355328) (hbase : base ≤ w.heap.size)
    (h : ∀ v' w', w'.ownsRow base e size v' (n + m) (xs ++ news) → w.grownBy w' v.ownBlock → (v'.ownBlock = v.ownBlock ∨ v'.ownBlock = some w.heap.size) → K (a.put o.dst v') w') : o.wp P a w K Q := by
  obtain ⟨v', w', hrun, h2, h3, h4⟩ := run_append_sl (P := P) w base t o.type e i z size bytes ht hi hz hsize hby hzs hsz v n xs hown A m c news hr h1 h63 hbytes hbase
  unfold Oper.wp execOp
  simp only [ho, resolve, invoke, builtin, Sem.run_bind, Sem.run_pure, Result.andThen_ok, List.map_toArray, List.map_cons, List.map_nil, hs, hx, hrun]
  exact h v' w' h2 h3 h4
theorem wpList_append_sl {ops : Array Oper} {rest : List Oper} {o : Oper} {a : Act} {Q : Exit → Act → World → Prop} (hgd : o.guard = none) (s x : Operand) (t : TypeId)
    (ho : o.op = .call { callee := .builtin .append, args := #[s, x], argTypes := #[t, t] })
    (base : Nat) (e : TypeId) (i : TypeInfo) (z : Value) (size bytes : Nat) (ht : P.underlying t = some (.slice e)) (hi : P.info? e = some i) (hz : i.zero = some z)
    (hsize : i.size = size) (hby : i.bytes = bytes) (hzs : z.cells.size = size) (hsz : 0 < size)
    (v : Value) (n : Nat) (xs : List Value) (hs : a.eval s = v) (hown : w.ownsRow base e size v n xs) (A : Option Addr) (m c : Nat) (news : List Value) (hx : a.eval x = .slice A m c)
    (hr : Sl w size A m news) (h1 : ∀ u ∈ news, u.oneCell' = true) (h63 : n + m ≤ maxLen) (hbytes : (n + m) * bytes ≤ 140737488355328) (hbase : base ≤ w.heap.size)
    (h : ∀ v' w', w'.ownsRow base e size v' (n + m) (xs ++ news) → w.grownBy w' v.ownBlock → (v'.ownBlock = v.ownBlock ∨ v'.ownBlock = some w.heap.size) → wpList P ops Q rest (a.put o.dst v') w') : wpList P ops Q (o :: rest) a w :=
  wpList_plain hgd fun _ hK => wp_append_sl w s x t ho base e i z size bytes ht hi hz hsize hby hzs hsz v n xs hs hown A m c news hx hr h1 h63 hbytes hbase fun v' w' h2 h3 h4 => hK _ _ (h v' w' h2 h3 h4)
theorem step_append_sl {ops : Array Oper} {o : Oper} {a : Act} {K : Act → World → Prop} {Q : Exit → Act → World → Prop} {E : Prop} (hgd : o.guard = none) (s x : Operand) (t : TypeId)
    (ho : o.op = .call { callee := .builtin .append, args := #[s, x], argTypes := #[t, t] })
    (base : Nat) (e : TypeId) (i : TypeInfo) (z : Value) (size bytes : Nat) (ht : P.underlying t = some (.slice e)) (hi : P.info? e = some i) (hz : i.zero = some z)
    (hsize : i.size = size) (hby : i.bytes = bytes) (hzs : z.cells.size = size) (hsz : 0 < size)
    (v : Value) (n : Nat) (xs : List Value) (hs : a.eval s = v) (hown : w.ownsRow base e size v n xs) (A : Option Addr) (m c : Nat) (news : List Value) (hx : a.eval x = .slice A m c)
    (hr : Sl w size A m news) (h1 : ∀ u ∈ news, u.oneCell' = true) (h63 : n + m ≤ maxLen) (hbytes : (n + m) * bytes ≤ 140737488355328) (hbase : base ≤ w.heap.size)
    (h : ∀ v' w', w'.ownsRow base e size v' (n + m) (xs ++ news) → w.grownBy w' v.ownBlock → (v'.ownBlock = v.ownBlock ∨ v'.ownBlock = some w.heap.size) → K (a.put o.dst v') w') :
    if Region.wanted o (yielded ops a.tmps) = true then Oper.wp P o a w K Q else E := by
  rw [if_pos (by simp [Region.wanted, hgd])]
  exact wp_append_sl w s x t ho base e i z size bytes ht hi hz hsize hby hzs hsz v n xs hs hown A m c news hx hr h1 h63 hbytes hbase h
end
theorem kept_block {w w2 : World} {o : Obj} (hb : Below (w.alloc o).heap.size (w.alloc o) w2) : w2.heap[w.heap.size]? = some o :=
  (hb.block w.heap.size (by simp)).trans (heap_alloc_new w o)
theorem still_block {w w2 : World} {g : Nat} {o : Obj} (h : w.heap[g]? = some o) (hb : Below w.heap.size w w2) : w2.heap[g]? = some o :=
  (hb.block g (Array.getElem?_eq_some_iff.1 h).1).trans h
theorem blk_cell {w : World} {g : Nat} {cs : Array Value} {t : TypeId} (h : w.heap[g]? = some (.cells cs t (0, 0))) (i : Nat) : w.cell? ⟨g, i, none⟩ = cs[i]? := cell_of_row w g i cs t (0, 0) h
theorem blk_free {w : World} {g : Nat} {cs : Array Value} {t : TypeId} (h : w.heap[g]? = some (.cells cs t (0, 0))) (i : Nat) : w.frozen? ⟨g, i, none⟩ = false := frozen_of_row w g i cs t h
theorem blk_set {w : World} {g : Nat} {cs : Array Value} {t : TypeId} (h : w.heap[g]? = some (.cells cs t (0, 0))) (i : Nat) (u : Value) : (w.setCell ⟨g, i, none⟩ u).heap[g]? = some (.cells (cs.setIfInBounds i u) t (0, 0)) :=
  heap_setCell_same w g i cs t u h
theorem results_cell2 {P : Program} {fn : Func} {p u : Tmp} {ty : TypeId} (h : fn.results = #[.cell p ty, .tmp u]) (tmps : Array Value) (w : World) (g : Nat) (t : TypeId) (cs : Array Value) (d : TypeDesc)
    (hp : tmps.getD p undef = .pointer (some ⟨g, 0, none⟩)) (hg : w.heap[g]? = some (.cells cs t (0, 0)))
    (hu : P.underlying ty = some d) (hd : (match d with | .struct _ | .array _ _ => true | _ => false) = true) (hi : (P.info? ty).map (·.size) = some cs.size) :
    (results fn tmps).run P w = .ok (.tuple #[.agg cs, tmps.getD u undef]) w := by
  rw [results_cell_tmp h]
  have hp' : tmps[p]?.getD undef = .pointer (some ⟨g, 0, none⟩) := by simpa using hp
  simp [hp', asAddr, Result.andThen, run_loadVar_row w g t ty cs (0, 0) d hg hu hd hi]
theorem own_shape {w : World} {base sz n : Nat} {e : TypeId} {v : Value} {xs : List Value} (h : w.ownsRow base e sz v n xs) : ∃ A c, v = .slice A n c := by
  rcases h.2 with ⟨rfl, rfl⟩ | ⟨g, cap, _, rfl, _⟩
  · exact ⟨none, 0, rfl⟩
  · exact ⟨_, _, rfl⟩
theorem Sl.lit (w : World) (sz : Nat) (cs : List Value) (t : TypeId) (n : Nat) (h : cs.length = n * sz) : Sl (w.alloc (.cells cs.toArray t)) sz (some ⟨w.heap.size, 0, none⟩) n cs := by
  refine ⟨h, fun _ => ⟨_, rfl, by simp, fun j u hu => ?_⟩⟩
  rw [Addr.add_lit, cell_of_row _ _ _ _ _ (0, 0) (heap_alloc_new w _)]
  simpa using hu
end Wb
namespace Wb
open Go.Lib (compareBytes)
theorem ba_data {a b : ByteArray} (h : a.data.toList = b.data.toList) : a = b := by
  cases a; cases b
  simp only at h
  rw [Array.toList_inj.1 h]
end Wb
namespace Wb
open Go
def eqT (a b : ByteArray) : Bool := a.toList == b.toList
theorem eqT_iff (a b : ByteArray) : eqT a b = true ↔ a = b := by
  unfold eqT
  rw [ByteArray.toList_eq, ByteArray.toList_eq, beq_iff_eq]
  constructor
  · intro h
    cases a; cases b
    simp only at h
    rw [Array.toList_inj.1 h]
  · rintro rfl; rfl
theorem eqT_dec (a b : ByteArray) : eqT a b = decide (a = b) := by
  rw [Bool.eq_iff_iff, eqT_iff]; simp
theorem eqT_self (a : ByteArray) : eqT a a = true := (eqT_iff _ _).2 rfl
theorem eqT_false {a b : ByteArray} : eqT a b = false ↔ a ≠ b := by rw [eqT_dec]; simp
theorem toList_nil_iff (a : ByteArray) : a.toList = [] ↔ a = ⟨#[]⟩ := by
  rw [ByteArray.toList_eq]
  constructor
  · intro h; cases a; simp only at h; rw [Array.toList_eq_nil_iff.1 h]
  · rintro rfl; rfl
def sE : ByteArray := ⟨#[]⟩
def sXmlns : ByteArray := ⟨#[120, 109, 108, 110, 115]⟩
def sXmlQ : ByteArray := ⟨#[120, 109, 108]⟩
def sXML : ByteArray := ⟨#[104, 116, 116, 112, 58, 47, 47, 119, 119, 119, 46, 119, 51, 46, 111, 114, 103, 47, 88, 77, 76, 47, 49, 57, 57, 56, 47, 110, 97, 109, 101, 115, 112, 97, 99, 101]⟩
def sXMLNS : ByteArray := ⟨#[104, 116, 116, 112, 58, 47, 47, 119, 119, 119, 46, 119, 51, 46, 111, 114, 103, 47, 50, 48, 48, 48, 47, 120, 109, 108, 110, 115, 47]⟩
theorem empty_eq (p : ByteArray) : p.toList.isEmpty = eqT p sE := by
  unfold eqT
  rw [(toList_nil_iff sE).2 rfl]
  cases p.toList <;> rfl
def bindB (p s : ByteArray) : Int :=
  if !(eqT p sE) && !(nameB p.data.toList) then 12
  else if eqT p sXmlns || (eqT p sXmlQ && !(eqT s sXML)) || (!(eqT p sXmlQ) && (eqT s sXML || eqT s sXMLNS)) || (!(eqT p sE) && eqT s sE) then 13 else 0
def lastB : List Pr → ByteArray → Option ByteArray
  | [], _ => none
  | x :: l, p => match lastB l p with
    | some s => some s
    | none => if eqT x.1 p then some x.2 else none
theorem lastB_snoc (l : List Pr) (x : Pr) (p : ByteArray) : lastB (l ++ [x]) p = if eqT x.1 p then some x.2 else lastB l p := by
  induction l with
  | nil => simp [lastB]
  | cons y l ih =>
    simp only [List.cons_append, lastB, ih]
    by_cases h : eqT x.1 p = true <;> simp [h]
theorem take_snoc {α : Type} (l : List α) (k : Nat) (x : α) (h : l[k]? = some x) : l.take (k + 1) = l.take k ++ [x] := by
  rw [List.take_add_one, h]; rfl
theorem lastB_step {l : List Pr} {k : Nat} {x : Pr} (h : l[k]? = some x) (p : ByteArray) : lastB (l.take (k + 1)) p = if eqT x.1 p then some x.2 else lastB (l.take k) p := by
  rw [take_snoc l k x h, lastB_snoc]
theorem lastB_hit {l : List Pr} {k : Nat} {x : Pr} (h : l[k]? = some x) {p : ByteArray} (hp : (x.1.toList == p.toList) = true) : lastB (l.take (k + 1)) p = some x.2 := by
  rw [lastB_step h, show eqT x.1 p = true from hp]; rfl
theorem lastB_miss {l : List Pr} {k : Nat} {x : Pr} (h : l[k]? = some x) {p : ByteArray} (hp : (x.1.toList == p.toList) = false) : lastB (l.take (k + 1)) p = lastB (l.take k) p := by
  rw [lastB_step h, show eqT x.1 p = false from hp]; rfl
def findB (l : List Pr) (p : ByteArray) : ByteArray × Bool :=
  if eqT p sXmlQ then (sXML, true) else match lastB l p with
    | some s => (s, true)
    | none => (sE, eqT p sE)
theorem findB_xml {l : List Pr} {p : ByteArray} (h : eqT p sXmlQ = true) : findB l p = (sXML, true) := by unfold findB; rw [h]; rfl
theorem findB_some {l : List Pr} {p s : ByteArray} (h : eqT p sXmlQ = false) (hl : lastB l p = some s) : findB l p = (s, true) := by unfold findB; rw [h, hl]; rfl
theorem findB_none {l : List Pr} {p : ByteArray} (h : eqT p sXmlQ = false) (hl : lastB l p = none) : findB l p = (sE, eqT p sE) := by unfold findB; rw [h, hl]; rfl
def cIx (q : ByteArray) : Option Nat := (List.range q.size).find? fun i => q[i]! == 58
theorem firstIdx_c' (s : ByteArray) : firstIdx s 58 = match cIx s with | some k => (k : Int) | none => -1 := rfl
theorem cIx_some (q : ByteArray) (k : Nat) : cIx q = some k ↔ k < q.size ∧ q[k]! = 58 ∧ ∀ i, i < k → q[i]! ≠ 58 := by
  unfold cIx
  rw [List.find?_range_eq_some]
  simp only [beq_iff_eq, List.mem_range, Bool.not_eq_eq_eq_not, Bool.not_true, beq_eq_false_iff_ne, ne_eq]
  constructor
  · rintro ⟨a, b, c⟩; exact ⟨b, a, c⟩
  · rintro ⟨a, b, c⟩; exact ⟨b, a, c⟩
theorem cIx_none (q : ByteArray) : cIx q = none ↔ ∀ i, i < q.size → q[i]! ≠ 58 := by
  unfold cIx
  rw [List.find?_range_eq_none]
  simp
def splitB (q : ByteArray) : ByteArray × ByteArray × Bool :=
  match cIx q with
  | none => if nameB q.data.toList then (sE, q, true) else (sE, sE, false)
  | some k => if nameB (q.extract 0 k).data.toList && nameB (q.extract (k + 1) q.size).data.toList then (q.extract 0 k, q.extract (k + 1) q.size, true) else (sE, sE, false)
theorem splitB_none {q : ByteArray} (h : cIx q = none) {b : Bool} (hb : nameB q.data.toList = b) : splitB q = if b then (sE, q, true) else (sE, sE, false) := by
  unfold splitB; rw [h]; subst hb; rfl
theorem splitB_some {q : ByteArray} {k : Nat} (h : cIx q = some k) {b c : Bool} (hb : nameB (q.extract 0 k).data.toList = b) (hc : nameB (q.extract (k + 1) q.size).data.toList = c) :
    splitB q = if b && c then (q.extract 0 k, q.extract (k + 1) q.size, true) else (sE, sE, false) := by
  unfold splitB; rw [h]; subst hb; subst hc; rfl
theorem splitB_half {q : ByteArray} {k : Nat} (h : cIx q = some k) (hb : nameB (q.extract 0 k).data.toList = false) : splitB q = (sE, sE, false) := by
  rw [splitB_some h hb rfl]; rfl
def resB (l : List Pr) (q : ByteArray) (attr : Bool) : Pr × Int :=
  if !(splitB q).2.2 then ((sE, sE), 12)
  else if attr && eqT (splitB q).1 sE then ((sE, (splitB q).2.1), 0)
  else if !(findB l (splitB q).1).2 || eqT (splitB q).1 sXmlns then ((sE, sE), 13)
  else (((findB l (splitB q).1).1, (splitB q).2.1), 0)
theorem resB_bad {l : List Pr} {q p lo : ByteArray} (attr : Bool) (h : splitB q = (p, lo, false)) : resB l q attr = ((sE, sE), 12) := by
  unfold resB; rw [h]; rfl
theorem resB_bare {l : List Pr} {q p lo : ByteArray} (h : splitB q = (p, lo, true)) (h1 : eqT p sE = true) : resB l q true = ((sE, lo), 0) := by
  unfold resB; rw [h]; simp only [h1]; rfl
theorem resB_full {l : List Pr} {q p lo s : ByteArray} {fo b1 attr : Bool} (h : splitB q = (p, lo, true)) (h1 : (attr && eqT p sE) = false) (hf : findB l p = (s, fo)) (hb : eqT p sXmlns = b1) :
    resB l q attr = if !fo || b1 then ((sE, sE), 13) else ((s, lo), 0) := by
  unfold resB; rw [h]; simp only [h1, hf, hb]; rfl
theorem res_end {n1 n2 a b : ByteArray} {er c : Int} {r : Pr × Int} (h : r = ((n1, n2), er)) (h' : r = ((a, b), c)) : n1 = a ∧ n2 = b ∧ er = c := by
  rw [h] at h'; simp only [Prod.mk.injEq] at h'; exact ⟨h'.1.1, h'.1.2, h'.2⟩
theorem lastB_mem : ∀ {l : List Pr} {p s : ByteArray}, lastB l p = some s → ∃ x ∈ l, x.2 = s
  | [], _, _, h => by simp [lastB] at h
  | x :: l, p, s, h => by
    unfold lastB at h
    cases hl : lastB l p with
    | some t =>
      rw [hl] at h
      simp only [Option.some.injEq] at h
      subst h
      obtain ⟨y, hy, e⟩ := lastB_mem hl
      exact ⟨y, by simp [hy], e⟩
    | none =>
      rw [hl] at h
      cases hx : eqT x.1 p
      · rw [hx] at h; simp at h
      · rw [hx] at h
        simp only [if_true, Option.some.injEq] at h
        exact ⟨x, by simp, h⟩
theorem findB_size {l : List Pr} {p : ByteArray} {M : Nat} (hM : 64 ≤ M) (h : ∀ x ∈ l, x.2.size ≤ M) : (findB l p).1.size ≤ M := by
  unfold findB
  split
  · have : sXML.size = 36 := by decide
    simp only; omega
  · split
    · rename_i s hs
      obtain ⟨x, hx, e⟩ := lastB_mem hs
      rw [← e]; exact h x hx
    · have : sE.size = 0 := by decide
      simp only; omega
theorem splitB_size (q : ByteArray) : (splitB q).1.size ≤ q.size ∧ (splitB q).2.1.size ≤ q.size := by
  have h0 : sE.size = 0 := by decide
  unfold splitB
  split
  · split
    · simp only; omega
    · simp only; omega
  · split
    · simp only [ByteArray.size_extract]; omega
    · simp only; omega
end Wb
