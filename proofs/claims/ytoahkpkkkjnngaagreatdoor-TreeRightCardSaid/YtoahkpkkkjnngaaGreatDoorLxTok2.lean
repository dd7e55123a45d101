
/- A document's tokens as a plain function; what is put in ahead of a tag changes none of them. No program in sight. -/
import Derived.Test.YtoahkpkkkjnngaaGreatDoorLxTok
namespace Wb

theorem takeWhile_le (p : UInt8 → Bool) (l : List UInt8) : (l.takeWhile p).length ≤ l.length := (List.takeWhile_sublist _).length_le
theorem text_some {l : List UInt8} {n : Nat} {a : Option Tk} (h : textR l = some (n, a)) :
    n = (l.takeWhile (· != 60)).length ∧ 1 ≤ n ∧ ∃ x, a = some (4, [], [], x) := by
  unfold textR at h
  simp only at h
  split at h
  · cases h
  · rename_i hne
    split at h
    · cases h
    · split at h
      · cases h
      · rename_i x hx
        simp only [Option.some.injEq, Prod.mk.injEq] at h
        obtain ⟨rfl, rfl⟩ := h
        refine ⟨rfl, ?_, x, rfl⟩
        cases hh : l.takeWhile (· != 60) with
        | nil => rw [hh] at hne; simp at hne
        | cons c r => simp
theorem text_loc : Loc 1 textR := by
  intro l n a h
  obtain ⟨hn, hn1, x, rfl⟩ := text_some h
  have hle := takeWhile_le (· != 60) l
  refine ⟨by omega, fun l' ht => ?_⟩
  by_cases hl : (l.takeWhile (· != 60)).length < l.length
  · rw [hn] at ht
    obtain ⟨h1, _⟩ := span_take (· != 60) l l' hl ht
    rw [← h]
    unfold textR
    rw [h1]
  · have hnl : n = l.length := by omega
    have e : l' = l := by
      rw [hnl, List.take_of_length_le (l := l) (by omega)] at ht
      have hlen := congrArg List.length ht
      simp only [List.length_take] at hlen
      rw [List.take_of_length_le (by omega)] at ht
      exact ht
    rw [e, h]

theorem piece_takes {l : List UInt8} {n : Nat} {a : Option Tk} (h : pieceR l = some (n, a)) : 1 ≤ n := by
  unfold pieceR at h
  split at h
  · exact mark_takes _ _ _ h
  · exact (text_some h).2.1
theorem piece_loc : Loc 1 pieceR := by
  intro l n a h
  have hn := piece_takes h
  unfold pieceR at h
  split at h
  · rename_i hc
    obtain ⟨h1, h2⟩ := mark_loc.mono (Nat.zero_le 1) l n a h
    refine ⟨h1, fun l' hl => ?_⟩
    unfold pieceR
    rw [take_le hl (show 1 ≤ n + 1 from by omega), if_pos hc]
    exact h2 l' hl
  · rename_i hc
    obtain ⟨h1, h2⟩ := text_loc l n a h
    refine ⟨h1, fun l' hl => ?_⟩
    unfold pieceR
    rw [take_le hl (show 1 ≤ n + 1 from by omega), if_neg hc]
    exact h2 l' hl
/-- A piece that is a tag's token begins with <. -/
theorem piece_tag {l : List UInt8} {n : Nat} {k : Int} {nm x : List UInt8} {at_ : List (List UInt8 × List UInt8)} (h : pieceR l = some (n, some (k, nm, at_, x))) (hk : k ≠ 4) : l.take 1 = [60] := by
  unfold pieceR at h
  split at h
  · assumption
  · obtain ⟨_, _, y, hy⟩ := text_some h
    simp only [Option.some.injEq, Prod.mk.injEq] at hy
    exact absurd hy.1 hk

def consT (at_ : Nat) (t : Option Tk) (ts : List (Nat × Tk)) : List (Nat × Tk) :=
  match t with
  | none => ts
  | some t => (at_, t) :: ts

/-- The tokens with their places, from a place on. -/
def tokL : Nat → List UInt8 → Nat → Option (List (Nat × Tk))
  | 0, l, _ => if l.isEmpty then some [] else none
  | f + 1, l, at_ =>
    if l.isEmpty then some []
    else match pieceR l with
      | none => none
      | some (n, t) => match tokL f (l.drop n) (at_ + n) with
        | none => none
        | some ts => some (consT at_ t ts)

theorem tokL_nil (f at_ : Nat) : tokL f [] at_ = some [] := by cases f <;> rfl
theorem tokL_step {f at_ n : Nat} {l : List UInt8} {t : Option Tk} {ts : List (Nat × Tk)} (hp : pieceR l = some (n, t)) (hr : tokL f (l.drop n) (at_ + n) = some ts) :
    tokL (f + 1) l at_ = some (consT at_ t ts) := by
  have hne : l.isEmpty = false := by
    cases l with
    | nil =>
      have h1 := piece_takes hp
      obtain ⟨h2, _⟩ := piece_loc _ _ _ hp
      simp at h2
      omega
    | cons c l => rfl
  unfold tokL
  rw [hne, hp]
  simp only [hr]
  rfl
theorem tokL_some {f at_ : Nat} {l : List UInt8} {ts : List (Nat × Tk)} (h : tokL f l at_ = some ts) :
    (l = [] ∧ ts = []) ∨ ∃ f' n t us, f = f' + 1 ∧ pieceR l = some (n, t) ∧ tokL f' (l.drop n) (at_ + n) = some us ∧ ts = consT at_ t us := by
  cases l with
  | nil =>
    rw [tokL_nil] at h
    simp only [Option.some.injEq] at h
    exact .inl ⟨rfl, h.symm⟩
  | cons c l =>
    right
    cases f with
    | zero => simp [tokL] at h
    | succ f =>
      unfold tokL at h
      rw [show (c :: l).isEmpty = false from rfl] at h
      simp only [Bool.false_eq_true, if_false] at h
      cases hp : pieceR (c :: l) with
      | none => rw [hp] at h; cases h
      | some p =>
        obtain ⟨n, t⟩ := p
        rw [hp] at h
        simp only at h
        cases hr : tokL f ((c :: l).drop n) (at_ + n) with
        | none => rw [hr] at h; cases h
        | some us =>
          rw [hr] at h
          simp only [Option.some.injEq] at h
          exact ⟨f, n, t, us, rfl, rfl, hr, h.symm⟩

/-- Tokens come with rising places, each within the text. -/
theorem tokL_rise : ∀ (f : Nat) (l : List UInt8) (at_ : Nat) (ts : List (Nat × Tk)), tokL f l at_ = some ts → (∀ x ∈ ts, at_ ≤ x.1 ∧ x.1 < at_ + l.length) ∧ (ts.map (·.1)).Pairwise (· < ·) := by
  intro f
  induction f with
  | zero =>
    intro l at_ ts h
    rcases tokL_some h with ⟨_, rfl⟩ | ⟨f', _, _, _, h0, _⟩
    · simp
    · omega
  | succ f ih =>
    intro l at_ ts h
    rcases tokL_some h with ⟨_, rfl⟩ | ⟨f', n, t, us, h0, hp, hr, rfl⟩
    · simp
    · obtain rfl : f' = f := by omega
      have hn := piece_takes hp
      obtain ⟨hnl, _⟩ := piece_loc _ _ _ hp
      obtain ⟨h1, h2⟩ := ih _ _ _ hr
      simp only [List.length_drop] at h1
      cases t with
      | none =>
        refine ⟨fun x hx => ?_, h2⟩
        have := h1 x hx
        omega
      | some t =>
        refine ⟨fun x hx => ?_, ?_⟩
        · rcases List.mem_cons.1 hx with rfl | hx
          · simp only; omega
          · have := h1 x hx
            omega
        · show List.Pairwise (fun x1 x2 => x1 < x2) (at_ :: us.map (·.1))
          rw [List.pairwise_cons]
          refine ⟨fun y hy => ?_, h2⟩
          obtain ⟨x, hx, rfl⟩ := List.mem_map.1 hy
          have := h1 x hx
          omega

/-- The same from another place. -/
theorem tokL_shift : ∀ (f : Nat) (l : List UInt8) (a b : Nat) (ts : List (Nat × Tk)), tokL f l a = some ts → ∃ us, tokL f l b = some us ∧ us.map (·.2) = ts.map (·.2) := by
  intro f
  induction f with
  | zero =>
    intro l a b ts h
    rcases tokL_some h with ⟨rfl, rfl⟩ | ⟨f', _, _, _, h0, _⟩
    · exact ⟨[], tokL_nil _ _, rfl⟩
    · omega
  | succ f ih =>
    intro l a b ts h
    rcases tokL_some h with ⟨rfl, rfl⟩ | ⟨f', n, t, us, h0, hp, hr, rfl⟩
    · exact ⟨[], tokL_nil _ _, rfl⟩
    · obtain rfl : f' = f := by omega
      obtain ⟨vs, h1, h2⟩ := ih _ _ (b + n) _ hr
      refine ⟨_, tokL_step hp h1, ?_⟩
      cases t with
      | none => exact h2
      | some t => simp [consT, h2]

/-- More fuel does no harm. -/
theorem tokL_more : ∀ (f : Nat) (l : List UInt8) (a : Nat) (ts : List (Nat × Tk)), tokL f l a = some ts → ∀ g, f ≤ g → tokL g l a = some ts := by
  intro f
  induction f with
  | zero =>
    intro l a ts h g _
    rcases tokL_some h with ⟨rfl, rfl⟩ | ⟨f', _, _, _, h0, _⟩
    · exact tokL_nil _ _
    · omega
  | succ f ih =>
    intro l a ts h g hg
    rcases tokL_some h with ⟨rfl, rfl⟩ | ⟨f', n, t, us, h0, hp, hr, rfl⟩
    · exact tokL_nil _ _
    · obtain rfl : f' = f := by omega
      obtain ⟨g, rfl⟩ : ∃ g', g = g' + 1 := ⟨g - 1, by omega⟩
      exact tokL_step hp (ih _ _ _ hr g (by omega))

/-- What is put in ahead of a tag, if it is a piece without a token, changes no token but its place. -/
theorem tokL_put (X : List UInt8) (hX : X.take 1 = [60]) (hXp : ∀ B, pieceR (X ++ B) = some (X.length, none)) : ∀ (f : Nat) (P B : List UInt8) (a : Nat) (ts : List (Nat × Tk)) (t : Tk),
    tokL f (P ++ B) a = some ts → (a + P.length, t) ∈ ts → t.1 ≠ 4 → ∃ us, tokL (f + 1) (P ++ (X ++ B)) a = some us ∧ us.map (·.2) = ts.map (·.2) := by
  intro f
  induction f with
  | zero =>
    intro P B a ts t h hm _
    rcases tokL_some h with ⟨_, rfl⟩ | ⟨f', _, _, _, h0, _⟩
    · simp at hm
    · omega
  | succ f ih =>
    intro P B a ts t h hm hk
    rcases tokL_some h with ⟨_, rfl⟩ | ⟨f', n, o, us, h0, hp, hr, hts⟩
    · simp at hm
    · obtain rfl : f' = f := by omega
      by_cases hP : P = []
      · subst hP
        rw [List.nil_append] at h hp hr
        rw [List.nil_append]
        obtain ⟨vs, h1, h2⟩ := tokL_shift _ _ a (a + X.length) _ h
        exact ⟨vs, tokL_step (t := none) (hXp B) (by rw [List.drop_left]; exact h1), h2⟩
      · -- the piece ends no later than the tag begins
        have hn := piece_takes hp
        obtain ⟨hnl, hloc⟩ := piece_loc _ _ _ hp
        have hPl : 0 < P.length := List.length_pos_iff.2 hP
        have hmus : (a + P.length, t) ∈ us := by
          cases o with
          | none => rw [hts] at hm; exact hm
          | some x =>
            rw [hts] at hm
            rcases List.mem_cons.1 hm with h3 | h3
            · simp only [Prod.mk.injEq] at h3
              omega
            · exact h3
        have hnP : n ≤ P.length := by
          have := ((tokL_rise _ _ _ _ hr).1 _ hmus).1
          simp only at this
          omega
        -- the tag's < stands at B's head
        have hB : n = P.length → B.take 1 = [60] := by
          intro e
          rw [e, List.drop_left] at hr
          rcases tokL_some hr with ⟨_, rfl⟩ | ⟨f2, n2, o2, us2, _, hp2, hr2, hus2⟩
          · simp at hmus
          · cases o2 with
            | none =>
              rw [hus2] at hmus
              have := ((tokL_rise _ _ _ _ hr2).1 _ hmus).1
              have hn2 := piece_takes hp2
              simp only at this
              omega
            | some x =>
              rw [hus2] at hmus
              rcases List.mem_cons.1 hmus with h3 | h3
              · simp only [Prod.mk.injEq] at h3
                obtain ⟨k, nm, at_, tx⟩ := x
                rw [h3.2] at hk
                exact piece_tag hp2 hk
              · have := ((tokL_rise _ _ _ _ hr2).1 _ h3).1
                have hn2 := piece_takes hp2
                simp only at this
                omega
        have hp' : pieceR (P ++ (X ++ B)) = some (n, o) := by
          refine hloc _ ?_
          by_cases e : n = P.length
          · have h60 := hB e
            have h1 : (P ++ (X ++ B)).take (P.length + 1) = P ++ [60] := by
              rw [List.take_append]
              have : X ≠ [] := by rintro rfl; simp at hX
              cases X with
              | nil => exact absurd rfl this
              | cons c X =>
                simp at hX
                simp [hX, List.take_of_length_le]
            have h2 : (P ++ B).take (P.length + 1) = P ++ [60] := by
              rw [List.take_append]
              cases B with
              | nil => simp at h60
              | cons c B =>
                simp at h60
                simp [h60, List.take_of_length_le]
            rw [e, h1, h2]
          · rw [List.take_append_of_le_length (by omega), List.take_append_of_le_length (by omega)]
        have e1 : (P ++ B).drop n = P.drop n ++ B := by rw [List.drop_append_of_le_length hnP]
        have e2 : (P ++ (X ++ B)).drop n = P.drop n ++ (X ++ B) := by rw [List.drop_append_of_le_length hnP]
        rw [e1] at hr
        obtain ⟨vs, h1, h2⟩ := ih (P.drop n) B (a + n) us t hr (by rw [List.length_drop, show a + n + (P.length - n) = a + P.length from by omega]; exact hmus) hk
        refine ⟨_, tokL_step hp' (by rw [e2]; exact h1), ?_⟩
        rw [hts]
        cases o with
        | none => exact h2
        | some x => simp [consT, h2]
end Wb
