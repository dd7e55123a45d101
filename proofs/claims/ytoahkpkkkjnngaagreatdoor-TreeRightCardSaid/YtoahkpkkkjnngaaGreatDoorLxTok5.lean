
/- What a token looks like, and what stands at its place. No program in sight. -/
import Derived.Test.YtoahkpkkkjnngaaGreatDoorLxTok4
namespace Wb

/-- Kinds are 1 to 4; a text has neither name nor attributes, an end tag no attributes; at a tag's place stands a <, but no <![. -/
def TkForm (l : List UInt8) (t : Tk) : Prop :=
  1 ≤ t.1 ∧ t.1 ≤ 4 ∧ (t.1 = 4 → t.2.1 = [] ∧ t.2.2.1 = []) ∧ (t.1 = 2 → t.2.2.1 = []) ∧ (t.1 ≠ 4 ↔ (l.take 1 = [60] ∧ ¬ l.take 3 = [60, 33, 91]))

theorem TkForm.text {l x : List UInt8} (h : ¬ (l.take 1 = [60] ∧ ¬ l.take 3 = [60, 33, 91])) : TkForm l (4, [], [], x) := by
  refine ⟨?_, ?_, fun _ => ⟨rfl, rfl⟩, fun _ => rfl, ⟨fun h4 => absurd rfl h4, fun h4 => absurd h4 h⟩⟩
  · show (1 : Int) ≤ 4; omega
  · show (4 : Int) ≤ 4; omega
theorem TkForm.tag {l nm x : List UInt8} {at_ : List (List UInt8 × List UInt8)} {k : Int} (hk : k = 1 ∨ k = 2 ∨ k = 3) (h2 : k = 2 → at_ = []) (h1 : l.take 1 = [60]) (h3 : ¬ l.take 3 = [60, 33, 91]) : TkForm l (k, nm, at_, x) := by
  refine ⟨?_, ?_, fun h => ?_, h2, ⟨fun _ => ⟨h1, h3⟩, fun _ => ?_⟩⟩
  · show (1 : Int) ≤ k; omega
  · show k ≤ 4; omega
  · replace h : k = 4 := h
    omega
  · show k ≠ 4; omega

theorem attrs_kind : ∀ (f : Nat) (acc : List (List UInt8 × List UInt8)) (l : List UInt8) (n : Nat) (k : Int) (r : List (List UInt8 × List UInt8)), attrsR f acc l = some (n, (k, r)) → k = 1 ∨ k = 3
  | 0, _, _, _, _, _, h => by cases h
  | f + 1, acc, l, n, k, r, h => by
    unfold attrsR at h
    obtain ⟨n1, bs, m1, _, h2, rfl⟩ := bindR_some h
    obtain ⟨n2, c, m2, _, h4, rfl⟩ := bindR_some h2
    split at h4
    · simp only [pureR, Option.some.injEq, Prod.mk.injEq] at h4
      exact .inl h4.2.1.symm
    · split at h4
      · obtain ⟨_, _, h5⟩ := mapR_some h4
        simp only [Option.some.injEq, Prod.mk.injEq] at h5
        exact .inr h5.1.symm
      · unfold guardR at h4
        split at h4
        · obtain ⟨n3, a, m3, _, h6, rfl⟩ := bindR_some h4
          exact attrs_kind f _ _ _ _ _ h6
        · cases h4

theorem mark_form {l : List UInt8} {n : Nat} {t : Tk} (h : markR l = some (n, some t)) : TkForm l t := by
  unfold markR at h
  obtain ⟨n1, _, m1, h1, h2, rfl⟩ := bindR_some h
  obtain ⟨n2, c, m2, h3, h4, rfl⟩ := bindR_some h2
  obtain ⟨r, rfl⟩ : ∃ r, l = 60 :: r := by
    unfold litR at h1
    split at h1
    · rename_i hc
      cases l with
      | nil => cases hc
      | cons d r => simp at hc; exact ⟨r, by rw [hc]⟩
    · cases h1
  have hn1 : n1 = 1 := by
    unfold litR at h1
    split at h1
    · simp only [Option.some.injEq, Prod.mk.injEq] at h1
      exact h1.1.symm
    · cases h1
  subst hn1
  obtain ⟨r, rfl⟩ : ∃ r', r = c :: r' := by
    cases r with
    | nil => cases h3
    | cons d r' =>
      simp [byteR] at h3
      exact ⟨r', by rw [h3.2]⟩
  have hn2 : n2 = 1 := by
    simp [byteR] at h3
    exact h3.symm
  subst hn2
  simp only [List.drop_succ_cons, List.drop_zero] at h4
  split at h4
  · -- an instruction has no token
    unfold piR at h4
    obtain ⟨_, _, _, _, h6, _⟩ := bindR_some h4
    unfold guardR at h6
    split at h6
    · obtain ⟨_, _, h7⟩ := mapR_some h6
      simp at h7
    · cases h6
  · split at h4
    · rename_i h33
      subst h33
      unfold bangR at h4
      obtain ⟨n3, d, m3, h5, h6, _⟩ := bindR_some h4
      split at h6
      · obtain ⟨_, _, _, _, h8, _⟩ := bindR_some h6
        obtain ⟨_, _, _, _, h10, _⟩ := bindR_some h8
        obtain ⟨_, _, h11⟩ := mapR_some h10
        simp at h11
      · unfold guardR at h6
        split at h6
        · rename_i h91
          obtain ⟨_, _, _, _, h8, _⟩ := bindR_some h6
          obtain ⟨_, _, h9⟩ := mapR_some h8
          simp only [Option.some.injEq] at h9
          subst h9
          have hd : d = 91 := by simpa using h91
          subst hd
          obtain ⟨r', rfl⟩ : ∃ r', r = 91 :: r' := by
            cases r with
            | nil => cases h5
            | cons e r' => simp [byteR] at h5; exact ⟨r', by rw [h5.2]⟩
          exact TkForm.text (by simp)
        · cases h6
    · rename_i h63 h33
      have h3t : ¬ (60 :: c :: r).take 3 = [60, 33, 91] := by
        intro e
        simp at e
        exact h33 e.1
      split at h4
      · unfold endR at h4
        obtain ⟨_, w, _, _, h6, _⟩ := bindR_some h4
        unfold guardR at h6
        split at h6
        · obtain ⟨_, _, _, _, h8, _⟩ := bindR_some h6
          obtain ⟨_, _, h9⟩ := mapR_some h8
          simp only [Option.some.injEq] at h9
          subst h9
          exact TkForm.tag (.inr (.inl rfl)) (fun _ => rfl) rfl h3t
        · cases h6
      · unfold guardR at h4
        split at h4
        · unfold startR at h4
          obtain ⟨_, w, _, _, h6, _⟩ := bindR_some h4
          unfold guardR at h6
          split at h6
          · obtain ⟨⟨k, at_⟩, h7, h8⟩ := mapR_some h6
            simp only [Option.some.injEq] at h8
            subst h8
            rcases attrs_kind _ _ _ _ _ _ h7 with rfl | rfl
            · exact TkForm.tag (.inl rfl) (fun h => absurd h (by decide)) rfl h3t
            · exact TkForm.tag (.inr (.inr rfl)) (fun h => absurd h (by decide)) rfl h3t
          · cases h6
        · cases h4
theorem piece_form {l : List UInt8} {n : Nat} {t : Tk} (h : pieceR l = some (n, some t)) : TkForm l t := by
  unfold pieceR at h
  split at h
  · exact mark_form h
  · rename_i hc
    obtain ⟨_, _, x, hx⟩ := text_some h
    simp only [Option.some.injEq] at hx
    subst hx
    exact TkForm.text (fun h => hc h.1)

theorem tokL_form : ∀ (f : Nat) (l : List UInt8) (a : Nat) (ts : List (Nat × Tk)) (k : Nat) (t : Tk), tokL f l a = some ts → (a + k, t) ∈ ts → TkForm (l.drop k) t := by
  intro f
  induction f with
  | zero =>
    intro l a ts k t h hm
    rcases tokL_some h with ⟨_, rfl⟩ | ⟨f', _, _, _, h0, _⟩
    · simp at hm
    · omega
  | succ f ih =>
    intro l a ts k t h hm
    rcases tokL_some h with ⟨_, rfl⟩ | ⟨f', n, o, us, h0, hp, hr, hts⟩
    · simp at hm
    · obtain rfl : f' = f := by omega
      have later : (a + k, t) ∈ us → TkForm (l.drop k) t := by
        intro hmu
        have h1 := ((tokL_rise _ _ _ _ hr).1 _ hmu).1
        simp only at h1
        have := ih (l.drop n) (a + n) us (k - n) t hr (by rw [show a + n + (k - n) = a + k from by omega]; exact hmu)
        rw [List.drop_drop, show n + (k - n) = k from by omega] at this
        exact this
      cases o with
      | none => rw [hts] at hm; exact later hm
      | some x =>
        rw [hts] at hm
        rcases List.mem_cons.1 hm with h3 | h3
        · simp only [Prod.mk.injEq] at h3
          obtain rfl : k = 0 := by omega
          rw [List.drop_zero, h3.2]
          exact piece_form hp
        · exact later h3

/-- A document's tokens: rising places within it, each of its form. -/
theorem doc_form {s : List UInt8} {ts : List (Nat × Tk)} (h : DocIs s ts) : (∀ x ∈ ts, x.1 < s.length ∧ TkForm (s.drop x.1) x.2) ∧ (ts.map (·.1)).Pairwise (· < ·) := by
  obtain ⟨_, _, h3⟩ := h
  rcases h3 with ⟨_, n, hd, ht⟩ | ⟨_, ht⟩
  · obtain ⟨hnl, _⟩ := decl_loc _ _ _ hd
    obtain ⟨h1, h2⟩ := tokL_rise _ _ _ _ ht
    refine ⟨fun x hx => ?_, h2⟩
    have h4 := h1 x hx
    simp only [List.length_drop] at h4
    have h5 := tokL_form _ _ n ts (x.1 - n) x.2 ht (by rw [show n + (x.1 - n) = x.1 from by omega]; exact hx)
    rw [List.drop_drop, show n + (x.1 - n) = x.1 from by omega] at h5
    exact ⟨by omega, h5⟩
  · obtain ⟨h1, h2⟩ := tokL_rise _ _ _ _ ht
    refine ⟨fun x hx => ?_, h2⟩
    have h4 := h1 x hx
    have h5 := tokL_form _ _ 0 ts x.1 x.2 ht (by simpa using hx)
    exact ⟨by omega, h5⟩
end Wb
