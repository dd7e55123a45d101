/- LeFit. -/
import Derived.Test.YtlcjepnaljfpkaaGreatDoorQp25
namespace Wb
def Bad {α : Type} (e : Er α) (len : Nat) : Prop := ∃ p c, e = .error (p, c) ∧ p ≤ len ∧ 0 < c
def Fits {α : Type} (e : Er (α × Nat)) (at_ len : Nat) (o : Option (Nat × α)) : Prop :=
  (∀ n a, o = some (n, a) → e = .ok (a, at_ + n)) ∧ (o = none → Bad e len)
theorem drop_nil_len {L : List UInt8} {k : Nat} (h : L.drop k = []) : L.length ≤ k := by
  have := congrArg List.length h; simp at this; omega
theorem drop_cons_len {L : List UInt8} {k : Nat} {c : UInt8} {r : List UInt8} (h : L.drop k = c :: r) : k < L.length := by
  have := congrArg List.length h; simp at this; omega
theorem drop_cons_next {L : List UInt8} {k : Nat} {c : UInt8} {r : List UInt8} (h : L.drop k = c :: r) : L.drop (k + 1) = r := by
  rw [← List.drop_drop, h]; rfl
theorem drop_plus (L : List UInt8) (k n : Nat) : L.drop (k + n) = (L.drop k).drop n := by rw [List.drop_drop]
theorem unL_bad_at (attr : Bool) : ∀ (f : Nat) (l : List UInt8) (k p : Nat), unL attr f l k = .error p → p < k + l.length := by
  intro f
  induction f with
  | zero => intro l k p h; simp [unL] at h
  | succ f ih =>
    intro l k p h
    cases l with
    | nil => simp [unL] at h
    | cons c l =>
      have mapE : ∀ (o : Except Nat (List UInt8)) (g : List UInt8 → List UInt8), o.map g = .error p → o = .error p := by
        intro o g ho
        cases o with
        | error e => simpa [Except.map] using ho
        | ok b => simp [Except.map] at ho
      unfold unL at h
      split at h
      · cases hs : semi l with
        | none =>
          rw [hs] at h
          simp only [Except.error.injEq] at h
          simp only [List.length_cons]; omega
        | some q =>
          obtain ⟨t, r⟩ := q
          have h3 := congrArg List.length (semi_drop hs)
          simp only [List.length_append, List.length_cons] at h3
          rw [hs] at h
          simp only at h
          cases hv : refV t with
          | none =>
            rw [hv] at h
            simp only [Except.error.injEq] at h
            simp; omega
          | some x =>
            rw [hv] at h
            have := ih _ _ _ (mapE _ _ h)
            simp; omega
      · split at h
        · split at h
          · rename_i h10
            have hl1 : 1 ≤ l.length := by
              have := congrArg List.length h10
              simp at this; omega
            have := ih _ _ _ (mapE _ _ h)
            simp at this ⊢; omega
          · have := ih _ _ _ (mapE _ _ h)
            simp at this ⊢; omega
        · have := ih _ _ _ (mapE _ _ h)
          simp at this ⊢; omega
theorem unL_okL (attr : Bool) (f : Nat) (l : List UInt8) (k : Nat) :
    (∃ x, unL attr f l k = .ok x ∧ okL (unL attr f l 0) = some x) ∨ (∃ p, unL attr f l k = .error p ∧ p < k + l.length ∧ okL (unL attr f l 0) = none) := by
  cases h : unL attr f l k with
  | ok x => exact .inl ⟨x, rfl, by rw [unL_place h 0]; rfl⟩
  | error p =>
    refine .inr ⟨p, rfl, unL_bad_at _ _ _ _ _ h, ?_⟩
    cases h0 : unL attr f l 0 with
    | ok x => rw [unL_place h0 k] at h; cases h
    | error q => rfl
theorem untilR_le {p l : List UInt8} {n : Nat} {v : List UInt8} (h : untilR p l = some (n, v)) : n ≤ l.length ∧ n = v.length + p.length := by
  induction l generalizing n v with
  | nil =>
    unfold untilR at h
    split at h
    · rename_i hp
      simp only [Option.some.injEq, Prod.mk.injEq] at h
      obtain ⟨rfl, rfl⟩ := h
      simp [hp]
    · cases h
  | cons c l ih =>
    unfold untilR at h
    split at h
    · rename_i hc
      simp only [Option.some.injEq, Prod.mk.injEq] at h
      obtain ⟨rfl, rfl⟩ := h
      have := congrArg List.length hc
      simp at this ⊢
      omega
    · cases hu : untilR p l with
      | none => rw [hu] at h; cases h
      | some q =>
        obtain ⟨m, b⟩ := q
        rw [hu] at h
        simp only [Option.some.injEq, Prod.mk.injEq] at h
        obtain ⟨rfl, rfl⟩ := h
        have := ih hu
        simp
        omega
theorem take_fit (L : List UInt8) (fr at_ : Nat) (c : UInt8) (hfr : fr ≤ L.length) :
    (litR [c] (L.drop at_) = some (1, ()) ∧ takeX L fr at_ c = .ok (at_ + 1)) ∨ (litR [c] (L.drop at_) = none ∧ Bad (takeX L fr at_ c) L.length) := by
  unfold takeX litR
  cases hl : L.drop at_ with
  | nil => exact .inr ⟨by simp, fr, 2, rfl, hfr, by omega⟩
  | cons d r =>
    by_cases hd : d = c
    · subst hd
      exact .inl ⟨by simp, by simp⟩
    · have := drop_cons_len hl
      exact .inr ⟨by simp [hd], at_, 4, by simp [hd], by omega, by omega⟩
theorem Bad.mk {α : Type} {p c len : Nat} (hp : p ≤ len) (hc : 0 < c) : Bad (.error (p, c) : Er α) len := ⟨p, c, rfl, hp, hc⟩
theorem Fits.bad {α : Type} {e : Er (α × Nat)} {at_ len : Nat} {o : Option (Nat × α)} (ho : o = none) (h : Bad e len) : Fits e at_ len o :=
  ⟨fun n a h' => (by rw [ho] at h'; cases h'), fun _ => h⟩
theorem Fits.ok {α : Type} {e : Er (α × Nat)} {at_ len n : Nat} {a : α} {o : Option (Nat × α)} (ho : o = some (n, a)) (h : e = .ok (a, at_ + n)) : Fits e at_ len o :=
  ⟨fun n' a' h' => by
    rw [ho] at h'
    simp only [Option.some.injEq, Prod.mk.injEq] at h'
    obtain ⟨rfl, rfl⟩ := h'
    exact h, fun h' => by rw [ho] at h'; cases h'⟩
theorem Fits.split {α : Type} {e : Er (α × Nat)} {at_ len : Nat} {o : Option (Nat × α)} (h : Fits e at_ len o) :
    (∃ n a, o = some (n, a) ∧ e = .ok (a, at_ + n)) ∨ (o = none ∧ Bad e len) := by
  cases ho : o with
  | none => exact .inr ⟨rfl, h.2 ho⟩
  | some p => exact .inl ⟨p.1, p.2, rfl, h.1 _ _ ho⟩
theorem value_fit (L : List UInt8) (fr at_ : Nat) (hfr : fr ≤ L.length) : Fits (valueX L fr at_) at_ L.length (valueR (L.drop at_)) := by
  cases hl : L.drop at_ with
  | nil => exact Fits.bad (by rfl) (by unfold valueX; rw [hl]; exact Bad.mk hfr (by omega))
  | cons q r =>
    have hat := drop_cons_len hl
    have hr : r.length + at_ + 1 = L.length := by have := congrArg List.length hl; simp at this; omega
    by_cases hq : q = 34 ∨ q = 39
    · have hqb : (q == 34 || q == 39) = true := by simpa using hq
      cases hu : untilR [q] r with
      | none =>
        refine Fits.bad ?_ ?_
        · unfold valueR bindR byteR guardR mapR
          simp only [List.drop_succ_cons, List.drop_zero, hqb, if_true, hu]
        · unfold valueX
          rw [hl]
          simp only [if_pos hq, hu]
          exact Bad.mk hfr (by omega)
      | some p =>
        obtain ⟨n, v⟩ := p
        obtain ⟨hn, hnv⟩ := untilR_le hu
        simp only [List.length_cons, List.length_nil] at hnv
        have e1 : valueX L fr at_ = match v.findIdx? (· == 60) with
          | some k => .error (at_ + 1 + k, 11)
          | none => match unL true (v.length + 1) v (at_ + 1) with
            | .error p => .error (p, 16)
            | .ok x => .ok (x, at_ + 1 + n) := by
          unfold valueX
          rw [hl]
          simp only [if_pos hq, hu]
          rfl
        have e2 : valueR (q :: r) = match (if v.any (· == 60) then none else okL (unL true (v.length + 1) v 0)) with
          | none => none
          | some b => some (1 + n, b) := by
          unfold valueR bindR byteR guardR mapR
          simp only [List.drop_succ_cons, List.drop_zero, hqb, if_true, hu]
          cases (if v.any (· == 60) = true then none else okL (unL true (v.length + 1) v 0)) <;> rfl
        cases hf : v.findIdx? (· == 60) with
        | some k =>
          have hk : k < v.length := by
            have := List.findIdx?_eq_some_iff_findIdx_eq.1 hf
            exact this.1
          have hany : v.any (· == 60) = true := by
            rw [← List.findIdx?_isSome, hf]; rfl
          refine Fits.bad ?_ ?_
          · rw [e2, if_pos hany]
          · rw [e1, hf]
            exact Bad.mk (by omega) (by omega)
        | none =>
          have hany : v.any (· == 60) = false := by
            rw [← List.findIdx?_isSome, hf]; rfl
          rcases unL_okL true (v.length + 1) v (at_ + 1) with ⟨x, h1, h2⟩ | ⟨p, h1, h2, h3⟩
          · refine Fits.ok (n := 1 + n) (a := x) ?_ ?_
            · rw [e2, hany, h2]; rfl
            · rw [e1, hf, h1]
              simp only
              rw [Nat.add_assoc]
          · refine Fits.bad ?_ ?_
            · rw [e2, hany, h3]; rfl
            · rw [e1, hf, h1]
              exact Bad.mk (by omega) (by omega)
    · have hqb : (q == 34 || q == 39) = false := by simpa using hq
      refine Fits.bad ?_ ?_
      · unfold valueR bindR byteR guardR
        simp only [List.drop_succ_cons, List.drop_zero, hqb]
        rfl
      · unfold valueX
        rw [hl]
        simp only [if_neg hq]
        exact Bad.mk (by omega) (by omega)
theorem tw_le (p : UInt8 → Bool) (l : List UInt8) : (l.takeWhile p).length ≤ l.length := (List.takeWhile_sublist _).length_le
theorem span_yes {p : UInt8 → Bool} {l : List UInt8} (h : (l.takeWhile p).length < l.length) : spanR p l = some ((l.takeWhile p).length, l.takeWhile p) := by unfold spanR; rw [if_pos h]
theorem span_no {p : UInt8 → Bool} {l : List UInt8} (h : ¬ (l.takeWhile p).length < l.length) : spanR p l = none := by unfold spanR; rw [if_neg h]
theorem bindR_yes {α β : Type} {f : Rd α} {g : α → Rd β} {l : List UInt8} {n : Nat} {a : α} (h : f l = some (n, a)) :
    bindR f g l = match g a (l.drop n) with | none => none | some (m, b) => some (n + m, b) := by unfold bindR; rw [h]; rfl
theorem bindR_no {α β : Type} {f : Rd α} {g : α → Rd β} {l : List UInt8} (h : f l = none) : bindR f g l = none := by unfold bindR; rw [h]
theorem mapR_yes {α β : Type} {f : Rd α} {g : α → Option β} {l : List UInt8} {n : Nat} {a : α} (h : f l = some (n, a)) :
    mapR f g l = match g a with | none => none | some b => some (n, b) := by unfold mapR; rw [h]; rfl
theorem mapR_no {α β : Type} {f : Rd α} {g : α → Option β} {l : List UInt8} (h : f l = none) : mapR f g l = none := by unfold mapR; rw [h]
theorem guardR_yes {α : Type} {f : Rd α} {c : Bool} (h : c = true) : guardR c f = f := by subst h; funext l; rfl
theorem guardR_no {α : Type} {f : Rd α} {c : Bool} (h : c = false) (l : List UInt8) : guardR c f l = none := by subst h; rfl
theorem blank_span (L : List UInt8) (at_ : Nat) :
    (at_ + blankN L at_ < L.length ∧ spanR blkB (L.drop at_) = some (blankN L at_, (L.drop at_).takeWhile blkB)) ∨ (L.drop (at_ + blankN L at_) = [] ∧ spanR blkB (L.drop at_) = none) := by
  unfold blankN
  by_cases h : ((L.drop at_).takeWhile blkB).length < (L.drop at_).length
  · refine .inl ⟨?_, span_yes h⟩
    simp at h; omega
  · refine .inr ⟨?_, span_no h⟩
    rw [drop_plus]
    exact List.drop_eq_nil_of_le (by omega)
end Wb
