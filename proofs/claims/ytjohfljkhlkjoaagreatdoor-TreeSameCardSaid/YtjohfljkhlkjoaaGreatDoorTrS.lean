import Derived.Test.YtjohfljkhlkjoaaGreatDoorMgP
namespace Wb
def cntA (x : Tr) (l : List Tr) : Nat := l.countP fun y => decide (y = x)
theorem cntA_cons (x y : Tr) (l : List Tr) : cntA x (y :: l) = cntA x l + if y = x then 1 else 0 := by
  unfold cntA
  rw [List.countP_cons]
  simp
theorem cntA_perm {a b : List Tr} (h : a.Perm b) (x : Tr) : cntA x a = cntA x b := h.countP_eq _
def permA (a b : List Tr) : Bool := decide (a.length = b.length) && b.all fun x => decide (cntA x b ≤ cntA x a)
theorem perm_of_le : ∀ (b a : List Tr), a.length = b.length → (∀ x ∈ b, cntA x b ≤ cntA x a) → a.Perm b
  | [], a, hl, _ => by
    have : a = [] := List.eq_nil_of_length_eq_zero (by simpa using hl)
    rw [this]
  | x :: b, a, hl, h => by
    have hx := h x (by simp)
    rw [cntA_cons, if_pos rfl] at hx
    have hm : x ∈ a := by
      have : 0 < cntA x a := by omega
      obtain ⟨y, hy, e⟩ := List.countP_pos_iff.1 this
      rw [← of_decide_eq_true e]; exact hy
    obtain ⟨s, t, rfl⟩ := List.append_of_mem hm
    have hp : (s ++ x :: t).Perm (x :: (s ++ t)) := List.perm_middle
    refine hp.trans (List.Perm.cons x (perm_of_le b (s ++ t) ?_ fun y hy => ?_))
    · have := hp.length_eq
      simp only [List.length_cons] at this hl
      omega
    · have h1 := h y (by simp [hy])
      rw [cntA_perm hp y, cntA_cons, cntA_cons] at h1
      omega
theorem permA_iff (a b : List Tr) : permA a b = true ↔ a.Perm b := by
  unfold permA
  rw [Bool.and_eq_true, decide_eq_true_eq, List.all_eq_true]
  constructor
  · rintro ⟨h1, h2⟩
    exact perm_of_le b a h1 (fun x hx => of_decide_eq_true (h2 x hx))
  · intro h
    exact ⟨h.length_eq, fun x _ => decide_eq_true (by rw [cntA_perm h x]; exact Nat.le_refl _)⟩
mutual
def sameN : Nd → Nd → Bool
  | .mk k n as ks t, b => decide (k = b.kind) && eqP n b.name && eqT t b.text && permA as b.attrs && sameKs ks b.kids
def sameKs : List Nd → List Nd → Bool
  | [], l => l.isEmpty
  | k :: ks, l => match l with
    | [] => false
    | j :: js => sameN k j && sameKs ks js
end
theorem sameN_is (a b : Nd) : sameN a b = (decide (a.kind = b.kind) && eqP a.name b.name && eqT a.text b.text && permA a.attrs b.attrs && sameKs a.kids b.kids) := by
  cases a; rfl
theorem sameKs_iff : ∀ (a b : List Nd), sameKs a b = true ↔ a.length = b.length ∧ ∀ (i : Nat) (x y : Nd), a[i]? = some x → b[i]? = some y → sameN x y = true
  | [], b => by
    unfold sameKs
    cases b <;> simp
  | k :: ks, [] => by
    unfold sameKs
    simp
  | k :: ks, j :: js => by
    unfold sameKs
    rw [Bool.and_eq_true, sameKs_iff ks js]
    constructor
    · rintro ⟨h1, h2, h3⟩
      refine ⟨by simp [h2], fun i x y hx hy => ?_⟩
      cases i with
      | zero =>
        simp only [List.getElem?_cons_zero, Option.some.injEq] at hx hy
        subst hx hy
        exact h1
      | succ i => exact h3 i x y (by simpa using hx) (by simpa using hy)
    · rintro ⟨h1, h2⟩
      exact ⟨h2 0 k j rfl rfl, by simpa using h1, fun i x y hx hy => h2 (i + 1) x y (by simpa using hx) (by simpa using hy)⟩
theorem sameN_iff (a b : Nd) : sameN a b = true ↔ a.kind = b.kind ∧ a.name = b.name ∧ a.text = b.text ∧ a.attrs.Perm b.attrs ∧ a.kids.length = b.kids.length ∧ ∀ (i : Nat) (x y : Nd), a.kids[i]? = some x → b.kids[i]? = some y → sameN x y = true := by
  rw [sameN_is]
  simp only [Bool.and_eq_true, decide_eq_true_eq]
  rw [eqP_iff, eqT_iff, permA_iff, sameKs_iff]
  constructor
  · rintro ⟨⟨⟨⟨h1, h2⟩, h3⟩, h4⟩, h5, h6⟩; exact ⟨h1, h2, h3, h4, h5, h6⟩
  · rintro ⟨h1, h2, h3, h4, h5, h6⟩; exact ⟨⟨⟨⟨h1, h2⟩, h3⟩, h4⟩, h5, h6⟩
theorem sameN_refl (a : Nd) : sameN a a = true := by
  induction a using Nd.induct with
  | h a ih =>
    rw [sameN_iff]
    refine ⟨rfl, rfl, rfl, List.Perm.refl _, rfl, fun i x y hx hy => ?_⟩
    rw [hx] at hy
    simp only [Option.some.injEq] at hy
    subst hy
    exact ih x (List.mem_of_getElem? hx)
theorem sameN_symm (a : Nd) : ∀ b, sameN a b = true → sameN b a = true := by
  induction a using Nd.induct with
  | h a ih =>
    intro b h
    rw [sameN_iff] at h ⊢
    obtain ⟨h1, h2, h3, h4, h5, h6⟩ := h
    exact ⟨h1.symm, h2.symm, h3.symm, h4.symm, h5.symm, fun i x y hx hy => ih y (List.mem_of_getElem? hy) x (h6 i y x hy hx)⟩
theorem sameN_trans (a : Nd) : ∀ b c, sameN a b = true → sameN b c = true → sameN a c = true := by
  induction a using Nd.induct with
  | h a ih =>
    intro b c h g
    rw [sameN_iff] at h g ⊢
    obtain ⟨h1, h2, h3, h4, h5, h6⟩ := h
    obtain ⟨g1, g2, g3, g4, g5, g6⟩ := g
    refine ⟨h1.trans g1, h2.trans g2, h3.trans g3, h4.trans g4, h5.trans g5, fun i x z hx hz => ?_⟩
    have hi := (List.getElem?_eq_some_iff.1 hx).1
    have hy : b.kids[i]? = some (b.kids[i]'(by omega)) := List.getElem?_eq_getElem (by omega)
    exact ih x (List.mem_of_getElem? hx) _ z (h6 i x _ hx hy) (g6 i _ z hy hz)
theorem sameN_comm (a b : Nd) : sameN a b = sameN b a := by
  rw [Bool.eq_iff_iff]
  exact ⟨sameN_symm a b, sameN_symm b a⟩
theorem sameN_turn (a : Nd) (l : List Tr) (h : a.attrs.Perm l) : sameN a (.mk a.kind a.name l a.kids a.text) = true := by
  rw [sameN_iff]
  refine ⟨rfl, rfl, rfl, h, rfl, fun i x y hx hy => ?_⟩
  have : some x = some y := hx.symm.trans hy
  simp only [Option.some.injEq] at this
  subst this
  exact sameN_refl x
end Wb
