
/- No text of a tree that is small enough is long. No program in sight. -/
import Derived.Test.YtobmjcompkkeaaaDoorMgS
namespace Wb
theorem attrs_mem {a : Tr} : ∀ {l : List Tr}, a ∈ l → attrS a ≤ attrsS l
  | x :: l, h => by
    have e : attrsS (x :: l) = attrS x + attrsS l := by simp [attrsS]
    rcases List.mem_cons.1 h with rfl | h
    · omega
    · have := attrs_mem h; omega
theorem few_sz (n : Nd) : ∀ m, m ≤ 1000000 → weighN n m ≤ m → szN n := by
  induction n using Nd.induct with
  | h n ih =>
    intro m hm h
    rw [weighN_is] at h
    have h3 := weighKs_ge n.kids m (weighAs m (headW m n) n.attrs)
    have h4 := attrs_few (m := m) n.attrs (headW m n) (by unfold headW; omega) (by omega)
    have h5 := (weighAs_le m n.attrs (headW m n)).1
    have h6 : 1 + n.text.size + n.name.1.size + n.name.2.size ≤ m := by
      have h5 : headW m n ≤ m := by omega
      unfold headW at h5
      omega
    have key : ∀ (ks : List Nd), (∀ k ∈ ks, ∀ m, m ≤ 1000000 → weighN k m ≤ m → szN k) → ∀ w, weighKs ks m w ≤ m → ∀ k ∈ ks, szN k := by
      intro ks
      induction ks with
      | nil => intro _ w _ k hk; cases hk
      | cons k ks ihk =>
        intro hk w h x hx
        unfold weighKs at h
        by_cases hw : w ≤ m
        · rw [if_pos hw] at h
          have h1 := weighKs_ge ks m (w + weighN k (m - w))
          rcases List.mem_cons.1 hx with rfl | hx
          · exact hk x (by simp) (m - w) (by omega) (by omega)
          · exact ihk (fun y hy => hk y (by simp [hy])) _ h x hx
        · rw [if_neg hw] at h
          omega
    have hks := key n.kids ih _ h
    have hat : ∀ a ∈ n.attrs, a.1.1.size ≤ 1000000 ∧ a.1.2.size ≤ 1000000 ∧ a.2.size ≤ 1000000 := fun a ha => by
      have h7 := attrs_mem ha
      have h8 : attrS a = a.1.1.size + a.1.2.size + a.2.size := rfl
      omega
    obtain ⟨k, nm, al, ks, t⟩ := n
    simp only [Nd.text, Nd.name, Nd.attrs, Nd.kids] at h6 hat hks
    unfold szN
    refine ⟨by omega, by omega, fun a ha => ?_, by omega, (szKs_iff ks).2 hks⟩
    have := hat a ha
    omega
end Wb
