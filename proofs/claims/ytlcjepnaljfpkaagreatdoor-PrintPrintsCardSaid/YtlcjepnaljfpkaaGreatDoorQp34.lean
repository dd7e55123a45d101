/- SoL. -/
import Derived.Test.YtlcjepnaljfpkaaGreatDoorQp20
import Derived.Test.YtlcjepnaljfpkaaGreatDoorQp24
import Derived.Test.YtlcjepnaljfpkaaGreatDoorQp33
namespace Wb
theorem attrT_len (name value : List UInt8) : (attrT name value).length ≤ name.length + 6 * value.length + 4 := by
  unfold attrT
  have := (escL_len true value).2
  simp only [List.length_cons, List.length_append, List.length_nil]
  omega
theorem numT_len (i : Nat) : (numT i).length ≤ 3 := by
  unfold numT digT
  split <;> simp
theorem declT_len (M : Nat) : ∀ (sp : List ByteArray) (i : Nat), (∀ s ∈ sp, s.size ≤ M) → (declT i sp).length ≤ sp.length * (6 * M + 13)
  | [], i, _ => by simp [declT]
  | s :: sp, i, h => by
    rw [declT, List.length_append, List.length_cons, Nat.add_mul]
    have h1 := attrT_len (sXmlnsK ++ numT i) s.data.toList
    have h2 := numT_len i
    have h3 : s.data.toList.length ≤ M := by have := h s (by simp); simpa using this
    have h4 := declT_len M sp (i + 1) (fun x hx => h x (by simp [hx]))
    have h5 : (sXmlnsK ++ numT i).length ≤ 9 := by rw [List.length_append]; have : sXmlnsK.length = 6 := rfl; omega
    omega
theorem preT_len (sp : List ByteArray) (s : ByteArray) : (preT sp s).length ≤ 4 := by
  unfold preT
  have := numT_len (idxB s sp)
  split
  · simp
  · split
    · decide
    · simp only [List.length_append, List.length_cons, List.length_nil]; omega
theorem eachT_len (M : Nat) (sp : List ByteArray) : ∀ (l : List Tr), (∀ a ∈ l, a.1.2.size ≤ M ∧ a.2.size ≤ M) → (eachT sp l).length ≤ l.length * (7 * M + 8)
  | [], _ => by simp [eachT]
  | a :: l, h => by
    rw [eachT, List.length_append, List.length_cons, Nat.add_mul]
    have h1 := attrT_len (preT sp a.1.1 ++ a.1.2.data.toList) a.2.data.toList
    have h2 := preT_len sp a.1.1
    obtain ⟨g1, g2⟩ := h a (by simp)
    have h3 : a.1.2.data.toList.length ≤ M := by simpa using g1
    have h4 : a.2.data.toList.length ≤ M := by simpa using g2
    have h5 := eachT_len M sp l (fun x hx => h x (by simp [hx]))
    rw [List.length_append] at h1
    omega
theorem tagT_len (n : Pr) : (tagT n).length ≤ n.2.size + 4 := by
  unfold tagT
  have : n.2.data.toList.length = n.2.size := by simp
  split
  · rw [List.length_append, this]
    have : sXmlK.length = 4 := rfl
    omega
  · omega
theorem nsT_len (n : Pr) (sp : ByteArray) : (nsT n sp).length ≤ 6 * n.1.size + 9 := by
  unfold nsT
  split
  · simp
  · rename_i h
    have e : ownT n sp = n.1 := by
      unfold ownT at h ⊢
      split
      · rename_i hx; rw [if_pos hx] at h; exact absurd rfl h
      · rfl
    rw [e]
    have h1 := attrT_len sXmlnsL n.1.data.toList
    have h2 : n.1.data.toList.length = n.1.size := by simp
    have h3 : sXmlnsL.length = 5 := rfl
    omega
theorem headT_len {n : Pr} {al : List Tr} {sp : ByteArray} (h1 : n.1.size ≤ 1000000000) (h3 : ∀ a ∈ al, a.1.1.size ≤ 1000000000 ∧ a.1.2.size ≤ 1000000000 ∧ a.2.size ≤ 1000000000) (h4 : al.length ≤ 32) :
    (nsT n sp).length + (attrsT al).length ≤ 480000000000 := by
  have a1 := nsT_len n sp
  unfold attrsT
  rw [List.length_append]
  have hm : ∀ a ∈ sortT al, a ∈ al := fun a h => (sortT_perm al).mem_iff.1 h
  have hl := sortT_len al
  have a2 := declT_len 1000000000 (spacesT (sortT al)) 0 (fun s hs => by
    obtain ⟨⟨a, ha, e⟩, _⟩ := (spcT_mem _ _).1 hs
    rw [← e]; exact (h3 a (hm a ha)).1)
  have a3 := eachT_len 1000000000 (spacesT (sortT al)) (sortT al) (fun a ha => (h3 a (hm a ha)).2)
  have a4 := spcT_len (sortT al)
  have a5 : (spacesT (sortT al)).length * (6 * 1000000000 + 13) ≤ 32 * (6 * 1000000000 + 13) := Nat.mul_le_mul_right _ (by omega)
  have a6 : (sortT al).length * (7 * 1000000000 + 8) ≤ 32 * (7 * 1000000000 + 8) := Nat.mul_le_mul_right _ (by omega)
  omega
theorem kidsT_len {M : Nat} : ∀ {ks : List Nd} {own : ByteArray}, (∀ k ∈ ks, ∀ sp, (nodeT k sp).length ≤ M * costN k) → (kidsT ks own).length ≤ M * costNs ks
  | [], _, _ => by simp [kidsT, costNs]
  | k :: ks, own, h => by
    rw [kidsT, List.length_append]
    simp only [costNs]
    have h1 := h k (by simp) own
    have h2 := kidsT_len (ks := ks) (own := own) (fun x hx => h x (by simp [hx]))
    rw [Nat.mul_add]
    omega
theorem okKs_mem {d : Nat} : ∀ {ks : List Nd} {a : Int}, okKs d a ks → ∀ k ∈ ks, okN d k
  | k :: ks, a, h, x, hx => by
    simp only [okKs] at h
    rcases List.mem_cons.1 hx with rfl | hx
    · exact h.2.1
    · exact okKs_mem h.2.2 x hx
theorem nodeT_len (n : Nd) : ∀ d sp, okN d n → szN n → (nodeT n sp).length ≤ 1000000000000 * costN n := by
  induction n using Nd.induct with
  | h n ih =>
    intro d sp hok hsz
    obtain ⟨kd, nm, al, ks, t⟩ := n
    simp only [Nd.kids] at ih
    obtain ⟨z1, z2, z3, z4, z5⟩ := hsz
    have zk := (szKs_iff ks).1 z5
    unfold okN at hok
    rw [nodeT]
    rw [show costN (.mk kd nm al ks t) = 1 + costNs ks from rfl]
    have ht : t.data.toList.length = t.size := by simp
    have he := (escL_len false t.data.toList).2
    rcases hok with ⟨rfl, _, _, _, hal, hks⟩ | ⟨rfl, _⟩
    · rw [if_neg (by decide)]
      have h1 := headT_len (sp := sp) z1 z3 hal.1
      have h2 := tagT_len nm
      have h3 := kidsT_len (M := 1000000000000) (ks := ks) (own := ownT nm sp) (fun k hk s => ih k hk (d + 1) s (okKs_mem hks k hk) (zk k hk))
      rw [Nat.mul_add, List.length_cons, List.length_append, List.length_append, List.length_append]
      split
      · simp only [List.length_cons, List.length_nil]; omega
      · simp only [List.length_cons, List.length_append, List.length_nil]; omega
    · rw [if_pos rfl]
      omega
end Wb
