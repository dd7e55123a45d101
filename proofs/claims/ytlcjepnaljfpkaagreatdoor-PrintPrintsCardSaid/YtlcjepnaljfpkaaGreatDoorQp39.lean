/- TrTp SoR. -/
import Derived.Test.YtlcjepnaljfpkaaGreatDoorQp33
namespace Go.Proofs.YtlcjepnaljfpkaaGreatDoor
open Go.RowKit Wb
theorem txt_none {s : List UInt8} (hc : chk s = -1) (hb : badU s.length s 0 = none) : TxtOK s := by
  obtain ⟨ns, r, h1, h2, h3⟩ := form _ s (Nat.le_refl _)
  have hf := chk_form ns r h1 h3
  rw [← h2] at hf
  by_cases hr : r = []
  · subst hr
    rw [List.append_nil] at h2
    refine ⟨ns, (badU_flat ns h1 s.length 0 (by rw [← h2]; exact Nat.le_refl _)).1 ?_, h2⟩
    rw [← h2]; exact hb
  · rw [if_neg hr] at hf
    omega
end Go.Proofs.YtlcjepnaljfpkaaGreatDoor
namespace Wb
open Go.Proofs.YtlcjepnaljfpkaaGreatDoor
def sgB (s : ByteArray) : Bool := (chk s.data.toList == -1) && (badU s.size s.data.toList 0).isNone
theorem sgB_iff (s : ByteArray) : sgB s = true ↔ TxtB s := by
  unfold sgB TxtB
  rw [Bool.and_eq_true, beq_iff_eq, Option.isNone_iff_eq_none, Go.Lib.size_eq]
  constructor
  · rintro ⟨h1, h2⟩
    exact txt_none h1 h2
  · intro h
    refine ⟨?_, txt_bad h _ 0 (Nat.le_refl _)⟩
    obtain ⟨ns, hn, e⟩ := h
    have := chk_form ns [] (fun n hm => char_sgn n (hn n hm)) rfl
    rw [e]
    simpa using this
def nmB (n : Pr) : Bool := nameB n.2.data.toList && (sgB n.1 && !(eqT n.1 sXMLNS))
theorem nmB_iff (n : Pr) : nmB n = true ↔ nameOK n := by
  unfold nmB nameOK
  rw [Bool.and_eq_true, Bool.and_eq_true, sgB_iff, eqT_dec]
  simp
def atB (seen : List Pr) (a : Tr) : Bool := !(seen.any (fun y => eqP y a.1)) && (!(eqP a.1 (sE, sXmlns)) && (nmB a.1 && sgB a.2))
def atsB : List Pr → List Tr → Bool
  | _, [] => true
  | seen, a :: l => atB seen a && atsB (seen ++ [a.1]) l
theorem eqP_false (a b : Pr) : eqP a b = false ↔ a ≠ b := by
  rw [← Bool.not_eq_true, eqP_iff]
theorem atB_iff (seen : List Pr) (a : Tr) : atB seen a = true ↔ (∀ y ∈ seen, y ≠ a.1) ∧ nameOK a.1 ∧ a.1 ≠ (sE, sXmlns) ∧ TxtB a.2 := by
  unfold atB
  rw [Bool.and_eq_true, Bool.and_eq_true, Bool.and_eq_true, Bool.not_eq_true', Bool.not_eq_true', eqP_false, nmB_iff, sgB_iff, List.any_eq_false]
  constructor
  · rintro ⟨h1, h2, h3, h4⟩
    exact ⟨fun y hy e => h1 y hy ((eqP_iff _ _).2 e), h3, h2, h4⟩
  · rintro ⟨h1, h3, h2, h4⟩
    exact ⟨fun y hy e => h1 y hy ((eqP_iff _ _).1 e), h2, h3, h4⟩
theorem atsB_iff : ∀ (l : List Tr) (seen : List Pr), atsB seen l = true ↔ (l.map (·.1)).Pairwise (· ≠ ·) ∧ (∀ a ∈ l, ∀ y ∈ seen, y ≠ a.1) ∧ ∀ a ∈ l, nameOK a.1 ∧ a.1 ≠ (sE, sXmlns) ∧ TxtB a.2
  | [], seen => by simp [atsB]
  | a :: l, seen => by
    unfold atsB
    rw [Bool.and_eq_true, atB_iff, atsB_iff l, List.map_cons, List.pairwise_cons]
    constructor
    · rintro ⟨⟨h1, h2⟩, h3, h4, h5⟩
      refine ⟨⟨fun y hy e => ?_, h3⟩, fun b hb y hy => ?_, fun b hb => ?_⟩
      · obtain ⟨z, hz, rfl⟩ := List.mem_map.1 hy
        exact h4 z hz a.1 (by simp) e
      · rcases List.mem_cons.1 hb with rfl | hb
        · exact h1 y hy
        · exact h4 b hb y (by simp [hy])
      · rcases List.mem_cons.1 hb with rfl | hb
        · exact h2
        · exact h5 b hb
    · rintro ⟨⟨h1, h2⟩, h3, h4⟩
      refine ⟨⟨fun y hy => h3 a (by simp) y hy, h4 a (by simp)⟩, h2, fun b hb y hy => ?_, fun b hb => h4 b (by simp [hb])⟩
      rcases List.mem_append.1 hy with hy | hy
      · exact h3 b (by simp [hb]) y hy
      · rw [List.mem_singleton.1 hy]
        exact h1 b.1 (List.mem_map_of_mem hb)
def attrsB (l : List Tr) : Bool := decide (l.length ≤ 32) && atsB [] l
theorem attrsB_iff (l : List Tr) : attrsB l = true ↔ attrsOK l := by
  unfold attrsB attrsOK
  rw [Bool.and_eq_true, decide_eq_true_iff, atsB_iff]
  simp
def txB (n : Nd) : Bool := decide (n.kind = 2) && (!(eqT n.text sE) && (sgB n.text && (eqP n.name (sE, sE) && (n.attrs.isEmpty && n.kids.isEmpty))))
theorem txB_iff (n : Nd) (d : Nat) (hk : n.kind ≠ 1) : txB n = true ↔ okN d n := by
  obtain ⟨k, nm, al, ks, t⟩ := n
  simp only [Nd.kind] at hk
  have htx : txB (.mk k nm al ks t) = (decide (k = 2) && (!(eqT t sE) && (sgB t && (eqP nm (sE, sE) && (al.isEmpty && ks.isEmpty))))) := rfl
  rw [htx]
  unfold okN
  rw [Bool.and_eq_true, Bool.and_eq_true, Bool.and_eq_true, Bool.and_eq_true, Bool.and_eq_true, decide_eq_true_iff, sgB_iff, eqP_iff, eqT_dec, List.isEmpty_iff, List.isEmpty_iff]
  constructor
  · rintro ⟨h1, h2, h3, h4, h5, h6⟩
    exact .inr ⟨h1, by simpa using h2, h3, h4, h5, h6⟩
  · rintro (⟨h, _⟩ | ⟨h1, h2, h3, h4, h5, h6⟩)
    · exact absurd h hk
    · exact ⟨h1, by simpa using h2, h3, h4, h5, h6⟩
def elB (nm : Pr) (al : List Tr) (t : ByteArray) (d : Nat) : Bool := decide (d ≤ 24) && (eqT t sE && (nmB nm && attrsB al))
theorem elB_iff (nm : Pr) (al : List Tr) (t : ByteArray) (d : Nat) : elB nm al t d = true ↔ d ≤ 24 ∧ t = sE ∧ nameOK nm ∧ attrsOK al := by
  unfold elB
  rw [Bool.and_eq_true, Bool.and_eq_true, Bool.and_eq_true, decide_eq_true_iff, eqT_iff, nmB_iff, attrsB_iff]
mutual
/-- Is a node al it must be that stands so deep, where so many were met? And how many were, behind it. -/
def rgN : Nd → Nat → Nat → Bool × Nat
  | .mk k nm al ks t, d, c => if 2000 < c + 1 then (false, c + 1) else if k ≠ 1 then (txB (.mk k nm al ks t), c + 1) else if elB nm al t d = false then (false, c + 1) else rgKs ks 0 (d + 1) (c + 1)
def rgKs : List Nd → Int → Nat → Nat → Bool × Nat
  | [], _, _, c => (true, c)
  | k :: ks, a, d, c => if a = 2 ∧ k.kind = 2 then (false, c) else if (rgN k d c).1 = true then rgKs ks k.kind d (rgN k d c).2 else (false, (rgN k d c).2)
end
theorem rgN_is (n : Nd) (d c : Nat) : rgN n d c = if 2000 < c + 1 then (false, c + 1) else if n.kind ≠ 1 then (txB n, c + 1) else if elB n.name n.attrs n.text d = false then (false, c + 1) else rgKs n.kids 0 (d + 1) (c + 1) := by
  cases n; rfl
theorem rgKs_cons (k : Nd) (ks : List Nd) (a : Int) (d c : Nat) : rgKs (k :: ks) a d c = if a = 2 ∧ k.kind = 2 then (false, c) else if (rgN k d c).1 = true then rgKs ks k.kind d (rgN k d c).2 else (false, (rgN k d c).2) := by
  rw [rgKs]
theorem rg_iff (n : Nd) : ∀ d c, ((rgN n d c).1 = true ↔ okN d n ∧ c + costN n ≤ 2000) ∧ ((rgN n d c).1 = true → (rgN n d c).2 = c + costN n) := by
  induction n using Nd.induct with
  | h n ih =>
    intro d c
    have key : ∀ (ks : List Nd), (∀ k ∈ ks, ∀ d c, ((rgN k d c).1 = true ↔ okN d k ∧ c + costN k ≤ 2000) ∧ ((rgN k d c).1 = true → (rgN k d c).2 = c + costN k)) → ∀ (a : Int) (d c : Nat), c ≤ 2000 →
        ((rgKs ks a d c).1 = true ↔ okKs d a ks ∧ c + costNs ks ≤ 2000) ∧ ((rgKs ks a d c).1 = true → (rgKs ks a d c).2 = c + costNs ks) := by
      intro ks
      induction ks with
      | nil => intro _ a d c hc; simp [rgKs, okKs, costNs, hc]
      | cons k ks ihk =>
        intro hk a d c hc
        rw [rgKs_cons]
        simp only [okKs, costNs]
        by_cases h1 : a = 2 ∧ k.kind = 2
        · rw [if_pos h1]
          exact ⟨⟨fun h => (by cases h), fun h => absurd h1 h.1.1⟩, fun h => (by cases h)⟩
        · rw [if_neg h1]
          obtain ⟨g1, g2⟩ := hk k (by simp) d c
          by_cases h2 : (rgN k d c).1 = true
          · rw [if_pos h2]
            obtain ⟨o1, o2⟩ := g1.1 h2
            have e := g2 h2
            obtain ⟨q1, q2⟩ := ihk (fun x hx => hk x (by simp [hx])) k.kind d (rgN k d c).2 (by omega)
            rw [e] at q1 q2 ⊢
            refine ⟨q1.trans ⟨fun h => ⟨⟨h1, o1, h.1⟩, by omega⟩, fun h => ⟨h.1.2.2, by omega⟩⟩, fun h => by rw [q2 h]; omega⟩
          · rw [if_neg h2]
            refine ⟨⟨fun h => (by cases h), fun h => absurd (g1.2 ⟨h.1.2.1, by have := h.2; omega⟩) h2⟩, fun h => (by cases h)⟩
    rw [rgN_is, costN_is]
    have hcn := costN_is n
    by_cases h1 : 2000 < c + 1
    · rw [if_pos h1]
      exact ⟨⟨fun h => (by cases h), fun h => absurd h.2 (by omega)⟩, fun h => (by cases h)⟩
    · rw [if_neg h1]
      by_cases h2 : n.kind ≠ 1
      · rw [if_pos h2]
        have h3 := txB_iff n d h2
        have hks : okN d n → n.kids = [] := by
          obtain ⟨k, nm, al, ks, t⟩ := n
          unfold okN
          rintro (⟨h, _⟩ | ⟨_, _, _, _, _, h⟩)
          · exact absurd h h2
          · exact h
        refine ⟨⟨fun h => ?_, fun h => h3.2 h.1⟩, fun h => ?_⟩
        · have ho := h3.1 h
          refine ⟨ho, ?_⟩
          rw [hks ho]
          simp only [costNs]
          omega
        · have ho := h3.1 h
          rw [hks ho]
          simp [costNs]
      · rw [if_neg h2]
        have hk1 : n.kind = 1 := Decidable.not_not.1 h2
        have hel := elB_iff n.name n.attrs n.text d
        have hok : okN d n ↔ d ≤ 24 ∧ n.text = sE ∧ nameOK n.name ∧ attrsOK n.attrs ∧ okKs (d + 1) 0 n.kids := by
          obtain ⟨k, nm, al, ks, t⟩ := n
          simp only [Nd.kind] at hk1
          subst hk1
          show ((1 : Int) = 1 ∧ d ≤ 24 ∧ t = sE ∧ nameOK nm ∧ attrsOK al ∧ okKs (d + 1) 0 ks ∨ (1 : Int) = 2 ∧ t ≠ sE ∧ TxtB t ∧ nm = (sE, sE) ∧ al = [] ∧ ks = []) ↔ _
          constructor
          · rintro (⟨_, h⟩ | ⟨h, _⟩)
            · exact h
            · exact absurd h (by decide)
          · exact fun h => .inl ⟨rfl, h⟩
        by_cases h3 : elB n.name n.attrs n.text d = false
        · rw [if_pos h3]
          refine ⟨⟨fun h => (by cases h), fun h => ?_⟩, fun h => (by cases h)⟩
          obtain ⟨a1, a2, a3, a4, _⟩ := hok.1 h.1
          rw [hel.2 ⟨a1, a2, a3, a4⟩] at h3
          cases h3
        · rw [if_neg h3]
          have h4 : elB n.name n.attrs n.text d = true := by simpa using h3
          obtain ⟨a1, a2, a3, a4⟩ := hel.1 h4
          obtain ⟨q1, q2⟩ := key n.kids ih 0 (d + 1) (c + 1) (by omega)
          refine ⟨q1.trans ⟨fun h => ⟨hok.2 ⟨a1, a2, a3, a4, h.1⟩, by omega⟩, fun h => ⟨(hok.1 h.1).2.2.2.2, by omega⟩⟩, fun h => by rw [q2 h]; omega⟩
def rightB (n : Nd) : Bool := decide (n.kind = 1) && (rgN n 1 0).1
theorem rightB_iff (n : Nd) : rightB n = true ↔ n.kind = 1 ∧ okN 1 n ∧ costN n ≤ 2000 := by
  unfold rightB
  rw [Bool.and_eq_true, decide_eq_true_iff, (rg_iff n 1 0).1, Nat.zero_add]
end Wb
namespace Wb
mutual
/-- How many nodes a tree is, asz far asz a number. -/
def nodesR : Nd → Nat → Nat
  | .mk _ _ _ ks _, m => nodesRs ks m 1
def nodesRs : List Nd → Nat → Nat → Nat
  | [], _, k => k
  | x :: ks, m, k => if k ≤ m then nodesRs ks m (k + nodesR x (m - k)) else k
end
theorem nodesR_is (n : Nd) (m : Nat) : nodesR n m = nodesRs n.kids m 1 := by cases n; rfl
theorem nodesRs_cons (x : Nd) (ks : List Nd) (m k : Nat) : nodesRs (x :: ks) m k = if k ≤ m then nodesRs ks m (k + nodesR x (m - k)) else k := by rw [nodesRs]
theorem nodesRs_stop (ks : List Nd) (m k : Nat) (h : ¬ k ≤ m) : nodesRs ks m k = k := by
  cases ks with
  | nil => rw [nodesRs]
  | cons x ks => rw [nodesRs_cons, if_neg h]
theorem nodesR_all (n : Nd) : ∀ m, nodesR n m ≤ m + 1 ∧ 1 ≤ nodesR n m ∧ (nodesR n m ≤ m ↔ costN n ≤ m) ∧ (nodesR n m ≤ m → nodesR n m = costN n) := by
  induction n using Nd.induct with
  | h n ih =>
    intro m
    have key : ∀ (ks : List Nd), (∀ k ∈ ks, ∀ m, nodesR k m ≤ m + 1 ∧ 1 ≤ nodesR k m ∧ (nodesR k m ≤ m ↔ costN k ≤ m) ∧ (nodesR k m ≤ m → nodesR k m = costN k)) → ∀ (k : Nat), k ≤ m + 1 → nodesRs ks m k ≤ m + 1 ∧ k ≤ nodesRs ks m k ∧ (nodesRs ks m k ≤ m ↔ k + costNs ks ≤ m) ∧ (nodesRs ks m k ≤ m → nodesRs ks m k = k + costNs ks) := by
      intro ks
      induction ks with
      | nil => intro _ k hk; simp only [nodesRs, costNs]; omega
      | cons x ks ihk =>
        intro hx k hk
        rw [nodesRs_cons]
        by_cases h : k ≤ m
        · rw [if_pos h]
          obtain ⟨a1, a2, a3, a4⟩ := hx x (by simp) (m - k)
          obtain ⟨b1, b2, b3, b4⟩ := ihk (fun y hy => hx y (by simp [hy])) (k + nodesR x (m - k)) (by omega)
          simp only [costNs]
          refine ⟨b1, by omega, ⟨fun h5 => ?_, fun h5 => ?_⟩, fun h5 => ?_⟩
          · have := b3.1 h5
            have := a4 (by omega)
            omega
          · have := a4 (a3.2 (by omega))
            exact b3.2 (by omega)
          · have := b3.1 h5
            have := a4 (by omega)
            have := b4 h5
            omega
        · rw [if_neg h]
          have := costN_pos x
          simp only [costNs]
          omega
    rw [nodesR_is, costN_is]
    exact key n.kids ih 1 (by omega)
mutual
/-- How deep elements stand in one another, asz far asz a number (0: it is below 0). -/
def deepR : Nd → Nat → Nat
  | .mk k _ _ ks _, m => if k = 1 ∧ 0 < m then deepRs ks (m - 1) 0 + 1 else 0
def deepRs : List Nd → Nat → Nat → Nat
  | [], _, d => d
  | x :: ks, m, d => deepRs ks m (if d < deepR x m then deepR x m else d)
end
theorem deepR_is (n : Nd) (m : Nat) : deepR n m = if n.kind = 1 ∧ 0 < m then deepRs n.kids (m - 1) 0 + 1 else 0 := by cases n; rfl
theorem deepRs_cons (x : Nd) (ks : List Nd) (m d : Nat) : deepRs (x :: ks) m d = deepRs ks m (if d < deepR x m then deepR x m else d) := by rw [deepRs]
theorem deepRs_le : ∀ (ks : List Nd) (m d b : Nat), deepRs ks m d ≤ b ↔ d ≤ b ∧ ∀ k ∈ ks, deepR k m ≤ b
  | [], m, d, b => by simp [deepRs]
  | x :: ks, m, d, b => by
    rw [deepRs_cons, deepRs_le ks]
    constructor
    · rintro ⟨h1, h2⟩
      split at h1
      · refine ⟨by omega, fun k hk => ?_⟩
        rcases List.mem_cons.1 hk with rfl | hk
        · exact h1
        · exact h2 k hk
      · refine ⟨h1, fun k hk => ?_⟩
        rcases List.mem_cons.1 hk with rfl | hk
        · omega
        · exact h2 k hk
    · rintro ⟨h1, h2⟩
      have := h2 x (by simp)
      exact ⟨by split <;> omega, fun k hk => h2 k (by simp [hk])⟩
theorem deepR_most (n : Nd) : ∀ m, deepR n m ≤ m := by
  induction n using Nd.induct with
  | h n ih =>
    intro m
    rw [deepR_is]
    split
    · have := (deepRs_le n.kids (m - 1) 0 (m - 1)).2 ⟨by omega, fun k hk => ih k hk _⟩
      omega
    · omega
mutual
/-- Is each node right by itself, and beside its neighbours? -/
def shapeB : Nd → Bool
  | .mk k nm al ks t => if k = 2 then !(eqT t sE) && (sgB t && (eqP nm (sE, sE) && (al.isEmpty && ks.isEmpty))) else decide (k = 1) && (eqT t sE && (nmB nm && (decide (al.length ≤ 32) && (atsB [] al && shapeKs 0 ks))))
def shapeKs : Int → List Nd → Bool
  | _, [] => true
  | a, x :: ks => shapeB x && (!(decide (a = 2) && decide (x.kind = 2)) && shapeKs x.kind ks)
end
theorem shapeB_is (n : Nd) : shapeB n = if n.kind = 2 then !(eqT n.text sE) && (sgB n.text && (eqP n.name (sE, sE) && (n.attrs.isEmpty && n.kids.isEmpty))) else decide (n.kind = 1) && (eqT n.text sE && (nmB n.name && (decide (n.attrs.length ≤ 32) && (atsB [] n.attrs && shapeKs 0 n.kids)))) := by
  cases n; rfl
theorem shapeB_mk (k : Int) (nm : Pr) (al : List Tr) (ks : List Nd) (t : ByteArray) : shapeB (.mk k nm al ks t) = if k = 2 then !(eqT t sE) && (sgB t && (eqP nm (sE, sE) && (al.isEmpty && ks.isEmpty))) else decide (k = 1) && (eqT t sE && (nmB nm && (decide (al.length ≤ 32) && (atsB [] al && shapeKs 0 ks)))) := by rw [shapeB]
theorem deepR_mk (k : Int) (nm : Pr) (al : List Tr) (ks : List Nd) (t : ByteArray) (m : Nat) : deepR (.mk k nm al ks t) m = if k = 1 ∧ 0 < m then deepRs ks (m - 1) 0 + 1 else 0 := by rw [deepR]
theorem txB_mk (k : Int) (nm : Pr) (al : List Tr) (ks : List Nd) (t : ByteArray) : txB (.mk k nm al ks t) = (decide (k = 2) && (!(eqT t sE) && (sgB t && (eqP nm (sE, sE) && (al.isEmpty && ks.isEmpty))))) := rfl
theorem shapeKs_cons (a : Int) (x : Nd) (ks : List Nd) : shapeKs a (x :: ks) = (shapeB x && (!(decide (a = 2) && decide (x.kind = 2)) && shapeKs x.kind ks)) := by rw [shapeKs]
theorem shape_ok (n : Nd) : ∀ d m, d + m = 32 → 1 ≤ d → d ≤ 25 → (okN d n ↔ shapeB n = true ∧ d + deepR n m ≤ 25) := by
  induction n using Nd.induct with
  | h n ih =>
    intro d m hdm h1 h25
    obtain ⟨kd, nm, al, ks, t⟩ := n
    simp only [Nd.kids] at ih
    by_cases hk2 : kd = 2
    · subst hk2
      have h := txB_iff (.mk 2 nm al ks t) d (by show (2 : Int) ≠ 1; decide)
      rw [← h, shapeB_mk, deepR_mk, txB_mk, if_pos rfl, if_neg (by rintro ⟨h, _⟩; exact absurd h (by decide))]
      constructor
      · intro h; exact ⟨by simpa using h, by omega⟩
      · rintro ⟨h, _⟩; simpa using h
    · by_cases hk1 : kd = 1
      · subst hk1
        have key : ∀ (ks : List Nd), (∀ k ∈ ks, ∀ d m, d + m = 32 → 1 ≤ d → d ≤ 25 → (okN d k ↔ shapeB k = true ∧ d + deepR k m ≤ 25)) → ∀ (a : Int) (d m : Nat), d + m = 32 → 1 ≤ d → d ≤ 25 → (okKs d a ks ↔ shapeKs a ks = true ∧ ∀ k ∈ ks, d + deepR k m ≤ 25) := by
          intro ks
          induction ks with
          | nil => intro _ a d m _ _ _; simp [okKs, shapeKs]
          | cons x ks ihk =>
            intro hx a d m e1 e2 e3
            rw [shapeKs_cons]
            simp only [okKs]
            rw [ihk (fun y hy => hx y (by simp [hy])) x.kind d m e1 e2 e3, hx x (by simp) d m e1 e2 e3, Bool.and_eq_true, Bool.and_eq_true, Bool.not_eq_true', Bool.and_eq_false_iff, decide_eq_false_iff_not, decide_eq_false_iff_not]
            constructor
            · rintro ⟨h1, ⟨h2, h3⟩, h4, h5⟩
              refine ⟨⟨h2, ?_, h4⟩, fun k hk => ?_⟩
              · by_cases ha : a = 2
                · exact .inr fun h => h1 ⟨ha, h⟩
                · exact .inl ha
              · rcases List.mem_cons.1 hk with rfl | hk
                · exact h3
                · exact h5 k hk
            · rintro ⟨⟨h2, h1, h4⟩, h5⟩
              exact ⟨fun h => h1.elim (fun g => g h.1) (fun g => g h.2), ⟨h2, h5 x (by simp)⟩, h4, fun k hk => h5 k (by simp [hk])⟩
        rw [shapeB_mk, deepR_mk, if_neg hk2, if_pos ⟨rfl, by omega⟩]
        unfold okN
        have hat : attrsOK al ↔ al.length ≤ 32 ∧ atsB [] al = true := by
          rw [← attrsB_iff]; unfold attrsB; rw [Bool.and_eq_true, decide_eq_true_iff]
        rw [hat, ← nmB_iff]
        simp only [Bool.and_eq_true, decide_eq_true_iff, eqT_iff, true_and]
        by_cases h24 : d ≤ 24
        · rw [key ks ih 0 (d + 1) (m - 1) (by omega) (by omega) (by omega)]
          have hd := deepRs_le ks (m - 1) 0 (24 - d)
          constructor
          · rintro (⟨_, a1, a2, ⟨a3, a4⟩, a5, a6⟩ | ⟨h, _⟩)
            · refine ⟨⟨a1, a2, a3, a4, a5⟩, ?_⟩
              have := hd.2 ⟨by omega, fun k hk => by have := a6 k hk; omega⟩
              omega
            · exact absurd h (by decide)
          · rintro ⟨⟨a1, a2, a3, a4, a5⟩, a6⟩
            have := (hd.1 (by omega)).2
            exact .inl ⟨h24, a1, a2, ⟨a3, a4⟩, a5, fun k hk => by have := this k hk; omega⟩
        · constructor
          · rintro (⟨h, _⟩ | ⟨h, _⟩)
            · exact absurd h h24
            · exact absurd h (by decide)
          · rintro ⟨_, a6⟩; omega
      · rw [shapeB_mk, if_neg hk2]
        unfold okN
        constructor
        · rintro (⟨h, _⟩ | ⟨h, _⟩)
          · exact absurd h hk1
          · exact absurd h hk2
        · rintro ⟨h, _⟩
          rw [decide_eq_false hk1] at h
          simp at h
theorem right_ref (n : Nd) : (decide (n.kind = 1) && (decide (nodesR n 2000 ≤ 2000) && (decide (deepR n 31 ≤ 24) && shapeB n))) = rightB n := by
  rw [Bool.eq_iff_iff, rightB_iff, Bool.and_eq_true, Bool.and_eq_true, Bool.and_eq_true, decide_eq_true_iff, decide_eq_true_iff, decide_eq_true_iff, shape_ok n 1 31 (by omega) (by omega) (by omega), (nodesR_all n 2000).2.2.1]
  constructor
  · rintro ⟨h1, h2, h3, h4⟩
    exact ⟨h1, ⟨h4, by omega⟩, h2⟩
  · rintro ⟨h1, ⟨h4, h3⟩, h2⟩
    exact ⟨h1, h2, by omega, h4⟩
end Wb
