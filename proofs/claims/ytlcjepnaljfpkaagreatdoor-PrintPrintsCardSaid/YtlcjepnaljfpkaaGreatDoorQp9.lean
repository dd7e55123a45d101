/- TrP QnPlain QnPlain2. -/
import Derived.Laws.Strings
import Derived.Laws.Externs
import Derived.Test.YtlcjepnaljfpkaaGreatDoorQp5
import Derived.Test.YtlcjepnaljfpkaaGreatDoorQp7
import Derived.Test.YtlcjepnaljfpkaaGreatDoorQp8
namespace Wb
def attrS (t : Tr) : Nat := t.1.1.size + t.1.2.size + t.2.size
def attrsS (l : List Tr) : Nat := (l.map attrS).sum
def attrW (m : Nat) (t : Tr) : Nat := min t.1.1.size m + min t.1.2.size m + min t.2.size m
def weighAs (m : Nat) : Nat → List Tr → Nat
  | w, [] => w
  | w, a :: asz => if w ≤ m then weighAs m (w + attrW m a) asz else w
def headW (m : Nat) (n : Nd) : Nat := 1 + min n.text.size m + min n.name.1.size m + min n.name.2.size m + min n.attrs.length m
mutual
/-- How much a tree is, asz far asz a number. -/
def weighN : Nd → Nat → Nat
  | .mk _ n asz ks t, m => weighKs ks m (weighAs m (1 + min t.size m + min n.1.size m + min n.2.size m + min asz.length m) asz)
def weighKs : List Nd → Nat → Nat → Nat
  | [], _, w => w
  | k :: ks, m, w => if w ≤ m then weighKs ks m (w + weighN k (m - w)) else w
end
theorem weighN_is (n : Nd) (m : Nat) : weighN n m = weighKs n.kids m (weighAs m (headW m n) n.attrs) := by
  cases n; rfl
theorem weighAs_le (m : Nat) : ∀ (asz : List Tr) (w : Nat), w ≤ weighAs m w asz ∧ (w ≤ 4 * m + 1 → weighAs m w asz ≤ 4 * m + 1)
  | [], w => by simp [weighAs]
  | a :: asz, w => by
    unfold weighAs
    by_cases h : w ≤ m
    · rw [if_pos h]
      have ha : attrW m a ≤ 3 * m := by unfold attrW; omega
      obtain ⟨h1, h2⟩ := weighAs_le m asz (w + attrW m a)
      exact ⟨by omega, fun _ => h2 (by omega)⟩
    · rw [if_neg h]
      exact ⟨Nat.le_refl _, fun h => h⟩
theorem headW_le (m : Nat) (n : Nd) : headW m n ≤ 4 * m + 1 := by unfold headW; omega
theorem weighKs_ge : ∀ (ks : List Nd) (m w : Nat), w ≤ weighKs ks m w
  | [], m, w => by simp [weighKs]
  | k :: ks, m, w => by
    unfold weighKs
    split
    · have := weighKs_ge ks m (w + weighN k (m - w)); omega
    · exact Nat.le_refl _
theorem weigh_bound (n : Nd) : ∀ m, weighN n m ≤ 5 * m + 1 := by
  induction n using Nd.induct with
  | h n ih =>
    intro m
    have ks : ∀ (ks : List Nd), (∀ k ∈ ks, ∀ m, weighN k m ≤ 5 * m + 1) → ∀ w, w ≤ 5 * m + 1 → weighKs ks m w ≤ 5 * m + 1 := by
      intro ks
      induction ks with
      | nil => intro _ w hw; simpa [weighKs] using hw
      | cons k ks ihk =>
        intro hk w hw
        unfold weighKs
        split
        · have := hk k (by simp) (m - w)
          exact ihk (fun x hx => hk x (by simp [hx])) _ (by omega)
        · exact hw
    rw [weighN_is]
    have h1 := headW_le m n
    have h2 := (weighAs_le m n.attrs (headW m n)).2 h1
    exact ks _ ih _ (by omega)
def ownB (n : Nd) : Nat := if n.kind = 1 then n.name.1.size + n.name.2.size + attrsS n.attrs else n.text.size
mutual
def costN : Nd → Nat
  | .mk _ _ _ ks _ => 1 + costNs ks
def costNs : List Nd → Nat
  | [] => 0
  | k :: ks => costN k + costNs ks
end
mutual
def costB : Nd → Nat
  | .mk k n asz ks t => ownB (.mk k n asz [] t) + costBs ks
def costBs : List Nd → Nat
  | [] => 0
  | k :: ks => costB k + costBs ks
end
theorem costN_is (n : Nd) : costN n = 1 + costNs n.kids := by cases n; rfl
theorem costB_is (n : Nd) : costB n = ownB n + costBs n.kids := by cases n; rfl
theorem costN_pos (n : Nd) : 1 ≤ costN n := by rw [costN_is]; omega
theorem attrs_few {m : Nat} : ∀ (asz : List Tr) (w : Nat), 1 ≤ w → weighAs m w asz ≤ m → w + attrsS asz ≤ weighAs m w asz
  | [], w, _, h => by simp [weighAs, attrsS]
  | a :: asz, w, h0, h => by
    unfold weighAs at h ⊢
    by_cases hw : w ≤ m
    · rw [if_pos hw] at h ⊢
      have h1 := (weighAs_le m asz (w + attrW m a)).1
      have h2 := attrs_few asz _ (by omega) h
      have h3 : attrW m a < m := by omega
      have h4 : attrS a ≤ attrW m a := by
        have : min a.1.1.size m + min a.1.2.size m + min a.2.size m < m := h3
        show a.1.1.size + a.1.2.size + a.2.size ≤ min a.1.1.size m + min a.1.2.size m + min a.2.size m
        omega
      have e : attrsS (a :: asz) = attrS a + attrsS asz := by simp [attrsS]
      omega
    · rw [if_neg hw] at h
      omega
theorem few_cost (n : Nd) : ∀ m, weighN n m ≤ m → costN n + costB n + n.kids.length ≤ 2 * weighN n m ∧ costN n + costB n ≤ weighN n m ∧ n.attrs.length ≤ m ∧ n.kids.length ≤ m := by
  induction n using Nd.induct with
  | h n ih =>
    intro m hm
    rw [weighN_is] at hm ⊢
    have key : ∀ (ks : List Nd), (∀ k ∈ ks, ∀ m, weighN k m ≤ m → costN k + costB k ≤ weighN k m) → ∀ w, weighKs ks m w ≤ m → w + costNs ks + costBs ks ≤ weighKs ks m w ∧ ks.length ≤ costNs ks := by
      intro ks
      induction ks with
      | nil => intro _ w _; simp [weighKs, costNs, costBs]
      | cons k ks ihk =>
        intro hk w h
        unfold weighKs at h ⊢
        by_cases hw : w ≤ m
        · rw [if_pos hw] at h ⊢
          have h1 := weighKs_ge ks m (w + weighN k (m - w))
          have h2 := hk k (by simp) (m - w) (by omega)
          obtain ⟨h3, h4⟩ := ihk (fun x hx => hk x (by simp [hx])) _ h
          have h5 := costN_pos k
          simp only [costNs, costBs, List.length_cons]
          omega
        · rw [if_neg hw] at h
          omega
    obtain ⟨h1, h2⟩ := key n.kids (fun k hk m h => (ih k hk m h).2.1) _ hm
    have h3 := weighKs_ge n.kids m (weighAs m (headW m n) n.attrs)
    have h4 := attrs_few (m := m) n.attrs (headW m n) (by unfold headW; omega) (by omega)
    have h5 : headW m n ≤ m := by omega
    have h6 : 1 + n.text.size + n.name.1.size + n.name.2.size + n.attrs.length ≤ headW m n := by unfold headW at h5 ⊢; omega
    have h7 : ownB n ≤ n.text.size + n.name.1.size + n.name.2.size + attrsS n.attrs := by unfold ownB; split <;> omega
    rw [costN_is, costB_is]
    omega
theorem costs_app (a b : List Nd) : costNs (a ++ b) = costNs a + costNs b ∧ costBs (a ++ b) = costBs a + costBs b := by
  induction a with
  | nil => simp [costNs, costBs]
  | cons k a ih =>
    rw [List.cons_append]
    simp only [costNs, costBs]
    omega
mutual
/-- No row in it is longer than so many. -/
def lenN (B : Nat) : Nd → Prop
  | .mk _ _ asz ks _ => asz.length ≤ B ∧ ks.length ≤ B ∧ lenKs B ks
def lenKs (B : Nat) : List Nd → Prop
  | [] => True
  | k :: ks => lenN B k ∧ lenKs B ks
end
abbrev smallN (n : Nd) : Prop := lenN 1000000 n
theorem lenN_is (B : Nat) (n : Nd) : lenN B n ↔ n.attrs.length ≤ B ∧ n.kids.length ≤ B ∧ ∀ k ∈ n.kids, lenN B k := by
  have key : ∀ ks : List Nd, lenKs B ks ↔ ∀ k ∈ ks, lenN B k := by
    intro ks
    induction ks with
    | nil => simp [lenKs]
    | cons k ks ih => simp [lenKs, ih]
  cases n with
  | mk k nm asz ks t =>
    simp only [lenN, Nd.attrs, Nd.kids]
    rw [key]
theorem smallN_is (n : Nd) : smallN n ↔ n.attrs.length ≤ 1000000 ∧ n.kids.length ≤ 1000000 ∧ ∀ k ∈ n.kids, smallN k := lenN_is 1000000 n
theorem few_small (n : Nd) : ∀ m, m ≤ 1000000 → weighN n m ≤ m → smallN n := by
  induction n using Nd.induct with
  | h n ih =>
    intro m hm h
    obtain ⟨_, _, h1, h2⟩ := few_cost n m h
    rw [weighN_is] at h
    have key : ∀ (ks : List Nd), (∀ k ∈ ks, ∀ m, m ≤ 1000000 → weighN k m ≤ m → smallN k) → ∀ w, weighKs ks m w ≤ m → ∀ k ∈ ks, smallN k := by
      intro ks
      induction ks with
      | nil => intro _ w _ k hk; cases hk
      | cons k ks ihk =>
        intro hk w h x hx
        unfold weighKs at h
        by_cases hw : w ≤ m
        · rw [if_pos hw] at h
          have h1 := weighKs_ge ks m (w + weighN k (m - w))
          rcases List.mem_cons.1 hx with rfl | hx
          · exact hk x (by simp) (m - w) (by omega) (by omega)
          · exact ihk (fun y hy => hk y (by simp [hy])) _ h x hx
        · rw [if_neg hw] at h
          omega
    exact (smallN_is n).2 ⟨by omega, by omega, key n.kids ih _ h⟩
theorem costs_take {ks : List Nd} {k : Nat} {x : Nd} (h : ks[k]? = some x) : costNs (ks.take (k + 1)) = costNs (ks.take k) + costN x ∧ costBs (ks.take (k + 1)) = costBs (ks.take k) + costB x := by
  rw [List.take_add_one, h]
  have := costs_app (ks.take k) [x]
  simp only [costNs, costBs, Nat.add_zero] at this
  exact this
theorem costs_le (ks : List Nd) (k : Nat) : costNs (ks.take k) ≤ costNs ks ∧ costBs (ks.take k) ≤ costBs ks := by
  have := costs_app (ks.take k) (ks.drop k)
  rw [List.take_append_drop] at this
  omega
end Wb
namespace Wb
open Go
def eqT (a b : ByteArray) : Bool := a.toList == b.toList
theorem eqT_iff (a b : ByteArray) : eqT a b = true ↔ a = b := by
  unfold eqT
  rw [ByteArray.toList_eq, ByteArray.toList_eq, beq_iff_eq]
  constructor
  · intro h
    cases a; cases b
    simp only at h
    rw [Array.toList_inj.1 h]
  · rintro rfl; rfl
theorem eqT_dec (a b : ByteArray) : eqT a b = decide (a = b) := by
  rw [Bool.eq_iff_iff, eqT_iff]; simp
theorem eqT_self (a : ByteArray) : eqT a a = true := (eqT_iff _ _).2 rfl
theorem eqT_false {a b : ByteArray} : eqT a b = false ↔ a ≠ b := by rw [eqT_dec]; simp
theorem toList_nil_iff (a : ByteArray) : a.toList = [] ↔ a = ⟨#[]⟩ := by
  rw [ByteArray.toList_eq]
  constructor
  · intro h; cases a; simp only at h; rw [Array.toList_eq_nil_iff.1 h]
  · rintro rfl; rfl
def sE : ByteArray := ⟨#[]⟩
def sXmlns : ByteArray := ⟨#[120, 109, 108, 110, 115]⟩
def sXmlQ : ByteArray := ⟨#[120, 109, 108]⟩
def sXML : ByteArray := ⟨#[104, 116, 116, 112, 58, 47, 47, 119, 119, 119, 46, 119, 51, 46, 111, 114, 103, 47, 88, 77, 76, 47, 49, 57, 57, 56, 47, 110, 97, 109, 101, 115, 112, 97, 99, 101]⟩
def sXMLNS : ByteArray := ⟨#[104, 116, 116, 112, 58, 47, 47, 119, 119, 119, 46, 119, 51, 46, 111, 114, 103, 47, 50, 48, 48, 48, 47, 120, 109, 108, 110, 115, 47]⟩
theorem empty_eq (p : ByteArray) : p.toList.isEmpty = eqT p sE := by
  unfold eqT
  rw [(toList_nil_iff sE).2 rfl]
  cases p.toList <;> rfl
def bindB (p s : ByteArray) : Int :=
  if !(eqT p sE) && !(nameB p.data.toList) then 12
  else if eqT p sXmlns || (eqT p sXmlQ && !(eqT s sXML)) || (!(eqT p sXmlQ) && (eqT s sXML || eqT s sXMLNS)) || (!(eqT p sE) && eqT s sE) then 13 else 0
theorem sXML_ne : sXML ≠ sXMLNS := by decide
def lastB : List Pr → ByteArray → Option ByteArray
  | [], _ => none
  | x :: l, p => match lastB l p with
    | some s => some s
    | none => if eqT x.1 p then some x.2 else none
theorem take_snoc {α : Type} (l : List α) (k : Nat) (x : α) (h : l[k]? = some x) : l.take (k + 1) = l.take k ++ [x] := by
  rw [List.take_add_one, h]; rfl
def findB (l : List Pr) (p : ByteArray) : ByteArray × Bool :=
  if eqT p sXmlQ then (sXML, true) else match lastB l p with
    | some s => (s, true)
    | none => (sE, eqT p sE)
theorem findB_xml {l : List Pr} {p : ByteArray} (h : eqT p sXmlQ = true) : findB l p = (sXML, true) := by unfold findB; rw [h]; rfl
theorem findB_some {l : List Pr} {p s : ByteArray} (h : eqT p sXmlQ = false) (hl : lastB l p = some s) : findB l p = (s, true) := by unfold findB; rw [h, hl]; rfl
theorem findB_none {l : List Pr} {p : ByteArray} (h : eqT p sXmlQ = false) (hl : lastB l p = none) : findB l p = (sE, eqT p sE) := by unfold findB; rw [h, hl]; rfl
def cIx (q : ByteArray) : Option Nat := (List.range q.size).find? fun i => q[i]! == 58
theorem firstIdx_c' (s : ByteArray) : firstIdx s 58 = match cIx s with | some k => (k : Int) | none => -1 := rfl
def splitB (q : ByteArray) : ByteArray × ByteArray × Bool :=
  match cIx q with
  | none => if nameB q.data.toList then (sE, q, true) else (sE, sE, false)
  | some k => if nameB (q.extract 0 k).data.toList && nameB (q.extract (k + 1) q.size).data.toList then (q.extract 0 k, q.extract (k + 1) q.size, true) else (sE, sE, false)
theorem splitB_none {q : ByteArray} (h : cIx q = none) {b : Bool} (hb : nameB q.data.toList = b) : splitB q = if b then (sE, q, true) else (sE, sE, false) := by
  unfold splitB; rw [h]; subst hb; rfl
theorem splitB_some {q : ByteArray} {k : Nat} (h : cIx q = some k) {b c : Bool} (hb : nameB (q.extract 0 k).data.toList = b) (hc : nameB (q.extract (k + 1) q.size).data.toList = c) :
    splitB q = if b && c then (q.extract 0 k, q.extract (k + 1) q.size, true) else (sE, sE, false) := by
  unfold splitB; rw [h]; subst hb; subst hc; rfl
theorem splitB_half {q : ByteArray} {k : Nat} (h : cIx q = some k) (hb : nameB (q.extract 0 k).data.toList = false) : splitB q = (sE, sE, false) := by
  rw [splitB_some h hb rfl]; rfl
def resB (l : List Pr) (q : ByteArray) (attr : Bool) : Pr × Int :=
  if !(splitB q).2.2 then ((sE, sE), 12)
  else if attr && eqT (splitB q).1 sE then ((sE, (splitB q).2.1), 0)
  else if !(findB l (splitB q).1).2 || eqT (splitB q).1 sXmlns then ((sE, sE), 13)
  else (((findB l (splitB q).1).1, (splitB q).2.1), 0)
theorem resB_bad {l : List Pr} {q p lo : ByteArray} (attr : Bool) (h : splitB q = (p, lo, false)) : resB l q attr = ((sE, sE), 12) := by
  unfold resB; rw [h]; rfl
theorem resB_bare {l : List Pr} {q p lo : ByteArray} (h : splitB q = (p, lo, true)) (h1 : eqT p sE = true) : resB l q true = ((sE, lo), 0) := by
  unfold resB; rw [h]; simp only [h1]; rfl
theorem resB_full {l : List Pr} {q p lo s : ByteArray} {fo b1 attr : Bool} (h : splitB q = (p, lo, true)) (h1 : (attr && eqT p sE) = false) (hf : findB l p = (s, fo)) (hb : eqT p sXmlns = b1) :
    resB l q attr = if !fo || b1 then ((sE, sE), 13) else ((s, lo), 0) := by
  unfold resB; rw [h]; simp only [h1, hf, hb]; rfl
def sXmlnsC : List UInt8 := [120, 109, 108, 110, 115, 58]
def preB (n : ByteArray) : Bool := decide (6 ≤ n.size) && ((n.extract 0 6).toList == sXmlnsC)
theorem preB_short {n : ByteArray} (h : ¬ 6 ≤ n.size) : preB n = false := by unfold preB; rw [decide_eq_false h]; rfl
theorem preB_long {n : ByteArray} {b : Bool} (h : 6 ≤ n.size) (hb : ((n.extract 0 6).toList == sXmlnsC) = b) : preB n = b := by unfold preB; rw [decide_eq_true h, hb]; rfl
def declB (n : ByteArray) : ByteArray × Bool :=
  if eqT n sXmlns then (sE, true) else if preB n then (n.extract 6 n.size, true) else (sE, false)
theorem declB_1 {n : ByteArray} (h : eqT n sXmlns = true) : declB n = (sE, true) := by unfold declB; rw [h]; rfl
theorem declB_2 {n : ByteArray} (h : eqT n sXmlns = false) (h2 : preB n = true) : declB n = (n.extract 6 n.size, true) := by unfold declB; rw [h, h2]; rfl
theorem declB_3 {n : ByteArray} (h : eqT n sXmlns = false) (h2 : preB n = false) : declB n = (sE, false) := by unfold declB; rw [h, h2]; rfl
def declL : List Pr → List ByteArray → List Pr → List Pr → Except Int (List Pr × List Pr)
  | [], _, binds, rest => .ok (binds, rest)
  | x :: l, seen, binds, rest =>
    if (declB x.1).2 then
      if !(eqT x.1 sXmlns) && !(nameB (declB x.1).1.data.toList) then .error 12
      else if seen.any (fun y => eqT y (declB x.1).1) then .error 14
      else if bindB (declB x.1).1 x.2 = 0 then declL l (seen ++ [(declB x.1).1]) (binds ++ [((declB x.1).1, x.2)]) rest
      else .error (bindB (declB x.1).1 x.2)
    else declL l seen binds (rest ++ [x])
def eqP (a b : Pr) : Bool := eqT a.1 b.1 && eqT a.2 b.2
theorem eqP_iff (a b : Pr) : eqP a b = true ↔ a = b := by
  unfold eqP
  rw [Bool.and_eq_true, eqT_iff, eqT_iff]
  constructor
  · rintro ⟨h1, h2⟩; exact Prod.ext h1 h2
  · rintro rfl; exact ⟨rfl, rfl⟩
def attrL (sc : List Pr) : List Pr → List Tr → Except Int (List Tr)
  | [], out => .ok out
  | x :: l, out =>
    if (resB sc x.1 true).2 = 0 then
      if out.any (fun y => eqP y.1 (resB sc x.1 true).1) then .error 14
      else attrL sc l (out ++ [((resB sc x.1 true).1, x.2)])
    else .error (resB sc x.1 true).2
theorem declL_end {l : List Pr} {k : Nat} {seen : List ByteArray} {binds rest : List Pr} (h : l.length ≤ k) : declL (l.drop k) seen binds rest = .ok (binds, rest) := by
  rw [List.drop_eq_nil_of_le h]; rfl
theorem attrL_end {sc l : List Pr} {k : Nat} {out : List Tr} (h : l.length ≤ k) : attrL sc (l.drop k) out = .ok out := by
  rw [List.drop_eq_nil_of_le h]; rfl
end Wb
namespace Wb
open Go
theorem ba_ext {a b : ByteArray} (h : a.data.toList = b.data.toList) : a = b := by
  cases a; cases b; simp only at h; rw [Array.toList_inj.1 h]
def attrF (sc : List Pr) (x : Pr) : Tr := ((resB sc x.1 true).1, x.2)
theorem attrL_ok_iff (sc : List Pr) : ∀ (l : List Pr) (out r : List Tr), attrL sc l out = .ok r ↔
    (∀ x ∈ l, (resB sc x.1 true).2 = 0) ∧ (out ++ l.map (attrF sc) = r) ∧ (∀ x ∈ l, ∀ y ∈ out, y.1 ≠ (attrF sc x).1) ∧ (l.map fun x => (attrF sc x).1).Pairwise (· ≠ ·)
  | [], out, r => by simp [attrL]
  | x :: l, out, r => by
    unfold attrL
    by_cases h0 : (resB sc x.1 true).2 = 0
    · rw [if_pos h0]
      cases ha : out.any (fun y => eqP y.1 (resB sc x.1 true).1)
      · rw [if_neg (by decide), attrL_ok_iff sc l]
        have hn : ∀ y ∈ out, y.1 ≠ (attrF sc x).1 := by
          intro y hy e
          have : out.any (fun y => eqP y.1 (resB sc x.1 true).1) = true := List.any_eq_true.2 ⟨y, hy, (eqP_iff _ _).2 e⟩
          rw [ha] at this; cases this
        constructor
        · rintro ⟨a, b, c, d⟩
          refine ⟨?_, by rw [← b]; simp [attrF], ?_, ?_⟩
          · intro z hz
            rcases List.mem_cons.1 hz with rfl | hz
            · exact h0
            · exact a z hz
          · intro z hz y hy
            rcases List.mem_cons.1 hz with rfl | hz
            · exact hn y hy
            · exact c z hz y (by simp [hy])
          · rw [List.map_cons, List.pairwise_cons]
            refine ⟨fun n hnm => ?_, d⟩
            obtain ⟨z, hz, rfl⟩ := List.mem_map.1 hnm
            exact c z hz (attrF sc x) (by simp [attrF])
        · rintro ⟨a, b, c, d⟩
          rw [List.map_cons, List.pairwise_cons] at d
          refine ⟨fun z hz => a z (by simp [hz]), by rw [← b]; simp [attrF], ?_, d.2⟩
          intro z hz y hy
          rcases List.mem_append.1 hy with hy | hy
          · exact c z (by simp [hz]) y hy
          · rw [List.mem_singleton.1 hy]
            exact d.1 _ (List.mem_map.2 ⟨z, hz, rfl⟩)
      · rw [if_pos rfl]
        obtain ⟨y, hy, e⟩ := List.any_eq_true.1 ha
        constructor
        · intro h; cases h
        · rintro ⟨_, _, c, _⟩
          exact absurd ((eqP_iff _ _).1 e) (c x (by simp) y hy)
    · rw [if_neg h0]
      constructor
      · intro h; cases h
      · rintro ⟨a, _⟩
        exact absurd (a x (by simp)) h0
end Wb
