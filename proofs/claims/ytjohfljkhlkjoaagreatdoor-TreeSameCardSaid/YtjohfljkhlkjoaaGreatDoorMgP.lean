import Derived.Test.YtjohfljkhlkjoaaGreatDoorMgM
import Derived.Test.YtjohfljkhlkjoaaGreatDoorMgX
import Derived.Laws.Strings
import Derived.Laws.Externs
namespace Wb
open Go Go.RowKit
inductive Nd where
  | mk (kind : Int) (name : Pr) (attrs : List Tr) (kids : List Nd) (text : ByteArray)
namespace Nd
def kind : Nd → Int | mk k _ _ _ _ => k
def name : Nd → Pr | mk _ n _ _ _ => n
def attrs : Nd → List Tr | mk _ _ a _ _ => a
def kids : Nd → List Nd | mk _ _ _ k _ => k
def text : Nd → ByteArray | mk _ _ _ _ t => t
end Nd
theorem Nd.induct {P : Nd → Prop} (h : ∀ n : Nd, (∀ k ∈ n.kids, P k) → P n) (n : Nd) : P n :=
  Nd.rec (motive_1 := P) (motive_2 := fun ks => ∀ k ∈ ks, P k) (fun kind name attrs kids text ih => h (.mk kind name attrs kids text) ih)
    (fun k hk => by cases hk) (fun n ns h1 h2 k hk => by rcases List.mem_cons.1 hk with rfl | hk; · exact h1
                                                         · exact h2 k hk) n
def ndCells (k : Int) (n : Pr) (A : Option Addr) (la ca : Nat) (K : Option Addr) (lk ck : Nat) (t : ByteArray) : List Value :=
  [.int .i64 k, .string n.1, .string n.2, .slice A la ca, .slice K lk ck, .string t]
mutual
/-- These cells hold a node, with all that is in it. -/
def nodeC (w : World) : Nd → List Value → Prop
  | .mk k n as ks t, cs => ∃ A ca K ck, cs = ndCells k n A as.length ca K ks.length ck t ∧ Sl3 w A as ∧ (ks = [] ∨ ∃ ad, K = some ad ∧ ad.block < w.heap.size ∧ kidsC w ad 0 ks)
/-- From the i-th place of a row of nodes on. -/
def kidsC (w : World) (ad : Addr) : Nat → List Nd → Prop
  | _, [] => True
  | i, n :: ns => (∃ cs, (∀ j u, cs[j]? = some u → w.cell? (ad.add (i * 6 + j)) = some u) ∧ nodeC w n cs) ∧ kidsC w ad (i + 1) ns
end
theorem nodeC_iff (w : World) (n : Nd) (cs : List Value) : nodeC w n cs ↔ ∃ A ca K ck, cs = ndCells n.kind n.name A n.attrs.length ca K n.kids.length ck n.text ∧ Sl3 w A n.attrs ∧ (n.kids = [] ∨ ∃ ad, K = some ad ∧ ad.block < w.heap.size ∧ kidsC w ad 0 n.kids) := by
  cases n with
  | mk k n as ks t => simp only [nodeC, Nd.kind, Nd.name, Nd.attrs, Nd.kids, Nd.text]
theorem nodeC_len {w : World} {n : Nd} {cs : List Value} (h : nodeC w n cs) : cs.length = 6 := by
  obtain ⟨A, ca, K, ck, rfl, _⟩ := (nodeC_iff w n cs).1 h
  rfl
theorem kidsC_iff (w : World) (ad : Addr) : ∀ (ks : List Nd) (i : Nat), kidsC w ad i ks ↔ ∀ (k : Nat) (n : Nd), ks[k]? = some n → ∃ cs, (∀ j u, cs[j]? = some u → w.cell? (ad.add ((i + k) * 6 + j)) = some u) ∧ nodeC w n cs
  | [], i => by simp [kidsC]
  | n :: ns, i => by
    simp only [kidsC]
    rw [kidsC_iff w ad ns (i + 1)]
    constructor
    · rintro ⟨h1, h2⟩ k m hk
      cases k with
      | zero =>
        simp only [List.getElem?_cons_zero, Option.some.injEq] at hk
        subst hk
        exact h1
      | succ k =>
        have := h2 k m (by simpa using hk)
        rwa [show i + 1 + k = i + (k + 1) from by omega] at this
    · intro h
      refine ⟨h 0 n rfl, fun k m hk => ?_⟩
      have := h (k + 1) m (by simpa using hk)
      rwa [show i + (k + 1) = i + 1 + k from by omega] at this
theorem nodeC_keep {w w' : World} (hs : w.heap.size ≤ w'.heap.size) (hc : ∀ p : Addr, p.block < w.heap.size → w'.cell? p = w.cell? p) : ∀ (n : Nd) (cs : List Value), nodeC w n cs → nodeC w' n cs := by
  intro n
  induction n using Nd.induct with
  | h n ih =>
    intro cs h
    obtain ⟨A, ca, K, ck, e, h1, h2⟩ := (nodeC_iff w n cs).1 h
    refine (nodeC_iff w' n cs).2 ⟨A, ca, K, ck, e, h1.keep hs hc, ?_⟩
    rcases h2 with h2 | ⟨ad, rfl, hb, hk⟩
    · exact .inl h2
    · refine .inr ⟨ad, rfl, by omega, (kidsC_iff w' ad _ 0).2 fun k m hm => ?_⟩
      obtain ⟨cs', h3, h4⟩ := (kidsC_iff w ad _ 0).1 hk k m hm
      exact ⟨cs', fun j u hu => (hc _ (by rw [add_block]; exact hb)).trans (h3 j u hu), ih m (List.mem_of_getElem? hm) cs' h4⟩
theorem nodeC_below {w w' : World} {n : Nd} {cs : List Value} (h : nodeC w n cs) (hb : Below w.heap.size w w') : nodeC w' n cs :=
  nodeC_keep hb.size (fun _ hp => hb.cell hp) n cs h
def SlN (w : World) (K : Option Addr) (ks : List Nd) : Prop := ks = [] ∨ ∃ ad, K = some ad ∧ ad.block < w.heap.size ∧ kidsC w ad 0 ks
theorem SlN.below {w w' : World} {K : Option Addr} {ks : List Nd} (h : SlN w K ks) (hb : Below w.heap.size w w') : SlN w' K ks := by
  rcases h with h | ⟨ad, rfl, h1, h2⟩
  · exact .inl h
  · refine .inr ⟨ad, rfl, Nat.lt_of_lt_of_le h1 hb.size, (kidsC_iff w' ad _ 0).2 fun k m hm => ?_⟩
    obtain ⟨cs', h3, h4⟩ := (kidsC_iff w ad _ 0).1 h2 k m hm
    exact ⟨cs', fun j u hu => (hb.cell (by rw [add_block]; exact h1)).trans (h3 j u hu), nodeC_below h4 hb⟩
theorem SlN.at_ {w : World} {K : Option Addr} {ks : List Nd} (h : SlN w K ks) {k : Nat} {n : Nd} (hk : ks[k]? = some n) :
    ∃ ad A ca Q cq, K = some ad ∧ ad.block < w.heap.size ∧ w.cell? (ad.add (k * 6)) = some (.int .i64 n.kind) ∧ w.cell? ⟨(ad.add (k * 6)).block, (ad.add (k * 6)).off + 1, none⟩ = some (.string n.name.1) ∧
      w.cell? ⟨(ad.add (k * 6)).block, (ad.add (k * 6)).off + 2, none⟩ = some (.string n.name.2) ∧ w.cell? ⟨(ad.add (k * 6)).block, (ad.add (k * 6)).off + 3, none⟩ = some (.slice A n.attrs.length ca) ∧
      w.cell? ⟨(ad.add (k * 6)).block, (ad.add (k * 6)).off + 4, none⟩ = some (.slice Q n.kids.length cq) ∧ w.cell? ⟨(ad.add (k * 6)).block, (ad.add (k * 6)).off + 5, none⟩ = some (.string n.text) ∧ Sl3 w A n.attrs ∧ SlN w Q n.kids := by
  rcases h with h | ⟨ad, rfl, h1, h2⟩
  · subst h; cases hk
  · obtain ⟨cs, h3, h4⟩ := (kidsC_iff w ad _ 0).1 h2 k n hk
    rw [Nat.zero_add] at h3
    obtain ⟨A, ca, Q, cq, rfl, h5, h6⟩ := (nodeC_iff w n cs).1 h4
    refine ⟨ad, A, ca, Q, cq, rfl, h1, h3 0 _ rfl, ?_, ?_, ?_, ?_, ?_, h5, h6⟩
    · rw [← add_succ _ _ 1 (by omega)]; exact h3 1 _ rfl
    · rw [← add_succ _ _ 2 (by omega)]; exact h3 2 _ rfl
    · rw [← add_succ _ _ 3 (by omega)]; exact h3 3 _ rfl
    · rw [← add_succ _ _ 4 (by omega)]; exact h3 4 _ rfl
    · rw [← add_succ _ _ 5 (by omega)]; exact h3 5 _ rfl
def NodeV (w : World) (n : Nd) (A : Option Addr) (K : Option Addr) : Prop := Sl3 w A n.attrs ∧ SlN w K n.kids
def ndV (n : Nd) (A : Option Addr) (ca : Nat) (K : Option Addr) (ck : Nat) : Value := .agg (ndCells n.kind n.name A n.attrs.length ca K n.kids.length ck n.text).toArray
theorem NodeV.below {w w' : World} {n : Nd} {A K : Option Addr} (h : NodeV w n A K) (hb : Below w.heap.size w w') : NodeV w' n A K := ⟨h.1.below hb, h.2.below hb⟩
theorem nodeC_V (w : World) (n : Nd) (cs : List Value) : nodeC w n cs ↔ ∃ A ca K ck, cs = ndCells n.kind n.name A n.attrs.length ca K n.kids.length ck n.text ∧ NodeV w n A K := nodeC_iff w n cs
end Wb

namespace Wb
def attrS (t : Tr) : Nat := t.1.1.size + t.1.2.size + t.2.size
def attrsS (l : List Tr) : Nat := (l.map attrS).sum
def attrW (m : Nat) (t : Tr) : Nat := min t.1.1.size m + min t.1.2.size m + min t.2.size m
def weighAs (m : Nat) : Nat → List Tr → Nat
  | w, [] => w
  | w, a :: as => if w ≤ m then weighAs m (w + attrW m a) as else w
def headW (m : Nat) (n : Nd) : Nat := 1 + min n.text.size m + min n.name.1.size m + min n.name.2.size m + min n.attrs.length m
mutual
/-- How much a tree is, as far as a number. -/
def weighN : Nd → Nat → Nat
  | .mk _ n as ks t, m => weighKs ks m (weighAs m (1 + min t.size m + min n.1.size m + min n.2.size m + min as.length m) as)
def weighKs : List Nd → Nat → Nat → Nat
  | [], _, w => w
  | k :: ks, m, w => if w ≤ m then weighKs ks m (w + weighN k (m - w)) else w
end
theorem weighN_is (n : Nd) (m : Nat) : weighN n m = weighKs n.kids m (weighAs m (headW m n) n.attrs) := by
  cases n; rfl
theorem weighAs_le (m : Nat) : ∀ (as : List Tr) (w : Nat), w ≤ weighAs m w as ∧ (w ≤ 4 * m + 1 → weighAs m w as ≤ 4 * m + 1)
  | [], w => by simp [weighAs]
  | a :: as, w => by
    unfold weighAs
    by_cases h : w ≤ m
    · rw [if_pos h]
      have ha : attrW m a ≤ 3 * m := by unfold attrW; omega
      obtain ⟨h1, h2⟩ := weighAs_le m as (w + attrW m a)
      exact ⟨by omega, fun _ => h2 (by omega)⟩
    · rw [if_neg h]
      exact ⟨Nat.le_refl _, fun h => h⟩
theorem headW_le (m : Nat) (n : Nd) : headW m n ≤ 4 * m + 1 := by unfold headW; omega
theorem weighKs_ge : ∀ (ks : List Nd) (m w : Nat), w ≤ weighKs ks m w
  | [], m, w => by simp [weighKs]
  | k :: ks, m, w => by
    unfold weighKs
    split
    · have := weighKs_ge ks m (w + weighN k (m - w)); omega
    · exact Nat.le_refl _
theorem weigh_bound (n : Nd) : ∀ m, weighN n m ≤ 5 * m + 1 := by
  induction n using Nd.induct with
  | h n ih =>
    intro m
    have ks : ∀ (ks : List Nd), (∀ k ∈ ks, ∀ m, weighN k m ≤ 5 * m + 1) → ∀ w, w ≤ 5 * m + 1 → weighKs ks m w ≤ 5 * m + 1 := by
      intro ks
      induction ks with
      | nil => intro _ w hw; simpa [weighKs] using hw
      | cons k ks ihk =>
        intro hk w hw
        unfold weighKs
        split
        · have := hk k (by simp) (m - w)
          exact ihk (fun x hx => hk x (by simp [hx])) _ (by omega)
        · exact hw
    rw [weighN_is]
    have h1 := headW_le m n
    have h2 := (weighAs_le m n.attrs (headW m n)).2 h1
    exact ks _ ih _ (by omega)
def ownB (n : Nd) : Nat := if n.kind = 1 then n.name.1.size + n.name.2.size + attrsS n.attrs else n.text.size
mutual
def costN : Nd → Nat
  | .mk _ _ _ ks _ => 1 + costNs ks
def costNs : List Nd → Nat
  | [] => 0
  | k :: ks => costN k + costNs ks
end
mutual
def costB : Nd → Nat
  | .mk k n as ks t => ownB (.mk k n as [] t) + costBs ks
def costBs : List Nd → Nat
  | [] => 0
  | k :: ks => costB k + costBs ks
end
theorem costN_is (n : Nd) : costN n = 1 + costNs n.kids := by cases n; rfl
theorem costB_is (n : Nd) : costB n = ownB n + costBs n.kids := by cases n; rfl
theorem costN_pos (n : Nd) : 1 ≤ costN n := by rw [costN_is]; omega
theorem attrs_few {m : Nat} : ∀ (as : List Tr) (w : Nat), 1 ≤ w → weighAs m w as ≤ m → w + attrsS as ≤ weighAs m w as
  | [], w, _, h => by simp [weighAs, attrsS]
  | a :: as, w, h0, h => by
    unfold weighAs at h ⊢
    by_cases hw : w ≤ m
    · rw [if_pos hw] at h ⊢
      have h1 := (weighAs_le m as (w + attrW m a)).1
      have h2 := attrs_few as _ (by omega) h
      have h3 : attrW m a < m := by omega
      have h4 : attrS a ≤ attrW m a := by
        have : min a.1.1.size m + min a.1.2.size m + min a.2.size m < m := h3
        show a.1.1.size + a.1.2.size + a.2.size ≤ min a.1.1.size m + min a.1.2.size m + min a.2.size m
        omega
      have e : attrsS (a :: as) = attrS a + attrsS as := by simp [attrsS]
      omega
    · rw [if_neg hw] at h
      omega
theorem few_cost (n : Nd) : ∀ m, weighN n m ≤ m → costN n + costB n + n.kids.length ≤ 2 * weighN n m ∧ costN n + costB n ≤ weighN n m ∧ n.attrs.length ≤ m ∧ n.kids.length ≤ m := by
  induction n using Nd.induct with
  | h n ih =>
    intro m hm
    rw [weighN_is] at hm ⊢
    have key : ∀ (ks : List Nd), (∀ k ∈ ks, ∀ m, weighN k m ≤ m → costN k + costB k ≤ weighN k m) → ∀ w, weighKs ks m w ≤ m → w + costNs ks + costBs ks ≤ weighKs ks m w ∧ ks.length ≤ costNs ks := by
      intro ks
      induction ks with
      | nil => intro _ w _; simp [weighKs, costNs, costBs]
      | cons k ks ihk =>
        intro hk w h
        unfold weighKs at h ⊢
        by_cases hw : w ≤ m
        · rw [if_pos hw] at h ⊢
          have h1 := weighKs_ge ks m (w + weighN k (m - w))
          have h2 := hk k (by simp) (m - w) (by omega)
          obtain ⟨h3, h4⟩ := ihk (fun x hx => hk x (by simp [hx])) _ h
          have h5 := costN_pos k
          simp only [costNs, costBs, List.length_cons]
          omega
        · rw [if_neg hw] at h
          omega
    obtain ⟨h1, h2⟩ := key n.kids (fun k hk m h => (ih k hk m h).2.1) _ hm
    have h3 := weighKs_ge n.kids m (weighAs m (headW m n) n.attrs)
    have h4 := attrs_few (m := m) n.attrs (headW m n) (by unfold headW; omega) (by omega)
    have h5 : headW m n ≤ m := by omega
    have h6 : 1 + n.text.size + n.name.1.size + n.name.2.size + n.attrs.length ≤ headW m n := by unfold headW at h5 ⊢; omega
    have h7 : ownB n ≤ n.text.size + n.name.1.size + n.name.2.size + attrsS n.attrs := by unfold ownB; split <;> omega
    rw [costN_is, costB_is]
    omega
theorem costs_app (a b : List Nd) : costNs (a ++ b) = costNs a + costNs b ∧ costBs (a ++ b) = costBs a + costBs b := by
  induction a with
  | nil => simp [costNs, costBs]
  | cons k a ih =>
    rw [List.cons_append]
    simp only [costNs, costBs]
    omega
mutual
/-- No row in it is longer than so many. -/
def lenN (B : Nat) : Nd → Prop
  | .mk _ _ as ks _ => as.length ≤ B ∧ ks.length ≤ B ∧ lenKs B ks
def lenKs (B : Nat) : List Nd → Prop
  | [] => True
  | k :: ks => lenN B k ∧ lenKs B ks
end
abbrev smallN (n : Nd) : Prop := lenN 1000000 n
theorem lenN_is (B : Nat) (n : Nd) : lenN B n ↔ n.attrs.length ≤ B ∧ n.kids.length ≤ B ∧ ∀ k ∈ n.kids, lenN B k := by
  have key : ∀ ks : List Nd, lenKs B ks ↔ ∀ k ∈ ks, lenN B k := by
    intro ks
    induction ks with
    | nil => simp [lenKs]
    | cons k ks ih => simp [lenKs, ih]
  cases n with
  | mk k nm as ks t =>
    simp only [lenN, Nd.attrs, Nd.kids]
    rw [key]
theorem smallN_is (n : Nd) : smallN n ↔ n.attrs.length ≤ 1000000 ∧ n.kids.length ≤ 1000000 ∧ ∀ k ∈ n.kids, smallN k := lenN_is 1000000 n
theorem few_small (n : Nd) : ∀ m, m ≤ 1000000 → weighN n m ≤ m → smallN n := by
  induction n using Nd.induct with
  | h n ih =>
    intro m hm h
    obtain ⟨_, _, h1, h2⟩ := few_cost n m h
    rw [weighN_is] at h
    have key : ∀ (ks : List Nd), (∀ k ∈ ks, ∀ m, m ≤ 1000000 → weighN k m ≤ m → smallN k) → ∀ w, weighKs ks m w ≤ m → ∀ k ∈ ks, smallN k := by
      intro ks
      induction ks with
      | nil => intro _ w _ k hk; cases hk
      | cons k ks ihk =>
        intro hk w h x hx
        unfold weighKs at h
        by_cases hw : w ≤ m
        · rw [if_pos hw] at h
          have h1 := weighKs_ge ks m (w + weighN k (m - w))
          rcases List.mem_cons.1 hx with rfl | hx
          · exact hk x (by simp) (m - w) (by omega) (by omega)
          · exact ihk (fun y hy => hk y (by simp [hy])) _ h x hx
        · rw [if_neg hw] at h
          omega
    exact (smallN_is n).2 ⟨by omega, by omega, key n.kids ih _ h⟩
theorem costs_take {ks : List Nd} {k : Nat} {x : Nd} (h : ks[k]? = some x) : costNs (ks.take (k + 1)) = costNs (ks.take k) + costN x ∧ costBs (ks.take (k + 1)) = costBs (ks.take k) + costB x := by
  rw [List.take_add_one, h]
  have := costs_app (ks.take k) [x]
  simp only [costNs, costBs, Nat.add_zero] at this
  exact this
theorem costs_le (ks : List Nd) (k : Nat) : costNs (ks.take k) ≤ costNs ks ∧ costBs (ks.take k) ≤ costBs ks := by
  have := costs_app (ks.take k) (ks.drop k)
  rw [List.take_append_drop] at this
  omega
end Wb

namespace Wb
open Go
def eqT (a b : ByteArray) : Bool := a.toList == b.toList
theorem eqT_iff (a b : ByteArray) : eqT a b = true ↔ a = b := by
  unfold eqT
  rw [ByteArray.toList_eq, ByteArray.toList_eq, beq_iff_eq]
  constructor
  · intro h
    cases a; cases b
    simp only at h
    rw [Array.toList_inj.1 h]
  · rintro rfl; rfl
theorem eqT_dec (a b : ByteArray) : eqT a b = decide (a = b) := by
  rw [Bool.eq_iff_iff, eqT_iff]; simp
theorem eqT_self (a : ByteArray) : eqT a a = true := (eqT_iff _ _).2 rfl
theorem eqT_false {a b : ByteArray} : eqT a b = false ↔ a ≠ b := by rw [eqT_dec]; simp
theorem toList_nil_iff (a : ByteArray) : a.toList = [] ↔ a = ⟨#[]⟩ := by
  rw [ByteArray.toList_eq]
  constructor
  · intro h; cases a; simp only at h; rw [Array.toList_eq_nil_iff.1 h]
  · rintro rfl; rfl
def sE : ByteArray := ⟨#[]⟩
def sXmlns : ByteArray := ⟨#[120, 109, 108, 110, 115]⟩
def sXmlQ : ByteArray := ⟨#[120, 109, 108]⟩
def sXML : ByteArray := ⟨#[104, 116, 116, 112, 58, 47, 47, 119, 119, 119, 46, 119, 51, 46, 111, 114, 103, 47, 88, 77, 76, 47, 49, 57, 57, 56, 47, 110, 97, 109, 101, 115, 112, 97, 99, 101]⟩
def sXMLNS : ByteArray := ⟨#[104, 116, 116, 112, 58, 47, 47, 119, 119, 119, 46, 119, 51, 46, 111, 114, 103, 47, 50, 48, 48, 48, 47, 120, 109, 108, 110, 115, 47]⟩
theorem empty_eq (p : ByteArray) : p.toList.isEmpty = eqT p sE := by
  unfold eqT
  rw [(toList_nil_iff sE).2 rfl]
  cases p.toList <;> rfl
def bindB (p s : ByteArray) : Int :=
  if !(eqT p sE) && !(nameB p.data.toList) then 12
  else if eqT p sXmlns || (eqT p sXmlQ && !(eqT s sXML)) || (!(eqT p sXmlQ) && (eqT s sXML || eqT s sXMLNS)) || (!(eqT p sE) && eqT s sE) then 13 else 0
theorem sXML_ne : sXML ≠ sXMLNS := by decide
def lastB : List Pr → ByteArray → Option ByteArray
  | [], _ => none
  | x :: l, p => match lastB l p with
    | some s => some s
    | none => if eqT x.1 p then some x.2 else none
theorem lastB_snoc (l : List Pr) (x : Pr) (p : ByteArray) : lastB (l ++ [x]) p = if eqT x.1 p then some x.2 else lastB l p := by
  induction l with
  | nil => simp [lastB]
  | cons y l ih =>
    simp only [List.cons_append, lastB, ih]
    by_cases h : eqT x.1 p = true <;> simp [h]
theorem take_snoc {α : Type} (l : List α) (k : Nat) (x : α) (h : l[k]? = some x) : l.take (k + 1) = l.take k ++ [x] := by
  rw [List.take_add_one, h]; rfl
theorem lastB_step {l : List Pr} {k : Nat} {x : Pr} (h : l[k]? = some x) (p : ByteArray) : lastB (l.take (k + 1)) p = if eqT x.1 p then some x.2 else lastB (l.take k) p := by
  rw [take_snoc l k x h, lastB_snoc]
theorem lastB_hit {l : List Pr} {k : Nat} {x : Pr} (h : l[k]? = some x) {p : ByteArray} (hp : (x.1.toList == p.toList) = true) : lastB (l.take (k + 1)) p = some x.2 := by
  rw [lastB_step h, show eqT x.1 p = true from hp]; rfl
theorem lastB_miss {l : List Pr} {k : Nat} {x : Pr} (h : l[k]? = some x) {p : ByteArray} (hp : (x.1.toList == p.toList) = false) : lastB (l.take (k + 1)) p = lastB (l.take k) p := by
  rw [lastB_step h, show eqT x.1 p = false from hp]; rfl
def findB (l : List Pr) (p : ByteArray) : ByteArray × Bool :=
  if eqT p sXmlQ then (sXML, true) else match lastB l p with
    | some s => (s, true)
    | none => (sE, eqT p sE)
theorem findB_xml {l : List Pr} {p : ByteArray} (h : eqT p sXmlQ = true) : findB l p = (sXML, true) := by unfold findB; rw [h]; rfl
theorem findB_some {l : List Pr} {p s : ByteArray} (h : eqT p sXmlQ = false) (hl : lastB l p = some s) : findB l p = (s, true) := by unfold findB; rw [h, hl]; rfl
theorem findB_none {l : List Pr} {p : ByteArray} (h : eqT p sXmlQ = false) (hl : lastB l p = none) : findB l p = (sE, eqT p sE) := by unfold findB; rw [h, hl]; rfl
def cIx (q : ByteArray) : Option Nat := (List.range q.size).find? fun i => q[i]! == 58
theorem firstIdx_c' (s : ByteArray) : firstIdx s 58 = match cIx s with | some k => (k : Int) | none => -1 := rfl
theorem cIx_some (q : ByteArray) (k : Nat) : cIx q = some k ↔ k < q.size ∧ q[k]! = 58 ∧ ∀ i, i < k → q[i]! ≠ 58 := by
  unfold cIx
  rw [List.find?_range_eq_some]
  simp only [beq_iff_eq, List.mem_range, Bool.not_eq_eq_eq_not, Bool.not_true, beq_eq_false_iff_ne, ne_eq]
  constructor
  · rintro ⟨a, b, c⟩; exact ⟨b, a, c⟩
  · rintro ⟨a, b, c⟩; exact ⟨b, a, c⟩
def splitB (q : ByteArray) : ByteArray × ByteArray × Bool :=
  match cIx q with
  | none => if nameB q.data.toList then (sE, q, true) else (sE, sE, false)
  | some k => if nameB (q.extract 0 k).data.toList && nameB (q.extract (k + 1) q.size).data.toList then (q.extract 0 k, q.extract (k + 1) q.size, true) else (sE, sE, false)
def resB (l : List Pr) (q : ByteArray) (attr : Bool) : Pr × Int :=
  if !(splitB q).2.2 then ((sE, sE), 12)
  else if attr && eqT (splitB q).1 sE then ((sE, (splitB q).2.1), 0)
  else if !(findB l (splitB q).1).2 || eqT (splitB q).1 sXmlns then ((sE, sE), 13)
  else (((findB l (splitB q).1).1, (splitB q).2.1), 0)
theorem resB_bad {l : List Pr} {q p lo : ByteArray} (attr : Bool) (h : splitB q = (p, lo, false)) : resB l q attr = ((sE, sE), 12) := by
  unfold resB; rw [h]; rfl
theorem resB_bare {l : List Pr} {q p lo : ByteArray} (h : splitB q = (p, lo, true)) (h1 : eqT p sE = true) : resB l q true = ((sE, lo), 0) := by
  unfold resB; rw [h]; simp only [h1]; rfl
theorem resB_full {l : List Pr} {q p lo s : ByteArray} {fo b1 attr : Bool} (h : splitB q = (p, lo, true)) (h1 : (attr && eqT p sE) = false) (hf : findB l p = (s, fo)) (hb : eqT p sXmlns = b1) :
    resB l q attr = if !fo || b1 then ((sE, sE), 13) else ((s, lo), 0) := by
  unfold resB; rw [h]; simp only [h1, hf, hb]; rfl
theorem res_end {n1 n2 a b : ByteArray} {er c : Int} {r : Pr × Int} (h : r = ((n1, n2), er)) (h' : r = ((a, b), c)) : n1 = a ∧ n2 = b ∧ er = c := by
  rw [h] at h'; simp only [Prod.mk.injEq] at h'; exact ⟨h'.1.1, h'.1.2, h'.2⟩
def sXmlnsC : List UInt8 := [120, 109, 108, 110, 115, 58]
def preB (n : ByteArray) : Bool := decide (6 ≤ n.size) && ((n.extract 0 6).toList == sXmlnsC)
theorem preB_short {n : ByteArray} (h : ¬ 6 ≤ n.size) : preB n = false := by unfold preB; rw [decide_eq_false h]; rfl
theorem preB_long {n : ByteArray} {b : Bool} (h : 6 ≤ n.size) (hb : ((n.extract 0 6).toList == sXmlnsC) = b) : preB n = b := by unfold preB; rw [decide_eq_true h, hb]; rfl
theorem preB_size {n : ByteArray} (h : preB n = true) : 6 ≤ n.size := by
  unfold preB at h; simp at h; exact h.1
def declB (n : ByteArray) : ByteArray × Bool :=
  if eqT n sXmlns then (sE, true) else if preB n then (n.extract 6 n.size, true) else (sE, false)
theorem declB_1 {n : ByteArray} (h : eqT n sXmlns = true) : declB n = (sE, true) := by unfold declB; rw [h]; rfl
theorem declB_2 {n : ByteArray} (h : eqT n sXmlns = false) (h2 : preB n = true) : declB n = (n.extract 6 n.size, true) := by unfold declB; rw [h, h2]; rfl
theorem declB_3 {n : ByteArray} (h : eqT n sXmlns = false) (h2 : preB n = false) : declB n = (sE, false) := by unfold declB; rw [h, h2]; rfl
def declE (n : ByteArray) : ByteArray × Bool × Int :=
  if eqT n sXmlns then (sE, true, 0) else if preB n then (if nameB (n.extract 6 n.size).data.toList then (n.extract 6 n.size, true, 0) else (sE, true, 12)) else (sE, false, 0)
theorem declE_1 {n : ByteArray} (h : eqT n sXmlns = true) : declE n = (sE, true, 0) := by unfold declE; rw [h]; rfl
theorem declE_2 {n : ByteArray} (h : eqT n sXmlns = false) (h2 : preB n = true) (h3 : nameB (n.extract 6 n.size).data.toList = true) : declE n = (n.extract 6 n.size, true, 0) := by unfold declE; rw [h, h2, h3]; rfl
theorem declE_3 {n : ByteArray} (h : eqT n sXmlns = false) (h2 : preB n = true) (h3 : nameB (n.extract 6 n.size).data.toList = false) : declE n = (sE, true, 12) := by unfold declE; rw [h, h2, h3]; rfl
theorem declE_4 {n : ByteArray} (h : eqT n sXmlns = false) (h2 : preB n = false) : declE n = (sE, false, 0) := by unfold declE; rw [h, h2]; rfl
def declL : List Pr → List ByteArray → List Pr → List Pr → Except Int (List Pr × List Pr)
  | [], _, binds, rest => .ok (binds, rest)
  | x :: l, seen, binds, rest =>
    if (declB x.1).2 then
      if !(eqT x.1 sXmlns) && !(nameB (declB x.1).1.data.toList) then .error 12
      else if seen.any (fun y => eqT y (declB x.1).1) then .error 14
      else if bindB (declB x.1).1 x.2 = 0 then declL l (seen ++ [(declB x.1).1]) (binds ++ [((declB x.1).1, x.2)]) rest
      else .error (bindB (declB x.1).1 x.2)
    else declL l seen binds (rest ++ [x])
def eqP (a b : Pr) : Bool := eqT a.1 b.1 && eqT a.2 b.2
theorem eqP_iff (a b : Pr) : eqP a b = true ↔ a = b := by
  unfold eqP
  rw [Bool.and_eq_true, eqT_iff, eqT_iff]
  constructor
  · rintro ⟨h1, h2⟩; exact Prod.ext h1 h2
  · rintro rfl; exact ⟨rfl, rfl⟩
def attrL (sc : List Pr) : List Pr → List Tr → Except Int (List Tr)
  | [], out => .ok out
  | x :: l, out =>
    if (resB sc x.1 true).2 = 0 then
      if out.any (fun y => eqP y.1 (resB sc x.1 true).1) then .error 14
      else attrL sc l (out ++ [((resB sc x.1 true).1, x.2)])
    else .error (resB sc x.1 true).2
theorem declE_spec (n : ByteArray) :
    (declE n = (sE, false, 0) ∧ (declB n).2 = false) ∨
    (declE n = (sE, true, 12) ∧ (declB n).2 = true ∧ (!(eqT n sXmlns) && !(nameB (declB n).1.data.toList)) = true) ∨
    (∃ p, declE n = (p, true, 0) ∧ declB n = (p, true) ∧ (!(eqT n sXmlns) && !(nameB p.data.toList)) = false) := by
  cases h1 : eqT n sXmlns
  · cases h2 : preB n
    · left; exact ⟨declE_4 h1 h2, by rw [declB_3 h1 h2]⟩
    · cases h3 : nameB (n.extract 6 n.size).data.toList
      · right; left
        refine ⟨declE_3 h1 h2 h3, by rw [declB_2 h1 h2], ?_⟩
        rw [declB_2 h1 h2]; simp only [h3]; rfl
      · right; right
        exact ⟨_, declE_2 h1 h2 h3, declB_2 h1 h2, by rw [h3]; rfl⟩
  · right; right
    exact ⟨_, declE_1 h1, declB_1 h1, rfl⟩
theorem drop_at {α : Type} {l : List α} {k : Nat} {x : α} (h : l[k]? = some x) : l.drop k = x :: l.drop (k + 1) := by
  obtain ⟨hk, e⟩ := List.getElem?_eq_some_iff.1 h
  rw [List.drop_eq_getElem_cons hk, e]
theorem declL_end {l : List Pr} {k : Nat} {seen : List ByteArray} {binds rest : List Pr} (h : l.length ≤ k) : declL (l.drop k) seen binds rest = .ok (binds, rest) := by
  rw [List.drop_eq_nil_of_le h]; rfl
theorem declL_rest {l : List Pr} {k : Nat} {x : Pr} {seen : List ByteArray} {binds rest : List Pr} (h : l[k]? = some x) (hd : (declB x.1).2 = false) :
    declL (l.drop k) seen binds rest = declL (l.drop (k + 1)) seen binds (rest ++ [x]) := by
  rw [drop_at h]; conv => lhs; unfold declL
  rw [hd]; rfl
theorem declL_12 {l : List Pr} {k : Nat} {x : Pr} {seen : List ByteArray} {binds rest : List Pr} (h : l[k]? = some x) (hd : (declB x.1).2 = true) (hn : (!(eqT x.1 sXmlns) && !(nameB (declB x.1).1.data.toList)) = true) :
    declL (l.drop k) seen binds rest = .error 12 := by
  rw [drop_at h]; unfold declL
  rw [if_pos hd, if_pos hn]
theorem declL_14 {l : List Pr} {k : Nat} {x : Pr} {p : ByteArray} {seen : List ByteArray} {binds rest : List Pr} (h : l[k]? = some x) (hd : declB x.1 = (p, true)) (hn : (!(eqT x.1 sXmlns) && !(nameB p.data.toList)) = false) (hs : seen.any (fun y => eqT y p) = true) :
    declL (l.drop k) seen binds rest = .error 14 := by
  rw [drop_at h]; unfold declL
  rw [hd]; simp only [if_true]
  rw [if_neg (by rw [hn]; decide), if_pos hs]
theorem declL_bind {l : List Pr} {k : Nat} {x : Pr} {p : ByteArray} {seen : List ByteArray} {binds rest : List Pr} (h : l[k]? = some x) (hd : declB x.1 = (p, true)) (hn : (!(eqT x.1 sXmlns) && !(nameB p.data.toList)) = false) (hs : seen.any (fun y => eqT y p) = false)
    {b : Int} (hb : bindB p x.2 = b) (h0 : b ≠ 0) : declL (l.drop k) seen binds rest = .error b := by
  rw [drop_at h]; unfold declL
  rw [hd]; simp only [if_true]
  rw [if_neg (by rw [hn]; decide), if_neg (by rw [hs]; decide), hb, if_neg h0]
theorem declL_step {l : List Pr} {k : Nat} {x : Pr} {p : ByteArray} {seen : List ByteArray} {binds rest : List Pr} (h : l[k]? = some x) (hd : declB x.1 = (p, true)) (hn : (!(eqT x.1 sXmlns) && !(nameB p.data.toList)) = false) (hs : seen.any (fun y => eqT y p) = false)
    (hb : bindB p x.2 = 0) : declL (l.drop k) seen binds rest = declL (l.drop (k + 1)) (seen ++ [p]) (binds ++ [(p, x.2)]) rest := by
  rw [drop_at h]; conv => lhs; unfold declL
  rw [hd]; simp only [if_true]
  rw [if_neg (by rw [hn]; decide), if_neg (by rw [hs]; decide), hb]; rfl
theorem declB_size {n : ByteArray} : (declB n).1.size ≤ n.size := by
  have h0 : sE.size = 0 := by decide
  unfold declB
  split
  · simp only; omega
  · split
    · simp only [ByteArray.size_extract]; omega
    · simp only; omega
theorem attrL_end {sc l : List Pr} {k : Nat} {out : List Tr} (h : l.length ≤ k) : attrL sc (l.drop k) out = .ok out := by
  rw [List.drop_eq_nil_of_le h]; rfl
theorem attrL_err {sc l : List Pr} {k : Nat} {x n : Pr} {er : Int} {out : List Tr} (h : l[k]? = some x) (hr : resB sc x.1 true = (n, er)) (h0 : er ≠ 0) : attrL sc (l.drop k) out = .error er := by
  rw [drop_at h]; unfold attrL; rw [hr]; simp only [if_neg h0]
theorem attrL_twice {sc l : List Pr} {k : Nat} {x n : Pr} {out : List Tr} (h : l[k]? = some x) (hr : resB sc x.1 true = (n, 0)) (h0 : (out.map (·.1)).any (fun y => eqP y n) = true) : attrL sc (l.drop k) out = .error 14 := by
  rw [drop_at h]; unfold attrL; rw [hr]
  rw [List.any_map] at h0
  simp only [if_true]
  rw [if_pos (by simpa using h0)]
theorem attrL_step {sc l : List Pr} {k : Nat} {x n : Pr} {out : List Tr} (h : l[k]? = some x) (hr : resB sc x.1 true = (n, 0)) (h0 : (out.map (·.1)).any (fun y => eqP y n) = false) : attrL sc (l.drop k) out = attrL sc (l.drop (k + 1)) (out ++ [(n, x.2)]) := by
  rw [drop_at h]; conv => lhs; unfold attrL
  rw [hr]
  rw [List.any_map] at h0
  simp only [if_true]
  rw [if_neg (by simpa using h0)]
theorem lastB_mem : ∀ {l : List Pr} {p s : ByteArray}, lastB l p = some s → ∃ x ∈ l, x.2 = s
  | [], _, _, h => by simp [lastB] at h
  | x :: l, p, s, h => by
    unfold lastB at h
    cases hl : lastB l p with
    | some t =>
      rw [hl] at h
      simp only [Option.some.injEq] at h
      subst h
      obtain ⟨y, hy, e⟩ := lastB_mem hl
      exact ⟨y, by simp [hy], e⟩
    | none =>
      rw [hl] at h
      cases hx : eqT x.1 p
      · rw [hx] at h; simp at h
      · rw [hx] at h
        simp only [if_true, Option.some.injEq] at h
        exact ⟨x, by simp, h⟩
theorem findB_size {l : List Pr} {p : ByteArray} {M : Nat} (hM : 64 ≤ M) (h : ∀ x ∈ l, x.2.size ≤ M) : (findB l p).1.size ≤ M := by
  unfold findB
  split
  · have : sXML.size = 36 := by decide
    simp only; omega
  · split
    · rename_i s hs
      obtain ⟨x, hx, e⟩ := lastB_mem hs
      rw [← e]; exact h x hx
    · have : sE.size = 0 := by decide
      simp only; omega
theorem splitB_size (q : ByteArray) : (splitB q).1.size ≤ q.size ∧ (splitB q).2.1.size ≤ q.size := by
  have h0 : sE.size = 0 := by decide
  unfold splitB
  split
  · split
    · simp only; omega
    · simp only; omega
  · split
    · simp only [ByteArray.size_extract]; omega
    · simp only; omega
theorem resB_size {l : List Pr} {q : ByteArray} {attr : Bool} {M : Nat} (hM : 64 ≤ M) (h : ∀ x ∈ l, x.2.size ≤ M) (hq : q.size ≤ M) : (resB l q attr).1.1.size ≤ M ∧ (resB l q attr).1.2.size ≤ M := by
  have h0 : sE.size = 0 := by decide
  have h1 := splitB_size q
  have h2 := findB_size (p := (splitB q).1) hM h
  unfold resB
  split
  · simp only; omega
  · split
    · simp only; omega
    · split
      · simp only; omega
      · simp only; omega
end Wb

namespace Wb
open Go
def sA : ByteArray := ⟨#[97]⟩
def attrF (sc : List Pr) (x : Pr) : Tr := ((resB sc x.1 true).1, x.2)
theorem attrL_ok_iff (sc : List Pr) : ∀ (l : List Pr) (out r : List Tr), attrL sc l out = .ok r ↔
    (∀ x ∈ l, (resB sc x.1 true).2 = 0) ∧ (out ++ l.map (attrF sc) = r) ∧ (∀ x ∈ l, ∀ y ∈ out, y.1 ≠ (attrF sc x).1) ∧ (l.map fun x => (attrF sc x).1).Pairwise (· ≠ ·)
  | [], out, r => by simp [attrL]
  | x :: l, out, r => by
    unfold attrL
    by_cases h0 : (resB sc x.1 true).2 = 0
    · rw [if_pos h0]
      cases ha : out.any (fun y => eqP y.1 (resB sc x.1 true).1)
      · rw [if_neg (by decide), attrL_ok_iff sc l]
        have hn : ∀ y ∈ out, y.1 ≠ (attrF sc x).1 := by
          intro y hy e
          have : out.any (fun y => eqP y.1 (resB sc x.1 true).1) = true := List.any_eq_true.2 ⟨y, hy, (eqP_iff _ _).2 e⟩
          rw [ha] at this; cases this
        constructor
        · rintro ⟨a, b, c, d⟩
          refine ⟨?_, by rw [← b]; simp [attrF], ?_, ?_⟩
          · intro z hz
            rcases List.mem_cons.1 hz with rfl | hz
            · exact h0
            · exact a z hz
          · intro z hz y hy
            rcases List.mem_cons.1 hz with rfl | hz
            · exact hn y hy
            · exact c z hz y (by simp [hy])
          · rw [List.map_cons, List.pairwise_cons]
            refine ⟨fun n hnm => ?_, d⟩
            obtain ⟨z, hz, rfl⟩ := List.mem_map.1 hnm
            exact c z hz (attrF sc x) (by simp [attrF])
        · rintro ⟨a, b, c, d⟩
          rw [List.map_cons, List.pairwise_cons] at d
          refine ⟨fun z hz => a z (by simp [hz]), by rw [← b]; simp [attrF], ?_, d.2⟩
          intro z hz y hy
          rcases List.mem_append.1 hy with hy | hy
          · exact c z (by simp [hz]) y hy
          · rw [List.mem_singleton.1 hy]
            exact d.1 _ (List.mem_map.2 ⟨z, hz, rfl⟩)
      · rw [if_pos rfl]
        obtain ⟨y, hy, e⟩ := List.any_eq_true.1 ha
        constructor
        · intro h; cases h
        · rintro ⟨_, _, c, _⟩
          exact absurd ((eqP_iff _ _).1 e) (c x (by simp) y hy)
    · rw [if_neg h0]
      constructor
      · intro h; cases h
      · rintro ⟨a, _⟩
        exact absurd (a x (by simp)) h0
end Wb

namespace Wb
structure TkV where
  kind : Int
  place : Int
  name : ByteArray
  attrs : List Pr
  text : ByteArray
structure El where
  word : ByteArray
  scope : List Pr
  name : Pr
  attrs : List Tr
  kids : List Nd
def El.node (e : El) : Nd := .mk 1 e.name e.attrs e.kids sE
def ndZ : Nd := .mk 0 (sE, sE) [] [] sE
structure Bd where
  opened : List El
  root : Nd
  nodes : Nat
def Bd.none_ : Bd := ⟨[], ndZ, 0⟩
def El.more (e : El) (k : Nd) : El := { e with kids := e.kids ++ [k] }
def closeX (b : Bd) : Bd :=
  match b.opened.getLast? with
  | none => b
  | some e => match b.opened.dropLast.getLast? with
    | none => { b with opened := [], root := e.node }
    | some f => { b with opened := b.opened.dropLast.dropLast ++ [f.more e.node] }
def begunX (sc : List Pr) (t : TkV) : Except Int El :=
  match declL t.attrs [] [] [] with
  | .error e => .error e
  | .ok (binds, rest) =>
    if 32 < rest.length then .error 3
    else if (resB (sc ++ binds) t.name false).2 ≠ 0 then .error (resB (sc ++ binds) t.name false).2
    else match attrL (sc ++ binds) rest [] with
      | .error e => .error e
      | .ok as => .ok ⟨t.name, sc ++ binds, (resB (sc ++ binds) t.name false).1, as, []⟩
def scopeX (b : Bd) : List Pr := match b.opened.getLast? with | none => [] | some e => e.scope
def startX (b : Bd) (t : TkV) : Except Int Bd :=
  if b.root.kind = 1 then .error 18
  else if b.opened.length = 24 then .error 19
  else if b.nodes = 2000 then .error 3
  else match begunX (scopeX b) t with
    | .error e => .error e
    | .ok e => .ok { b with opened := b.opened ++ [e], nodes := b.nodes + 1 }
def endX' (b : Bd) (word : ByteArray) : Except Int Bd :=
  match b.opened.getLast? with
  | none => .error 15
  | some e => if eqT e.word word then .ok (closeX b) else .error 15
def textKids (ks : List Nd) (s : ByteArray) : List Nd × Bool :=
  match ks.getLast? with
  | none => ([.mk 2 (sE, sE) [] [] s], true)
  | some k => if k.kind = 2 then (ks.dropLast ++ [.mk k.kind k.name k.attrs k.kids (k.text ++ s)], false) else (ks ++ [.mk 2 (sE, sE) [] [] s], true)
def textX' (b : Bd) (s : ByteArray) : Except Int Bd :=
  match b.opened.getLast? with
  | none => if trimL s.data.toList = [] then .ok b else .error 18
  | some e =>
    if eqT s sE then .ok b
    else if (textKids e.kids s).2 = false then .ok { b with opened := b.opened.dropLast ++ [{ e with kids := (textKids e.kids s).1 }] }
    else if b.nodes = 2000 then .error 3
    else .ok { b with opened := b.opened.dropLast ++ [{ e with kids := (textKids e.kids s).1 }], nodes := b.nodes + 1 }
def takeX' (b : Bd) (t : TkV) : Except Int Bd :=
  if t.kind = 4 then textX' b t.text
  else if t.kind = 2 then endX' b t.name
  else match startX b t with
    | .error e => .error e
    | .ok b' => .ok (if t.kind = 3 then closeX b' else b')
def takeAll : Bd → List TkV → Except (Int × Int) Bd
  | b, [] => .ok b
  | b, t :: ts => match takeX' b t with
    | .error e => .error (t.place, e)
    | .ok b' => takeAll b' ts
def treeX (len : Nat) (ts : List TkV) : Except (Int × Int) Nd :=
  match takeAll Bd.none_ ts with
  | .error e => .error e
  | .ok b => if b.opened ≠ [] then .error (len, 2) else if b.root.kind ≠ 1 then .error (len, 18) else .ok b.root
end Wb

