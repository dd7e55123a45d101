/- PrD PrE. -/
import Derived.Lib.Bytealg
import Derived.Test.YtlcjepnaljfpkaaGreatDoorQp9
import Derived.Test.YtlcjepnaljfpkaaGreatDoorQp10
namespace Wb
open Go.Lib (compareBytes)
theorem cmpB_cases (a b : List UInt8) : compareBytes a b = -1 ∨ compareBytes a b = 0 ∨ compareBytes a b = 1 := by
  induction a generalizing b with
  | nil => cases b <;> simp [compareBytes]
  | cons x a ih =>
    cases b with
    | nil => simp [compareBytes]
    | cons y b =>
      unfold compareBytes
      split
      · exact .inl rfl
      · split
        · exact .inr (.inr rfl)
        · exact ih b
theorem u8_three (x y : UInt8) : x < y ∨ x = y ∨ y < x := by
  rcases Nat.lt_trichotomy x.toNat y.toNat with h | h | h
  · exact .inl (UInt8.lt_iff_toNat_lt.2 h)
  · exact .inr (.inl (UInt8.toNat_inj.1 h))
  · exact .inr (.inr (UInt8.lt_iff_toNat_lt.2 h))
theorem u8_ltI (x y : UInt8) : x < y ↔ x.toNat < y.toNat := UInt8.lt_iff_toNat_lt
theorem cmpB_zero (a b : List UInt8) : compareBytes a b = 0 ↔ a = b := by
  induction a generalizing b with
  | nil => cases b <;> simp [compareBytes]
  | cons x a ih =>
    cases b with
    | nil => simp [compareBytes]
    | cons y b =>
      unfold compareBytes
      rcases u8_three x y with h | h | h
      · rw [if_pos h]
        constructor
        · intro e; omega
        · intro e; injection e with e _; subst e; have := (u8_ltI _ _).1 h; omega
      · subst h
        rw [if_neg (by rw [u8_ltI]; omega), if_neg (by rw [u8_ltI]; omega), ih]
        simp
      · have := (u8_ltI _ _).1 h
        rw [if_neg (by rw [u8_ltI]; omega), if_pos h]
        constructor
        · intro e; omega
        · intro e; injection e with e _; subst e; omega
theorem cmpB_neg (a b : List UInt8) : compareBytes b a = - compareBytes a b := by
  induction a generalizing b with
  | nil => cases b <;> simp [compareBytes]
  | cons x a ih =>
    cases b with
    | nil => simp [compareBytes]
    | cons y b =>
      unfold compareBytes
      rcases u8_three x y with h | h | h
      · have := (u8_ltI _ _).1 h
        rw [if_pos h, if_neg (by rw [u8_ltI]; omega), if_pos h]; rfl
      · subst h
        have hx : ¬ x < x := by rw [u8_ltI]; omega
        simp only [if_neg hx]
        exact ih b
      · have := (u8_ltI _ _).1 h
        rw [if_pos h, if_neg (by rw [u8_ltI]; omega), if_pos h]
theorem cmpB_trans : ∀ (a b c : List UInt8), compareBytes a b = -1 → compareBytes b c = -1 → compareBytes a c = -1
  | [], [], _, h, _ => by simp [compareBytes] at h
  | [], _ :: _, [], _, h => by simp [compareBytes] at h
  | [], _ :: _, _ :: _, _, _ => by simp [compareBytes]
  | _ :: _, [], _, h, _ => by simp [compareBytes] at h
  | _ :: _, _ :: _, [], _, h => by simp [compareBytes] at h
  | x :: a, y :: b, z :: c, h1, h2 => by
    unfold compareBytes at h1 h2 ⊢
    simp only [u8_ltI] at h1 h2 ⊢
    split at h1
    · split at h2
      · rw [if_pos (by omega)]
      · split at h2
        · omega
        · rw [if_pos (by omega)]
    · split at h1
      · omega
      · split at h2
        · rw [if_pos (by omega)]
        · split at h2
          · omega
          · rw [if_neg (by omega), if_neg (by omega)]
            exact cmpB_trans a b c h1 h2
def cmpT (a b : Tr) : Int :=
  let by_ := compareBytes a.1.1.data.toList b.1.1.data.toList
  if by_ ≠ 0 then by_ else compareBytes a.1.2.data.toList b.1.2.data.toList
def ltT (a b : Tr) : Prop := cmpT a b = -1
instance (a b : Tr) : Decidable (ltT a b) := inferInstanceAs (Decidable (cmpT a b = -1))
theorem cmpT_cases (a b : Tr) : cmpT a b = -1 ∨ cmpT a b = 0 ∨ cmpT a b = 1 := by
  unfold cmpT
  simp only
  split
  · exact cmpB_cases _ _
  · exact cmpB_cases _ _
theorem ba_data {a b : ByteArray} (h : a.data.toList = b.data.toList) : a = b := by
  cases a; cases b
  simp only at h
  rw [Array.toList_inj.1 h]
theorem cmpT_zero (a b : Tr) : cmpT a b = 0 ↔ a.1 = b.1 := by
  unfold cmpT
  simp only
  by_cases h : compareBytes a.1.1.data.toList b.1.1.data.toList = 0
  · rw [if_neg (by simp [h]), cmpB_zero]
    have h1 := ba_data ((cmpB_zero _ _).1 h)
    constructor
    · intro h2; exact Prod.ext h1 (ba_data h2)
    · intro h2; rw [h2]
  · rw [if_pos h]
    constructor
    · intro h2; exact absurd h2 h
    · intro h2; rw [h2] at h; exact absurd ((cmpB_zero _ _).2 rfl) h
theorem cmpT_neg (a b : Tr) : cmpT b a = - cmpT a b := by
  unfold cmpT
  simp only
  rw [cmpB_neg a.1.1.data.toList, cmpB_neg a.1.2.data.toList]
  by_cases h : compareBytes a.1.1.data.toList b.1.1.data.toList = 0
  · rw [if_neg (by omega), if_neg (by omega)]
  · rw [if_pos (by omega), if_pos h]
theorem ltT_irrefl (a : Tr) : ¬ ltT a a := by unfold ltT; rw [(cmpT_zero a a).2 rfl]; decide
theorem ltT_trans {a b c : Tr} (h1 : ltT a b) (h2 : ltT b c) : ltT a c := by
  unfold ltT cmpT at *
  simp only at *
  by_cases e1 : compareBytes a.1.1.data.toList b.1.1.data.toList = 0
  · by_cases e2 : compareBytes b.1.1.data.toList c.1.1.data.toList = 0
    · rw [if_neg (by omega)] at h1 h2
      have := (cmpB_zero _ _).1 e1
      have e3 := (cmpB_zero _ _).1 e2
      rw [this, e3, if_neg (by simp [(cmpB_zero _ _).2 rfl])]
      exact cmpB_trans _ _ _ h1 h2
    · rw [if_pos e2] at h2
      have := (cmpB_zero _ _).1 e1
      rw [this, if_pos e2]
      exact h2
  · rw [if_pos e1] at h1
    by_cases e2 : compareBytes b.1.1.data.toList c.1.1.data.toList = 0
    · have := (cmpB_zero _ _).1 e2
      rw [← this, if_pos e1]
      exact h1
    · rw [if_pos e2] at h2
      have := cmpB_trans _ _ _ h1 h2
      rw [this, if_pos (by decide)]
theorem ltT_total (a b : Tr) : ltT a b ∨ a.1 = b.1 ∨ ltT b a := by
  rcases cmpT_cases a b with h | h | h
  · exact .inl h
  · exact .inr (.inl ((cmpT_zero a b).1 h))
  · refine .inr (.inr ?_)
    unfold ltT
    rw [cmpT_neg, h]
theorem ltT_asymm {a b : Tr} (h1 : ltT a b) (h2 : ltT b a) : False := ltT_irrefl a (ltT_trans h1 h2)
def insT (x : Tr) : List Tr → List Tr
  | [] => [x]
  | y :: l => if ltT y x then y :: insT x l else x :: y :: l
def sortA (acc : List Tr) : List Tr → List Tr
  | [] => acc
  | x :: l => sortA (insT x acc) l
def sortT (l : List Tr) : List Tr := sortA [] l
theorem insT_perm (x : Tr) (l : List Tr) : (insT x l).Perm (x :: l) := by
  induction l with
  | nil => exact List.Perm.refl _
  | cons y l ih =>
    unfold insT
    split
    · exact (ih.cons y).trans (List.Perm.swap x y l)
    · exact List.Perm.refl _
theorem sortA_perm : ∀ (l acc : List Tr), (sortA acc l).Perm (acc ++ l)
  | [], acc => by simp [sortA]
  | x :: l, acc => by
    unfold sortA
    refine (sortA_perm l (insT x acc)).trans ?_
    refine ((insT_perm x acc).append_right l).trans ?_
    rw [List.cons_append]
    exact (List.perm_middle).symm
theorem sortT_perm (l : List Tr) : (sortT l).Perm l := by
  have := sortA_perm l []
  rwa [List.nil_append] at this
theorem sortT_len (l : List Tr) : (sortT l).length = l.length := (sortT_perm l).length_eq
def Rise (l : List Tr) : Prop := l.Pairwise (fun a b => ¬ ltT b a)
theorem not_lt_trans {a b c : Tr} (h1 : ¬ ltT b a) (h2 : ¬ ltT c b) : ¬ ltT c a := by
  intro h
  rcases ltT_total a b with h3 | h3 | h3
  · exact h2 (ltT_trans h h3)
  · refine h2 ?_
    unfold ltT cmpT at h ⊢
    rw [← h3]
    exact h
  · exact h1 h3
theorem insT_rise (x : Tr) : ∀ (l : List Tr), Rise l → Rise (insT x l)
  | [], _ => List.pairwise_singleton _ _
  | y :: l, h => by
    obtain ⟨h1, h2⟩ := List.pairwise_cons.1 h
    unfold insT
    split
    · rename_i hyx
      refine List.pairwise_cons.2 ⟨fun z hz => ?_, insT_rise x l h2⟩
      rcases List.mem_cons.1 ((insT_perm x l).mem_iff.1 hz) with rfl | hz
      · exact fun hh => ltT_asymm hyx hh
      · exact h1 z hz
    · rename_i hyx
      refine List.pairwise_cons.2 ⟨fun z hz => ?_, h⟩
      rcases List.mem_cons.1 hz with rfl | hz
      · exact hyx
      · exact not_lt_trans hyx (h1 z hz)
theorem sortA_rise : ∀ (l acc : List Tr), Rise acc → Rise (sortA acc l)
  | [], _, h => h
  | x :: l, acc, h => sortA_rise l _ (insT_rise x acc h)
theorem sortT_rise (l : List Tr) : Rise (sortT l) := sortA_rise l [] List.Pairwise.nil
theorem rise_one : ∀ (a b : List Tr), Rise a → Rise b → a.Perm b → (a.map (·.1)).Pairwise (· ≠ ·) → a = b
  | [], b, _, _, hp, _ => (List.nil_perm.1 hp).symm
  | x :: a, [], _, _, hp, _ => absurd hp.length_eq (by simp)
  | x :: a, y :: b, ha, hb, hp, hn => by
    obtain ⟨a1, a2⟩ := List.pairwise_cons.1 ha
    obtain ⟨b1, b2⟩ := List.pairwise_cons.1 hb
    rw [List.map_cons, List.pairwise_cons] at hn
    have hxy : x = y := by
      have hx : x ∈ y :: b := hp.mem_iff.1 (List.mem_cons_self ..)
      have hy : y ∈ x :: a := hp.mem_iff.2 (List.mem_cons_self ..)
      rcases List.mem_cons.1 hx with h | h
      · exact h
      rcases List.mem_cons.1 hy with h' | h'
      · exact h'.symm
      have h3 := b1 x h
      have h4 := a1 y h'
      rcases ltT_total x y with h5 | h5 | h5
      · exact absurd h5 h3
      · exact absurd h5 (hn.1 y.1 (List.mem_map_of_mem h'))
      · exact absurd h5 h4
    subst hxy
    rw [rise_one a b a2 b2 (List.Perm.cons_inv hp) hn.2]
end Wb
namespace Wb
def digT (n : Nat) : List UInt8 := if n < 10 then [(48 + n).toUInt8] else [(48 + n / 10).toUInt8, (48 + n % 10).toUInt8]
def numT (i : Nat) : List UInt8 := 110 :: digT (i + 1)
def attrT (name value : List UInt8) : List UInt8 := 32 :: (name ++ [61, 34] ++ escL true value ++ [34])
def needs (s : ByteArray) : Bool := !(eqT s sE) && !(eqT s sXML)
def sXmlK : List UInt8 := [120, 109, 108, 58]
def sXmlnsL : List UInt8 := [120, 109, 108, 110, 115]
def sXmlnsK : List UInt8 := [120, 109, 108, 110, 115, 58]
def onceT : List ByteArray → List ByteArray
  | [] => []
  | [x] => [x]
  | x :: y :: l => if x = y then onceT (y :: l) else x :: onceT (y :: l)
def spacesT (l : List Tr) : List ByteArray := onceT ((l.map (·.1.1)).filter needs)
def idxB (x : ByteArray) : List ByteArray → Nat
  | [] => 0
  | y :: l => if y = x then 0 else idxB x l + 1
theorem idxB_at : ∀ {l : List ByteArray} {x : ByteArray} {k : Nat} (hk : k < l.length), l[k]'hk = x → (∀ j (hj : j < l.length), j < k → l[j] ≠ x) → idxB x l = k
  | [], _, _, hk, _, _ => by simp at hk
  | y :: l, x, 0, hk, h, _ => by
    have h : y = x := h
    unfold idxB
    rw [if_pos h]
  | y :: l, x, k + 1, hk, h, hn => by
    have hy : y ≠ x := hn 0 (by simp) (by omega)
    unfold idxB
    rw [if_neg hy, idxB_at (k := k) (l := l) (x := x) (by simpa using hk) (by simpa using h) (fun j hj hjk => by
      have := hn (j + 1) (by simpa using hj) (by omega)
      simpa using this)]
theorem idxB_lt : ∀ {l : List ByteArray} {x : ByteArray}, x ∈ l → idxB x l < l.length
  | y :: l, x, h => by
    unfold idxB
    by_cases e : y = x
    · rw [if_pos e]; simp
    · rw [if_neg e]
      have : x ∈ l := by
        rcases List.mem_cons.1 h with h | h
        · exact absurd h.symm e
        · exact h
      have := idxB_lt this
      simp only [List.length_cons]; omega
def preT (sp : List ByteArray) (s : ByteArray) : List UInt8 := if s = sE then [] else if s = sXML then sXmlK else numT (idxB s sp) ++ [58]
def declT : Nat → List ByteArray → List UInt8
  | _, [] => []
  | i, s :: sp => attrT (sXmlnsK ++ numT i) s.data.toList ++ declT (i + 1) sp
def eachT (sp : List ByteArray) : List Tr → List UInt8
  | [] => []
  | a :: l => attrT (preT sp a.1.1 ++ a.1.2.data.toList) a.2.data.toList ++ eachT sp l
def attrsT (l : List Tr) : List UInt8 := declT 0 (spacesT (sortT l)) ++ eachT (spacesT (sortT l)) (sortT l)
def tagT (n : Pr) : List UInt8 := if n.1 = sXML then sXmlK ++ n.2.data.toList else n.2.data.toList
def ownT (n : Pr) (space : ByteArray) : ByteArray := if n.1 = sXML then space else n.1
def nsT (n : Pr) (space : ByteArray) : List UInt8 := if ownT n space = space then [] else attrT sXmlnsL (ownT n space).data.toList
mutual
/-- A node, in a default namespace. -/
def nodeT : Nd → ByteArray → List UInt8
  | .mk kd n asz ks t, space => if kd = 2 then escL false t.data.toList else
      60 :: (tagT n ++ nsT n space ++ attrsT asz ++ (if ks.isEmpty then [47, 62] else 62 :: (kidsT ks (ownT n space) ++ [60, 47] ++ tagT n ++ [62])))
def kidsT : List Nd → ByteArray → List UInt8
  | [], _ => []
  | k :: ks, own => nodeT k own ++ kidsT ks own
end
theorem nodeT_is (n : Nd) (space : ByteArray) : nodeT n space = if n.kind = 2 then escL false n.text.data.toList else
      60 :: (tagT n.name ++ nsT n.name space ++ attrsT n.attrs ++ (if n.kids.isEmpty then [47, 62] else 62 :: (kidsT n.kids (ownT n.name space) ++ [60, 47] ++ tagT n.name ++ [62]))) := by
  cases n; rfl
theorem kidsT_app (a b : List Nd) (own : ByteArray) : kidsT (a ++ b) own = kidsT a own ++ kidsT b own := by
  induction a with
  | nil => rfl
  | cons k a ih => rw [List.cons_append, kidsT, ih, kidsT, List.append_assoc]
theorem kidsT_take {ks : List Nd} {i : Nat} {x : Nd} (h : ks[i]? = some x) (own : ByteArray) : kidsT (ks.take (i + 1)) own = kidsT (ks.take i) own ++ nodeT x own := by
  rw [List.take_add_one, h]
  show kidsT (ks.take i ++ [x]) own = _
  rw [kidsT_app]
  simp [kidsT]
theorem declT_app (i : Nat) (a b : List ByteArray) : declT i (a ++ b) = declT i a ++ declT (i + a.length) b := by
  induction a generalizing i with
  | nil => simp [declT]
  | cons s a ih =>
    rw [List.cons_append, declT, ih, declT, List.append_assoc, List.length_cons]
    congr 3
    omega
theorem declT_take {sp : List ByteArray} {i : Nat} {s : ByteArray} (h : sp[i]? = some s) : declT 0 (sp.take (i + 1)) = declT 0 (sp.take i) ++ attrT (sXmlnsK ++ numT i) s.data.toList := by
  have hl : (sp.take i).length = i := by have := (List.getElem?_eq_some_iff.1 h).1; rw [List.length_take]; omega
  rw [List.take_add_one, h]
  show declT 0 (sp.take i ++ [s]) = _
  rw [declT_app, hl, Nat.zero_add]
  simp [declT]
theorem eachT_app (sp : List ByteArray) (a b : List Tr) : eachT sp (a ++ b) = eachT sp a ++ eachT sp b := by
  induction a with
  | nil => rfl
  | cons k a ih => rw [List.cons_append, eachT, ih, eachT, List.append_assoc]
theorem eachT_take {sp : List ByteArray} {l : List Tr} {i : Nat} {x : Tr} (h : l[i]? = some x) : eachT sp (l.take (i + 1)) = eachT sp (l.take i) ++ attrT (preT sp x.1.1 ++ x.1.2.data.toList) x.2.data.toList := by
  rw [List.take_add_one, h]
  show eachT sp (l.take i ++ [x]) = _
  rw [eachT_app]
  simp [eachT]
def printX (n : Nd) : List UInt8 × Int := if 32768 < (nodeT n sE).length then ([], 3) else (nodeT n sE, 0)
end Wb
