
/- Plain functions of layer 2 (qname) over texts and lists of pairs: no program in sight. -/
import Derived.Test.YtkcpkgegkmockaaPlain2
import Derived.Test.YtkcpkgegkmockaaMem
import Derived.Laws.Strings
import Derived.Laws.Externs
namespace Wb
open Go

/-- Two texts are equal, as a walk spells it. -/
def eqT (a b : ByteArray) : Bool := a.toList == b.toList
theorem eqT_iff (a b : ByteArray) : eqT a b = true ↔ a = b := by
  unfold eqT
  rw [ByteArray.toList_eq, ByteArray.toList_eq, beq_iff_eq]
  constructor
  · intro h
    cases a; cases b
    simp only at h
    rw [Array.toList_inj.1 h]
  · rintro rfl; rfl
theorem eqT_dec (a b : ByteArray) : eqT a b = decide (a = b) := by
  rw [Bool.eq_iff_iff, eqT_iff]; simp
theorem eqT_self (a : ByteArray) : eqT a a = true := (eqT_iff _ _).2 rfl
theorem eqT_false {a b : ByteArray} : eqT a b = false ↔ a ≠ b := by rw [eqT_dec]; simp
theorem toList_nil_iff (a : ByteArray) : a.toList = [] ↔ a = ⟨#[]⟩ := by
  rw [ByteArray.toList_eq]
  constructor
  · intro h; cases a; simp only at h; rw [Array.toList_eq_nil_iff.1 h]
  · rintro rfl; rfl

def sE : ByteArray := ⟨#[]⟩
def sXmlns : ByteArray := ⟨#[120, 109, 108, 110, 115]⟩
def sXml : ByteArray := ⟨#[120, 109, 108]⟩
def sXML : ByteArray := ⟨#[104, 116, 116, 112, 58, 47, 47, 119, 119, 119, 46, 119, 51, 46, 111, 114, 103, 47, 88, 77, 76, 47, 49, 57, 57, 56, 47, 110, 97, 109, 101, 115, 112, 97, 99, 101]⟩
def sXMLNS : ByteArray := ⟨#[104, 116, 116, 112, 58, 47, 47, 119, 119, 119, 46, 119, 51, 46, 111, 114, 103, 47, 50, 48, 48, 48, 47, 120, 109, 108, 110, 115, 47]⟩

theorem empty_eq (p : ByteArray) : p.toList.isEmpty = eqT p sE := by
  unfold eqT
  rw [(toList_nil_iff sE).2 rfl]
  cases p.toList <;> rfl

/-- The error's number of binding a prefix to a namespace. -/
def bindB (p s : ByteArray) : Int :=
  if !(eqT p sE) && !(nameB p.data.toList) then 12
  else if eqT p sXmlns || (eqT p sXml && !(eqT s sXML)) || (!(eqT p sXml) && (eqT s sXML || eqT s sXMLNS)) || (!(eqT p sE) && eqT s sE) then 13 else 0

theorem sXML_ne : sXML ≠ sXMLNS := by decide

/-- The last binding of a prefix. -/
def lastB : List Pr → ByteArray → Option ByteArray
  | [], _ => none
  | x :: l, p => match lastB l p with
    | some s => some s
    | none => if eqT x.1 p then some x.2 else none

theorem lastB_snoc (l : List Pr) (x : Pr) (p : ByteArray) : lastB (l ++ [x]) p = if eqT x.1 p then some x.2 else lastB l p := by
  induction l with
  | nil => simp [lastB]
  | cons y l ih =>
    simp only [List.cons_append, lastB, ih]
    by_cases h : eqT x.1 p = true <;> simp [h]

theorem take_snoc {α : Type} (l : List α) (k : Nat) (x : α) (h : l[k]? = some x) : l.take (k + 1) = l.take k ++ [x] := by
  rw [List.take_add_one, h]; rfl
theorem lastB_step {l : List Pr} {k : Nat} {x : Pr} (h : l[k]? = some x) (p : ByteArray) : lastB (l.take (k + 1)) p = if eqT x.1 p then some x.2 else lastB (l.take k) p := by
  rw [take_snoc l k x h, lastB_snoc]
theorem lastB_hit {l : List Pr} {k : Nat} {x : Pr} (h : l[k]? = some x) {p : ByteArray} (hp : (x.1.toList == p.toList) = true) : lastB (l.take (k + 1)) p = some x.2 := by
  rw [lastB_step h, show eqT x.1 p = true from hp]; rfl
theorem lastB_miss {l : List Pr} {k : Nat} {x : Pr} (h : l[k]? = some x) {p : ByteArray} (hp : (x.1.toList == p.toList) = false) : lastB (l.take (k + 1)) p = lastB (l.take k) p := by
  rw [lastB_step h, show eqT x.1 p = false from hp]; rfl

def findB (l : List Pr) (p : ByteArray) : ByteArray × Bool :=
  if eqT p sXml then (sXML, true) else match lastB l p with
    | some s => (s, true)
    | none => (sE, eqT p sE)

theorem findB_xml {l : List Pr} {p : ByteArray} (h : eqT p sXml = true) : findB l p = (sXML, true) := by unfold findB; rw [h]; rfl
theorem findB_some {l : List Pr} {p s : ByteArray} (h : eqT p sXml = false) (hl : lastB l p = some s) : findB l p = (s, true) := by unfold findB; rw [h, hl]; rfl
theorem findB_none {l : List Pr} {p : ByteArray} (h : eqT p sXml = false) (hl : lastB l p = none) : findB l p = (sE, eqT p sE) := by unfold findB; rw [h, hl]; rfl

/-- Where the first colon stands. -/
def cIx (q : ByteArray) : Option Nat := (List.range q.size).find? fun i => q[i]! == 58

theorem firstIdx_c' (s : ByteArray) : firstIdx s 58 = match cIx s with | some k => (k : Int) | none => -1 := rfl
theorem cIx_some (q : ByteArray) (k : Nat) : cIx q = some k ↔ k < q.size ∧ q[k]! = 58 ∧ ∀ i, i < k → q[i]! ≠ 58 := by
  unfold cIx
  rw [List.find?_range_eq_some]
  simp only [beq_iff_eq, List.mem_range, Bool.not_eq_eq_eq_not, Bool.not_true, beq_eq_false_iff_ne, ne_eq]
  constructor
  · rintro ⟨a, b, c⟩; exact ⟨b, a, c⟩
  · rintro ⟨a, b, c⟩; exact ⟨b, a, c⟩
theorem cIx_none (q : ByteArray) : cIx q = none ↔ ∀ i, i < q.size → q[i]! ≠ 58 := by
  unfold cIx
  rw [List.find?_range_eq_none]
  simp

def splitB (q : ByteArray) : ByteArray × ByteArray × Bool :=
  match cIx q with
  | none => if nameB q.data.toList then (sE, q, true) else (sE, sE, false)
  | some k => if nameB (q.extract 0 k).data.toList && nameB (q.extract (k + 1) q.size).data.toList then (q.extract 0 k, q.extract (k + 1) q.size, true) else (sE, sE, false)

theorem splitB_none {q : ByteArray} (h : cIx q = none) {b : Bool} (hb : nameB q.data.toList = b) : splitB q = if b then (sE, q, true) else (sE, sE, false) := by
  unfold splitB; rw [h]; subst hb; rfl
theorem splitB_some {q : ByteArray} {k : Nat} (h : cIx q = some k) {b c : Bool} (hb : nameB (q.extract 0 k).data.toList = b) (hc : nameB (q.extract (k + 1) q.size).data.toList = c) :
    splitB q = if b && c then (q.extract 0 k, q.extract (k + 1) q.size, true) else (sE, sE, false) := by
  unfold splitB; rw [h]; subst hb; subst hc; rfl
theorem splitB_half {q : ByteArray} {k : Nat} (h : cIx q = some k) (hb : nameB (q.extract 0 k).data.toList = false) : splitB q = (sE, sE, false) := by
  rw [splitB_some h hb rfl]; rfl

/-- A name in its namespace, and the error's number. -/
def resB (l : List Pr) (q : ByteArray) (attr : Bool) : Pr × Int :=
  if !(splitB q).2.2 then ((sE, sE), 12)
  else if attr && eqT (splitB q).1 sE then ((sE, (splitB q).2.1), 0)
  else if !(findB l (splitB q).1).2 || eqT (splitB q).1 sXmlns then ((sE, sE), 13)
  else (((findB l (splitB q).1).1, (splitB q).2.1), 0)

theorem resB_bad {l : List Pr} {q p lo : ByteArray} (attr : Bool) (h : splitB q = (p, lo, false)) : resB l q attr = ((sE, sE), 12) := by
  unfold resB; rw [h]; rfl
theorem resB_bare {l : List Pr} {q p lo : ByteArray} (h : splitB q = (p, lo, true)) (h1 : eqT p sE = true) : resB l q true = ((sE, lo), 0) := by
  unfold resB; rw [h]; simp only [h1]; rfl
theorem resB_full {l : List Pr} {q p lo s : ByteArray} {fo b1 attr : Bool} (h : splitB q = (p, lo, true)) (h1 : (attr && eqT p sE) = false) (hf : findB l p = (s, fo)) (hb : eqT p sXmlns = b1) :
    resB l q attr = if !fo || b1 then ((sE, sE), 13) else ((s, lo), 0) := by
  unfold resB; rw [h]; simp only [h1, hf, hb]; rfl
theorem res_end {n1 n2 a b : ByteArray} {er c : Int} {r : Pr × Int} (h : r = ((n1, n2), er)) (h' : r = ((a, b), c)) : n1 = a ∧ n2 = b ∧ er = c := by
  rw [h] at h'; simp only [Prod.mk.injEq] at h'; exact ⟨h'.1.1, h'.1.2, h'.2⟩

def sXmlnsC : List UInt8 := [120, 109, 108, 110, 115, 58]

/-- Does it begin with xmlns and a colon? -/
def preB (n : ByteArray) : Bool := decide (6 ≤ n.size) && ((n.extract 0 6).toList == sXmlnsC)
theorem preB_short {n : ByteArray} (h : ¬ 6 ≤ n.size) : preB n = false := by unfold preB; rw [decide_eq_false h]; rfl
theorem preB_long {n : ByteArray} {b : Bool} (h : 6 ≤ n.size) (hb : ((n.extract 0 6).toList == sXmlnsC) = b) : preB n = b := by unfold preB; rw [decide_eq_true h, hb]; rfl
theorem preB_size {n : ByteArray} (h : preB n = true) : 6 ≤ n.size := by
  unfold preB at h; simp at h; exact h.1

/-- The prefix that a name declares; false: none. -/
def declB (n : ByteArray) : ByteArray × Bool :=
  if eqT n sXmlns then (sE, true) else if preB n then (n.extract 6 n.size, true) else (sE, false)
theorem declB_1 {n : ByteArray} (h : eqT n sXmlns = true) : declB n = (sE, true) := by unfold declB; rw [h]; rfl
theorem declB_2 {n : ByteArray} (h : eqT n sXmlns = false) (h2 : preB n = true) : declB n = (n.extract 6 n.size, true) := by unfold declB; rw [h, h2]; rfl
theorem declB_3 {n : ByteArray} (h : eqT n sXmlns = false) (h2 : preB n = false) : declB n = (sE, false) := by unfold declB; rw [h, h2]; rfl

/-- The same with the error of a prefix that is no name. -/
def declE (n : ByteArray) : ByteArray × Bool × Int :=
  if eqT n sXmlns then (sE, true, 0) else if preB n then (if nameB (n.extract 6 n.size).data.toList then (n.extract 6 n.size, true, 0) else (sE, true, 12)) else (sE, false, 0)
theorem declE_1 {n : ByteArray} (h : eqT n sXmlns = true) : declE n = (sE, true, 0) := by unfold declE; rw [h]; rfl
theorem declE_2 {n : ByteArray} (h : eqT n sXmlns = false) (h2 : preB n = true) (h3 : nameB (n.extract 6 n.size).data.toList = true) : declE n = (n.extract 6 n.size, true, 0) := by unfold declE; rw [h, h2, h3]; rfl
theorem declE_3 {n : ByteArray} (h : eqT n sXmlns = false) (h2 : preB n = true) (h3 : nameB (n.extract 6 n.size).data.toList = false) : declE n = (sE, true, 12) := by unfold declE; rw [h, h2, h3]; rfl
theorem declE_4 {n : ByteArray} (h : eqT n sXmlns = false) (h2 : preB n = false) : declE n = (sE, false, 0) := by unfold declE; rw [h, h2]; rfl

/-- Declarations from the front: the prefixes that stand ahead, the bindings and the rest so far. -/
def declL : List Pr → List ByteArray → List Pr → List Pr → Except Int (List Pr × List Pr)
  | [], _, binds, rest => .ok (binds, rest)
  | x :: l, seen, binds, rest =>
    if (declB x.1).2 then
      if !(eqT x.1 sXmlns) && !(nameB (declB x.1).1.data.toList) then .error 12
      else if seen.any (fun y => eqT y (declB x.1).1) then .error 14
      else if bindB (declB x.1).1 x.2 = 0 then declL l (seen ++ [(declB x.1).1]) (binds ++ [((declB x.1).1, x.2)]) rest
      else .error (bindB (declB x.1).1 x.2)
    else declL l seen binds (rest ++ [x])

def eqP (a b : Pr) : Bool := eqT a.1 b.1 && eqT a.2 b.2
theorem eqP_iff (a b : Pr) : eqP a b = true ↔ a = b := by
  unfold eqP
  rw [Bool.and_eq_true, eqT_iff, eqT_iff]
  constructor
  · rintro ⟨h1, h2⟩; exact Prod.ext h1 h2
  · rintro rfl; exact ⟨rfl, rfl⟩

/-- Attributes from the front. -/
def attrL (sc : List Pr) : List Pr → List Tr → Except Int (List Tr)
  | [], out => .ok out
  | x :: l, out =>
    if (resB sc x.1 true).2 = 0 then
      if out.any (fun y => eqP y.1 (resB sc x.1 true).1) then .error 14
      else attrL sc l (out ++ [((resB sc x.1 true).1, x.2)])
    else .error (resB sc x.1 true).2

theorem declE_spec (n : ByteArray) :
    (declE n = (sE, false, 0) ∧ (declB n).2 = false) ∨
    (declE n = (sE, true, 12) ∧ (declB n).2 = true ∧ (!(eqT n sXmlns) && !(nameB (declB n).1.data.toList)) = true) ∨
    (∃ p, declE n = (p, true, 0) ∧ declB n = (p, true) ∧ (!(eqT n sXmlns) && !(nameB p.data.toList)) = false) := by
  cases h1 : eqT n sXmlns
  · cases h2 : preB n
    · left; exact ⟨declE_4 h1 h2, by rw [declB_3 h1 h2]⟩
    · cases h3 : nameB (n.extract 6 n.size).data.toList
      · right; left
        refine ⟨declE_3 h1 h2 h3, by rw [declB_2 h1 h2], ?_⟩
        rw [declB_2 h1 h2]; simp only [h3]; rfl
      · right; right
        exact ⟨_, declE_2 h1 h2 h3, declB_2 h1 h2, by rw [h3]; rfl⟩
  · right; right
    exact ⟨_, declE_1 h1, declB_1 h1, rfl⟩

theorem drop_at {α : Type} {l : List α} {k : Nat} {x : α} (h : l[k]? = some x) : l.drop k = x :: l.drop (k + 1) := by
  obtain ⟨hk, e⟩ := List.getElem?_eq_some_iff.1 h
  rw [List.drop_eq_getElem_cons hk, e]
theorem declL_end {l : List Pr} {k : Nat} {seen : List ByteArray} {binds rest : List Pr} (h : l.length ≤ k) : declL (l.drop k) seen binds rest = .ok (binds, rest) := by
  rw [List.drop_eq_nil_of_le h]; rfl
theorem declL_rest {l : List Pr} {k : Nat} {x : Pr} {seen : List ByteArray} {binds rest : List Pr} (h : l[k]? = some x) (hd : (declB x.1).2 = false) :
    declL (l.drop k) seen binds rest = declL (l.drop (k + 1)) seen binds (rest ++ [x]) := by
  rw [drop_at h]; conv => lhs; unfold declL
  rw [hd]; rfl
theorem declL_12 {l : List Pr} {k : Nat} {x : Pr} {seen : List ByteArray} {binds rest : List Pr} (h : l[k]? = some x) (hd : (declB x.1).2 = true) (hn : (!(eqT x.1 sXmlns) && !(nameB (declB x.1).1.data.toList)) = true) :
    declL (l.drop k) seen binds rest = .error 12 := by
  rw [drop_at h]; unfold declL
  rw [if_pos hd, if_pos hn]
theorem declL_14 {l : List Pr} {k : Nat} {x : Pr} {p : ByteArray} {seen : List ByteArray} {binds rest : List Pr} (h : l[k]? = some x) (hd : declB x.1 = (p, true)) (hn : (!(eqT x.1 sXmlns) && !(nameB p.data.toList)) = false) (hs : seen.any (fun y => eqT y p) = true) :
    declL (l.drop k) seen binds rest = .error 14 := by
  rw [drop_at h]; unfold declL
  rw [hd]; simp only [if_true]
  rw [if_neg (by rw [hn]; decide), if_pos hs]
theorem declL_bind {l : List Pr} {k : Nat} {x : Pr} {p : ByteArray} {seen : List ByteArray} {binds rest : List Pr} (h : l[k]? = some x) (hd : declB x.1 = (p, true)) (hn : (!(eqT x.1 sXmlns) && !(nameB p.data.toList)) = false) (hs : seen.any (fun y => eqT y p) = false)
    {b : Int} (hb : bindB p x.2 = b) (h0 : b ≠ 0) : declL (l.drop k) seen binds rest = .error b := by
  rw [drop_at h]; unfold declL
  rw [hd]; simp only [if_true]
  rw [if_neg (by rw [hn]; decide), if_neg (by rw [hs]; decide), hb, if_neg h0]
theorem declL_step {l : List Pr} {k : Nat} {x : Pr} {p : ByteArray} {seen : List ByteArray} {binds rest : List Pr} (h : l[k]? = some x) (hd : declB x.1 = (p, true)) (hn : (!(eqT x.1 sXmlns) && !(nameB p.data.toList)) = false) (hs : seen.any (fun y => eqT y p) = false)
    (hb : bindB p x.2 = 0) : declL (l.drop k) seen binds rest = declL (l.drop (k + 1)) (seen ++ [p]) (binds ++ [(p, x.2)]) rest := by
  rw [drop_at h]; conv => lhs; unfold declL
  rw [hd]; simp only [if_true]
  rw [if_neg (by rw [hn]; decide), if_neg (by rw [hs]; decide), hb]; rfl
theorem declB_size {n : ByteArray} : (declB n).1.size ≤ n.size := by
  have h0 : sE.size = 0 := by decide
  unfold declB
  split
  · simp only; omega
  · split
    · simp only [ByteArray.size_extract]; omega
    · simp only; omega

theorem attrL_end {sc l : List Pr} {k : Nat} {out : List Tr} (h : l.length ≤ k) : attrL sc (l.drop k) out = .ok out := by
  rw [List.drop_eq_nil_of_le h]; rfl
theorem attrL_err {sc l : List Pr} {k : Nat} {x n : Pr} {er : Int} {out : List Tr} (h : l[k]? = some x) (hr : resB sc x.1 true = (n, er)) (h0 : er ≠ 0) : attrL sc (l.drop k) out = .error er := by
  rw [drop_at h]; unfold attrL; rw [hr]; simp only [if_neg h0]
theorem attrL_twice {sc l : List Pr} {k : Nat} {x n : Pr} {out : List Tr} (h : l[k]? = some x) (hr : resB sc x.1 true = (n, 0)) (h0 : (out.map (·.1)).any (fun y => eqP y n) = true) : attrL sc (l.drop k) out = .error 14 := by
  rw [drop_at h]; unfold attrL; rw [hr]
  rw [List.any_map] at h0
  simp only [if_true]
  rw [if_pos (by simpa using h0)]
theorem attrL_step {sc l : List Pr} {k : Nat} {x n : Pr} {out : List Tr} (h : l[k]? = some x) (hr : resB sc x.1 true = (n, 0)) (h0 : (out.map (·.1)).any (fun y => eqP y n) = false) : attrL sc (l.drop k) out = attrL sc (l.drop (k + 1)) (out ++ [(n, x.2)]) := by
  rw [drop_at h]; conv => lhs; unfold attrL
  rw [hr]
  rw [List.any_map] at h0
  simp only [if_true]
  rw [if_neg (by simpa using h0)]

theorem lastB_mem : ∀ {l : List Pr} {p s : ByteArray}, lastB l p = some s → ∃ x ∈ l, x.2 = s
  | [], _, _, h => by simp [lastB] at h
  | x :: l, p, s, h => by
    unfold lastB at h
    cases hl : lastB l p with
    | some t =>
      rw [hl] at h
      simp only [Option.some.injEq] at h
      subst h
      obtain ⟨y, hy, e⟩ := lastB_mem hl
      exact ⟨y, by simp [hy], e⟩
    | none =>
      rw [hl] at h
      cases hx : eqT x.1 p
      · rw [hx] at h; simp at h
      · rw [hx] at h
        simp only [if_true, Option.some.injEq] at h
        exact ⟨x, by simp, h⟩
theorem findB_size {l : List Pr} {p : ByteArray} {M : Nat} (hM : 64 ≤ M) (h : ∀ x ∈ l, x.2.size ≤ M) : (findB l p).1.size ≤ M := by
  unfold findB
  split
  · have : sXML.size = 36 := by decide
    simp only; omega
  · split
    · rename_i s hs
      obtain ⟨x, hx, e⟩ := lastB_mem hs
      rw [← e]; exact h x hx
    · have : sE.size = 0 := by decide
      simp only; omega
theorem splitB_size (q : ByteArray) : (splitB q).1.size ≤ q.size ∧ (splitB q).2.1.size ≤ q.size := by
  have h0 : sE.size = 0 := by decide
  unfold splitB
  split
  · split
    · simp only; omega
    · simp only; omega
  · split
    · simp only [ByteArray.size_extract]; omega
    · simp only; omega
theorem resB_size {l : List Pr} {q : ByteArray} {attr : Bool} {M : Nat} (hM : 64 ≤ M) (h : ∀ x ∈ l, x.2.size ≤ M) (hq : q.size ≤ M) : (resB l q attr).1.1.size ≤ M ∧ (resB l q attr).1.2.size ≤ M := by
  have h0 : sE.size = 0 := by decide
  have h1 := splitB_size q
  have h2 := findB_size (p := (splitB q).1) hM h
  unfold resB
  split
  · simp only; omega
  · split
    · simp only; omega
    · split
      · simp only; omega
      · simp only; omega
end Wb
