import Derived.Test.YtjohfljkhlkjoaaGreatDoorMgP
import Derived.Test.YtjohfljkhlkjoaaGreatDoorMgT
namespace Wb
def TxtB (s : ByteArray) : Prop := TxtOK s.data.toList
def nameOK (n : Pr) : Prop := nameB n.2.data.toList = true ∧ TxtB n.1 ∧ n.1 ≠ sXMLNS
def attrsOK (l : List Tr) : Prop := l.length ≤ 32 ∧ (l.map (·.1)).Pairwise (· ≠ ·) ∧ ∀ a ∈ l, nameOK a.1 ∧ a.1 ≠ (sE, sXmlns) ∧ TxtB a.2
mutual
/-- A node as it must be that stands so deep, but for how many there are. -/
def okN : Nat → Nd → Prop
  | d, .mk k n as ks t => (k = 1 ∧ d ≤ 24 ∧ t = sE ∧ nameOK n ∧ attrsOK as ∧ okKs (d + 1) 0 ks) ∨ (k = 2 ∧ t ≠ sE ∧ TxtB t ∧ n = (sE, sE) ∧ as = [] ∧ ks = [])
def okKs : Nat → Int → List Nd → Prop
  | _, _, [] => True
  | d, ahead, k :: ks => ¬ (ahead = 2 ∧ k.kind = 2) ∧ okN d k ∧ okKs d k.kind ks
end
def ScOK (sc : List Pr) : Prop := ∀ x ∈ sc, TxtB x.2 ∧ x.2 ≠ sXMLNS ∧ (x.1 ≠ sE → x.2 ≠ sE)
theorem TxtB.E : TxtB sE := by unfold TxtB; exact TxtOK.nil
theorem TxtB.xml : TxtB sXML := by
  unfold TxtB
  exact TxtOK.ascii (by decide)
theorem bindB_ok {p s : ByteArray} (h : bindB p s = 0) : s ≠ sXMLNS ∧ (p ≠ sE → s ≠ sE) := by
  unfold bindB at h
  split at h
  · cases h
  · split at h
    · cases h
    · rename_i h2
      have h2' : (eqT p sXmlns || (eqT p sXmlQ && !(eqT s sXML)) || (!(eqT p sXmlQ) && (eqT s sXML || eqT s sXMLNS)) || (!(eqT p sE) && eqT s sE)) = false := Bool.eq_false_iff.2 h2
      simp only [Bool.or_eq_false_iff, Bool.and_eq_false_iff, Bool.not_eq_false'] at h2'
      obtain ⟨⟨⟨_, a2⟩, a3⟩, a4⟩ := h2'
      constructor
      · rintro rfl
        rcases a3 with a3 | a3
        · rcases a2 with a2 | a2
          · rw [a3] at a2; cases a2
          · exact sXML_ne ((eqT_iff _ _).1 a2).symm
        · rw [eqT_self] at a3
          exact absurd a3.2 (by decide)
      · rintro hp rfl
        rcases a4 with a4 | a4
        · exact hp ((eqT_iff _ _).1 a4)
        · rw [eqT_self] at a4; cases a4
theorem declL_ok : ∀ (l : List Pr) (seen : List ByteArray) (binds rest b r : List Pr), declL l seen binds rest = .ok (b, r) → (∀ x ∈ l, TxtB x.2) → ScOK binds → (∀ x ∈ rest, TxtB x.2 ∧ (declB x.1).2 = false) →
    ScOK b ∧ (∀ x ∈ r, TxtB x.2 ∧ (declB x.1).2 = false)
  | [], seen, binds, rest, b, r, h, _, hb, hr => by
    simp only [declL, Except.ok.injEq, Prod.mk.injEq] at h
    obtain ⟨rfl, rfl⟩ := h
    exact ⟨hb, hr⟩
  | x :: l, seen, binds, rest, b, r, h, hl, hb, hr => by
    unfold declL at h
    have hl' : ∀ y ∈ l, TxtB y.2 := fun y hy => hl y (by simp [hy])
    split at h
    · split at h
      · cases h
      · split at h
        · cases h
        · split at h
          · rename_i h0
            refine declL_ok l _ _ _ b r h hl' (fun y hy => ?_) hr
            rcases List.mem_append.1 hy with hy | hy
            · exact hb y hy
            · rw [List.mem_singleton] at hy
              subst hy
              exact ⟨hl x (by simp), bindB_ok h0⟩
          · cases h
    · rename_i hd
      refine declL_ok l _ _ _ b r h hl' hb (fun y hy => ?_)
      rcases List.mem_append.1 hy with hy | hy
      · exact hr y hy
      · rw [List.mem_singleton] at hy
        subst hy
        exact ⟨hl y (by simp), Bool.eq_false_iff.2 hd⟩
theorem lastB_memP : ∀ {l : List Pr} {p s : ByteArray}, lastB l p = some s → ∃ x ∈ l, x.1 = p ∧ x.2 = s
  | [], _, _, h => by simp [lastB] at h
  | x :: l, p, s, h => by
    unfold lastB at h
    cases hl : lastB l p with
    | some t =>
      rw [hl] at h
      simp only [Option.some.injEq] at h
      subst h
      obtain ⟨y, hy, e⟩ := lastB_memP hl
      exact ⟨y, by simp [hy], e⟩
    | none =>
      rw [hl] at h
      simp only at h
      split at h
      · rename_i hx
        simp only [Option.some.injEq] at h
        exact ⟨x, by simp, (eqT_iff _ _).1 hx, h⟩
      · cases h
theorem findB_ok {sc : List Pr} (hs : ScOK sc) {p s : ByteArray} (h : findB sc p = (s, true)) : TxtB s ∧ s ≠ sXMLNS ∧ (p ≠ sE → s ≠ sE) := by
  unfold findB at h
  split at h
  · simp only [Prod.mk.injEq, and_true] at h
    subst h
    exact ⟨TxtB.xml, sXML_ne, fun _ => by decide⟩
  · cases hl : lastB sc p with
    | some t =>
      rw [hl] at h
      simp only [Prod.mk.injEq, and_true] at h
      subst h
      obtain ⟨x, hx, rfl, rfl⟩ := lastB_memP hl
      exact hs x hx
    | none =>
      rw [hl] at h
      simp only [Prod.mk.injEq] at h
      obtain ⟨rfl, h2⟩ := h
      exact ⟨TxtB.E, by decide, fun hp => absurd ((eqT_iff _ _).1 h2) hp⟩
theorem splitB_ok {q p lo : ByteArray} (h : splitB q = (p, lo, true)) : nameB lo.data.toList = true ∧ (p = sE → lo = q) := by
  unfold splitB at h
  cases hc : cIx q with
  | none =>
    rw [hc] at h
    simp only at h
    split at h
    · rename_i hn
      simp only [Prod.mk.injEq, and_true] at h
      obtain ⟨rfl, rfl⟩ := h
      exact ⟨hn, fun _ => rfl⟩
    · simp at h
  | some k =>
    rw [hc] at h
    simp only at h
    split at h
    · rename_i hn
      simp only [Bool.and_eq_true] at hn
      simp only [Prod.mk.injEq, and_true] at h
      obtain ⟨rfl, rfl⟩ := h
      refine ⟨hn.2, fun he => ?_⟩
      rw [he] at hn
      exact absurd hn.1 (by decide)
    · simp at h
theorem resB_ok {sc : List Pr} (hs : ScOK sc) {q : ByteArray} {attr : Bool} (h : (resB sc q attr).2 = 0) : nameOK (resB sc q attr).1 ∧ (attr = true → (declB q).2 = false → (resB sc q attr).1 ≠ (sE, sXmlns)) := by
  obtain ⟨p, lo, ok, hq⟩ : ∃ p lo ok, splitB q = (p, lo, ok) := ⟨_, _, _, rfl⟩
  cases ok with
  | false => rw [resB_bad attr hq] at h; cases h
  | true =>
    obtain ⟨h1, h2⟩ := splitB_ok hq
    have hdq : (declB q).2 = false → q ≠ sXmlns := fun hd e => by
      subst e
      rw [declB_1 (eqT_self _)] at hd
      cases hd
    cases hb : (attr && eqT p sE)
    · obtain ⟨s, fo, hf⟩ : ∃ s fo, findB sc p = (s, fo) := ⟨_, _, rfl⟩
      have e := resB_full (attr := attr) hq hb hf (rfl : eqT p sXmlns = _)
      rw [e] at h ⊢
      split at h
      · cases h
      · rename_i hc
        rw [if_neg hc]
        have hfo : fo = true := by
          cases fo
          · simp at hc
          · rfl
        subst hfo
        obtain ⟨g1, g2, g3⟩ := findB_ok hs hf
        refine ⟨⟨h1, g1, g2⟩, fun ha _ he => ?_⟩
        simp only [Prod.mk.injEq] at he
        rw [ha, Bool.true_and] at hb
        have hp : p ≠ sE := fun e => by rw [e, eqT_self] at hb; cases hb
        exact g3 hp he.1
    · simp only [Bool.and_eq_true] at hb
      obtain ⟨rfl, hp⟩ := hb
      rw [resB_bare hq hp]
      refine ⟨⟨h1, TxtB.E, by show sE ≠ sXMLNS; decide⟩, fun _ hd he => ?_⟩
      simp only [Prod.mk.injEq, true_and] at he
      have := h2 ((eqT_iff _ _).1 hp)
      rw [he] at this
      exact hdq hd this.symm
structure ElOK (d : Nat) (e : El) : Prop where
  scope : ScOK e.scope
  name : nameOK e.name
  attrs : attrsOK e.attrs
  kids : okKs (d + 1) 0 e.kids
  deep : d ≤ 24
theorem ElOK.node {d : Nat} {e : El} (h : ElOK d e) : okN d e.node := by
  unfold El.node okN
  exact .inl ⟨rfl, h.deep, rfl, h.name, h.attrs, h.kids⟩
def lastK (ahead : Int) (ks : List Nd) : Int := match ks.getLast? with | none => ahead | some k => k.kind
theorem okKs_app (d : Nat) (k : Nd) : ∀ (ks : List Nd) (ahead : Int), okKs d ahead (ks ++ [k]) ↔ okKs d ahead ks ∧ ¬ (lastK ahead ks = 2 ∧ k.kind = 2) ∧ okN d k
  | [], ahead => by simp [okKs, lastK]
  | j :: ks, ahead => by
    rw [List.cons_append]
    simp only [okKs]
    rw [okKs_app d k ks j.kind]
    have : lastK ahead (j :: ks) = lastK j.kind ks := by
      unfold lastK
      cases ks with
      | nil => rfl
      | cons i ks =>
        rw [List.getLast?_cons_cons]
        cases h : (i :: ks).getLast? with
        | none => simp at h
        | some x => rfl
    rw [this]
    constructor
    · rintro ⟨a, b, c, d, e⟩; exact ⟨⟨a, b, c⟩, d, e⟩
    · rintro ⟨⟨a, b, c⟩, d, e⟩; exact ⟨a, b, c, d, e⟩
theorem ElOK.more {d : Nat} {e : El} {k : Nd} (h : ElOK d e) (hk : okN (d + 1) k) (h1 : k.kind = 1) : ElOK d (e.more k) :=
  ⟨h.scope, h.name, h.attrs, (okKs_app _ _ _ _).2 ⟨h.kids, fun hh => by rw [h1] at hh; exact absurd hh.2 (by decide), hk⟩, h.deep⟩
def OpOK : Nat → List El → Prop
  | _, [] => True
  | d, e :: l => ElOK d e ∧ OpOK (d + 1) l
theorem OpOK.app : ∀ (l : List El) (d : Nat) (e : El), OpOK d (l ++ [e]) ↔ OpOK d l ∧ ElOK (d + l.length) e
  | [], d, e => by simp [OpOK]
  | x :: l, d, e => by
    rw [List.cons_append]
    simp only [OpOK]
    rw [OpOK.app l (d + 1) e, List.length_cons, show d + 1 + l.length = d + (l.length + 1) from by omega]
    constructor
    · rintro ⟨a, b, c⟩; exact ⟨⟨a, b⟩, c⟩
    · rintro ⟨⟨a, b⟩, c⟩; exact ⟨a, b, c⟩
def elN (e : El) : Nat := 1 + costNs e.kids
def opN (l : List El) : Nat := (l.map elN).sum
structure BdOK (b : Bd) : Prop where
  opened : OpOK 1 b.opened
  root : b.root.kind = 1 → b.opened = [] ∧ okN 1 b.root
  count : b.nodes = opN b.opened + (if b.root.kind = 1 then costN b.root else 0)
  few : b.nodes ≤ 2000
theorem BdOK.none_ : BdOK Bd.none_ := ⟨trivial, fun h => absurd h (by decide), by decide, by decide⟩
theorem opN_app (l m : List El) : opN (l ++ m) = opN l + opN m := by simp [opN]
theorem opN_one (e : El) : opN [e] = elN e := by simp [opN]
theorem elN_node (e : El) : costN e.node = elN e := by rw [costN_is]; rfl
theorem elN_more (e : El) (k : Nd) : elN (e.more k) = elN e + costN k := by
  unfold elN El.more
  rw [(costs_app e.kids [k]).1]
  simp only [costNs]
  omega
theorem last_cases {α : Type} (l : List α) : l = [] ∨ ∃ m x, l = m ++ [x] := by
  rcases List.eq_nil_or_concat l with h | ⟨m, x, h⟩
  · exact .inl h
  · exact .inr ⟨m, x, by simpa using h⟩
theorem closeX_one {b : Bd} {e : El} (h : b.opened = [e]) : closeX b = { b with opened := [], root := e.node } := by
  unfold closeX; rw [h]; rfl
theorem closeX_more {b : Bd} {l : List El} {f e : El} (h : b.opened = (l ++ [f]) ++ [e]) : closeX b = { b with opened := l ++ [f.more e.node] } := by
  unfold closeX
  rw [h]
  simp
theorem closeX_ok {b : Bd} (h : BdOK b) : BdOK (closeX b) := by
  rcases last_cases b.opened with h0 | ⟨l, e, h1⟩
  · have : closeX b = b := by unfold closeX; rw [h0]; rfl
    rw [this]; exact h
  · have hop := h.opened
    rw [h1, OpOK.app] at hop
    have hr : ¬ b.root.kind = 1 := fun hk => by
      have := (h.root hk).1
      rw [this] at h1
      simp at h1
    have hc := h.count
    rw [if_neg hr, h1, opN_app, opN_one, Nat.add_zero] at hc
    rcases last_cases l with rfl | ⟨m, f, rfl⟩
    · rw [List.nil_append] at h1
      rw [closeX_one h1]
      refine ⟨trivial, fun _ => ⟨rfl, ?_⟩, ?_, h.few⟩
      · simpa using hop.2.node
      · show b.nodes = opN [] + (if e.node.kind = 1 then costN e.node else 0)
        rw [if_pos (show e.node.kind = 1 from rfl), elN_node]
        have : opN [] = 0 := rfl
        omega
    · rw [closeX_more h1]
      rw [OpOK.app] at hop
      obtain ⟨⟨g1, g2⟩, g3⟩ := hop
      refine ⟨?_, fun hk => absurd hk hr, ?_, h.few⟩
      · show OpOK 1 (m ++ [f.more e.node])
        rw [OpOK.app]
        refine ⟨g1, g2.more ?_ rfl⟩
        have := g3.node
        rwa [List.length_append, List.length_singleton, ← Nat.add_assoc] at this
      · show b.nodes = opN (m ++ [f.more e.node]) + (if b.root.kind = 1 then costN b.root else 0)
        rw [if_neg hr, opN_app, opN_one, elN_more, elN_node]
        rw [opN_app, opN_one] at hc
        omega
theorem begunX_ok {sc : List Pr} (hs : ScOK sc) {t : TkV} (ht : ∀ x ∈ t.attrs, TxtB x.2) {e : El} (h : begunX sc t = .ok e) {d : Nat} (hd : d ≤ 24) : ElOK d e ∧ elN e = 1 := by
  unfold begunX at h
  cases hdl : declL t.attrs [] [] [] with
  | error er => rw [hdl] at h; cases h
  | ok br =>
    obtain ⟨binds, rest⟩ := br
    rw [hdl] at h
    simp only at h
    obtain ⟨hb, hr⟩ := declL_ok _ _ _ _ _ _ hdl ht (by intro x hx; cases hx) (by intro x hx; cases hx)
    have hsc : ScOK (sc ++ binds) := fun x hx => by
      rcases List.mem_append.1 hx with hx | hx
      · exact hs x hx
      · exact hb x hx
    split at h
    · cases h
    · rename_i h32
      split at h
      · cases h
      · rename_i hn
        have hn0 : (resB (sc ++ binds) t.name false).2 = 0 := by simpa using hn
        cases ha : attrL (sc ++ binds) rest [] with
        | error er => rw [ha] at h; cases h
        | ok as =>
          rw [ha] at h
          simp only [Except.ok.injEq] at h
          subst h
          obtain ⟨a1, a2, _, a4⟩ := (attrL_ok_iff _ _ _ _).1 ha
          rw [List.nil_append] at a2
          refine ⟨⟨hsc, (resB_ok hsc hn0).1, ⟨?_, ?_, ?_⟩, trivial, hd⟩, rfl⟩
          · rw [← a2, List.length_map]; omega
          · rw [← a2, List.map_map]; exact a4
          · intro a ha'
            rw [← a2] at ha'
            obtain ⟨x, hx, rfl⟩ := List.mem_map.1 ha'
            obtain ⟨h1, h2⟩ := hr x hx
            obtain ⟨h3, h4⟩ := resB_ok (attr := true) hsc (a1 x hx)
            exact ⟨h3, h4 rfl h2, h1⟩
theorem scopeX_ok {b : Bd} (h : BdOK b) : ScOK (scopeX b) := by
  unfold scopeX
  rcases last_cases b.opened with h0 | ⟨l, e, h1⟩
  · rw [h0]; intro x hx; cases hx
  · have hop := h.opened
    rw [h1, OpOK.app] at hop
    rw [h1]
    simpa using hop.2.scope
theorem startX_ok {b b' : Bd} (h : BdOK b) {t : TkV} (ht : ∀ x ∈ t.attrs, TxtB x.2) (hs : startX b t = .ok b') : BdOK b' := by
  unfold startX at hs
  split at hs
  · cases hs
  · rename_i hr
    split at hs
    · cases hs
    · rename_i hd
      split at hs
      · cases hs
      · rename_i hn
        cases hb : begunX (scopeX b) t with
        | error er => rw [hb] at hs; cases hs
        | ok e =>
          rw [hb] at hs
          simp only [Except.ok.injEq] at hs
          subst hs
          have hlen : b.opened.length ≤ 24 := by
            have key : ∀ (l : List El) (d : Nat), OpOK d l → d ≤ 25 → l.length + d ≤ 25 := by
              intro l
              induction l with
              | nil => intro d _ hd; simpa using hd
              | cons x l ih =>
                intro d h _
                have := ih (d + 1) h.2 (by have := h.1.deep; omega)
                simp only [List.length_cons]; omega
            have := key b.opened 1 h.opened (by omega)
            omega
          obtain ⟨g1, g2⟩ := begunX_ok (scopeX_ok h) ht hb (d := 1 + b.opened.length) (by omega)
          have hc := h.count
          have hf := h.few
          rw [if_neg hr] at hc
          refine ⟨(OpOK.app _ _ _).2 ⟨h.opened, g1⟩, fun hk => absurd hk hr, ?_, by show b.nodes + 1 ≤ 2000; omega⟩
          show b.nodes + 1 = opN (b.opened ++ [e]) + (if b.root.kind = 1 then costN b.root else 0)
          rw [if_neg hr, opN_app, opN_one, g2]
          omega
theorem TxtB.app {a b : ByteArray} (ha : TxtB a) (hb : TxtB b) : TxtB (a ++ b) := by
  unfold TxtB at *
  rw [ByteArray.data_append, Array.toList_append]
  exact ha.app hb
theorem okN_text {d : Nat} {s : ByteArray} (h0 : s ≠ sE) (hs : TxtB s) : okN d (.mk 2 (sE, sE) [] [] s) := by
  unfold okN
  exact .inr ⟨rfl, h0, hs, rfl, rfl, rfl⟩
theorem app_ne {a b : ByteArray} (h : b ≠ sE) : a ++ b ≠ sE := fun e => by
  have := congrArg ByteArray.size e
  rw [ByteArray.size_append] at this
  have h0 : sE.size = 0 := rfl
  have : b.size = 0 := by omega
  exact h (ByteArray.ext (Array.eq_empty_of_size_eq_zero this))
theorem textKids_two {l : List Nd} {k : Nd} (s : ByteArray) (hk : k.kind = 2) : textKids (l ++ [k]) s = (l ++ [.mk k.kind k.name k.attrs k.kids (k.text ++ s)], false) := by
  unfold textKids
  simp [hk]
theorem textKids_else {l : List Nd} {k : Nd} (s : ByteArray) (hk : ¬ k.kind = 2) : textKids (l ++ [k]) s = ((l ++ [k]) ++ [.mk 2 (sE, sE) [] [] s], true) := by
  unfold textKids
  simp [hk]
theorem textKids_ok {d : Nat} {ks : List Nd} {s : ByteArray} (h : okKs d 0 ks) (h0 : s ≠ sE) (hs : TxtB s) : okKs d 0 (textKids ks s).1 ∧ costNs (textKids ks s).1 = costNs ks + (if (textKids ks s).2 then 1 else 0) := by
  have one : ∀ s, costN (.mk 2 (sE, sE) [] [] s) = 1 := fun s => rfl
  rcases last_cases ks with rfl | ⟨l, k, rfl⟩
  · refine ⟨?_, rfl⟩
    show okKs d 0 [_]
    simp only [okKs, and_true]
    exact ⟨fun hh => absurd hh.1 (by decide), okN_text h0 hs⟩
  · rw [okKs_app] at h
    obtain ⟨g1, g2, g3⟩ := h
    by_cases hk : k.kind = 2
    · rw [textKids_two s hk]
      cases k with
      | mk kk kn ka kks kt =>
        unfold okN at g3
        rcases g3 with g3 | ⟨e1, e2, e3, e4, e5, e6⟩
        · rw [show (Nd.mk kk kn ka kks kt).kind = kk from rfl] at hk
          rw [hk] at g3
          exact absurd g3.1 (by decide)
        · subst e1 e4 e5 e6
          simp only [Nd.kind, Nd.name, Nd.attrs, Nd.kids, Nd.text]
          refine ⟨(okKs_app _ _ _ _).2 ⟨g1, g2, okN_text (app_ne h0) (e3.app hs)⟩, ?_⟩
          rw [(costs_app _ _).1, (costs_app _ _).1]
          rfl
    · rw [textKids_else s hk]
      refine ⟨?_, ?_⟩
      · show okKs d 0 ((l ++ [k]) ++ [_])
        rw [okKs_app, okKs_app]
        refine ⟨⟨g1, g2, g3⟩, fun hh => ?_, okN_text h0 hs⟩
        have : lastK 0 (l ++ [k]) = k.kind := by unfold lastK; simp
        rw [this] at hh
        exact hk hh.1
      · show costNs ((l ++ [k]) ++ [_]) = _
        rw [(costs_app _ _).1]
        rfl
theorem textX_ok {b b' : Bd} (h : BdOK b) {s : ByteArray} (hs : TxtB s) (ht : textX' b s = .ok b') : BdOK b' := by
  unfold textX' at ht
  rcases last_cases b.opened with h0 | ⟨l, e, h1⟩
  · rw [h0] at ht
    simp only [List.getLast?_nil] at ht
    split at ht
    · simp only [Except.ok.injEq] at ht
      rw [← ht]; exact h
    · cases ht
  · rw [h1] at ht
    simp only [List.getLast?_append, List.getLast?_singleton, Option.some_or, List.dropLast_concat] at ht
    have hop := h.opened
    rw [h1, OpOK.app] at hop
    have hr : ¬ b.root.kind = 1 := fun hk => by
      have := (h.root hk).1
      rw [this] at h1
      simp at h1
    have hc := h.count
    have hf := h.few
    rw [if_neg hr, h1, opN_app, opN_one, Nat.add_zero] at hc
    split at ht
    · simp only [Except.ok.injEq] at ht
      rw [← ht]; exact h
    · rename_i hne
      have hne' : s ≠ sE := fun e => hne (by rw [e]; exact eqT_self _)
      obtain ⟨g1, g2⟩ := textKids_ok hop.2.kids hne' hs
      have hel : ElOK (1 + l.length) { e with kids := (textKids e.kids s).1 } := ⟨hop.2.scope, hop.2.name, hop.2.attrs, g1, hop.2.deep⟩
      split at ht
      · rename_i hf2
        simp only [Except.ok.injEq] at ht
        subst ht
        refine ⟨(OpOK.app _ _ _).2 ⟨hop.1, hel⟩, fun hk => absurd hk hr, ?_, hf⟩
        show b.nodes = opN (l ++ [{ e with kids := (textKids e.kids s).1 }]) + (if b.root.kind = 1 then costN b.root else 0)
        rw [if_neg hr, opN_app, opN_one]
        unfold elN at hc ⊢
        rw [hf2] at g2
        simp only [Bool.false_eq_true, if_false] at g2
        simp only
        omega
      · rename_i hf2
        split at ht
        · cases ht
        · rename_i hn
          simp only [Except.ok.injEq] at ht
          subst ht
          refine ⟨(OpOK.app _ _ _).2 ⟨hop.1, hel⟩, fun hk => absurd hk hr, ?_, by show b.nodes + 1 ≤ 2000; omega⟩
          show b.nodes + 1 = opN (l ++ [{ e with kids := (textKids e.kids s).1 }]) + (if b.root.kind = 1 then costN b.root else 0)
          rw [if_neg hr, opN_app, opN_one]
          unfold elN at hc ⊢
          rw [if_pos (by simpa using hf2)] at g2
          simp only
          omega
theorem takeX_ok {b b' : Bd} (h : BdOK b) {t : TkV} (ha : ∀ x ∈ t.attrs, TxtB x.2) (hx : TxtB t.text) (ht : takeX' b t = .ok b') : BdOK b' := by
  unfold takeX' at ht
  split at ht
  · exact textX_ok h hx ht
  · split at ht
    · unfold endX' at ht
      split at ht
      · cases ht
      · split at ht
        · simp only [Except.ok.injEq] at ht
          rw [← ht]; exact closeX_ok h
        · cases ht
    · cases hs : startX b t with
      | error e => rw [hs] at ht; cases ht
      | ok b2 =>
        rw [hs] at ht
        simp only [Except.ok.injEq] at ht
        subst ht
        have := startX_ok h ha hs
        split
        · exact closeX_ok this
        · exact this
theorem takeAll_ok : ∀ (ts : List TkV) {b b' : Bd}, BdOK b → (∀ t ∈ ts, (∀ x ∈ t.attrs, TxtB x.2) ∧ TxtB t.text) → takeAll b ts = .ok b' → BdOK b'
  | [], b, b', h, _, ht => by
    simp only [takeAll, Except.ok.injEq] at ht
    rw [← ht]; exact h
  | t :: ts, b, b', h, hts, ht => by
    unfold takeAll at ht
    cases hs : takeX' b t with
    | error e => rw [hs] at ht; cases ht
    | ok b2 =>
      rw [hs] at ht
      exact takeAll_ok ts (takeX_ok h (hts t (by simp)).1 (hts t (by simp)).2 hs) (fun x hx => hts x (by simp [hx])) ht
theorem treeX_ok {len : Nat} {ts : List TkV} (hts : ∀ t ∈ ts, (∀ x ∈ t.attrs, TxtB x.2) ∧ TxtB t.text) {n : Nd} (h : treeX len ts = .ok n) : okN 1 n ∧ n.kind = 1 ∧ costN n ≤ 2000 := by
  unfold treeX at h
  cases ht : takeAll Bd.none_ ts with
  | error e => rw [ht] at h; cases h
  | ok b =>
    rw [ht] at h
    simp only at h
    have hb := takeAll_ok ts BdOK.none_ hts ht
    split at h
    · cases h
    · rename_i ho
      split at h
      · cases h
      · rename_i hr
        simp only [Except.ok.injEq] at h
        subst h
        have hr1 : b.root.kind = 1 := by simpa using hr
        refine ⟨(hb.root hr1).2, hr1, ?_⟩
        have hc := hb.count
        rw [if_pos hr1] at hc
        have := hb.few
        omega
end Wb

namespace Wb
theorem TxtOK.part : ∀ (ns : List Int), (∀ n ∈ ns, charB n = true) → ∀ (a b : List UInt8), ns.flatMap enc = a ++ b → ((∃ c, b.head? = some c ∧ c.toNat < 128) ∨ b = [] ∨ (∃ c, a.getLast? = some c ∧ c.toNat < 128) ∨ a = []) → TxtOK a ∧ TxtOK b
  | [], _, a, b, h, _ => by
    rw [List.flatMap_nil] at h
    have := List.append_eq_nil_iff.1 h.symm
    rw [this.1, this.2]
    exact ⟨TxtOK.nil, TxtOK.nil⟩
  | n :: ns, hn, a, b, h, hb => by
    rw [List.flatMap_cons] at h
    have all : TxtOK (a ++ b) := ⟨n :: ns, hn, by rw [List.flatMap_cons, h]⟩
    by_cases ha : a = []
    · subst ha
      exact ⟨TxtOK.nil, by simpa using all⟩
    · by_cases hb0 : b = []
      · subst hb0
        exact ⟨by simpa using all, TxtOK.nil⟩
      · rcases Nat.lt_or_ge a.length (enc n).length with hl | hl
        · -- the boundary would lie within a sign's bytes, one of which is below 128
          exfalso
          have one : ∀ c ∈ enc n, c.toNat < 128 → False := fun c hc h1 => by
            have h3 := (enc_low hc h1).1
            rw [h3] at hl
            have := List.length_pos_iff.2 ha
            simp only [List.length_cons, List.length_nil] at hl
            omega
          rcases hb with ⟨c, hc, hlow⟩ | h0 | ⟨c, hc, hlow⟩ | h0
          · refine one c ?_ hlow
            have h2 : (enc n ++ ns.flatMap enc)[a.length]? = some c := by
              rw [h, List.getElem?_append_right (Nat.le_refl _), Nat.sub_self, ← List.head?_eq_getElem?, hc]
            rw [List.getElem?_append_left hl] at h2
            exact List.mem_of_getElem? h2
          · exact hb0 h0
          · refine one c ?_ hlow
            have hp := List.length_pos_iff.2 ha
            have h2 : (enc n ++ ns.flatMap enc)[a.length - 1]? = some c := by
              rw [h, List.getElem?_append_left (by omega), ← List.getLast?_eq_getElem?, hc]
            rw [List.getElem?_append_left (by omega)] at h2
            exact List.mem_of_getElem? h2
          · exact ha h0
        · obtain ⟨a', rfl⟩ : ∃ a', a = enc n ++ a' := by
            refine ⟨a.drop (enc n).length, ?_⟩
            have h2 := congrArg (List.take (enc n).length) h
            rw [List.take_left, List.take_append_of_le_length hl] at h2
            conv => rhs; lhs; rw [h2]
            rw [List.take_append_drop]
          rw [List.append_assoc] at h
          have h3 := List.append_cancel_left h
          have hb' : (∃ c, b.head? = some c ∧ c.toNat < 128) ∨ b = [] ∨ (∃ c, a'.getLast? = some c ∧ c.toNat < 128) ∨ a' = [] := by
            rcases hb with h4 | h4 | ⟨c, hc, hlow⟩ | h4
            · exact .inl h4
            · exact .inr (.inl h4)
            · by_cases ha' : a' = []
              · exact .inr (.inr (.inr ha'))
              · refine .inr (.inr (.inl ⟨c, ?_, hlow⟩))
                rw [List.getLast?_append] at hc
                cases hl' : a'.getLast? with
                | none => exact absurd (List.getLast?_eq_none_iff.1 hl') ha'
                | some d => rw [hl'] at hc; exact hc
            · exact absurd h4 ha
          obtain ⟨h4, h5⟩ := TxtOK.part ns (fun m hm => hn m (by simp [hm])) a' b h3 hb'
          exact ⟨TxtOK.app ⟨[n], by simpa using hn n (by simp), by simp⟩ h4, h5⟩
theorem TxtOK.at_head {a b : List UInt8} {c : UInt8} (h : TxtOK (a ++ c :: b)) (hc : c.toNat < 128) : TxtOK a ∧ TxtOK (c :: b) := by
  obtain ⟨ns, h1, h2⟩ := h
  exact TxtOK.part ns h1 a (c :: b) h2.symm (.inl ⟨c, rfl, hc⟩)
theorem TxtOK.behind {a b : List UInt8} {c : UInt8} (h : TxtOK ((a ++ [c]) ++ b)) (hc : c.toNat < 128) : TxtOK (a ++ [c]) ∧ TxtOK b := by
  obtain ⟨ns, h1, h2⟩ := h
  exact TxtOK.part ns h1 (a ++ [c]) b h2.symm (.inr (.inr (.inl ⟨c, by simp, hc⟩)))
theorem TxtOK.about {a b : List UInt8} {c : UInt8} (h : TxtOK (a ++ c :: b)) (hc : c.toNat < 128) : TxtOK a ∧ TxtOK b := by
  refine ⟨(h.at_head hc).1, ?_⟩
  have : a ++ c :: b = (a ++ [c]) ++ b := by simp
  rw [this] at h
  exact (h.behind hc).2
theorem TxtOK.one {n : Int} (h : charB n = true) : TxtOK (enc n) := ⟨[n], by simpa using h, by simp⟩
theorem TxtOK.tail {b : List UInt8} {c : UInt8} (h : TxtOK (c :: b)) (hc : c.toNat < 128) : TxtOK b := (TxtOK.about (a := []) h hc).2
theorem enc_high {n : Int} (h : 128 ≤ n) : ∀ b ∈ enc n, 128 ≤ b.toNat := fun b hb => by
  apply Classical.byContradiction
  intro hlt
  have := (enc_low hb (by omega)).2
  omega
theorem enc_ne' {n : Int} (h : charB n = true) : enc n ≠ [] := enc_ne n (char_sgn n h)
theorem refV_txt {t x : List UInt8} (h : refV t = some x) : TxtOK x := by
  unfold refV at h
  repeat' split at h
  all_goals first
    | (simp only [Option.some.injEq] at h; subst h; exact TxtOK.ascii (by decide))
    | (simp only [Option.some.injEq] at h; subst h; exact TxtOK.one (by assumption))
    | cases h
theorem unL_copy (attr : Bool) (l : List UInt8) : ∀ (a : List UInt8) (f k : Nat), (∀ b ∈ a, b ≠ 38 ∧ b ≠ 13 ∧ b ≠ 9 ∧ b ≠ 10) → unL attr (f + a.length) (a ++ l) k = (unL attr f l (k + a.length)).map (a ++ ·)
  | [], f, k, _ => by
    simp only [List.length_nil, Nat.add_zero, List.nil_append]
    cases unL attr f l k <;> rfl
  | c :: a, f, k, h => by
    obtain ⟨h1, h2, h3, h4⟩ := h c (by simp)
    rw [List.length_cons, ← Nat.add_assoc, List.cons_append]
    conv => lhs; unfold unL
    rw [if_neg h1, if_neg h2, if_neg (by simp [h3, h4]), unL_copy attr l a f (k + 1) (fun b hb => h b (by simp [hb])), map_one]
    congr 2
    omega
theorem TxtOK.low {c : UInt8} (h : TxtOK [c] ∨ c = 32 ∨ c = 10) : TxtOK [c] := by
  rcases h with h | rfl | rfl
  · exact h
  · exact TxtOK.ascii (by decide)
  · exact ⟨[10], by decide, by decide⟩
theorem unL_txt (attr : Bool) : ∀ (m : Nat) (l : List UInt8), l.length ≤ m → TxtOK l → ∀ (f k : Nat) (x : List UInt8), l.length < f → unL attr f l k = .ok x → TxtOK x := by
  intro m
  induction m with
  | zero =>
    intro l hl _ f k x _ h
    have : l = [] := List.eq_nil_of_length_eq_zero (by omega)
    subst this
    have : x = [] := by cases f <;> simpa [unL] using h.symm
    subst this
    exact TxtOK.nil
  | succ m ih =>
    intro l hl hT f k x hf h
    obtain ⟨ns, hn, rfl⟩ := hT
    cases ns with
    | nil =>
      have : x = [] := by cases f <;> simpa [unL] using h.symm
      subst this
      exact TxtOK.nil
    | cons n ns =>
      have hn0 := hn n (by simp)
      have hR : TxtOK (ns.flatMap enc) := ⟨ns, fun n hn' => hn n (by simp [hn']), rfl⟩
      rw [List.flatMap_cons] at h hf hl
      generalize ns.flatMap enc = R at h hf hl hR
      rw [List.length_append] at hf hl
      have hpos := List.length_pos_iff.2 (enc_ne' hn0)
      by_cases hhi : 128 ≤ n
      · have hb := enc_high hhi
        have hne : ∀ b ∈ enc n, b ≠ 38 ∧ b ≠ 13 ∧ b ≠ 9 ∧ b ≠ 10 := fun b hm => by
          have := hb b hm
          refine ⟨?_, ?_, ?_, ?_⟩ <;> (intro e; subst e; exact absurd this (by decide))
        obtain ⟨g, rfl⟩ : ∃ g, f = g + (enc n).length := ⟨f - (enc n).length, by omega⟩
        rw [unL_copy attr _ _ g k hne] at h
        obtain ⟨z, hz, rfl⟩ := ex_map_ok h
        exact (TxtOK.one hn0).app (ih R (by omega) hR g _ z (by omega) hz)
      · -- a sign of one byte
        have hs := char_sgn n hn0
        have h0 := (sgn_iff n).1 hs
        have e1 : enc n = [b8 n] := by unfold enc; rw [if_pos hs, if_pos (by omega)]
        have hT1 : TxtOK [b8 n] := by rw [← e1]; exact TxtOK.one hn0
        rw [e1] at h hf hl
        simp only [List.length_cons, List.length_nil] at hf hl
        generalize b8 n = c at h hT1
        obtain ⟨g, rfl⟩ : ∃ g, f = g + 1 := ⟨f - 1, by omega⟩
        rw [List.singleton_append] at h
        have one : ∀ (d : UInt8) (r : List UInt8) (j : Nat), TxtOK [d] → TxtOK r → r.length ≤ m → r.length < g → (unL attr g r j).map (d :: ·) = .ok x → TxtOK x := by
          intro d r j hd hr h1 h2 hy
          obtain ⟨z, hz, rfl⟩ := ex_map_ok hy
          exact TxtOK.app (a := [d]) hd (ih r h1 hr g j z h2 hz)
        have hbl : TxtOK [if attr then (32 : UInt8) else 10] := TxtOK.low (.inr (by cases attr <;> simp))
        unfold unL at h
        split at h
        · -- a reference
          cases hs' : semi R with
          | none => rw [hs'] at h; cases h
          | some p =>
            obtain ⟨t, r⟩ := p
            rw [hs'] at h
            simp only at h
            cases hv : refV t with
            | none => rw [hv] at h; cases h
            | some y =>
              rw [hv] at h
              simp only at h
              obtain ⟨z, hz, rfl⟩ := ex_map_ok h
              have hd := semi_drop hs'
              rw [hd] at hR
              have h4 := congrArg List.length hd
              simp only [List.length_append, List.length_cons] at h4
              exact (refV_txt hv).app (ih r (by omega) (hR.about (by decide)).2 g _ z (by omega) hz)
        · split at h
          · split at h
            · rename_i h10
              cases R with
              | nil => simp at h10
              | cons d r =>
                have hd : d = 10 := by simpa using h10
                subst hd
                simp only [List.length_cons] at hf hl
                exact one _ r _ hbl (hR.tail (by decide)) (by omega) (by omega) h
            · exact one _ R _ hbl hR (by omega) (by omega) h
          · refine one _ R _ ?_ hR (by omega) (by omega) h
            by_cases h9 : (attr && (c == 9 || c == 10)) = true
            · rw [if_pos h9]; exact TxtOK.low (.inr (.inl rfl))
            · rw [if_neg h9]; exact hT1
theorem endsL_txt : ∀ (m : Nat) (l : List UInt8), l.length ≤ m → TxtOK l → TxtOK (endsL l) := by
  intro m
  induction m with
  | zero =>
    intro l hl _
    have : l = [] := List.eq_nil_of_length_eq_zero (by omega)
    subst this
    exact TxtOK.nil
  | succ m ih =>
    intro l hl hT
    obtain ⟨ns, hn, rfl⟩ := hT
    cases ns with
    | nil => exact TxtOK.nil
    | cons n ns =>
      have hn0 := hn n (by simp)
      have hR : TxtOK (ns.flatMap enc) := ⟨ns, fun n hn' => hn n (by simp [hn']), rfl⟩
      rw [List.flatMap_cons] at hl ⊢
      generalize ns.flatMap enc = R at hl hR
      rw [List.length_append] at hl
      have hpos := List.length_pos_iff.2 (enc_ne' hn0)
      have copy : ∀ a : List UInt8, (∀ b ∈ a, b ≠ 13) → endsL (a ++ R) = a ++ endsL R := by
        intro a
        induction a with
        | nil => intro _; rfl
        | cons c a iha =>
          intro h
          rw [List.cons_append]
          conv => lhs; unfold endsL
          rw [if_neg (h c (by simp)), iha (fun b hb => h b (by simp [hb]))]
          rfl
      by_cases h13 : n = 13
      · subst h13
        have e1 : enc 13 = [13] := by decide
        rw [e1, List.singleton_append]
        unfold endsL
        rw [if_pos rfl]
        split
        · exact ih R (by omega) hR
        · exact TxtOK.app (a := [10]) (TxtOK.low (.inr (.inr rfl))) (ih R (by omega) hR)
      · rw [copy (enc n) (fun b hb e => by
          subst e
          exact h13 ((enc_low hb (by decide)).2))]
        exact (TxtOK.one hn0).app (ih R (by omega) hR)
end Wb

namespace Wb
theorem word_low {c : UInt8} (h : wordB c = false) : c.toNat < 128 := by
  unfold wordB blkB at h
  simp at h
  apply Classical.byContradiction
  intro hn
  have ne : ∀ d : UInt8, d.toNat < 128 → c ≠ d := fun d hd e => by rw [e] at hn; omega
  have := h (ne 9 (by decide)) (ne 10 (by decide)) (ne 13 (by decide)) (ne 32 (by decide)) (ne 47 (by decide)) (ne 62 (by decide)) (ne 61 (by decide)) (ne 60 (by decide)) (ne 34 (by decide)) (ne 39 (by decide))
  exact ne 38 (by decide) this
theorem blk_low {c : UInt8} (h : blkB c = true) : c.toNat < 128 := by
  unfold blkB at h
  simp at h
  rcases h with ((rfl | rfl) | rfl) | rfl <;> decide
theorem TxtOK.strip : ∀ (a b : List UInt8), (∀ c ∈ a, c.toNat < 128) → TxtOK (a ++ b) → TxtOK b
  | [], _, _, h => h
  | c :: a, b, hc, h => TxtOK.strip a b (fun d hd => hc d (by simp [hd])) (TxtOK.tail (c := c) h (hc c (by simp)))
theorem tw_split (p : UInt8 → Bool) (l : List UInt8) : l = l.takeWhile p ++ l.drop (l.takeWhile p).length := by
  conv => lhs; rw [← List.takeWhile_append_dropWhile (p := p) (l := l)]
  congr 1
  induction l with
  | nil => rfl
  | cons c l ih =>
    by_cases h : p c = true
    · simp [h, ih]
    · simp [h]
theorem tw_each (p : UInt8 → Bool) : ∀ (l : List UInt8), ∀ c ∈ l.takeWhile p, p c = true
  | [], c, h => by simp at h
  | d :: l, c, h => by
    by_cases hd : p d = true
    · rw [List.takeWhile_cons_of_pos hd] at h
      rcases List.mem_cons.1 h with rfl | h
      · exact hd
      · exact tw_each p l c h
    · rw [List.takeWhile_cons_of_neg hd] at h
      simp at h
theorem tw_next (p : UInt8 → Bool) : ∀ (l : List UInt8) (c : UInt8) (r : List UInt8), l.drop (l.takeWhile p).length = c :: r → p c = false
  | [], c, r, h => by simp at h
  | d :: l, c, r, h => by
    by_cases hd : p d = true
    · rw [List.takeWhile_cons_of_pos hd, List.length_cons, List.drop_succ_cons] at h
      exact tw_next p l c r h
    · rw [List.takeWhile_cons_of_neg hd] at h
      simp at h
      rw [← h.1]
      exact Bool.eq_false_iff.2 hd
theorem span_txt {p : UInt8 → Bool} (hp : ∀ c, p c = false → c.toNat < 128) {l : List UInt8} (h : TxtOK l) : TxtOK (l.takeWhile p) ∧ TxtOK (l.drop (l.takeWhile p).length) := by
  cases hd : l.drop (l.takeWhile p).length with
  | nil =>
    have e := tw_split p l
    rw [hd, List.append_nil] at e
    rw [← e]
    exact ⟨h, TxtOK.nil⟩
  | cons c r =>
    have e := tw_split p l
    rw [hd] at e
    rw [e] at h
    exact h.at_head (hp c (tw_next p l c r hd))
theorem blank_txt {l : List UInt8} (h : TxtOK l) : TxtOK (l.drop (l.takeWhile blkB).length) := by
  rw [tw_split blkB l] at h
  exact TxtOK.strip _ _ (fun c hc => blk_low (tw_each blkB l c hc)) h
theorem spanR_some {p : UInt8 → Bool} {l : List UInt8} {n : Nat} {a : List UInt8} (h : spanR p l = some (n, a)) : a = l.takeWhile p ∧ n = (l.takeWhile p).length := by
  unfold spanR at h
  split at h
  · simp only [Option.some.injEq, Prod.mk.injEq] at h
    exact ⟨h.2.symm, h.1.symm⟩
  · cases h
theorem litR_some {p l : List UInt8} {n : Nat} {u : Unit} (h : litR p l = some (n, u)) : n = p.length ∧ l = p ++ l.drop n := by
  unfold litR at h
  split at h
  · rename_i hp
    simp only [Option.some.injEq, Prod.mk.injEq] at h
    refine ⟨h.1.symm, ?_⟩
    rw [← h.1]
    conv => lhs; rw [← List.take_append_drop p.length l, hp]
  · cases h
theorem untilR_some {p : List UInt8} : ∀ {l : List UInt8} {n : Nat} {v : List UInt8}, untilR p l = some (n, v) → l = v ++ (p ++ l.drop n)
  | [], n, v, h => by
    unfold untilR at h
    split at h
    · rename_i hp
      simp only [Option.some.injEq, Prod.mk.injEq] at h
      obtain ⟨rfl, rfl⟩ := h
      simp [hp]
    · cases h
  | c :: l, n, v, h => by
    unfold untilR at h
    split at h
    · rename_i hc
      simp only [Option.some.injEq, Prod.mk.injEq] at h
      obtain ⟨rfl, rfl⟩ := h
      conv => lhs; rw [← List.take_append_drop p.length (c :: l), hc]
      rfl
    · cases hu : untilR p l with
      | none => rw [hu] at h; cases h
      | some q =>
        obtain ⟨m, b⟩ := q
        rw [hu] at h
        simp only [Option.some.injEq, Prod.mk.injEq] at h
        obtain ⟨rfl, rfl⟩ := h
        have := untilR_some hu
        rw [List.drop_succ_cons, List.cons_append, ← this]
theorem byteR_some {l : List UInt8} {n : Nat} {c : UInt8} (h : byteR l = some (n, c)) : n = 1 ∧ l = c :: l.drop 1 := by
  cases l with
  | nil => cases h
  | cons d l =>
    simp only [byteR, Option.some.injEq, Prod.mk.injEq] at h
    exact ⟨h.1.symm, by rw [h.2]; rfl⟩
theorem value_txt {l : List UInt8} {n : Nat} {v : List UInt8} (hl : TxtOK l) (h : valueR l = some (n, v)) : TxtOK v ∧ TxtOK (l.drop n) := by
  unfold valueR at h
  obtain ⟨n1, q, n2, h1, h2, rfl⟩ := bindR_some h
  obtain ⟨rfl, e1⟩ := byteR_some h1
  unfold guardR at h2
  split at h2
  · rename_i hq
    have hlow : q.toNat < 128 := by
      simp at hq
      rcases hq with rfl | rfl <;> decide
    rw [e1] at hl
    have hr := hl.tail hlow
    obtain ⟨w, h3, h4⟩ := mapR_some h2
    have e2 := untilR_some h3
    rw [e2] at hr
    obtain ⟨t1, t2⟩ := TxtOK.about (a := w) (c := q) hr hlow
    rw [List.drop_drop] at t2
    refine ⟨?_, t2⟩
    split at h4
    · cases h4
    · cases hu : unL true (w.length + 1) w 0 with
      | error p => rw [hu] at h4; cases h4
      | ok x =>
        rw [hu] at h4
        simp only [okL, Option.some.injEq] at h4
        subst h4
        exact unL_txt true _ w (Nat.le_refl _) t1 _ _ _ (by omega) hu
  · cases h2
theorem attr_txt {c : UInt8} {l : List UInt8} {n : Nat} {a : List UInt8 × List UInt8} (hl : TxtOK (c :: l)) (hw : wordB c = true) (h : attrR c l = some (n, a)) : TxtOK a.1 ∧ TxtOK a.2 ∧ TxtOK (l.drop n) := by
  unfold attrR at h
  obtain ⟨n1, w, m1, h1, h2, rfl⟩ := bindR_some h
  obtain ⟨rfl, rfl⟩ := spanR_some h1
  obtain ⟨s1, s2⟩ := span_txt (p := wordB) (fun c hc => word_low hc) hl
  rw [List.takeWhile_cons_of_pos hw] at s1 s2
  rw [List.length_cons, List.drop_succ_cons] at s2
  unfold guardR at h2
  split at h2
  · obtain ⟨n2, b2, m2, h3, h4, rfl⟩ := bindR_some h2
    obtain ⟨_, rfl⟩ := spanR_some h3
    have s3 := blank_txt s2
    obtain ⟨n3, u3, m3, h5, h6, rfl⟩ := bindR_some h4
    obtain ⟨rfl, e5⟩ := litR_some h5
    rw [e5] at s3
    have s4 := TxtOK.strip _ _ (by decide) s3
    obtain ⟨n4, b4, m4, h7, h8, rfl⟩ := bindR_some h6
    obtain ⟨_, rfl⟩ := spanR_some h7
    have s5 := blank_txt s4
    obtain ⟨v, h9, h10⟩ := mapR_some h8
    obtain ⟨t1, t2⟩ := value_txt s5 h9
    simp only [Option.some.injEq] at h10
    subst h10
    refine ⟨s1, t1, ?_⟩
    simp only [List.drop_drop] at t2 ⊢
    simpa [Nat.add_assoc] using t2
  · cases h2
theorem attrs_txt : ∀ (f : Nat) (acc : List (List UInt8 × List UInt8)) (l : List UInt8) (n : Nat) (k : Int) (r : List (List UInt8 × List UInt8)), TxtOK l → (∀ a ∈ acc, TxtOK a.1 ∧ TxtOK a.2) → attrsR f acc l = some (n, (k, r)) → ∀ a ∈ r, TxtOK a.1 ∧ TxtOK a.2
  | 0, _, _, _, _, _, _, _, h => by cases h
  | f + 1, acc, l, n, k, r, hl, hacc, h => by
    unfold attrsR at h
    obtain ⟨n1, bs, m1, h1, h2, rfl⟩ := bindR_some h
    obtain ⟨rfl, rfl⟩ := spanR_some h1
    have s1 := blank_txt hl
    obtain ⟨n2, c, m2, h3, h4, rfl⟩ := bindR_some h2
    obtain ⟨rfl, e3⟩ := byteR_some h3
    split at h4
    · simp only [pureR, Option.some.injEq, Prod.mk.injEq] at h4
      rw [← h4.2.2]; exact hacc
    · split at h4
      · obtain ⟨_, _, h5⟩ := mapR_some h4
        simp only [Option.some.injEq, Prod.mk.injEq] at h5
        rw [← h5.2]; exact hacc
      · unfold guardR at h4
        split at h4
        · rename_i hg
          simp only [Bool.and_eq_true] at hg
          obtain ⟨n3, a, m3, h5, h6, rfl⟩ := bindR_some h4
          rw [e3] at s1
          obtain ⟨t1, t2, t3⟩ := attr_txt s1 hg.1.1 h5
          refine attrs_txt f (acc ++ [a]) _ _ _ _ t3 (fun b hb => ?_) h6
          rcases List.mem_append.1 hb with hb | hb
          · exact hacc b hb
          · rw [List.mem_singleton] at hb
            rw [hb]; exact ⟨t1, t2⟩
        · cases h4
def TkTxt (t : Tk) : Prop := TxtOK t.2.1 ∧ (∀ a ∈ t.2.2.1, TxtOK a.1 ∧ TxtOK a.2) ∧ TxtOK t.2.2.2
theorem mark_txt {l : List UInt8} {n : Nat} {t : Tk} (hl : TxtOK l) (h : markR l = some (n, some t)) : TkTxt t := by
  unfold markR at h
  obtain ⟨n1, _, m1, h1, h2, rfl⟩ := bindR_some h
  obtain ⟨rfl, e1⟩ := litR_some h1
  rw [e1] at hl
  have s1 := TxtOK.strip _ _ (by decide) hl
  obtain ⟨n2, c, m2, h3, h4, rfl⟩ := bindR_some h2
  obtain ⟨rfl, e3⟩ := byteR_some h3
  split at h4
  · unfold piR at h4
    obtain ⟨_, _, _, _, h6, _⟩ := bindR_some h4
    unfold guardR at h6
    split at h6
    · obtain ⟨_, _, h7⟩ := mapR_some h6
      simp at h7
    · cases h6
  · split at h4
    · rename_i h33
      subst h33
      rw [e3] at s1
      have s2 := s1.tail (by decide)
      unfold bangR at h4
      obtain ⟨n3, d, m3, h5, h6, _⟩ := bindR_some h4
      obtain ⟨rfl, e5⟩ := byteR_some h5
      split at h6
      · obtain ⟨_, _, _, _, h8, _⟩ := bindR_some h6
        obtain ⟨_, _, _, _, h10, _⟩ := bindR_some h8
        obtain ⟨_, _, h11⟩ := mapR_some h10
        simp at h11
      · unfold guardR at h6
        split at h6
        · rename_i h91
          have hd : d = 91 := by simpa using h91
          subst hd
          rw [e5] at s2
          have s3 := s2.tail (by decide)
          obtain ⟨n4, _, m4, h7, h8, _⟩ := bindR_some h6
          obtain ⟨rfl, e7⟩ := litR_some h7
          rw [e7] at s3
          have s4 := TxtOK.strip _ _ (by decide) s3
          obtain ⟨v, h9, h10⟩ := mapR_some h8
          simp only [Option.some.injEq] at h10
          subst h10
          have e9 := untilR_some h9
          rw [e9] at s4
          have s5 : TxtOK v := (TxtOK.at_head (a := v) (c := 93) s4 (by decide)).1
          exact ⟨TxtOK.nil, by simp, endsL_txt _ v (Nat.le_refl _) s5⟩
        · cases h6
    · split at h4
      · rename_i h47
        subst h47
        rw [e3] at s1
        have s2 := s1.tail (by decide)
        unfold endR at h4
        obtain ⟨_, w, _, h5, h6, _⟩ := bindR_some h4
        obtain ⟨rfl, rfl⟩ := spanR_some h5
        unfold guardR at h6
        split at h6
        · obtain ⟨_, _, _, _, h8, _⟩ := bindR_some h6
          obtain ⟨_, _, h9⟩ := mapR_some h8
          simp only [Option.some.injEq] at h9
          subst h9
          exact ⟨(span_txt (p := wordB) (fun c hc => word_low hc) s2).1, by simp, TxtOK.nil⟩
        · cases h6
      · unfold guardR at h4
        split at h4
        · rename_i hw
          unfold startR at h4
          obtain ⟨_, w, _, h5, h6, _⟩ := bindR_some h4
          obtain ⟨rfl, rfl⟩ := spanR_some h5
          rw [e3] at s1
          obtain ⟨t1, t2⟩ := span_txt (p := wordB) (fun c hc => word_low hc) s1
          rw [List.takeWhile_cons_of_pos hw] at t1 t2
          rw [List.length_cons, List.drop_succ_cons] at t2
          unfold guardR at h6
          split at h6
          · obtain ⟨⟨k, as⟩, h7, h8⟩ := mapR_some h6
            simp only [Option.some.injEq] at h8
            subst h8
            exact ⟨t1, attrs_txt _ _ _ _ _ _ t2 (by simp) h7, TxtOK.nil⟩
          · cases h6
        · cases h4
def EndsA {α : Type} (f : Rd α) : Prop := ∀ l n a, f l = some (n, a) → n ≤ l.length ∧ ∃ c, (l.take n).getLast? = some c ∧ c.toNat < 128
theorem EndsA.bind {α β : Type} {f : Rd α} {g : α → Rd β} (hf : ∀ l n a, f l = some (n, a) → n ≤ l.length) (hg : ∀ a, EndsA (g a)) : EndsA (bindR f g) := by
  intro l k b h
  obtain ⟨n, a, m, h1, h2, rfl⟩ := bindR_some h
  obtain ⟨h3, c, h4, h5⟩ := hg a _ _ _ h2
  have h6 := hf _ _ _ h1
  rw [List.length_drop] at h3
  refine ⟨by omega, c, ?_, h5⟩
  rw [List.take_add, List.getLast?_append, h4]
  rfl
theorem EndsA.map {α β : Type} {f : Rd α} (g : α → Option β) (h : EndsA f) : EndsA (mapR f g) := by
  intro l n b hf
  obtain ⟨a, h1, _⟩ := mapR_some hf
  exact h _ _ _ h1
theorem EndsA.guard {α : Type} {f : Rd α} (c : Bool) (h : EndsA f) : EndsA (guardR c f) := by
  intro l n a hf
  unfold guardR at hf
  split at hf
  · exact h _ _ _ hf
  · cases hf
theorem EndsA.lit {p : List UInt8} {c : UInt8} (hp : p.getLast? = some c) (hc : c.toNat < 128) : EndsA (litR p) := by
  intro l n a h
  obtain ⟨rfl, e⟩ := litR_some h
  refine ⟨by rw [e]; simp, c, ?_, hc⟩
  rw [e, List.take_left]
  exact hp
theorem EndsA.until {p : List UInt8} {c : UInt8} (hp : p.getLast? = some c) (hc : c.toNat < 128) : EndsA (untilR p) := by
  intro l n v h
  have e := untilR_some h
  have hpn : p ≠ [] := by rintro rfl; cases hp
  have hn := (Loc.until p hpn l n v h).1
  refine ⟨hn, c, ?_, hc⟩
  have hl : n = v.length + p.length := by
    have := congrArg List.length e
    simp only [List.length_append, List.length_drop] at this
    have := List.length_pos_iff.2 hpn
    omega
  rw [e, hl, ← List.append_assoc, List.take_left' (by simp), List.getLast?_append, hp]
  rfl
theorem EndsA.none {α : Type} : EndsA (fun _ => none : Rd α) := fun _ _ _ h => by cases h
theorem EndsA.rest {α : Type} {f : Rd α} (hf : EndsA f) {l : List UInt8} {n : Nat} {a : α} (h : f l = some (n, a)) (hl : TxtOK l) : TxtOK (l.drop n) := by
  obtain ⟨hn, c, h1, h2⟩ := hf _ _ _ h
  obtain ⟨ns, g1, g2⟩ := hl
  exact (TxtOK.part ns g1 (l.take n) (l.drop n) (by rw [← g2, List.take_append_drop]) (.inr (.inr (.inl ⟨c, h1, h2⟩)))).2
theorem le_of_loc {α : Type} {j : Nat} {f : Rd α} (h : Loc j f) : ∀ l n a, f l = some (n, a) → n ≤ l.length := fun l n a hf => (h l n a hf).1
theorem attrs_ends : ∀ (f : Nat) (acc : List (List UInt8 × List UInt8)), EndsA (attrsR f acc)
  | 0, _ => EndsA.none
  | f + 1, acc => by
    refine EndsA.bind (le_of_loc (Loc.span _)) (fun bs => ?_)
    intro l k b h
    obtain ⟨n, c, m, h1, h2, rfl⟩ := bindR_some h
    obtain ⟨rfl, e⟩ := byteR_some h1
    split at h2
    · rename_i h62
      simp only [pureR, Option.some.injEq, Prod.mk.injEq] at h2
      obtain ⟨rfl, _⟩ := h2
      rw [e]
      exact ⟨by simp, c, by simp, by rw [h62]; decide⟩
    · have key : EndsA (if c = 47 then mapR (litR [62]) fun _ => some (3, acc) else guardR (wordB c && !(bs.isEmpty) && decide (acc.length < 65)) (bindR (attrR c) fun a => attrsR f (acc ++ [a]))) := by
        split
        · exact EndsA.map _ (EndsA.lit (c := 62) rfl (by decide))
        · exact EndsA.guard _ (EndsA.bind (le_of_loc (attr_loc c)) (fun a => attrs_ends f _))
      exact EndsA.bind (g := fun _ => _) (le_of_loc Loc.byte) (fun _ => key) _ _ _ (bindR_of (f := byteR) h1 h2)
theorem piEnd_ends : EndsA piEndR := by
  intro l n a h
  unfold piEndR at h
  split at h
  · exact EndsA.map _ (EndsA.until (c := 62) rfl (by decide)) _ _ _ h
  · cases h
theorem mark_ends : EndsA markR := by
  refine EndsA.bind (le_of_loc (Loc.lit _)) (fun _ => EndsA.bind (le_of_loc Loc.byte) (fun c => ?_))
  split
  · exact EndsA.bind (le_of_loc (Loc.span _)) (fun _ => EndsA.guard _ (EndsA.map _ piEnd_ends))
  · split
    · refine EndsA.bind (le_of_loc Loc.byte) (fun c => ?_)
      split
      · exact EndsA.bind (le_of_loc (Loc.lit _)) (fun _ => EndsA.bind (le_of_loc (Loc.until _ (by simp))) (fun _ => EndsA.map _ (EndsA.lit (c := 62) rfl (by decide))))
      · exact EndsA.guard _ (EndsA.bind (le_of_loc (Loc.lit _)) (fun _ => EndsA.map _ (EndsA.until (c := 62) rfl (by decide))))
    · split
      · exact EndsA.bind (le_of_loc (Loc.span _)) (fun _ => EndsA.guard _ (EndsA.bind (le_of_loc (Loc.span _)) (fun _ => EndsA.map _ (EndsA.lit (c := 62) rfl (by decide)))))
      · exact EndsA.guard _ (EndsA.bind (le_of_loc (Loc.span _)) (fun _ => EndsA.guard _ (EndsA.map _ (attrs_ends _ _))))
theorem piece_txt {l : List UInt8} {n : Nat} {o : Option Tk} (hl : TxtOK l) (h : pieceR l = some (n, o)) : TxtOK (l.drop n) ∧ ∀ t, o = some t → TkTxt t := by
  unfold pieceR at h
  split at h
  · exact ⟨mark_ends.rest h hl, fun t ht => mark_txt hl (by rw [← ht]; exact h)⟩
  · have hn := (text_some h).1
    obtain ⟨s1, s2⟩ := span_txt (p := fun c => c != 60) (fun c hc => by
      have : c = 60 := by simpa using hc
      rw [this]; decide) hl
    refine ⟨by rw [hn]; exact s2, fun t ht => ?_⟩
    unfold textR at h
    simp only at h
    split at h
    · cases h
    · split at h
      · cases h
      · split at h
        · cases h
        · rename_i x hx
          simp only [Option.some.injEq, Prod.mk.injEq] at h
          rw [← h.2] at ht
          simp only [Option.some.injEq] at ht
          subst ht
          refine ⟨TxtOK.nil, by simp, ?_⟩
          cases hu : unL false ((l.takeWhile (· != 60)).length + 1) (l.takeWhile (· != 60)) 0 with
          | error p => rw [hu] at hx; cases hx
          | ok y =>
            rw [hu] at hx
            simp only [okL, Option.some.injEq] at hx
            subst hx
            exact unL_txt false _ _ (Nat.le_refl _) s1 _ _ _ (by omega) hu
theorem tokL_txt : ∀ (f : Nat) (l : List UInt8) (a : Nat) (ts : List (Nat × Tk)), TxtOK l → tokL f l a = some ts → ∀ x ∈ ts, TkTxt x.2 := by
  intro f
  induction f with
  | zero =>
    intro l a ts _ h x hx
    rcases tokL_some h with ⟨_, rfl⟩ | ⟨f', _, _, _, h0, _⟩
    · simp at hx
    · omega
  | succ f ih =>
    intro l a ts hl h x hx
    rcases tokL_some h with ⟨_, rfl⟩ | ⟨f', n, o, us, h0, hp, hr, hts⟩
    · simp at hx
    · obtain rfl : f' = f := by omega
      obtain ⟨t1, t2⟩ := piece_txt hl hp
      cases o with
      | none => rw [hts] at hx; exact ih _ _ _ t1 hr x hx
      | some t =>
        rw [hts] at hx
        rcases List.mem_cons.1 hx with rfl | hx
        · exact t2 t rfl
        · exact ih _ _ _ t1 hr x hx
theorem declT3_ends : EndsA declT3 := EndsA.bind (le_of_loc (Loc.span _)) (fun _ => EndsA.lit (c := 62) rfl (by decide))
theorem stand_ends : EndsA standR := EndsA.bind (le_of_loc (Loc.lit _)) (fun _ => EndsA.bind (le_of_loc (setting_loc _ _)) (fun _ => declT3_ends))
theorem declT2_ends : EndsA declT2 := by
  refine EndsA.bind (le_of_loc (Loc.span _)) (fun bs => EndsA.bind (le_of_loc Loc.byte) (fun c => ?_))
  split
  · exact EndsA.lit (c := 62) rfl (by decide)
  · exact EndsA.guard _ stand_ends
theorem declT1_ends : EndsA declT1 := by
  refine EndsA.bind (le_of_loc (Loc.span _)) (fun bs => EndsA.bind (le_of_loc Loc.byte) (fun c => ?_))
  split
  · exact EndsA.lit (c := 62) rfl (by decide)
  · split
    · exact EndsA.guard _ (EndsA.bind (le_of_loc (Loc.lit _)) (fun _ => EndsA.bind (le_of_loc (setting_loc _ _)) (fun _ => declT2_ends)))
    · exact EndsA.guard _ stand_ends
theorem decl_ends : EndsA declR :=
  EndsA.bind (le_of_loc (Loc.lit _)) (fun _ => EndsA.bind (le_of_loc (Loc.span _)) (fun _ => EndsA.bind (le_of_loc (Loc.lit _)) (fun _ => EndsA.bind (le_of_loc (setting_loc _ _)) (fun _ => declT1_ends))))
theorem doc_txt {s : List UInt8} {ts : List (Nat × Tk)} (h : DocIs s ts) : ∀ x ∈ ts, TkTxt x.2 := by
  obtain ⟨_, h2, h3⟩ := h
  rcases h3 with ⟨_, n, hd, ht⟩ | ⟨_, ht⟩
  · exact tokL_txt _ _ _ _ (decl_ends.rest hd h2) ht
  · exact tokL_txt _ _ _ _ h2 ht
end Wb

namespace Wb
theorem enc_four (n : Int) : (enc n).length ≤ 4 := by
  unfold enc
  split
  · split
    · simp
    · split
      · simp
      · split <;> simp
  · simp
theorem refV_len {t x : List UInt8} (h : refV t = some x) : x.length ≤ 4 := by
  unfold refV at h
  repeat' split at h
  all_goals first
    | (cases h; done)
    | (simp only [Option.some.injEq] at h; subst h; simp; done)
    | (simp only [Option.some.injEq] at h; subst h; exact enc_four _)
theorem map_ok {α β ε : Type} {f : α → β} {e : Except ε α} {b : β} (h : e.map f = .ok b) : ∃ a, e = .ok a ∧ b = f a := by
  cases e with
  | error _ => cases h
  | ok a => exact ⟨a, rfl, by injection h with h; exact h.symm⟩
theorem unL_len (attr : Bool) : ∀ (f : Nat) (l : List UInt8) (k : Nat) (x : List UInt8), unL attr f l k = .ok x → x.length ≤ 4 * l.length
  | 0, l, k, x, h => by
    unfold unL at h
    injection h with h
    subst h
    simp
  | f + 1, [], k, x, h => by
    unfold unL at h
    injection h with h
    subst h
    simp
  | f + 1, c :: l, k, x, h => by
    unfold unL at h
    split at h
    · split at h
      · cases h
      · rename_i t r hs
        split at h
        · cases h
        · rename_i y hy
          obtain ⟨z, hz, rfl⟩ := map_ok h
          have h1 := unL_len attr f _ _ _ hz
          have h2 := refV_len hy
          have h3 := congrArg List.length (semi_drop hs)
          simp only [List.length_append, List.length_cons] at h3 ⊢
          omega
    · split at h
      · split at h
        · obtain ⟨z, hz, rfl⟩ := map_ok h
          have h1 := unL_len attr f _ _ _ hz
          simp only [List.length_cons, List.length_drop] at h1 ⊢
          omega
        · obtain ⟨z, hz, rfl⟩ := map_ok h
          have h1 := unL_len attr f _ _ _ hz
          simp only [List.length_cons] at h1 ⊢
          omega
      · obtain ⟨z, hz, rfl⟩ := map_ok h
        have h1 := unL_len attr f _ _ _ hz
        simp only [List.length_cons] at h1 ⊢
        omega
theorem okL_some' {r : Except Nat (List UInt8)} {v : List UInt8} (h : okL r = some v) : r = .ok v := by
  cases r with
  | error _ => cases h
  | ok x =>
    simp only [okL, Option.some.injEq] at h
    rw [h]
theorem until_len {p l v : List UInt8} {n : Nat} (h : untilR p l = some (n, v)) : v.length ≤ l.length := by
  have := congrArg List.length (untilR_some h)
  simp only [List.length_append] at this
  omega
theorem value_len {l v : List UInt8} {n : Nat} (h : valueR l = some (n, v)) : v.length ≤ 4 * l.length := by
  unfold valueR at h
  obtain ⟨n1, q, m1, _, h2, rfl⟩ := bindR_some h
  unfold guardR at h2
  split at h2
  · obtain ⟨v0, h3, h4⟩ := mapR_some h2
    split at h4
    · cases h4
    · have h5 := unL_len _ _ _ _ _ (okL_some' h4)
      have h6 := until_len h3
      rw [List.length_drop] at h6
      omega
  · cases h2
def AtSz (D : Nat) (a : List UInt8 × List UInt8) : Prop := a.1.length ≤ 129 ∧ a.2.length ≤ 4 * D
theorem attr_len {D : Nat} {c : UInt8} {l : List UInt8} {n : Nat} {a : List UInt8 × List UInt8} (hl : l.length ≤ D) (h : attrR c l = some (n, a)) : AtSz D a := by
  unfold attrR at h
  obtain ⟨n1, w, m1, _, h2, rfl⟩ := bindR_some h
  unfold guardR at h2
  split at h2
  · rename_i hw
    obtain ⟨n2, _, m2, _, h3, rfl⟩ := bindR_some h2
    obtain ⟨n3, _, m3, _, h4, rfl⟩ := bindR_some h3
    obtain ⟨n4, _, m4, _, h5, rfl⟩ := bindR_some h4
    obtain ⟨v, h6, h7⟩ := mapR_some h5
    simp only [Option.some.injEq] at h7
    subst h7
    have := value_len h6
    simp only [List.length_drop] at this
    have hw' : w.length < 129 := of_decide_eq_true hw
    exact ⟨by simp only [List.length_cons]; omega, by show v.length ≤ _; omega⟩
  · cases h2
theorem attrs_len {D : Nat} : ∀ (f : Nat) (acc : List (List UInt8 × List UInt8)) (l : List UInt8) (n : Nat) (k : Int) (r : List (List UInt8 × List UInt8)), l.length ≤ D → (∀ a ∈ acc, AtSz D a) → attrsR f acc l = some (n, (k, r)) → ∀ a ∈ r, AtSz D a
  | 0, _, _, _, _, _, _, _, h => by cases h
  | f + 1, acc, l, n, k, r, hl, ha, h => by
    unfold attrsR at h
    obtain ⟨n1, bs, m1, _, h2, rfl⟩ := bindR_some h
    obtain ⟨n2, c, m2, _, h4, rfl⟩ := bindR_some h2
    split at h4
    · simp only [pureR, Option.some.injEq, Prod.mk.injEq] at h4
      rw [← h4.2.2]; exact ha
    · split at h4
      · obtain ⟨_, _, h5⟩ := mapR_some h4
        simp only [Option.some.injEq, Prod.mk.injEq] at h5
        rw [← h5.2]; exact ha
      · unfold guardR at h4
        split at h4
        · obtain ⟨n3, a, m3, h5, h6, rfl⟩ := bindR_some h4
          refine attrs_len f _ _ _ _ _ (by simp only [List.length_drop]; omega) (fun b hb => ?_) h6
          rcases List.mem_append.1 hb with hb | hb
          · exact ha b hb
          · rw [List.mem_singleton.1 hb]
            exact attr_len (by simp only [List.length_drop]; omega) h5
        · cases h4
def TkSz (D : Nat) (t : Tk) : Prop := t.2.1.length ≤ 129 ∧ (∀ a ∈ t.2.2.1, AtSz D a) ∧ t.2.2.2.length ≤ 4 * D
theorem ends_len : ∀ (l : List UInt8), (endsL l).length ≤ l.length
  | [] => by unfold endsL; simp
  | c :: l => by
    have := ends_len l
    unfold endsL
    split
    · split
      · simp only [List.length_cons]; omega
      · simp only [List.length_cons]; omega
    · simp only [List.length_cons]; omega
theorem piece_len {D : Nat} {l : List UInt8} {n : Nat} {t : Tk} (hl : l.length ≤ D) (h : pieceR l = some (n, some t)) : TkSz D t := by
  unfold pieceR at h
  split at h
  · unfold markR at h
    obtain ⟨n1, _, m1, _, h2, _⟩ := bindR_some h
    obtain ⟨n2, c, m2, _, h4, _⟩ := bindR_some h2
    split at h4
    · unfold piR at h4
      obtain ⟨_, _, _, _, h6, _⟩ := bindR_some h4
      unfold guardR at h6
      split at h6
      · obtain ⟨_, _, h7⟩ := mapR_some h6
        simp at h7
      · cases h6
    · split at h4
      · unfold bangR at h4
        obtain ⟨n3, d, m3, _, h6, _⟩ := bindR_some h4
        split at h6
        · obtain ⟨_, _, _, _, h8, _⟩ := bindR_some h6
          obtain ⟨_, _, _, _, h10, _⟩ := bindR_some h8
          obtain ⟨_, _, h11⟩ := mapR_some h10
          simp at h11
        · unfold guardR at h6
          split at h6
          · obtain ⟨_, _, _, _, h8, _⟩ := bindR_some h6
            obtain ⟨v, h8v, h9⟩ := mapR_some h8
            have h10 := until_len h8v
            simp only [Option.some.injEq] at h9
            subst h9
            refine ⟨by simp, by simp, ?_⟩
            have h11 := ends_len v
            simp only [List.length_drop] at h10
            show (endsL v).length ≤ _
            omega
          · cases h6
      · split at h4
        · unfold endR at h4
          obtain ⟨_, w, _, _, h6, _⟩ := bindR_some h4
          unfold guardR at h6
          split at h6
          · rename_i hw
            obtain ⟨_, _, _, _, h8, _⟩ := bindR_some h6
            obtain ⟨_, _, h9⟩ := mapR_some h8
            simp only [Option.some.injEq] at h9
            subst h9
            rw [Bool.and_eq_true] at hw
            exact ⟨of_decide_eq_true hw.2, by simp, by simp⟩
          · cases h6
        · unfold guardR at h4
          split at h4
          · unfold startR at h4
            obtain ⟨_, w, _, _, h6, _⟩ := bindR_some h4
            unfold guardR at h6
            split at h6
            · rename_i hw
              obtain ⟨⟨k, at_⟩, h7, h8⟩ := mapR_some h6
              simp only [Option.some.injEq] at h8
              subst h8
              have hw' : w.length < 129 := of_decide_eq_true hw
              refine ⟨by simp only [List.length_cons]; omega, ?_, by simp⟩
              exact attrs_len (D := D) _ _ _ _ _ _ (by simp only [List.length_drop]; omega) (by simp) h7
            · cases h6
          · cases h4
  · unfold textR at h
    simp only at h
    split at h
    · cases h
    · split at h
      · cases h
      · split at h
        · cases h
        · rename_i x hx
          simp only [Option.some.injEq, Prod.mk.injEq] at h
          obtain ⟨_, h⟩ := h
          subst h
          have h1 := unL_len _ _ _ _ _ (okL_some' hx)
          have h2 : (l.takeWhile (· != 60)).length ≤ l.length := (List.takeWhile_sublist _).length_le
          exact ⟨by simp, by simp, by show x.length ≤ _; omega⟩
theorem tokL_len {D : Nat} : ∀ (f : Nat) (l : List UInt8) (a : Nat) (ts : List (Nat × Tk)), l.length ≤ D → tokL f l a = some ts → (∀ x ∈ ts, TkSz D x.2) ∧ ts.length ≤ l.length := by
  intro f
  induction f with
  | zero =>
    intro l a ts hl h
    rcases tokL_some h with ⟨_, rfl⟩ | ⟨f', _, _, _, h0, _⟩
    · simp
    · omega
  | succ f ih =>
    intro l a ts hl h
    rcases tokL_some h with ⟨_, rfl⟩ | ⟨f', n, o, us, h0, hp, hr, hts⟩
    · simp
    · obtain rfl : f' = f := by omega
      have hn := piece_takes hp
      obtain ⟨i1, i2⟩ := ih _ _ _ (by rw [List.length_drop]; omega) hr
      rw [List.length_drop] at i2
      have hle := (piece_loc _ _ _ hp).1
      cases o with
      | none => rw [hts]; exact ⟨i1, by show us.length ≤ _; omega⟩
      | some t =>
        rw [hts]
        refine ⟨fun x hx => ?_, by simp only [consT, List.length_cons]; omega⟩
        rcases List.mem_cons.1 hx with rfl | hx
        · exact piece_len hl hp
        · exact i1 x hx
theorem doc_len {s : List UInt8} {ts : List (Nat × Tk)} (h : DocIs s ts) : (∀ x ∈ ts, TkSz s.length x.2) ∧ ts.length ≤ s.length := by
  rcases h.2.2 with ⟨_, n, _, ht⟩ | ⟨_, ht⟩
  · obtain ⟨h1, h2⟩ := tokL_len (D := s.length) _ _ _ _ (by rw [List.length_drop]; omega) ht
    rw [List.length_drop] at h2
    exact ⟨h1, by omega⟩
  · exact tokL_len _ _ _ _ (Nat.le_refl _) ht
end Wb

namespace Wb
theorem piece_three {l : List UInt8} {n : Nat} {t : Tk} (h : pieceR l = some (n, some t)) (hk : t.1 = 1 ∨ t.1 = 3) : 3 ≤ n := by
  unfold pieceR at h
  split at h
  · unfold markR at h
    obtain ⟨n1, _, m1, h1, h2, rfl⟩ := bindR_some h
    obtain ⟨rfl, _⟩ := litR_some h1
    obtain ⟨n2, c, m2, h3, h4, rfl⟩ := bindR_some h2
    obtain ⟨rfl, _⟩ := byteR_some h3
    have : 1 ≤ m2 := by
      split at h4
      · unfold piR at h4
        exact Takes.bindR (fun _ => Takes.guard _ (Takes.map _ piEnd_takes)) _ _ _ h4
      · split at h4
        · unfold bangR at h4
          exact Takes.bindL Takes.byte _ _ _ h4
        · split at h4
          · unfold endR at h4
            exact Takes.bindR (fun _ => Takes.guard _ (Takes.bindR fun _ => Takes.map _ (Takes.lit1 _ _))) _ _ _ h4
          · unfold guardR at h4
            split at h4
            · unfold startR at h4
              exact Takes.bindR (fun _ => Takes.guard _ (Takes.map _ (attrs_takes _ _))) _ _ _ h4
            · cases h4
    simp only [List.length_cons, List.length_nil]
    omega
  · obtain ⟨_, _, x, hx⟩ := text_some h
    simp only [Option.some.injEq] at hx
    subst hx
    rcases hk with hk | hk
    · have : (4 : Int) = 1 := hk
      omega
    · have : (4 : Int) = 3 := hk
      omega
def tkv (p : Nat × Tk) : TkV := ⟨p.2.1, p.1, ⟨p.2.2.1.toArray⟩, p.2.2.2.1.map fun q => (⟨q.1.toArray⟩, ⟨q.2.toArray⟩), ⟨p.2.2.2.2.toArray⟩⟩
def need (b : Bd) : Nat := match b.opened.getLast? with | none => 0 | some e => if lastK 0 e.kids = 2 then 0 else 1
def Cnt (b : Bd) (p : Nat) : Prop := 2 * b.nodes + need b ≤ p
theorem need_le (b : Bd) : need b ≤ 1 := by
  unfold need
  split
  · omega
  · split <;> omega
theorem need_app {b : Bd} {l : List El} {e : El} (h : b.opened = l ++ [e]) : need b = if lastK 0 e.kids = 2 then 0 else 1 := by
  unfold need; rw [h]; simp
theorem closeX_nodes (b : Bd) : (closeX b).nodes = b.nodes := by
  unfold closeX
  split
  · rfl
  · split <;> rfl
theorem text_cnt {b b' : Bd} {s : ByteArray} {p : Nat} (h : Cnt b p) (ht : textX' b s = .ok b') : Cnt b' (p + 1) := by
  unfold Cnt at *
  unfold textX' at ht
  rcases last_cases b.opened with h0 | ⟨l, e, h1⟩
  · rw [h0] at ht
    simp only [List.getLast?_nil] at ht
    split at ht
    · simp only [Except.ok.injEq] at ht
      rw [← ht]; omega
    · cases ht
  · have hn := need_app h1
    rw [h1] at ht
    simp only [List.getLast?_append, List.getLast?_singleton, Option.some_or, List.dropLast_concat] at ht
    split at ht
    · simp only [Except.ok.injEq] at ht
      rw [← ht]; omega
    · have hk : (textKids e.kids s).2 = true → ¬ lastK 0 e.kids = 2 := by
        rcases last_cases e.kids with hk | ⟨m, k, hk⟩
        · rw [hk]; intro _; decide
        · rw [hk]
          by_cases h2 : k.kind = 2
          · rw [textKids_two s h2]; intro hh; cases hh
          · intro _ hh
            apply h2
            unfold lastK at hh
            simpa using hh
      have hl : lastK 0 (textKids e.kids s).1 = 2 := by
        rcases last_cases e.kids with hk | ⟨m, k, hk⟩
        · rw [hk]; rfl
        · rw [hk]
          by_cases h2 : k.kind = 2
          · rw [textKids_two s h2]
            unfold lastK
            simp [Nd.kind]
            exact h2
          · rw [textKids_else s h2]
            unfold lastK
            simp [Nd.kind]
      have hn2 : ∀ b2 : Bd, b2.opened = l ++ [{ e with kids := (textKids e.kids s).1 }] → need b2 = 0 := fun b2 hb => by rw [need_app hb, if_pos hl]
      split at ht
      · simp only [Except.ok.injEq] at ht
        subst ht
        rw [hn2 _ rfl]
        show 2 * b.nodes + 0 ≤ _
        omega
      · rename_i hf2
        split at ht
        · cases ht
        · simp only [Except.ok.injEq] at ht
          subst ht
          rw [hn2 _ rfl]
          rw [if_neg (hk (by simpa using hf2))] at hn
          show 2 * (b.nodes + 1) + 0 ≤ _
          omega
theorem start_cnt {b b' : Bd} {t : TkV} (h : startX b t = .ok b') : b'.nodes = b.nodes + 1 := by
  unfold startX at h
  split at h
  · cases h
  · split at h
    · cases h
    · split at h
      · cases h
      · cases hb : begunX (scopeX b) t with
        | error er => rw [hb] at h; cases h
        | ok e =>
          rw [hb] at h
          simp only [Except.ok.injEq] at h
          rw [← h]
theorem take_cnt {b b' : Bd} {t : TkV} {p n : Nat} (h : Cnt b p) (ht : takeX' b t = .ok b') (h1 : 1 ≤ n) (h3 : t.kind ≠ 4 → t.kind ≠ 2 → 3 ≤ n) : Cnt b' (p + n) := by
  unfold takeX' at ht
  split at ht
  · have := text_cnt h ht
    unfold Cnt at *
    omega
  · rename_i k4
    split at ht
    · unfold endX' at ht
      split at ht
      · cases ht
      · split at ht
        · simp only [Except.ok.injEq] at ht
          have e := closeX_nodes b
          have := need_le (closeX b)
          rw [ht] at e this
          unfold Cnt at *
          omega
        · cases ht
    · rename_i k2
      have hn := h3 k4 k2
      cases hs : startX b t with
      | error e => rw [hs] at ht; cases ht
      | ok b2 =>
        rw [hs] at ht
        simp only [Except.ok.injEq] at ht
        have e := start_cnt hs
        have := need_le b'
        have e2 : b'.nodes = b2.nodes := by
          rw [← ht]
          split
          · exact closeX_nodes b2
          · rfl
        unfold Cnt at *
        omega
theorem toks_cnt : ∀ (f : Nat) (l : List UInt8) (a : Nat) (ts : List (Nat × Tk)) (b b' : Bd), tokL f l a = some ts → Cnt b a → takeAll b (ts.map tkv) = .ok b' → Cnt b' (a + l.length) := by
  intro f
  induction f with
  | zero =>
    intro l a ts b b' h hc ht
    rcases tokL_some h with ⟨rfl, rfl⟩ | ⟨f', _, _, _, h0, _⟩
    · simp only [List.map_nil, takeAll, Except.ok.injEq] at ht
      rw [← ht]; exact hc
    · omega
  | succ f ih =>
    intro l a ts b b' h hc ht
    rcases tokL_some h with ⟨rfl, rfl⟩ | ⟨f', n, o, us, h0, hp, hr, hts⟩
    · simp only [List.map_nil, takeAll, Except.ok.injEq] at ht
      rw [← ht]; exact hc
    · obtain rfl : f' = f := by omega
      have hn := piece_takes hp
      have hin := (piece_loc _ _ _ hp).1
      have hlen : a + n + (l.drop n).length = a + l.length := by rw [List.length_drop]; omega
      cases o with
      | none =>
        rw [hts] at ht
        have := ih _ _ _ b b' hr (by unfold Cnt at *; omega) ht
        rwa [hlen] at this
      | some t =>
        rw [hts] at ht
        simp only [consT, List.map_cons, takeAll] at ht
        cases hs : takeX' b (tkv (a, t)) with
        | error e => rw [hs] at ht; cases ht
        | ok b2 =>
          rw [hs] at ht
          have hk := (piece_form hp)
          have h2 : Cnt b2 (a + n) := take_cnt hc hs hn (fun k4 k2 => piece_three hp (by
            have h1 := hk.1
            have h4 := hk.2.1
            have e4 : t.1 ≠ 4 := k4
            have e2 : t.1 ≠ 2 := k2
            omega))
          have := ih _ _ _ b2 b' hr h2 ht
          rwa [hlen] at this
theorem prs_txt {t : Nat × Tk} (h : TkTxt t.2) : (∀ x ∈ (tkv t).attrs, TxtB x.2) ∧ TxtB (tkv t).text := by
  refine ⟨fun x hx => ?_, h.2.2⟩
  obtain ⟨q, hq, rfl⟩ := List.mem_map.1 hx
  exact (h.2.1 q hq).2
theorem doc_tree {s : List UInt8} {ts : List (Nat × Tk)} (h : DocIs s ts) {n : Nd} (ht : treeX s.length (ts.map tkv) = .ok n) : okN 1 n ∧ n.kind = 1 ∧ costN n ≤ 2000 ∧ 2 * costN n ≤ s.length := by
  have htx := doc_txt h
  obtain ⟨g1, g2, g3⟩ := treeX_ok (fun t ht => by
    obtain ⟨x, hx, rfl⟩ := List.mem_map.1 ht
    exact prs_txt (htx x hx)) ht
  refine ⟨g1, g2, g3, ?_⟩
  unfold treeX at ht
  cases ha : takeAll Bd.none_ (ts.map tkv) with
  | error e => rw [ha] at ht; cases ht
  | ok b =>
    rw [ha] at ht
    simp only at ht
    split at ht
    · cases ht
    · split at ht
      · cases ht
      · rename_i hr
        simp only [Except.ok.injEq] at ht
        subst ht
        have hr1 : b.root.kind = 1 := by simpa using hr
        have hb := takeAll_ok _ BdOK.none_ (fun t ht => by
          obtain ⟨x, hx, rfl⟩ := List.mem_map.1 ht
          exact prs_txt (htx x hx)) ha
        have hc := hb.count
        rw [if_pos hr1, (hb.root hr1).1] at hc
        have h0 : opN [] = 0 := rfl
        have hcnt : Cnt b s.length := by
          rcases h.2.2 with ⟨_, k, hd, hk⟩ | ⟨_, hk⟩
          · have hkl := (decl_loc _ _ _ hd).1
            have := toks_cnt _ _ _ _ Bd.none_ b hk (by unfold Cnt; show 2 * 0 + 0 ≤ k; omega) ha
            rwa [List.length_drop, show k + (s.length - k) = s.length from by omega] at this
          · have := toks_cnt _ _ _ _ Bd.none_ b hk (by unfold Cnt; show 2 * 0 + 0 ≤ 0; omega) ha
            rwa [Nat.zero_add] at this
        unfold Cnt at hcnt
        omega
end Wb

namespace Wb
theorem declL_len : ∀ (l : List Pr) (seen : List ByteArray) (binds rest b r : List Pr) (M : Nat), declL l seen binds rest = .ok (b, r) → (∀ x ∈ l, x.2.size ≤ M) → (∀ x ∈ binds, x.2.size ≤ M) →
    b.length ≤ binds.length + l.length ∧ r.length ≤ rest.length + l.length ∧ (∀ x ∈ b, x.2.size ≤ M) ∧ ∀ x ∈ r, x ∈ rest ∨ x ∈ l
  | [], seen, binds, rest, b, r, M, h, _, hb => by
    simp only [declL, Except.ok.injEq, Prod.mk.injEq] at h
    obtain ⟨rfl, rfl⟩ := h
    exact ⟨by omega, by omega, hb, fun x hx => .inl hx⟩
  | x :: l, seen, binds, rest, b, r, M, h, hl, hb => by
    unfold declL at h
    have hl' : ∀ y ∈ l, y.2.size ≤ M := fun y hy => hl y (by simp [hy])
    split at h
    · split at h
      · cases h
      · split at h
        · cases h
        · split at h
          · obtain ⟨h1, h2, h3, h4⟩ := declL_len l _ _ _ b r M h hl' (fun y hy => by
              rcases List.mem_append.1 hy with hy | hy
              · exact hb y hy
              · rw [List.mem_singleton] at hy
                subst hy
                exact hl x (by simp))
            simp only [List.length_append, List.length_nil, List.length_cons] at *
            exact ⟨by omega, by omega, h3, fun y hy => (h4 y hy).imp id (fun h => by simp [h])⟩
          · cases h
    · obtain ⟨h1, h2, h3, h4⟩ := declL_len l _ _ _ b r M h hl' hb
      simp only [List.length_append, List.length_nil, List.length_cons] at *
      refine ⟨by omega, by omega, h3, fun y hy => ?_⟩
      rcases h4 y hy with h | h
      · rcases List.mem_append.1 h with h | h
        · exact .inl h
        · rw [List.mem_singleton] at h
          subst h
          exact .inr (by simp)
      · exact .inr (by simp [h])
structure TkOk (t : TkV) : Prop where
  few : t.attrs.length ≤ 67
  each : ∀ x ∈ t.attrs, x.1.size ≤ 1000000 ∧ x.2.size ≤ 1000000
  name : t.name.size ≤ 1000000
  text : t.text.size ≤ 1000000
def ScSz (n : Nat) (sc : List Pr) : Prop := sc.length ≤ n ∧ ∀ x ∈ sc, x.2.size ≤ 1000000
structure BdSz (T : Nat) (b : Bd) : Prop where
  scope : ∀ (i : Nat) (e : El), b.opened[i]? = some e → ScSz (67 * (i + 1)) e.scope
  text : ∀ e ∈ b.opened, ∀ k ∈ e.kids, k.text.size ≤ T
theorem BdSz.none_ : BdSz 0 Bd.none_ := ⟨fun i e h => by simp [Bd.none_] at h, fun e h => by simp [Bd.none_] at h⟩
theorem BdSz.mono {T T' : Nat} {b : Bd} (h : BdSz T b) (hT : T ≤ T') : BdSz T' b := ⟨h.scope, fun e he k hk => Nat.le_trans (h.text e he k hk) hT⟩
theorem begunX_sz {sc : List Pr} {n : Nat} (hs : ScSz n sc) {t : TkV} (ht : TkOk t) {e : El} (h : begunX sc t = .ok e) : ScSz (n + 67) e.scope ∧ e.kids = [] := by
  unfold begunX at h
  cases hdl : declL t.attrs [] [] [] with
  | error er => rw [hdl] at h; cases h
  | ok br =>
    obtain ⟨binds, rest⟩ := br
    rw [hdl] at h
    simp only at h
    obtain ⟨h1, _, h3, _⟩ := declL_len _ _ _ _ _ _ 1000000 hdl (fun x hx => (ht.each x hx).2) (by simp)
    have := ht.few
    have hl := hs.1
    split at h
    · cases h
    · split at h
      · cases h
      · split at h
        · cases h
        · simp only [Except.ok.injEq] at h
          subst h
          refine ⟨⟨by simp at h1 ⊢; omega, fun x hx => ?_⟩, rfl⟩
          rcases List.mem_append.1 hx with hx | hx
          · exact hs.2 x hx
          · exact h3 x hx
theorem scopeX_sz {T : Nat} {b : Bd} (h : BdSz T b) : ScSz (67 * b.opened.length) (scopeX b) := by
  unfold scopeX
  rcases last_cases b.opened with h0 | ⟨l, e, h1⟩
  · rw [h0]; exact ⟨by simp, by simp⟩
  · have := h.scope l.length e (by rw [h1]; simp)
    rw [h1]
    simpa using this
theorem closeX_sz {T : Nat} {b : Bd} (h : BdSz T b) : BdSz T (closeX b) := by
  rcases last_cases b.opened with h0 | ⟨l, e, h1⟩
  · unfold closeX; rw [h0]; exact h
  · rcases last_cases l with h2 | ⟨m, f, h2⟩
    · rw [closeX_one (e := e) (by rw [h1, h2]; rfl)]
      exact ⟨fun i e h => by simp at h, fun e h => by simp at h⟩
    · rw [h2] at h1
      rw [closeX_more h1]
      have sc := h.scope
      have tx := h.text
      rw [h1] at sc tx
      refine ⟨fun i g hg => ?_, fun g hg k hk => ?_⟩
      · show ScSz _ g.scope
        have hg : (m ++ [f.more e.node])[i]? = some g := hg
        by_cases hi : i < m.length
        · rw [List.getElem?_append_left hi] at hg
          exact sc i g (by rw [List.append_assoc, List.getElem?_append_left hi]; exact hg)
        · have hil := (List.getElem?_eq_some_iff.1 hg).1
          simp at hil
          have hi2 : i = m.length := by omega
          subst hi2
          simp at hg
          subst hg
          exact sc m.length f (by simp)
      · have hg : g ∈ m ++ [f.more e.node] := hg
        rcases List.mem_append.1 hg with hg | hg
        · exact tx g (by simp [hg]) k hk
        · rw [List.mem_singleton] at hg
          subst hg
          have hk : k ∈ f.kids ++ [e.node] := hk
          rcases List.mem_append.1 hk with hk | hk
          · exact tx f (by simp) k hk
          · rw [List.mem_singleton] at hk
            subst hk
            show ByteArray.size sE ≤ T
            exact Nat.zero_le _
theorem startX_sz {T : Nat} {b b' : Bd} (h : BdSz T b) {t : TkV} (ht : TkOk t) (hs : startX b t = .ok b') : BdSz T b' := by
  unfold startX at hs
  split at hs
  · cases hs
  · split at hs
    · cases hs
    · split at hs
      · cases hs
      · split at hs
        · cases hs
        · rename_i e he
          simp only [Except.ok.injEq] at hs
          subst hs
          obtain ⟨h1, h2⟩ := begunX_sz (scopeX_sz h) ht he
          refine ⟨fun i g hg => ?_, fun g hg k hk => ?_⟩
          · have hg : (b.opened ++ [e])[i]? = some g := hg
            by_cases hi : i < b.opened.length
            · rw [List.getElem?_append_left hi] at hg
              exact h.scope i g hg
            · have hil := (List.getElem?_eq_some_iff.1 hg).1
              simp at hil
              have hi2 : i = b.opened.length := by omega
              subst hi2
              simp at hg
              subst hg
              rw [Nat.mul_add, Nat.mul_one]
              exact h1
          · have hg : g ∈ b.opened ++ [e] := hg
            rcases List.mem_append.1 hg with hg | hg
            · exact h.text g hg k hk
            · rw [List.mem_singleton] at hg
              subst hg
              rw [h2] at hk
              cases hk
theorem textX_sz {T : Nat} {b b' : Bd} (h : BdSz T b) {s : ByteArray} (hs : textX' b s = .ok b') : BdSz (T + s.size) b' := by
  have put : ∀ (l : List El) (e : El), b.opened = l ++ [e] → ∀ (n : Nat), BdSz (T + s.size) { b with opened := l ++ [{ e with kids := (textKids e.kids s).1 }], nodes := n } := by
    intro l e h1 n
    have sc := h.scope
    have tx := h.text
    rw [h1] at sc tx
    refine ⟨fun i g hg => ?_, fun g hg k hk => ?_⟩
    · have hg : (l ++ [{ e with kids := (textKids e.kids s).1 }])[i]? = some g := hg
      by_cases hi : i < l.length
      · rw [List.getElem?_append_left hi] at hg
        exact sc i g (by rw [List.getElem?_append_left hi]; exact hg)
      · have hil := (List.getElem?_eq_some_iff.1 hg).1
        simp at hil
        have hi2 : i = l.length := by omega
        subst hi2
        simp at hg
        subst hg
        exact sc l.length e (by simp)
    · have hg : g ∈ l ++ [{ e with kids := (textKids e.kids s).1 }] := hg
      rcases List.mem_append.1 hg with hg | hg
      · exact Nat.le_trans (tx g (by simp [hg]) k hk) (Nat.le_add_right _ _)
      · rw [List.mem_singleton] at hg
        subst hg
        have hk : k ∈ (textKids e.kids s).1 := hk
        rcases last_cases e.kids with h2 | ⟨ks, j, h2⟩
        · rw [h2] at hk
          simp only [textKids, List.getLast?_nil, List.mem_singleton] at hk
          subst hk
          show s.size ≤ _
          omega
        · rw [h2] at hk
          have hold : ∀ x ∈ ks ++ [j], x.text.size ≤ T := fun x hx => tx e (by simp) x (by rw [h2]; exact hx)
          by_cases hj : j.kind = 2
          · rw [textKids_two s hj] at hk
            rcases List.mem_append.1 hk with hk | hk
            · have := hold k (by simp [hk]); omega
            · rw [List.mem_singleton] at hk
              subst hk
              have := hold j (by simp)
              show (j.text ++ s).size ≤ _
              rw [ByteArray.size_append]
              omega
          · rw [textKids_else s hj] at hk
            rcases List.mem_append.1 hk with hk | hk
            · have := hold k hk; omega
            · rw [List.mem_singleton] at hk
              subst hk
              show s.size ≤ _
              omega
  unfold textX' at hs
  rcases last_cases b.opened with h0 | ⟨l, e, h1⟩
  · rw [h0] at hs
    simp only [List.getLast?_nil] at hs
    split at hs
    · simp only [Except.ok.injEq] at hs; subst hs; exact h.mono (Nat.le_add_right _ _)
    · cases hs
  · rw [h1] at hs
    simp only [List.getLast?_append, List.getLast?_singleton, Option.some_or, List.dropLast_concat] at hs
    split at hs
    · simp only [Except.ok.injEq] at hs; subst hs; exact h.mono (Nat.le_add_right _ _)
    · split at hs
      · simp only [Except.ok.injEq] at hs; subst hs; exact put l e h1 b.nodes
      · split at hs
        · cases hs
        · simp only [Except.ok.injEq] at hs; subst hs; exact put l e h1 (b.nodes + 1)
theorem takeX_sz {T : Nat} {b b' : Bd} (h : BdSz T b) {t : TkV} (ht : TkOk t) (hs : takeX' b t = .ok b') : BdSz (T + 1000000) b' := by
  unfold takeX' at hs
  split at hs
  · exact (textX_sz h hs).mono (by have := ht.text; omega)
  · split at hs
    · unfold endX' at hs
      split at hs
      · cases hs
      · split at hs
        · simp only [Except.ok.injEq] at hs
          subst hs
          exact (closeX_sz h).mono (Nat.le_add_right _ _)
        · cases hs
    · split at hs
      · cases hs
      · rename_i b1 hb1
        simp only [Except.ok.injEq] at hs
        subst hs
        have h1 := (startX_sz h ht hb1).mono (Nat.le_add_right T 1000000)
        split
        · exact closeX_sz h1
        · exact h1
theorem tkv_ok {D : Nat} (hD : D ≤ 32768) {t : Nat × Tk} (h : TkSz D t.2) (hf : t.2.2.2.1.length ≤ 67) : TkOk (tkv t) := by
  obtain ⟨h1, h2, h3⟩ := h
  refine ⟨by simpa [tkv] using hf, fun x hx => ?_, ?_, ?_⟩
  · simp only [tkv, List.mem_map] at hx
    obtain ⟨q, hq, rfl⟩ := hx
    obtain ⟨a1, a2⟩ := h2 q hq
    simp only [ByteArray.size, List.size_toArray]
    omega
  · simp only [tkv, ByteArray.size, List.size_toArray]
    omega
  · simp only [tkv, ByteArray.size, List.size_toArray]
    omega
end Wb

