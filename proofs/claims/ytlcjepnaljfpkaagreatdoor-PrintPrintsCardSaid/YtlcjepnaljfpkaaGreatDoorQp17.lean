/- TrR. -/
import Derived.Test.YtlcjepnaljfpkaaGreatDoorQp10
import Derived.Test.YtlcjepnaljfpkaaGreatDoorQp16
namespace Wb
def TxtB (s : ByteArray) : Prop := TxtOK s.data.toList
def nameOK (n : Pr) : Prop := nameB n.2.data.toList = true ∧ TxtB n.1 ∧ n.1 ≠ sXMLNS
def attrsOK (l : List Tr) : Prop := l.length ≤ 32 ∧ (l.map (·.1)).Pairwise (· ≠ ·) ∧ ∀ a ∈ l, nameOK a.1 ∧ a.1 ≠ (sE, sXmlns) ∧ TxtB a.2
mutual
/-- A node asz it must be that stands so deep, but for how many there are. -/
def okN : Nat → Nd → Prop
  | d, .mk k n asz ks t => (k = 1 ∧ d ≤ 24 ∧ t = sE ∧ nameOK n ∧ attrsOK asz ∧ okKs (d + 1) 0 ks) ∨ (k = 2 ∧ t ≠ sE ∧ TxtB t ∧ n = (sE, sE) ∧ asz = [] ∧ ks = [])
def okKs : Nat → Int → List Nd → Prop
  | _, _, [] => True
  | d, ahead, k :: ks => ¬ (ahead = 2 ∧ k.kind = 2) ∧ okN d k ∧ okKs d k.kind ks
end
def ScOK (sc : List Pr) : Prop := ∀ x ∈ sc, TxtB x.2 ∧ x.2 ≠ sXMLNS ∧ (x.1 ≠ sE → x.2 ≠ sE)
theorem TxtB.E : TxtB sE := by unfold TxtB; exact TxtOK.nil
theorem TxtB.xml : TxtB sXML := by
  unfold TxtB
  exact TxtOK.ascii (by decide)
theorem bindB_ok {p s : ByteArray} (h : bindB p s = 0) : s ≠ sXMLNS ∧ (p ≠ sE → s ≠ sE) := by
  unfold bindB at h
  split at h
  · cases h
  · split at h
    · cases h
    · rename_i h2
      have h2' : (eqT p sXmlns || (eqT p sXmlQ && !(eqT s sXML)) || (!(eqT p sXmlQ) && (eqT s sXML || eqT s sXMLNS)) || (!(eqT p sE) && eqT s sE)) = false := Bool.eq_false_iff.2 h2
      simp only [Bool.or_eq_false_iff, Bool.and_eq_false_iff, Bool.not_eq_false'] at h2'
      obtain ⟨⟨⟨_, a2⟩, a3⟩, a4⟩ := h2'
      constructor
      · rintro rfl
        rcases a3 with a3 | a3
        · rcases a2 with a2 | a2
          · rw [a3] at a2; cases a2
          · exact sXML_ne ((eqT_iff _ _).1 a2).symm
        · rw [eqT_self] at a3
          exact absurd a3.2 (by decide)
      · rintro hp rfl
        rcases a4 with a4 | a4
        · exact hp ((eqT_iff _ _).1 a4)
        · rw [eqT_self] at a4; cases a4
theorem declL_ok : ∀ (l : List Pr) (seen : List ByteArray) (binds rest b r : List Pr), declL l seen binds rest = .ok (b, r) → (∀ x ∈ l, TxtB x.2) → ScOK binds → (∀ x ∈ rest, TxtB x.2 ∧ (declB x.1).2 = false) →
    ScOK b ∧ (∀ x ∈ r, TxtB x.2 ∧ (declB x.1).2 = false)
  | [], seen, binds, rest, b, r, h, _, hb, hr => by
    simp only [declL, Except.ok.injEq, Prod.mk.injEq] at h
    obtain ⟨rfl, rfl⟩ := h
    exact ⟨hb, hr⟩
  | x :: l, seen, binds, rest, b, r, h, hl, hb, hr => by
    unfold declL at h
    have hl' : ∀ y ∈ l, TxtB y.2 := fun y hy => hl y (by simp [hy])
    split at h
    · split at h
      · cases h
      · split at h
        · cases h
        · split at h
          · rename_i h0
            refine declL_ok l _ _ _ b r h hl' (fun y hy => ?_) hr
            rcases List.mem_append.1 hy with hy | hy
            · exact hb y hy
            · rw [List.mem_singleton] at hy
              subst hy
              exact ⟨hl x (by simp), bindB_ok h0⟩
          · cases h
    · rename_i hd
      refine declL_ok l _ _ _ b r h hl' hb (fun y hy => ?_)
      rcases List.mem_append.1 hy with hy | hy
      · exact hr y hy
      · rw [List.mem_singleton] at hy
        subst hy
        exact ⟨hl y (by simp), Bool.eq_false_iff.2 hd⟩
theorem lastB_memP : ∀ {l : List Pr} {p s : ByteArray}, lastB l p = some s → ∃ x ∈ l, x.1 = p ∧ x.2 = s
  | [], _, _, h => by simp [lastB] at h
  | x :: l, p, s, h => by
    unfold lastB at h
    cases hl : lastB l p with
    | some t =>
      rw [hl] at h
      simp only [Option.some.injEq] at h
      subst h
      obtain ⟨y, hy, e⟩ := lastB_memP hl
      exact ⟨y, by simp [hy], e⟩
    | none =>
      rw [hl] at h
      simp only at h
      split at h
      · rename_i hx
        simp only [Option.some.injEq] at h
        exact ⟨x, by simp, (eqT_iff _ _).1 hx, h⟩
      · cases h
theorem findB_ok {sc : List Pr} (hs : ScOK sc) {p s : ByteArray} (h : findB sc p = (s, true)) : TxtB s ∧ s ≠ sXMLNS ∧ (p ≠ sE → s ≠ sE) := by
  unfold findB at h
  split at h
  · simp only [Prod.mk.injEq, and_true] at h
    subst h
    exact ⟨TxtB.xml, sXML_ne, fun _ => by decide⟩
  · cases hl : lastB sc p with
    | some t =>
      rw [hl] at h
      simp only [Prod.mk.injEq, and_true] at h
      subst h
      obtain ⟨x, hx, rfl, rfl⟩ := lastB_memP hl
      exact hs x hx
    | none =>
      rw [hl] at h
      simp only [Prod.mk.injEq] at h
      obtain ⟨rfl, h2⟩ := h
      exact ⟨TxtB.E, by decide, fun hp => absurd ((eqT_iff _ _).1 h2) hp⟩
theorem splitB_ok {q p lo : ByteArray} (h : splitB q = (p, lo, true)) : nameB lo.data.toList = true ∧ (p = sE → lo = q) := by
  unfold splitB at h
  cases hc : cIx q with
  | none =>
    rw [hc] at h
    simp only at h
    split at h
    · rename_i hn
      simp only [Prod.mk.injEq, and_true] at h
      obtain ⟨rfl, rfl⟩ := h
      exact ⟨hn, fun _ => rfl⟩
    · simp at h
  | some k =>
    rw [hc] at h
    simp only at h
    split at h
    · rename_i hn
      simp only [Bool.and_eq_true] at hn
      simp only [Prod.mk.injEq, and_true] at h
      obtain ⟨rfl, rfl⟩ := h
      refine ⟨hn.2, fun he => ?_⟩
      rw [he] at hn
      exact absurd hn.1 (by decide)
    · simp at h
theorem resB_ok {sc : List Pr} (hs : ScOK sc) {q : ByteArray} {attr : Bool} (h : (resB sc q attr).2 = 0) : nameOK (resB sc q attr).1 ∧ (attr = true → (declB q).2 = false → (resB sc q attr).1 ≠ (sE, sXmlns)) := by
  obtain ⟨p, lo, ok, hq⟩ : ∃ p lo ok, splitB q = (p, lo, ok) := ⟨_, _, _, rfl⟩
  cases ok with
  | false => rw [resB_bad attr hq] at h; cases h
  | true =>
    obtain ⟨h1, h2⟩ := splitB_ok hq
    have hdq : (declB q).2 = false → q ≠ sXmlns := fun hd e => by
      subst e
      rw [declB_1 (eqT_self _)] at hd
      cases hd
    cases hb : (attr && eqT p sE)
    · obtain ⟨s, fo, hf⟩ : ∃ s fo, findB sc p = (s, fo) := ⟨_, _, rfl⟩
      have e := resB_full (attr := attr) hq hb hf (rfl : eqT p sXmlns = _)
      rw [e] at h ⊢
      split at h
      · cases h
      · rename_i hc
        rw [if_neg hc]
        have hfo : fo = true := by
          cases fo
          · simp at hc
          · rfl
        subst hfo
        obtain ⟨g1, g2, g3⟩ := findB_ok hs hf
        refine ⟨⟨h1, g1, g2⟩, fun ha _ he => ?_⟩
        simp only [Prod.mk.injEq] at he
        rw [ha, Bool.true_and] at hb
        have hp : p ≠ sE := fun e => by rw [e, eqT_self] at hb; cases hb
        exact g3 hp he.1
    · simp only [Bool.and_eq_true] at hb
      obtain ⟨rfl, hp⟩ := hb
      rw [resB_bare hq hp]
      refine ⟨⟨h1, TxtB.E, by show sE ≠ sXMLNS; decide⟩, fun _ hd he => ?_⟩
      simp only [Prod.mk.injEq, true_and] at he
      have := h2 ((eqT_iff _ _).1 hp)
      rw [he] at this
      exact hdq hd this.symm
structure ElOK (d : Nat) (e : El) : Prop where
  scope : ScOK e.scope
  name : nameOK e.name
  attrs : attrsOK e.attrs
  kids : okKs (d + 1) 0 e.kids
  deep : d ≤ 24
theorem ElOK.node {d : Nat} {e : El} (h : ElOK d e) : okN d e.node := by
  unfold El.node okN
  exact .inl ⟨rfl, h.deep, rfl, h.name, h.attrs, h.kids⟩
def lastK (ahead : Int) (ks : List Nd) : Int := match ks.getLast? with | none => ahead | some k => k.kind
theorem okKs_app (d : Nat) (k : Nd) : ∀ (ks : List Nd) (ahead : Int), okKs d ahead (ks ++ [k]) ↔ okKs d ahead ks ∧ ¬ (lastK ahead ks = 2 ∧ k.kind = 2) ∧ okN d k
  | [], ahead => by simp [okKs, lastK]
  | j :: ks, ahead => by
    rw [List.cons_append]
    simp only [okKs]
    rw [okKs_app d k ks j.kind]
    have : lastK ahead (j :: ks) = lastK j.kind ks := by
      unfold lastK
      cases ks with
      | nil => rfl
      | cons i ks =>
        rw [List.getLast?_cons_cons]
        cases h : (i :: ks).getLast? with
        | none => simp at h
        | some x => rfl
    rw [this]
    constructor
    · rintro ⟨a, b, c, d, e⟩; exact ⟨⟨a, b, c⟩, d, e⟩
    · rintro ⟨⟨a, b, c⟩, d, e⟩; exact ⟨a, b, c, d, e⟩
theorem ElOK.more {d : Nat} {e : El} {k : Nd} (h : ElOK d e) (hk : okN (d + 1) k) (h1 : k.kind = 1) : ElOK d (e.more k) :=
  ⟨h.scope, h.name, h.attrs, (okKs_app _ _ _ _).2 ⟨h.kids, fun hh => by rw [h1] at hh; exact absurd hh.2 (by decide), hk⟩, h.deep⟩
def OpOK : Nat → List El → Prop
  | _, [] => True
  | d, e :: l => ElOK d e ∧ OpOK (d + 1) l
theorem OpOK.app : ∀ (l : List El) (d : Nat) (e : El), OpOK d (l ++ [e]) ↔ OpOK d l ∧ ElOK (d + l.length) e
  | [], d, e => by simp [OpOK]
  | x :: l, d, e => by
    rw [List.cons_append]
    simp only [OpOK]
    rw [OpOK.app l (d + 1) e, List.length_cons, show d + 1 + l.length = d + (l.length + 1) from by omega]
    constructor
    · rintro ⟨a, b, c⟩; exact ⟨⟨a, b⟩, c⟩
    · rintro ⟨⟨a, b⟩, c⟩; exact ⟨a, b, c⟩
def elN (e : El) : Nat := 1 + costNs e.kids
def opN (l : List El) : Nat := (l.map elN).sum
structure BdOK (b : Bd) : Prop where
  opened : OpOK 1 b.opened
  root : b.root.kind = 1 → b.opened = [] ∧ okN 1 b.root
  count : b.nodes = opN b.opened + (if b.root.kind = 1 then costN b.root else 0)
  few : b.nodes ≤ 2000
theorem BdOK.none_ : BdOK Bd.none_ := ⟨trivial, fun h => absurd h (by decide), by decide, by decide⟩
theorem opN_app (l m : List El) : opN (l ++ m) = opN l + opN m := by simp [opN]
theorem opN_one (e : El) : opN [e] = elN e := by simp [opN]
theorem elN_node (e : El) : costN e.node = elN e := by rw [costN_is]; rfl
theorem elN_more (e : El) (k : Nd) : elN (e.more k) = elN e + costN k := by
  unfold elN El.more
  rw [(costs_app e.kids [k]).1]
  simp only [costNs]
  omega
theorem last_cases {α : Type} (l : List α) : l = [] ∨ ∃ m x, l = m ++ [x] := by
  rcases List.eq_nil_or_concat l with h | ⟨m, x, h⟩
  · exact .inl h
  · exact .inr ⟨m, x, by simpa using h⟩
theorem closeX_one {b : Bd} {e : El} (h : b.opened = [e]) : closeX b = { b with opened := [], root := e.node } := by
  unfold closeX; rw [h]; rfl
theorem closeX_more {b : Bd} {l : List El} {f e : El} (h : b.opened = (l ++ [f]) ++ [e]) : closeX b = { b with opened := l ++ [f.more e.node] } := by
  unfold closeX
  rw [h]
  simp
theorem closeX_ok {b : Bd} (h : BdOK b) : BdOK (closeX b) := by
  rcases last_cases b.opened with h0 | ⟨l, e, h1⟩
  · have : closeX b = b := by unfold closeX; rw [h0]; rfl
    rw [this]; exact h
  · have hop := h.opened
    rw [h1, OpOK.app] at hop
    have hr : ¬ b.root.kind = 1 := fun hk => by
      have := (h.root hk).1
      rw [this] at h1
      simp at h1
    have hc := h.count
    rw [if_neg hr, h1, opN_app, opN_one, Nat.add_zero] at hc
    rcases last_cases l with rfl | ⟨m, f, rfl⟩
    · rw [List.nil_append] at h1
      rw [closeX_one h1]
      refine ⟨trivial, fun _ => ⟨rfl, ?_⟩, ?_, h.few⟩
      · simpa using hop.2.node
      · show b.nodes = opN [] + (if e.node.kind = 1 then costN e.node else 0)
        rw [if_pos (show e.node.kind = 1 from rfl), elN_node]
        have : opN [] = 0 := rfl
        omega
    · rw [closeX_more h1]
      rw [OpOK.app] at hop
      obtain ⟨⟨g1, g2⟩, g3⟩ := hop
      refine ⟨?_, fun hk => absurd hk hr, ?_, h.few⟩
      · show OpOK 1 (m ++ [f.more e.node])
        rw [OpOK.app]
        refine ⟨g1, g2.more ?_ rfl⟩
        have := g3.node
        rwa [List.length_append, List.length_singleton, ← Nat.add_assoc] at this
      · show b.nodes = opN (m ++ [f.more e.node]) + (if b.root.kind = 1 then costN b.root else 0)
        rw [if_neg hr, opN_app, opN_one, elN_more, elN_node]
        rw [opN_app, opN_one] at hc
        omega
theorem begunX_ok {sc : List Pr} (hs : ScOK sc) {t : TkV} (ht : ∀ x ∈ t.attrs, TxtB x.2) {e : El} (h : begunX sc t = .ok e) {d : Nat} (hd : d ≤ 24) : ElOK d e ∧ elN e = 1 := by
  unfold begunX at h
  cases hdl : declL t.attrs [] [] [] with
  | error er => rw [hdl] at h; cases h
  | ok br =>
    obtain ⟨binds, rest⟩ := br
    rw [hdl] at h
    simp only at h
    obtain ⟨hb, hr⟩ := declL_ok _ _ _ _ _ _ hdl ht (by intro x hx; cases hx) (by intro x hx; cases hx)
    have hsc : ScOK (sc ++ binds) := fun x hx => by
      rcases List.mem_append.1 hx with hx | hx
      · exact hs x hx
      · exact hb x hx
    split at h
    · cases h
    · rename_i h32
      split at h
      · cases h
      · rename_i hn
        have hn0 : (resB (sc ++ binds) t.name false).2 = 0 := by simpa using hn
        cases ha : attrL (sc ++ binds) rest [] with
        | error er => rw [ha] at h; cases h
        | ok asz =>
          rw [ha] at h
          simp only [Except.ok.injEq] at h
          subst h
          obtain ⟨a1, a2, _, a4⟩ := (attrL_ok_iff _ _ _ _).1 ha
          rw [List.nil_append] at a2
          refine ⟨⟨hsc, (resB_ok hsc hn0).1, ⟨?_, ?_, ?_⟩, trivial, hd⟩, rfl⟩
          · rw [← a2, List.length_map]; omega
          · rw [← a2, List.map_map]; exact a4
          · intro a ha'
            rw [← a2] at ha'
            obtain ⟨x, hx, rfl⟩ := List.mem_map.1 ha'
            obtain ⟨h1, h2⟩ := hr x hx
            obtain ⟨h3, h4⟩ := resB_ok (attr := true) hsc (a1 x hx)
            exact ⟨h3, h4 rfl h2, h1⟩
theorem scopeX_ok {b : Bd} (h : BdOK b) : ScOK (scopeX b) := by
  unfold scopeX
  rcases last_cases b.opened with h0 | ⟨l, e, h1⟩
  · rw [h0]; intro x hx; cases hx
  · have hop := h.opened
    rw [h1, OpOK.app] at hop
    rw [h1]
    simpa using hop.2.scope
theorem startX_ok {b b' : Bd} (h : BdOK b) {t : TkV} (ht : ∀ x ∈ t.attrs, TxtB x.2) (hs : startX b t = .ok b') : BdOK b' := by
  unfold startX at hs
  split at hs
  · cases hs
  · rename_i hr
    split at hs
    · cases hs
    · rename_i hd
      split at hs
      · cases hs
      · rename_i hn
        cases hb : begunX (scopeX b) t with
        | error er => rw [hb] at hs; cases hs
        | ok e =>
          rw [hb] at hs
          simp only [Except.ok.injEq] at hs
          subst hs
          have hlen : b.opened.length ≤ 24 := by
            have key : ∀ (l : List El) (d : Nat), OpOK d l → d ≤ 25 → l.length + d ≤ 25 := by
              intro l
              induction l with
              | nil => intro d _ hd; simpa using hd
              | cons x l ih =>
                intro d h _
                have := ih (d + 1) h.2 (by have := h.1.deep; omega)
                simp only [List.length_cons]; omega
            have := key b.opened 1 h.opened (by omega)
            omega
          obtain ⟨g1, g2⟩ := begunX_ok (scopeX_ok h) ht hb (d := 1 + b.opened.length) (by omega)
          have hc := h.count
          have hf := h.few
          rw [if_neg hr] at hc
          refine ⟨(OpOK.app _ _ _).2 ⟨h.opened, g1⟩, fun hk => absurd hk hr, ?_, by show b.nodes + 1 ≤ 2000; omega⟩
          show b.nodes + 1 = opN (b.opened ++ [e]) + (if b.root.kind = 1 then costN b.root else 0)
          rw [if_neg hr, opN_app, opN_one, g2]
          omega
theorem TxtB.app {a b : ByteArray} (ha : TxtB a) (hb : TxtB b) : TxtB (a ++ b) := by
  unfold TxtB at *
  rw [ByteArray.data_append, Array.toList_append]
  exact ha.app hb
theorem okN_text {d : Nat} {s : ByteArray} (h0 : s ≠ sE) (hs : TxtB s) : okN d (.mk 2 (sE, sE) [] [] s) := by
  unfold okN
  exact .inr ⟨rfl, h0, hs, rfl, rfl, rfl⟩
theorem app_ne {a b : ByteArray} (h : b ≠ sE) : a ++ b ≠ sE := fun e => by
  have := congrArg ByteArray.size e
  rw [ByteArray.size_append] at this
  have h0 : sE.size = 0 := rfl
  have : b.size = 0 := by omega
  exact h (ByteArray.ext (Array.eq_empty_of_size_eq_zero this))
theorem textKids_two {l : List Nd} {k : Nd} (s : ByteArray) (hk : k.kind = 2) : textKids (l ++ [k]) s = (l ++ [.mk k.kind k.name k.attrs k.kids (k.text ++ s)], false) := by
  unfold textKids
  simp [hk]
theorem textKids_else {l : List Nd} {k : Nd} (s : ByteArray) (hk : ¬ k.kind = 2) : textKids (l ++ [k]) s = ((l ++ [k]) ++ [.mk 2 (sE, sE) [] [] s], true) := by
  unfold textKids
  simp [hk]
theorem textKids_ok {d : Nat} {ks : List Nd} {s : ByteArray} (h : okKs d 0 ks) (h0 : s ≠ sE) (hs : TxtB s) : okKs d 0 (textKids ks s).1 ∧ costNs (textKids ks s).1 = costNs ks + (if (textKids ks s).2 then 1 else 0) := by
  have one : ∀ s, costN (.mk 2 (sE, sE) [] [] s) = 1 := fun s => rfl
  rcases last_cases ks with rfl | ⟨l, k, rfl⟩
  · refine ⟨?_, rfl⟩
    show okKs d 0 [_]
    simp only [okKs, and_true]
    exact ⟨fun hh => absurd hh.1 (by decide), okN_text h0 hs⟩
  · rw [okKs_app] at h
    obtain ⟨g1, g2, g3⟩ := h
    by_cases hk : k.kind = 2
    · rw [textKids_two s hk]
      cases k with
      | mk kk kn ka kks kt =>
        unfold okN at g3
        rcases g3 with g3 | ⟨e1, e2, e3, e4, e5, e6⟩
        · rw [show (Nd.mk kk kn ka kks kt).kind = kk from rfl] at hk
          rw [hk] at g3
          exact absurd g3.1 (by decide)
        · subst e1 e4 e5 e6
          simp only [Nd.kind, Nd.name, Nd.attrs, Nd.kids, Nd.text]
          refine ⟨(okKs_app _ _ _ _).2 ⟨g1, g2, okN_text (app_ne h0) (e3.app hs)⟩, ?_⟩
          rw [(costs_app _ _).1, (costs_app _ _).1]
          rfl
    · rw [textKids_else s hk]
      refine ⟨?_, ?_⟩
      · show okKs d 0 ((l ++ [k]) ++ [_])
        rw [okKs_app, okKs_app]
        refine ⟨⟨g1, g2, g3⟩, fun hh => ?_, okN_text h0 hs⟩
        have : lastK 0 (l ++ [k]) = k.kind := by unfold lastK; simp
        rw [this] at hh
        exact hk hh.1
      · show costNs ((l ++ [k]) ++ [_]) = _
        rw [(costs_app _ _).1]
        rfl
theorem textX_ok {b b' : Bd} (h : BdOK b) {s : ByteArray} (hs : TxtB s) (ht : textX' b s = .ok b') : BdOK b' := by
  unfold textX' at ht
  rcases last_cases b.opened with h0 | ⟨l, e, h1⟩
  · rw [h0] at ht
    simp only [List.getLast?_nil] at ht
    split at ht
    · simp only [Except.ok.injEq] at ht
      rw [← ht]; exact h
    · cases ht
  · rw [h1] at ht
    simp only [List.getLast?_append, List.getLast?_singleton, Option.some_or, List.dropLast_concat] at ht
    have hop := h.opened
    rw [h1, OpOK.app] at hop
    have hr : ¬ b.root.kind = 1 := fun hk => by
      have := (h.root hk).1
      rw [this] at h1
      simp at h1
    have hc := h.count
    have hf := h.few
    rw [if_neg hr, h1, opN_app, opN_one, Nat.add_zero] at hc
    split at ht
    · simp only [Except.ok.injEq] at ht
      rw [← ht]; exact h
    · rename_i hne
      have hne' : s ≠ sE := fun e => hne (by rw [e]; exact eqT_self _)
      obtain ⟨g1, g2⟩ := textKids_ok hop.2.kids hne' hs
      have hel : ElOK (1 + l.length) { e with kids := (textKids e.kids s).1 } := ⟨hop.2.scope, hop.2.name, hop.2.attrs, g1, hop.2.deep⟩
      split at ht
      · rename_i hf2
        simp only [Except.ok.injEq] at ht
        subst ht
        refine ⟨(OpOK.app _ _ _).2 ⟨hop.1, hel⟩, fun hk => absurd hk hr, ?_, hf⟩
        show b.nodes = opN (l ++ [{ e with kids := (textKids e.kids s).1 }]) + (if b.root.kind = 1 then costN b.root else 0)
        rw [if_neg hr, opN_app, opN_one]
        unfold elN at hc ⊢
        rw [hf2] at g2
        simp only [Bool.false_eq_true, if_false] at g2
        simp only
        omega
      · rename_i hf2
        split at ht
        · cases ht
        · rename_i hn
          simp only [Except.ok.injEq] at ht
          subst ht
          refine ⟨(OpOK.app _ _ _).2 ⟨hop.1, hel⟩, fun hk => absurd hk hr, ?_, by show b.nodes + 1 ≤ 2000; omega⟩
          show b.nodes + 1 = opN (l ++ [{ e with kids := (textKids e.kids s).1 }]) + (if b.root.kind = 1 then costN b.root else 0)
          rw [if_neg hr, opN_app, opN_one]
          unfold elN at hc ⊢
          rw [if_pos (by simpa using hf2)] at g2
          simp only
          omega
theorem takeX_ok {b b' : Bd} (h : BdOK b) {t : TkV} (ha : ∀ x ∈ t.attrs, TxtB x.2) (hx : TxtB t.text) (ht : takeX' b t = .ok b') : BdOK b' := by
  unfold takeX' at ht
  split at ht
  · exact textX_ok h hx ht
  · split at ht
    · unfold endX' at ht
      split at ht
      · cases ht
      · split at ht
        · simp only [Except.ok.injEq] at ht
          rw [← ht]; exact closeX_ok h
        · cases ht
    · cases hs : startX b t with
      | error e => rw [hs] at ht; cases ht
      | ok b2 =>
        rw [hs] at ht
        simp only [Except.ok.injEq] at ht
        subst ht
        have := startX_ok h ha hs
        split
        · exact closeX_ok this
        · exact this
theorem takeAll_ok : ∀ (ts : List TkV) {b b' : Bd}, BdOK b → (∀ t ∈ ts, (∀ x ∈ t.attrs, TxtB x.2) ∧ TxtB t.text) → takeAll b ts = .ok b' → BdOK b'
  | [], b, b', h, _, ht => by
    simp only [takeAll, Except.ok.injEq] at ht
    rw [← ht]; exact h
  | t :: ts, b, b', h, hts, ht => by
    unfold takeAll at ht
    cases hs : takeX' b t with
    | error e => rw [hs] at ht; cases ht
    | ok b2 =>
      rw [hs] at ht
      exact takeAll_ok ts (takeX_ok h (hts t (by simp)).1 (hts t (by simp)).2 hs) (fun x hx => hts x (by simp [hx])) ht
theorem treeX_ok {len : Nat} {ts : List TkV} (hts : ∀ t ∈ ts, (∀ x ∈ t.attrs, TxtB x.2) ∧ TxtB t.text) {n : Nd} (h : treeX len ts = .ok n) : okN 1 n ∧ n.kind = 1 ∧ costN n ≤ 2000 := by
  unfold treeX at h
  cases ht : takeAll Bd.none_ ts with
  | error e => rw [ht] at h; cases h
  | ok b =>
    rw [ht] at h
    simp only at h
    have hb := takeAll_ok ts BdOK.none_ hts ht
    split at h
    · cases h
    · rename_i ho
      split at h
      · cases h
      · rename_i hr
        simp only [Except.ok.injEq] at h
        subst h
        have hr1 : b.root.kind = 1 := by simpa using hr
        refine ⟨(hb.root hr1).2, hr1, ?_⟩
        have hc := hb.count
        rw [if_pos hr1] at hc
        have := hb.few
        omega
end Wb
