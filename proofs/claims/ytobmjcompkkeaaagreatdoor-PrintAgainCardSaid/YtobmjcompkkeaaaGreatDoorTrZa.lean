import Derived.Test.YtobmjcompkkeaaaGreatDoorMgR
namespace Wb
theorem until_le {p : List UInt8} : ∀ {l : List UInt8} {n : Nat} {v : List UInt8}, untilR p l = some (n, v) → v.length ≤ n
  | [], n, v, h => by
    unfold untilR at h
    split at h
    · simp only [Option.some.injEq, Prod.mk.injEq] at h
      rw [← h.2]; simp
    · cases h
  | c :: l, n, v, h => by
    unfold untilR at h
    split at h
    · simp only [Option.some.injEq, Prod.mk.injEq] at h
      rw [← h.2]; simp
    · split at h
      · cases h
      · rename_i k a hk
        simp only [Option.some.injEq, Prod.mk.injEq] at h
        have := until_le hk
        rw [← h.1, ← h.2, List.length_cons]
        omega
theorem piece_text {l : List UInt8} {n : Nat} {t : Tk} (h : pieceR l = some (n, some t)) : t.2.2.2.length ≤ 4 * n := by
  unfold pieceR at h
  split at h
  · unfold markR at h
    obtain ⟨n1, _, m1, _, h2, e1⟩ := bindR_some h
    obtain ⟨n2, c, m2, _, h4, e2⟩ := bindR_some h2
    split at h4
    · unfold piR at h4
      obtain ⟨_, _, _, _, h6, _⟩ := bindR_some h4
      unfold guardR at h6
      split at h6
      · obtain ⟨_, _, h7⟩ := mapR_some h6
        simp at h7
      · cases h6
    · split at h4
      · unfold bangR at h4
        obtain ⟨n3, d, m3, _, h6, e3⟩ := bindR_some h4
        split at h6
        · obtain ⟨_, _, _, _, h8, _⟩ := bindR_some h6
          obtain ⟨_, _, _, _, h10, _⟩ := bindR_some h8
          obtain ⟨_, _, h11⟩ := mapR_some h10
          simp at h11
        · unfold guardR at h6
          split at h6
          · obtain ⟨_, _, _, _, h8, e4⟩ := bindR_some h6
            obtain ⟨v, h8v, h9⟩ := mapR_some h8
            have h10 := until_le h8v
            have h11 := ends_len v
            simp only [Option.some.injEq] at h9
            rw [← h9]
            show (endsL v).length ≤ _
            omega
          · cases h6
      · split at h4
        · unfold endR at h4
          obtain ⟨_, w, _, _, h6, _⟩ := bindR_some h4
          unfold guardR at h6
          split at h6
          · obtain ⟨_, _, _, _, h8, _⟩ := bindR_some h6
            obtain ⟨_, _, h9⟩ := mapR_some h8
            simp only [Option.some.injEq] at h9
            rw [← h9]
            simp
          · cases h6
        · unfold guardR at h4
          split at h4
          · unfold startR at h4
            obtain ⟨_, w, _, _, h6, _⟩ := bindR_some h4
            unfold guardR at h6
            split at h6
            · obtain ⟨⟨k, at_⟩, h7, h8⟩ := mapR_some h6
              simp only [Option.some.injEq] at h8
              rw [← h8]
              simp
            · cases h6
          · cases h4
  · have hn := (text_some h).1
    unfold textR at h
    simp only at h
    split at h
    · cases h
    · split at h
      · cases h
      · split at h
        · cases h
        · rename_i x hx
          simp only [Option.some.injEq, Prod.mk.injEq] at h
          obtain ⟨_, h⟩ := h
          rw [← h]
          have h1 := unL_len _ _ _ _ _ (okL_some' hx)
          show x.length ≤ _
          omega
def txS (ts : List (Nat × Tk)) : Nat := (ts.map fun x => x.2.2.2.2.length).sum
theorem tokL_text : ∀ (f : Nat) (l : List UInt8) (a : Nat) (ts : List (Nat × Tk)), tokL f l a = some ts → txS ts ≤ 4 * l.length := by
  intro f
  induction f with
  | zero =>
    intro l a ts h
    rcases tokL_some h with ⟨_, rfl⟩ | ⟨f', _, _, _, h0, _⟩
    · simp [txS]
    · omega
  | succ f ih =>
    intro l a ts h
    rcases tokL_some h with ⟨_, rfl⟩ | ⟨f', n, o, us, h0, hp, hr, hts⟩
    · simp [txS]
    · obtain rfl : f' = f := by omega
      have hi := ih _ _ _ hr
      rw [List.length_drop] at hi
      have hle := (piece_loc _ _ _ hp).1
      cases o with
      | none => rw [hts]; show txS us ≤ _; omega
      | some t =>
        rw [hts]
        have := piece_text hp
        have e : txS (consT a (some t) us) = t.2.2.2.length + txS us := by simp [txS, consT]
        omega
theorem doc_text {s : List UInt8} {ts : List (Nat × Tk)} (h : DocIs s ts) : txS ts ≤ 4 * s.length := by
  rcases h.2.2 with ⟨_, n, _, ht⟩ | ⟨_, ht⟩
  · have := tokL_text _ _ _ _ ht
    rw [List.length_drop] at this
    omega
  · exact tokL_text _ _ _ _ ht
mutual
/-- No name, attribute of it is long, no text longer than so many. -/
def gdN (T : Nat) : Nd → Prop
  | .mk _ n al ks t => n.1.size ≤ 1000000 ∧ n.2.size ≤ 1000000 ∧ (∀ a ∈ al, a.1.1.size ≤ 1000000 ∧ a.1.2.size ≤ 1000000 ∧ a.2.size ≤ 1000000) ∧ al.length ≤ 32 ∧ t.size ≤ T ∧ gdKs T ks
def gdKs (T : Nat) : List Nd → Prop
  | [] => True
  | k :: ks => gdN T k ∧ gdKs T ks
end
theorem gdKs_iff (T : Nat) : ∀ ks : List Nd, gdKs T ks ↔ ∀ k ∈ ks, gdN T k
  | [] => by simp [gdKs]
  | k :: ks => by simp [gdKs, gdKs_iff T ks]
theorem gdN_iff (T : Nat) (n : Nd) : gdN T n ↔ n.name.1.size ≤ 1000000 ∧ n.name.2.size ≤ 1000000 ∧ (∀ a ∈ n.attrs, a.1.1.size ≤ 1000000 ∧ a.1.2.size ≤ 1000000 ∧ a.2.size ≤ 1000000) ∧ n.attrs.length ≤ 32 ∧ n.text.size ≤ T ∧ ∀ k ∈ n.kids, gdN T k := by
  cases n with
  | mk k nm al ks t =>
    simp only [gdN, Nd.name, Nd.attrs, Nd.kids, Nd.text]
    rw [gdKs_iff]
theorem gdN.mono {T T' : Nat} (hT : T ≤ T') (n : Nd) : gdN T n → gdN T' n := by
  induction n using Nd.induct with
  | h n ih =>
    intro h
    obtain ⟨h1, h2, h3, h4, h5, h6⟩ := (gdN_iff T n).1 h
    exact (gdN_iff T' n).2 ⟨h1, h2, h3, h4, by omega, fun k hk => ih k hk (h6 k hk)⟩
structure BdG (T : Nat) (b : Bd) : Prop where
  els : ∀ e ∈ b.opened, gdN T e.node
  root : gdN T b.root
theorem BdG.mono {T T' : Nat} {b : Bd} (h : BdG T b) (hT : T ≤ T') : BdG T' b := ⟨fun e he => (h.els e he).mono hT, h.root.mono hT⟩
theorem gdZ (T : Nat) : gdN T ndZ := by
  rw [gdN_iff]
  simp [ndZ, Nd.name, Nd.attrs, Nd.kids, Nd.text, show sE.size = 0 from rfl]
theorem BdG.none_ (T : Nat) : BdG T Bd.none_ := ⟨fun e h => by simp [Bd.none_] at h, gdZ T⟩
theorem gd_node {T : Nat} (e : El) : gdN T e.node ↔ e.name.1.size ≤ 1000000 ∧ e.name.2.size ≤ 1000000 ∧ (∀ a ∈ e.attrs, a.1.1.size ≤ 1000000 ∧ a.1.2.size ≤ 1000000 ∧ a.2.size ≤ 1000000) ∧ e.attrs.length ≤ 32 ∧ ∀ k ∈ e.kids, gdN T k := by
  rw [gdN_iff]
  simp only [El.node, Nd.name, Nd.attrs, Nd.kids, Nd.text]
  have : sE.size ≤ T := by show 0 ≤ T; omega
  constructor
  · rintro ⟨a, b, c, d, _, f⟩; exact ⟨a, b, c, d, f⟩
  · rintro ⟨a, b, c, d, f⟩; exact ⟨a, b, c, d, this, f⟩
theorem begunX_gd {sc : List Pr} {n T : Nat} (hs : ScSz n sc) {t : TkV} (ht : TkOk t) {e : El} (h : begunX sc t = .ok e) : gdN T e.node := by
  have hse := begunX_sz hs ht h
  unfold begunX at h
  cases hdl : declL t.attrs [] [] [] with
  | error er => rw [hdl] at h; cases h
  | ok br =>
    obtain ⟨binds, rest⟩ := br
    rw [hdl] at h
    simp only at h
    obtain ⟨_, _, _, h4⟩ := declL_len _ _ _ _ _ _ 1000000 hdl (fun x hx => (ht.each x hx).2) (by simp)
    split at h
    · cases h
    · rename_i h32
      split at h
      · cases h
      · cases ha : attrL (sc ++ binds) rest [] with
        | error er => rw [ha] at h; cases h
        | ok al =>
          rw [ha] at h
          simp only [Except.ok.injEq] at h
          subst h
          obtain ⟨_, a2, _, _⟩ := (attrL_ok_iff _ _ _ _).1 ha
          rw [List.nil_append] at a2
          have hv := hse.1.2
          simp only at hv
          have hn := resB_size (attr := false) (q := t.name) (by omega : 64 ≤ 1000000) hv ht.name
          rw [gd_node]
          refine ⟨hn.1, hn.2, fun a hm => ?_, ?_, fun k hk => by cases hk⟩
          · rw [← a2] at hm
            obtain ⟨x, hx, rfl⟩ := List.mem_map.1 hm
            have hx2 : x ∈ t.attrs := by
              rcases h4 x hx with h | h
              · cases h
              · exact h
            have hz := ht.each x hx2
            have hr := resB_size (attr := true) (q := x.1) (by omega : 64 ≤ 1000000) hv hz.1
            exact ⟨hr.1, hr.2, hz.2⟩
          · show al.length ≤ 32
            rw [← a2, List.length_map]; omega
theorem closeX_gd {T : Nat} {b : Bd} (h : BdG T b) : BdG T (closeX b) := by
  rcases last_cases b.opened with h0 | ⟨l, e, h1⟩
  · unfold closeX; rw [h0]; exact h
  · have he := h.els e (by rw [h1]; simp)
    rcases last_cases l with h2 | ⟨m, f, h2⟩
    · rw [closeX_one (e := e) (by rw [h1, h2]; rfl)]
      exact ⟨fun e h => by simp at h, he⟩
    · rw [h2] at h1
      rw [closeX_more h1]
      refine ⟨fun g hg => ?_, h.root⟩
      have hg : g ∈ m ++ [f.more e.node] := hg
      rcases List.mem_append.1 hg with hg | hg
      · exact h.els g (by rw [h1]; simp [hg])
      · rw [List.mem_singleton] at hg
        subst hg
        have hf := (gd_node f).1 (h.els f (by rw [h1]; simp))
        rw [gd_node]
        refine ⟨hf.1, hf.2.1, hf.2.2.1, hf.2.2.2.1, fun k hk => ?_⟩
        have hk : k ∈ f.kids ++ [e.node] := hk
        rcases List.mem_append.1 hk with hk | hk
        · exact hf.2.2.2.2 k hk
        · rw [List.mem_singleton] at hk
          subst hk
          exact he
theorem textKids_gd {T : Nat} {ks : List Nd} {s : ByteArray} (h : ∀ k ∈ ks, gdN T k) : ∀ k ∈ (textKids ks s).1, gdN (T + s.size) k := by
  have h0 : ∀ T, s.size ≤ T → gdN T (.mk 2 (sE, sE) [] [] s) := fun T hT => by
    rw [gdN_iff]
    simp [Nd.name, Nd.attrs, Nd.kids, Nd.text, show sE.size = 0 from rfl, hT]
  intro k hk
  rcases last_cases ks with h2 | ⟨js, j, h2⟩
  · rw [h2] at hk
    simp only [textKids, List.getLast?_nil, List.mem_singleton] at hk
    subst hk
    exact h0 _ (by omega)
  · subst h2
    by_cases hj : j.kind = 2
    · rw [textKids_two s hj] at hk
      rcases List.mem_append.1 hk with hk | hk
      · exact (h k (by simp [hk])).mono (by omega)
      · rw [List.mem_singleton] at hk
        subst hk
        obtain ⟨a, b, c, d, e, f⟩ := (gdN_iff T j).1 (h j (by simp))
        rw [gdN_iff]
        refine ⟨a, b, c, d, ?_, fun k hk => (f k hk).mono (by omega)⟩
        show (j.text ++ s).size ≤ _
        rw [ByteArray.size_append]
        omega
    · rw [textKids_else s hj] at hk
      rcases List.mem_append.1 hk with hk | hk
      · exact (h k hk).mono (by omega)
      · rw [List.mem_singleton] at hk
        subst hk
        exact h0 _ (by omega)
theorem textX_gd {T : Nat} {b b' : Bd} (h : BdG T b) {s : ByteArray} (hs : textX' b s = .ok b') : BdG (T + s.size) b' := by
  have put : ∀ (l : List El) (e : El), b.opened = l ++ [e] → ∀ (n : Nat), BdG (T + s.size) { b with opened := l ++ [{ e with kids := (textKids e.kids s).1 }], nodes := n } := by
    intro l e h1 n
    refine ⟨fun g hg => ?_, h.root.mono (by omega)⟩
    have hg : g ∈ l ++ [{ e with kids := (textKids e.kids s).1 }] := hg
    rcases List.mem_append.1 hg with hg | hg
    · exact (h.els g (by rw [h1]; simp [hg])).mono (by omega)
    · rw [List.mem_singleton] at hg
      subst hg
      have he := (gd_node e).1 (h.els e (by rw [h1]; simp))
      rw [gd_node]
      exact ⟨he.1, he.2.1, he.2.2.1, he.2.2.2.1, textKids_gd he.2.2.2.2⟩
  unfold textX' at hs
  rcases last_cases b.opened with h0 | ⟨l, e, h1⟩
  · rw [h0] at hs
    simp only [List.getLast?_nil] at hs
    split at hs
    · simp only [Except.ok.injEq] at hs; subst hs; exact h.mono (Nat.le_add_right _ _)
    · cases hs
  · rw [h1] at hs
    simp only [List.getLast?_append, List.getLast?_singleton, Option.some_or, List.dropLast_concat] at hs
    split at hs
    · simp only [Except.ok.injEq] at hs; subst hs; exact h.mono (Nat.le_add_right _ _)
    · split at hs
      · simp only [Except.ok.injEq] at hs; subst hs; exact put l e h1 b.nodes
      · split at hs
        · cases hs
        · simp only [Except.ok.injEq] at hs; subst hs; exact put l e h1 (b.nodes + 1)
theorem takeX_gd {T T' : Nat} {b b' : Bd} (h : BdG T b) (hz : BdSz T' b) {t : TkV} (ht : TkOk t) (hs : takeX' b t = .ok b') : BdG (T + t.text.size) b' := by
  unfold takeX' at hs
  split at hs
  · exact textX_gd h hs
  · split at hs
    · unfold endX' at hs
      split at hs
      · cases hs
      · split at hs
        · simp only [Except.ok.injEq] at hs
          subst hs
          exact (closeX_gd h).mono (Nat.le_add_right _ _)
        · cases hs
    · split at hs
      · cases hs
      · rename_i b1 hb1
        simp only [Except.ok.injEq] at hs
        subst hs
        have h1 : BdG (T + t.text.size) b1 := by
          unfold startX at hb1
          split at hb1
          · cases hb1
          · split at hb1
            · cases hb1
            · split at hb1
              · cases hb1
              · split at hb1
                · cases hb1
                · rename_i e he
                  simp only [Except.ok.injEq] at hb1
                  subst hb1
                  refine ⟨fun g hg => ?_, h.root.mono (Nat.le_add_right _ _)⟩
                  have hg : g ∈ b.opened ++ [e] := hg
                  rcases List.mem_append.1 hg with hg | hg
                  · exact (h.els g hg).mono (Nat.le_add_right _ _)
                  · rw [List.mem_singleton] at hg
                    subst hg
                    exact begunX_gd (scopeX_sz hz) ht he
        split
        · exact closeX_gd h1
        · exact h1
theorem takeAll_gd : ∀ (ts : List TkV) {T T' : Nat} {b b' : Bd}, BdG T b → BdSz T' b → (∀ t ∈ ts, TkOk t) → takeAll b ts = .ok b' → BdG (T + (ts.map fun t => t.text.size).sum) b'
  | [], T, T', b, b', h, _, _, hs => by
    simp only [takeAll, Except.ok.injEq] at hs
    subst hs
    simpa using h
  | t :: ts, T, T', b, b', h, hz, ht, hs => by
    unfold takeAll at hs
    split at hs
    · cases hs
    · rename_i b1 hb1
      have h1 := takeX_gd h hz (ht t (by simp)) hb1
      have h2 := takeAll_gd ts h1 (takeX_sz hz (ht t (by simp)) hb1) (fun u hu => ht u (by simp [hu])) hs
      rw [List.map_cons, List.sum_cons, ← Nat.add_assoc]
      exact h2
end Wb
