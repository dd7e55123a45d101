/- TrC PrQ PrR. -/
import Derived.Test.YtlcjepnaljfpkaaGreatDoorQp13
import Derived.Test.YtlcjepnaljfpkaaGreatDoorQp17
import Derived.Test.YtlcjepnaljfpkaaGreatDoorQp19
namespace Wb
theorem piece_three {l : List UInt8} {n : Nat} {t : Tk} (h : pieceR l = some (n, some t)) (hk : t.1 = 1 ∨ t.1 = 3) : 3 ≤ n := by
  unfold pieceR at h
  split at h
  · unfold markR at h
    obtain ⟨n1, _, m1, h1, h2, rfl⟩ := bindR_some h
    obtain ⟨rfl, _⟩ := litR_some h1
    obtain ⟨n2, c, m2, h3, h4, rfl⟩ := bindR_some h2
    obtain ⟨rfl, _⟩ := byteR_some h3
    have : 1 ≤ m2 := by
      split at h4
      · unfold piR at h4
        exact Takes.bindR (fun _ => Takes.guard _ (Takes.map _ piEnd_takes)) _ _ _ h4
      · split at h4
        · unfold bangR at h4
          exact Takes.bindL Takes.byte _ _ _ h4
        · split at h4
          · unfold endR at h4
            exact Takes.bindR (fun _ => Takes.guard _ (Takes.bindR fun _ => Takes.map _ (Takes.lit1 _ _))) _ _ _ h4
          · unfold guardR at h4
            split at h4
            · unfold startR at h4
              exact Takes.bindR (fun _ => Takes.guard _ (Takes.map _ (attrs_takes _ _))) _ _ _ h4
            · cases h4
    simp only [List.length_cons, List.length_nil]
    omega
  · obtain ⟨_, _, x, hx⟩ := text_some h
    simp only [Option.some.injEq] at hx
    subst hx
    rcases hk with hk | hk
    · have : (4 : Int) = 1 := hk
      omega
    · have : (4 : Int) = 3 := hk
      omega
def tkv (p : Nat × Tk) : TkV := ⟨p.2.1, p.1, ⟨p.2.2.1.toArray⟩, p.2.2.2.1.map fun q => (⟨q.1.toArray⟩, ⟨q.2.toArray⟩), ⟨p.2.2.2.2.toArray⟩⟩
def need (b : Bd) : Nat := match b.opened.getLast? with | none => 0 | some e => if lastK 0 e.kids = 2 then 0 else 1
def Cnt (b : Bd) (p : Nat) : Prop := 2 * b.nodes + need b ≤ p
theorem need_le (b : Bd) : need b ≤ 1 := by
  unfold need
  split
  · omega
  · split <;> omega
theorem need_app {b : Bd} {l : List El} {e : El} (h : b.opened = l ++ [e]) : need b = if lastK 0 e.kids = 2 then 0 else 1 := by
  unfold need; rw [h]; simp
theorem closeX_nodes (b : Bd) : (closeX b).nodes = b.nodes := by
  unfold closeX
  split
  · rfl
  · split <;> rfl
theorem text_cnt {b b' : Bd} {s : ByteArray} {p : Nat} (h : Cnt b p) (ht : textX' b s = .ok b') : Cnt b' (p + 1) := by
  unfold Cnt at *
  unfold textX' at ht
  rcases last_cases b.opened with h0 | ⟨l, e, h1⟩
  · rw [h0] at ht
    simp only [List.getLast?_nil] at ht
    split at ht
    · simp only [Except.ok.injEq] at ht
      rw [← ht]; omega
    · cases ht
  · have hn := need_app h1
    rw [h1] at ht
    simp only [List.getLast?_append, List.getLast?_singleton, Option.some_or, List.dropLast_concat] at ht
    split at ht
    · simp only [Except.ok.injEq] at ht
      rw [← ht]; omega
    · have hk : (textKids e.kids s).2 = true → ¬ lastK 0 e.kids = 2 := by
        rcases last_cases e.kids with hk | ⟨m, k, hk⟩
        · rw [hk]; intro _; decide
        · rw [hk]
          by_cases h2 : k.kind = 2
          · rw [textKids_two s h2]; intro hh; cases hh
          · intro _ hh
            apply h2
            unfold lastK at hh
            simpa using hh
      have hl : lastK 0 (textKids e.kids s).1 = 2 := by
        rcases last_cases e.kids with hk | ⟨m, k, hk⟩
        · rw [hk]; rfl
        · rw [hk]
          by_cases h2 : k.kind = 2
          · rw [textKids_two s h2]
            unfold lastK
            simp [Nd.kind]
            exact h2
          · rw [textKids_else s h2]
            unfold lastK
            simp [Nd.kind]
      have hn2 : ∀ b2 : Bd, b2.opened = l ++ [{ e with kids := (textKids e.kids s).1 }] → need b2 = 0 := fun b2 hb => by rw [need_app hb, if_pos hl]
      split at ht
      · simp only [Except.ok.injEq] at ht
        subst ht
        rw [hn2 _ rfl]
        show 2 * b.nodes + 0 ≤ _
        omega
      · rename_i hf2
        split at ht
        · cases ht
        · simp only [Except.ok.injEq] at ht
          subst ht
          rw [hn2 _ rfl]
          rw [if_neg (hk (by simpa using hf2))] at hn
          show 2 * (b.nodes + 1) + 0 ≤ _
          omega
theorem start_cnt {b b' : Bd} {t : TkV} (h : startX b t = .ok b') : b'.nodes = b.nodes + 1 := by
  unfold startX at h
  split at h
  · cases h
  · split at h
    · cases h
    · split at h
      · cases h
      · cases hb : begunX (scopeX b) t with
        | error er => rw [hb] at h; cases h
        | ok e =>
          rw [hb] at h
          simp only [Except.ok.injEq] at h
          rw [← h]
theorem take_cnt {b b' : Bd} {t : TkV} {p n : Nat} (h : Cnt b p) (ht : takeX' b t = .ok b') (h1 : 1 ≤ n) (h3 : t.kind ≠ 4 → t.kind ≠ 2 → 3 ≤ n) : Cnt b' (p + n) := by
  unfold takeX' at ht
  split at ht
  · have := text_cnt h ht
    unfold Cnt at *
    omega
  · rename_i k4
    split at ht
    · unfold endX' at ht
      split at ht
      · cases ht
      · split at ht
        · simp only [Except.ok.injEq] at ht
          have e := closeX_nodes b
          have := need_le (closeX b)
          rw [ht] at e this
          unfold Cnt at *
          omega
        · cases ht
    · rename_i k2
      have hn := h3 k4 k2
      cases hs : startX b t with
      | error e => rw [hs] at ht; cases ht
      | ok b2 =>
        rw [hs] at ht
        simp only [Except.ok.injEq] at ht
        have e := start_cnt hs
        have := need_le b'
        have e2 : b'.nodes = b2.nodes := by
          rw [← ht]
          split
          · exact closeX_nodes b2
          · rfl
        unfold Cnt at *
        omega
theorem toks_cnt : ∀ (f : Nat) (l : List UInt8) (a : Nat) (ts : List (Nat × Tk)) (b b' : Bd), tokL f l a = some ts → Cnt b a → takeAll b (ts.map tkv) = .ok b' → Cnt b' (a + l.length) := by
  intro f
  induction f with
  | zero =>
    intro l a ts b b' h hc ht
    rcases tokL_some h with ⟨rfl, rfl⟩ | ⟨f', _, _, _, h0, _⟩
    · simp only [List.map_nil, takeAll, Except.ok.injEq] at ht
      rw [← ht]; exact hc
    · omega
  | succ f ih =>
    intro l a ts b b' h hc ht
    rcases tokL_some h with ⟨rfl, rfl⟩ | ⟨f', n, o, us, h0, hp, hr, hts⟩
    · simp only [List.map_nil, takeAll, Except.ok.injEq] at ht
      rw [← ht]; exact hc
    · obtain rfl : f' = f := by omega
      have hn := piece_takes hp
      have hin := (piece_loc _ _ _ hp).1
      have hlen : a + n + (l.drop n).length = a + l.length := by rw [List.length_drop]; omega
      cases o with
      | none =>
        rw [hts] at ht
        have := ih _ _ _ b b' hr (by unfold Cnt at *; omega) ht
        rwa [hlen] at this
      | some t =>
        rw [hts] at ht
        simp only [consT, List.map_cons, takeAll] at ht
        cases hs : takeX' b (tkv (a, t)) with
        | error e => rw [hs] at ht; cases ht
        | ok b2 =>
          rw [hs] at ht
          have hk := (piece_form hp)
          have h2 : Cnt b2 (a + n) := take_cnt hc hs hn (fun k4 k2 => piece_three hp (by
            have h1 := hk.1
            have h4 := hk.2.1
            have e4 : t.1 ≠ 4 := k4
            have e2 : t.1 ≠ 2 := k2
            omega))
          have := ih _ _ _ b2 b' hr h2 ht
          rwa [hlen] at this
theorem prs_txt {t : Nat × Tk} (h : TkTxt t.2) : (∀ x ∈ (tkv t).attrs, TxtB x.2) ∧ TxtB (tkv t).text := by
  refine ⟨fun x hx => ?_, h.2.2⟩
  obtain ⟨q, hq, rfl⟩ := List.mem_map.1 hx
  exact (h.2.1 q hq).2
theorem doc_tree {s : List UInt8} {ts : List (Nat × Tk)} (h : DocIs s ts) {n : Nd} (ht : treeX s.length (ts.map tkv) = .ok n) : okN 1 n ∧ n.kind = 1 ∧ costN n ≤ 2000 ∧ 2 * costN n ≤ s.length := by
  have htx := doc_txt h
  obtain ⟨g1, g2, g3⟩ := treeX_ok (fun t ht => by
    obtain ⟨x, hx, rfl⟩ := List.mem_map.1 ht
    exact prs_txt (htx x hx)) ht
  refine ⟨g1, g2, g3, ?_⟩
  unfold treeX at ht
  cases ha : takeAll Bd.none_ (ts.map tkv) with
  | error e => rw [ha] at ht; cases ht
  | ok b =>
    rw [ha] at ht
    simp only at ht
    split at ht
    · cases ht
    · split at ht
      · cases ht
      · rename_i hr
        simp only [Except.ok.injEq] at ht
        subst ht
        have hr1 : b.root.kind = 1 := by simpa using hr
        have hb := takeAll_ok _ BdOK.none_ (fun t ht => by
          obtain ⟨x, hx, rfl⟩ := List.mem_map.1 ht
          exact prs_txt (htx x hx)) ha
        have hc := hb.count
        rw [if_pos hr1, (hb.root hr1).1] at hc
        have h0 : opN [] = 0 := rfl
        have hcnt : Cnt b s.length := by
          rcases h.2.2 with ⟨_, k, hd, hk⟩ | ⟨_, hk⟩
          · have hkl := (decl_loc _ _ _ hd).1
            have := toks_cnt _ _ _ _ Bd.none_ b hk (by unfold Cnt; show 2 * 0 + 0 ≤ k; omega) ha
            rwa [List.length_drop, show k + (s.length - k) = s.length from by omega] at this
          · have := toks_cnt _ _ _ _ Bd.none_ b hk (by unfold Cnt; show 2 * 0 + 0 ≤ 0; omega) ha
            rwa [Nat.zero_add] at this
        unfold Cnt at hcnt
        omega
end Wb
namespace Wb
theorem onceT_len : ∀ (l : List ByteArray), (onceT l).length ≤ l.length
  | [] => by simp [onceT]
  | [x] => by simp [onceT]
  | x :: y :: l => by
    have := onceT_len (y :: l)
    unfold onceT
    split
    · simp only [List.length_cons] at *; omega
    · simp only [List.length_cons] at *; omega
theorem onceT_mem : ∀ (l : List ByteArray) (z : ByteArray), z ∈ onceT l ↔ z ∈ l
  | [], z => by simp [onceT]
  | [x], z => by simp [onceT]
  | x :: y :: l, z => by
    have ih := onceT_mem (y :: l) z
    unfold onceT
    split
    · rename_i h
      rw [ih, h]
      simp
    · rw [List.mem_cons, ih, List.mem_cons (a := z) (b := x)]
theorem spcT_len (l : List Tr) : (spacesT l).length ≤ l.length := by
  unfold spacesT
  refine Nat.le_trans (onceT_len _) (Nat.le_trans (List.length_filter_le _ _) ?_)
  simp
theorem spcT_mem (l : List Tr) (s : ByteArray) : s ∈ spacesT l ↔ (∃ a ∈ l, a.1.1 = s) ∧ needs s = true := by
  unfold spacesT
  rw [onceT_mem, List.mem_filter, List.mem_map]
end Wb
namespace Wb
open Go
theorem ext_list (s : ByteArray) (a b : Nat) : (s.extract a b).data.toList = (s.data.toList.drop a).take (b - a) := by
  simp [ByteArray.data_extract]
theorem xmlnsL_is : (⟨sXmlnsL.toArray⟩ : ByteArray) = sXmlns := rfl
theorem bind_dfl {own : ByteArray} (h1 : own ≠ sXML) (h2 : own ≠ sXMLNS) : bindB sE own = 0 := by
  have e5 := eqT_false.2 h1
  have e6 := eqT_false.2 h2
  have e1 : eqT sE sE = true := eqT_self _
  have e2 : eqT sE sXmlns = false := eqT_false.2 (by decide)
  have e3 : eqT sE sXmlQ = false := eqT_false.2 (by decide)
  unfold bindB
  rw [e1, e2, e3, e5, e6]
  rfl
theorem lastB_app (a b : List Pr) (p : ByteArray) : lastB (a ++ b) p = match lastB b p with | some s => some s | none => lastB a p := by
  induction a with
  | nil => simp only [List.nil_append, lastB]; cases lastB b p <;> rfl
  | cons x a ih =>
    rw [List.cons_append, lastB, ih]
    cases lastB b p with
    | some s => rfl
    | none => rfl
end Wb
