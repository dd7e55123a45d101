import Derived.Test.YtjohfljkhlkjoaaGreatDoorLeFit
import Derived.Test.YtjohfljkhlkjoaaGreatDoorMgB
namespace Wb
theorem Bad.err {α β : Type} {e : Er α} {len : Nat} (h : Bad e len) : ∃ p c, e = .error (p, c) ∧ Bad (.error (p, c) : Er β) len := by
  obtain ⟨p, c, h1, h2, h3⟩ := h
  exact ⟨p, c, h1, Bad.mk h2 h3⟩
theorem litR_no {p l : List UInt8} (h : ¬ l.take p.length = p) : litR p l = none := by unfold litR; rw [if_neg h]
theorem litR_is {p l : List UInt8} (h : l.take p.length = p) : litR p l = some (p.length, ()) := by unfold litR; rw [if_pos h]
theorem tw_drop {p : UInt8 → Bool} (l : List UInt8) : l.drop (l.takeWhile p).length = l.dropWhile p := by
  induction l with
  | nil => rfl
  | cons c l ih =>
    by_cases h : p c = true
    · simp [h, ih]
    · simp [h]
theorem word_cases {L : List UInt8} {at_ : Nat} {c : UInt8} {r : List UInt8} (h : L.drop at_ = c :: r) :
    (wordB c = true ∧ (r.takeWhile wordB).length < 129 ∧ wordX L at_ = c :: r.takeWhile wordB) ∨ ((wordB c = false ∨ 129 ≤ (r.takeWhile wordB).length) ∧ wordX L at_ = []) := by
  unfold wordX
  rw [h]
  by_cases hc : wordB c = true
  · rw [List.takeWhile_cons_of_pos hc]
    by_cases hl : (r.takeWhile wordB).length < 129
    · exact .inl ⟨hc, hl, by rw [if_pos (by simp only [List.length_cons]; omega)]⟩
    · exact .inr ⟨.inr (by omega), by rw [if_neg (by simp only [List.length_cons]; omega)]⟩
  · have hf := Bool.eq_false_iff.2 hc
    exact .inr ⟨.inl hf, by rw [List.takeWhile_cons_of_neg hc]; rfl⟩
theorem attr_fit (L : List UInt8) (fr at_ others : Nat) (apart : Bool) (c : UInt8) (r : List UInt8) (hfr : fr ≤ L.length) (h : L.drop at_ = c :: r) (ho : others ≤ 65) :
    Fits (attributeX L fr at_ others apart) (at_ + 1) L.length (guardR (wordB c && apart && decide (others < 65)) (attrR c) r) := by
  have hat := drop_cons_len h
  have hr := drop_cons_next h
  rcases word_cases h with ⟨h1, h2, h3⟩ | ⟨h1, h3⟩
  · by_cases hoth : others = 65
    · subst hoth
      refine Fits.bad (guardR_no (by simp) _) ?_
      unfold attributeX
      rw [h3, if_neg (by simp), if_pos rfl]
      exact Bad.mk (by omega) (by omega)
    · cases apart with
      | false =>
        refine Fits.bad (guardR_no (by simp) _) ?_
        unfold attributeX
        rw [h3, if_neg (by simp), if_neg hoth, if_pos rfl]
        exact Bad.mk (by omega) (by omega)
      | true =>
        rw [guardR_yes (by simp [h1]; omega)]
        have e : attributeX L fr at_ others true = match takeX L fr (at_ + (wordX L at_).length + blankN L (at_ + (wordX L at_).length)) 61 with
            | .error e => .error e
            | .ok a => match valueX L fr (a + blankN L a) with
              | .error e => .error e
              | .ok (v, b) => .ok ((wordX L at_, v), b) := by
          conv => lhs; unfold attributeX
          rw [if_neg (by rw [h3]; simp), if_neg hoth, if_neg (by simp)]
          rfl
        rw [e, h3]
        clear e
        generalize hw : r.takeWhile wordB = w at *
        have hwl : w.length ≤ r.length := by rw [← hw]; exact tw_le _ _
        have hlen : at_ + 1 + r.length = L.length := by
          have := congrArg List.length h
          simp at this; omega
        have hd1 : L.drop (at_ + (c :: w).length) = r.drop w.length := by
          rw [show at_ + (c :: w).length = (at_ + 1) + w.length from by simp; omega, drop_plus, hr]
        generalize ha1 : at_ + (c :: w).length = a1 at *
        have ha1' : a1 = at_ + 1 + w.length := by rw [← ha1]; simp; omega
        unfold attrR
        by_cases hwr : w.length < r.length
        · have hs1 : spanR wordB r = some (w.length, w) := by rw [← hw]; exact span_yes (by rw [hw]; exact hwr)
          rw [bindR_yes hs1, guardR_yes (by simpa using h2), ← hd1]
          rcases blank_span L a1 with ⟨hb1, hb2⟩ | ⟨hb1, hb2⟩
          · rw [bindR_yes hb2, ← drop_plus]
            rcases take_fit L fr (a1 + blankN L a1) 61 hfr with ⟨t1, t2⟩ | ⟨t1, t2⟩
            · rw [bindR_yes t1, t2, ← drop_plus]
              simp only
              rcases blank_span L (a1 + blankN L a1 + 1) with ⟨hc1, hc2⟩ | ⟨hc1, hc2⟩
              · rw [bindR_yes hc2, ← drop_plus]
                rcases (value_fit L fr (a1 + blankN L a1 + 1 + blankN L (a1 + blankN L a1 + 1)) hfr).split with ⟨n, v, v1, v2⟩ | ⟨v1, v2⟩
                · rw [v2, mapR_yes v1]
                  refine Fits.ok (n := w.length + (blankN L a1 + (1 + (blankN L (a1 + blankN L a1 + 1) + n)))) (a := (c :: w, v)) rfl ?_
                  simp only [Except.ok.injEq, Prod.mk.injEq, true_and]
                  omega
                · obtain ⟨p, q, e1, e2⟩ := v2.err (β := (List UInt8 × List UInt8) × Nat)
                  rw [e1, mapR_no v1]
                  exact Fits.bad rfl e2
              · have hv : valueX L fr (a1 + blankN L a1 + 1 + blankN L (a1 + blankN L a1 + 1)) = .error (fr, 2) := by unfold valueX; rw [hc1]
                rw [hv, bindR_no hc2]
                exact Fits.bad rfl (Bad.mk hfr (by omega))
            · obtain ⟨p, q, e1, e2⟩ := t2.err (β := (List UInt8 × List UInt8) × Nat)
              rw [bindR_no t1, e1]
              exact Fits.bad rfl e2
          · have hv : takeX L fr (a1 + blankN L a1) 61 = .error (fr, 2) := by unfold takeX; rw [hb1]
            rw [hv, bindR_no hb2]
            exact Fits.bad rfl (Bad.mk hfr (by omega))
        · have hs1 : spanR wordB r = none := by exact span_no (by rw [hw]; exact hwr)
          have hnil : L.drop a1 = [] := List.drop_eq_nil_of_le (by omega)
          have hb0 : blankN L a1 = 0 := by unfold blankN; rw [hnil]; rfl
          have hv : takeX L fr (a1 + blankN L a1) 61 = .error (fr, 2) := by unfold takeX; rw [hb0, Nat.add_zero, hnil]
          rw [hv, bindR_no hs1]
          exact Fits.bad rfl (Bad.mk hfr (by omega))
  · have e : attributeX L fr at_ others apart = .error (at_, 4) := by unfold attributeX; rw [if_pos h3]
    rw [e]
    refine Fits.bad ?_ (Bad.mk (by omega) (by omega))
    rcases h1 with h1 | h1
    · exact guardR_no (by simp [h1]) _
    · by_cases hg : (wordB c && apart && decide (others < 65)) = true
      · rw [guardR_yes hg]
        unfold attrR
        by_cases hwr : (r.takeWhile wordB).length < r.length
        · rw [bindR_yes (span_yes hwr), guardR_no (by simpa using h1)]
        · rw [bindR_no (span_no hwr)]
      · exact guardR_no (Bool.eq_false_iff.2 hg) _
theorem attrs_fit (L : List UInt8) (fr : Nat) (hfr : fr ≤ L.length) : ∀ (f at_ : Nat) (acc : List (List UInt8 × List UInt8)), at_ ≤ L.length → acc.length ≤ 65 →
    Fits (attrsX L fr f at_ acc) at_ L.length (attrsR f acc (L.drop at_))
  | 0, at_, acc, hat, _ => Fits.bad rfl (Bad.mk hat (by omega))
  | f + 1, at_, acc, hat, hacc => by
    unfold attrsX attrsR
    rcases blank_span L at_ with ⟨hb1, hb2⟩ | ⟨hb1, hb2⟩
    · rw [bindR_yes hb2, ← drop_plus]
      have hbs : (!((L.drop at_).takeWhile blkB).isEmpty) = decide (0 < blankN L at_) := by
        unfold blankN
        cases (L.drop at_).takeWhile blkB <;> simp
      cases hd : L.drop (at_ + blankN L at_) with
      | nil => have := drop_nil_len hd; omega
      | cons c r =>
        have hr := drop_cons_next hd
        rw [bindR_yes (n := 1) (a := c) rfl]
        simp only [List.drop_succ_cons, List.drop_zero]
        by_cases h47 : c = 47
        · subst h47
          rw [if_pos rfl, if_neg (by decide), if_pos rfl, ← hr]
          rcases take_fit L fr (at_ + blankN L at_ + 1) 62 hfr with ⟨t1, t2⟩ | ⟨t1, t2⟩
          · rw [t2, mapR_yes t1]
            refine Fits.ok (n := blankN L at_ + (1 + 1)) (a := (3, acc)) rfl ?_
            simp only [Except.ok.injEq, Prod.mk.injEq, true_and]
            omega
          · obtain ⟨p, q, e1, e2⟩ := t2.err (β := (Int × List (List UInt8 × List UInt8)) × Nat)
            rw [e1, mapR_no t1]
            exact Fits.bad rfl e2
        · rw [if_neg h47]
          by_cases h62 : c = 62
          · subst h62
            rw [if_pos rfl, if_pos rfl]
            refine Fits.ok (n := blankN L at_ + (1 + 0)) (a := (1, acc)) rfl ?_
            simp only [Except.ok.injEq, Prod.mk.injEq, true_and]
            omega
          · rw [if_neg h62, if_neg h62, if_neg h47, hbs]
            have hgd : guardR (wordB c && decide (0 < blankN L at_) && decide (acc.length < 65)) (bindR (attrR c) fun a => attrsR f (acc ++ [a])) r = bindR (guardR (wordB c && decide (0 < blankN L at_) && decide (acc.length < 65)) (attrR c)) (fun a => attrsR f (acc ++ [a])) r := by
              cases hg : (wordB c && decide (0 < blankN L at_) && decide (acc.length < 65)) <;> rfl
            rw [hgd]
            rcases (attr_fit L fr (at_ + blankN L at_) acc.length (decide (0 < blankN L at_)) c r hfr hd hacc).split with ⟨n, a, a1, a2⟩ | ⟨a1, a2⟩
            · rw [a2, bindR_yes a1]
              simp only
              have hacc2 : acc.length < 65 := by
                by_cases hg : (wordB c && decide (0 < blankN L at_) && decide (acc.length < 65)) = true
                · simp at hg; exact hg.2
                · rw [guardR_no (Bool.eq_false_iff.2 hg)] at a1; cases a1
              have hin : at_ + blankN L at_ + 1 + n ≤ L.length := by
                have := (Loc.guard _ (attr_loc c) _ _ _ a1).1
                rw [← hr, List.length_drop] at this
                omega
              have hdr : r.drop n = L.drop (at_ + blankN L at_ + 1 + n) := by rw [drop_plus, hr]
              rw [hdr]
              rcases (attrs_fit L fr hfr f (at_ + blankN L at_ + 1 + n) (acc ++ [a]) hin (by simp; omega)).split with ⟨m, b, b1, b2⟩ | ⟨b1, b2⟩
              · rw [b2, b1]
                refine Fits.ok (n := blankN L at_ + (1 + (n + m))) (a := b) rfl ?_
                simp only [Except.ok.injEq, Prod.mk.injEq, true_and]
                omega
              · rw [b1]
                exact Fits.bad rfl b2
            · obtain ⟨p, q, e1, e2⟩ := a2.err (β := (Int × List (List UInt8 × List UInt8)) × Nat)
              rw [e1, bindR_no a1]
              exact Fits.bad rfl e2
    · rw [bindR_no hb2, hb1]
      exact Fits.bad rfl (Bad.mk hfr (by omega))
theorem start_fit (L : List UInt8) (fr : Nat) (hfr : fr ≤ L.length) (c : UInt8) (r : List UInt8) (h : L.drop (fr + 1) = c :: r) :
    Fits (someX (startTagX L fr)) (fr + 2) L.length (guardR (wordB c) (startR c) r) := by
  have hr := drop_cons_next h
  have hlen := drop_cons_len h
  rcases word_cases h with ⟨h1, h2, h3⟩ | ⟨h1, h3⟩
  · rw [guardR_yes h1]
    have e : startTagX L fr = match attrsX L fr 67 (fr + 1 + (wordX L (fr + 1)).length) [] with
        | .error e => .error e
        | .ok ((k, l), b) => .ok ((k, wordX L (fr + 1), l, []), b) := by
      unfold startTagX namedX
      rw [h]
      simp only
      rw [if_neg (by rw [h3]; simp)]
      rfl
    rw [e, h3]
    clear e
    generalize hw : r.takeWhile wordB = w at *
    have hwl : w.length ≤ r.length := by rw [← hw]; exact tw_le _ _
    have hll : fr + 1 + 1 + r.length = L.length := by
      have := congrArg List.length h
      simp at this; omega
    have hd1 : L.drop (fr + 1 + (c :: w).length) = r.drop w.length := by
      rw [show fr + 1 + (c :: w).length = (fr + 1 + 1) + w.length from by simp; omega, drop_plus, hr]
    have hal : fr + 1 + (c :: w).length ≤ L.length := by simp; omega
    unfold startR
    by_cases hwr : w.length < r.length
    · have hs1 : spanR wordB r = some (w.length, w) := by rw [← hw]; exact span_yes (by rw [hw]; exact hwr)
      rw [bindR_yes hs1, guardR_yes (by simpa using h2), ← hd1]
      rcases (attrs_fit L fr hfr 67 (fr + 1 + (c :: w).length) [] hal (by simp)).split with ⟨n, ⟨k, l⟩, a1, a2⟩ | ⟨a1, a2⟩
      · rw [a2, mapR_yes a1]
        refine Fits.ok (n := w.length + n) (a := some (k, c :: w, l, [])) rfl ?_
        simp only [someX, Except.ok.injEq, Prod.mk.injEq, true_and, List.length_cons]
        omega
      · obtain ⟨p, q, e1, e2⟩ := a2.err (β := Option Tk × Nat)
        rw [e1, mapR_no a1]
        exact Fits.bad rfl e2
    · have hnil : L.drop (fr + 1 + (c :: w).length) = [] := List.drop_eq_nil_of_le (by simp; omega)
      have ha : attrsX L fr 67 (fr + 1 + (c :: w).length) [] = .error (fr, 2) := by
        have hb0 : blankN L (fr + 1 + (c :: w).length) = 0 := by unfold blankN; rw [hnil]; rfl
        unfold attrsX
        rw [hb0, Nat.add_zero, hnil]
      rw [ha, bindR_no (span_no (by rw [hw]; exact hwr))]
      exact Fits.bad rfl (Bad.mk hfr (by omega))
  · have e : startTagX L fr = .error (fr + 1, 12) := by
      unfold startTagX namedX
      rw [h]
      simp only
      rw [if_pos h3]
    rw [e]
    refine Fits.bad ?_ (Bad.mk (by omega) (by omega))
    rcases h1 with h1 | h1
    · exact guardR_no h1 _
    · by_cases hg : wordB c = true
      · rw [guardR_yes hg]
        unfold startR
        by_cases hwr : (r.takeWhile wordB).length < r.length
        · rw [bindR_yes (span_yes hwr), guardR_no (by simpa using h1)]
        · rw [bindR_no (span_no hwr)]
      · exact guardR_no (Bool.eq_false_iff.2 hg) _
theorem end_fit (L : List UInt8) (fr : Nat) (hfr : fr + 2 ≤ L.length) : Fits (someX (endTagX L fr)) (fr + 2) L.length (endR (L.drop (fr + 2))) := by
  unfold endTagX namedX endR
  cases h : L.drop (fr + 2) with
  | nil =>
    refine Fits.bad ?_ (Bad.mk (by omega) (by omega))
    exact bindR_no (span_no (by simp))
  | cons c r =>
    simp only
    have hlen := drop_cons_len h
    have hwx : wordX L (fr + 2) = if ((c :: r).takeWhile wordB).length ≤ 129 then (c :: r).takeWhile wordB else [] := by unfold wordX; rw [h]
    generalize hw : (c :: r).takeWhile wordB = w at *
    by_cases hok : w ≠ [] ∧ w.length ≤ 129
    · obtain ⟨h0, h129⟩ := hok
      rw [if_pos h129] at hwx
      rw [hwx, if_neg h0]
      simp only
      have hwl : w.length ≤ (c :: r).length := by rw [← hw]; exact tw_le _ _
      have hd1 : L.drop (fr + 2 + w.length) = (c :: r).drop w.length := by rw [drop_plus, h]
      by_cases hwr : w.length < (c :: r).length
      · have hs1 : spanR wordB (c :: r) = some (w.length, w) := by rw [← hw]; exact span_yes (by rw [hw]; exact hwr)
        rw [bindR_yes hs1, guardR_yes (by cases w <;> simp_all), ← hd1]
        rcases blank_span L (fr + 2 + w.length) with ⟨hb1, hb2⟩ | ⟨hb1, hb2⟩
        · rw [bindR_yes hb2, ← drop_plus]
          rcases take_fit L fr (fr + 2 + w.length + blankN L (fr + 2 + w.length)) 62 (by omega) with ⟨t1, t2⟩ | ⟨t1, t2⟩
          · rw [t2, mapR_yes t1]
            refine Fits.ok (n := w.length + (blankN L (fr + 2 + w.length) + 1)) (a := some (2, w, [], [])) rfl ?_
            simp only [someX, Except.ok.injEq, Prod.mk.injEq, true_and]
            omega
          · obtain ⟨p, q, e1, e2⟩ := t2.err (β := Option Tk × Nat)
            rw [e1, mapR_no t1]
            exact Fits.bad rfl e2
        · have hv : takeX L fr (fr + 2 + w.length + blankN L (fr + 2 + w.length)) 62 = .error (fr, 2) := by unfold takeX; rw [hb1]
          rw [hv, bindR_no hb2]
          exact Fits.bad rfl (Bad.mk (by omega) (by omega))
      · have hnil : L.drop (fr + 2 + w.length) = [] := by rw [hd1]; exact List.drop_eq_nil_of_le (by omega)
        have hb0 : blankN L (fr + 2 + w.length) = 0 := by unfold blankN; rw [hnil]; rfl
        have hv : takeX L fr (fr + 2 + w.length + blankN L (fr + 2 + w.length)) 62 = .error (fr, 2) := by unfold takeX; rw [hb0, Nat.add_zero, hnil]
        rw [hv, bindR_no (span_no (by rw [hw]; exact hwr))]
        exact Fits.bad rfl (Bad.mk (by omega) (by omega))
    · have hwx0 : wordX L (fr + 2) = [] := by
        rw [hwx]
        by_cases h129 : w.length ≤ 129
        · rw [if_pos h129]
          exact Classical.byContradiction fun hn => hok ⟨hn, h129⟩
        · rw [if_neg h129]
      rw [hwx0, if_pos rfl]
      refine Fits.bad ?_ (Bad.mk (by omega) (by omega))
      by_cases hwr : w.length < (c :: r).length
      · have hs1 : spanR wordB (c :: r) = some (w.length, w) := by rw [← hw]; exact span_yes (by rw [hw]; exact hwr)
        have hg : (!(w.isEmpty) && decide (w.length ≤ 129)) = false := by
          by_cases h0 : w = []
          · subst h0; rfl
          · have : ¬ w.length ≤ 129 := fun h1 => hok ⟨h0, h1⟩
            simp [this]
        rw [bindR_yes hs1, guardR_no hg]
      · exact bindR_no (span_no (by rw [hw]; exact hwr))
end Wb

namespace Wb
theorem cd_some : ∀ {l : List UInt8} {k : Nat}, cdAt l = some k → hasCd l = true ∧ k < l.length
  | [], k, h => by cases h
  | c :: l, k, h => by
    unfold cdAt at h
    unfold hasCd
    split at h
    · rename_i hc
      simp only [Option.some.injEq] at h
      subst h
      exact ⟨by rw [hc]; rfl, by simp⟩
    · cases hl : cdAt l with
      | none => rw [hl] at h; cases h
      | some j =>
        rw [hl] at h
        simp only [Option.map_some, Option.some.injEq] at h
        subst h
        obtain ⟨h1, h2⟩ := cd_some hl
        exact ⟨by rw [h1]; simp, by simp; omega⟩
theorem cd_none : ∀ {l : List UInt8}, cdAt l = none → hasCd l = false
  | [], _ => rfl
  | c :: l, h => by
    unfold cdAt at h
    unfold hasCd
    split at h
    · cases h
    · rename_i hc
      cases hl : cdAt l with
      | some j => rw [hl] at h; cases h
      | none =>
        rw [cd_none hl]
        simpa using hc
theorem text_fit (L : List UInt8) (fr : Nat) (hfr : fr < L.length) (h60 : (L.drop fr).take 1 ≠ [60]) : Fits (someX (textX L fr)) fr L.length (textR (L.drop fr)) := by
  have hne : ((L.drop fr).takeWhile (· != 60)).isEmpty = false := by
    cases hd : L.drop fr with
    | nil => have := drop_nil_len hd; omega
    | cons c r =>
      rw [hd] at h60
      have : c ≠ 60 := by intro e; apply h60; rw [e]; rfl
      simp [this]
  have hle : fr + ((L.drop fr).takeWhile (· != 60)).length ≤ L.length := by
    have := tw_le (· != 60) (L.drop fr)
    rw [List.length_drop] at this
    omega
  unfold textX textR
  simp only [hne]
  generalize (L.drop fr).takeWhile (· != 60) = n at *
  cases hc : cdAt n with
  | some k =>
    obtain ⟨h1, h2⟩ := cd_some hc
    refine Fits.bad (by simp [h1]) ?_
    simp only
    cases hu : unL false (k + 1) (n.take k) fr with
    | error p =>
      have := unL_bad_at _ _ _ _ _ hu
      simp only [List.length_take] at this
      exact Bad.mk (by omega) (by omega)
    | ok x => exact Bad.mk (by omega) (by omega)
  | none =>
    rw [cd_none hc]
    simp only [Bool.false_eq_true, if_false]
    rcases unL_okL false (n.length + 1) n fr with ⟨x, h1, h2⟩ | ⟨p, h1, h2, h3⟩
    · rw [h1, h2]
      exact Fits.ok (n := n.length) (a := some (4, [], [], x)) rfl rfl
    · rw [h1, h3]
      exact Fits.bad rfl (Bad.mk (by omega) (by omega))
theorem comment_fit (L : List UInt8) (fr : Nat) (r : List UInt8) (h : L.drop (fr + 4) = r) (hfr : fr + 4 ≤ L.length) :
    Fits (noneX (commentX L fr)) (fr + 2) L.length (bangR (45 :: 45 :: r)) := by
  unfold bangR
  rw [bindR_yes (n := 1) (a := 45) rfl, if_pos rfl]
  simp only [List.drop_succ_cons, List.drop_zero]
  rw [bindR_yes (n := 1) (a := ()) (show litR [45] (45 :: r) = some (1, ()) from litR_is (p := [45]) rfl)]
  simp only [List.drop_succ_cons, List.drop_zero]
  unfold commentX upToX
  rw [h]
  cases hu : untilR [45, 45] r with
  | none =>
    rw [bindR_no hu]
    exact Fits.bad rfl (Bad.mk (by omega) (by omega))
  | some p =>
    obtain ⟨n, v⟩ := p
    rw [bindR_yes hu, ← h, ← drop_plus]
    simp only
    by_cases h62 : (L.drop (fr + 4 + n)).take 1 = [62]
    · rw [if_pos h62, mapR_yes (litR_is (p := [62]) h62)]
      refine Fits.ok (n := 1 + (1 + (n + 1))) (a := none) rfl ?_
      simp only [noneX, Except.ok.injEq, Prod.mk.injEq, true_and]
      omega
    · rw [if_neg h62, mapR_no (litR_no (p := [62]) h62)]
      exact Fits.bad rfl (Bad.mk (by omega) (by omega))
theorem section_fit (L : List UInt8) (fr : Nat) (r : List UInt8) (h : L.drop (fr + 9) = r) (hfr : fr + 9 ≤ L.length) :
    Fits (someX (sectionX L fr)) (fr + 2) L.length (bangR (91 :: 67 :: 68 :: 65 :: 84 :: 65 :: 91 :: r)) := by
  unfold bangR
  rw [bindR_yes (n := 1) (a := 91) rfl, if_neg (by decide), guardR_yes (by rfl)]
  simp only [List.drop_succ_cons, List.drop_zero]
  rw [bindR_yes (n := 6) (a := ()) (show litR [67, 68, 65, 84, 65, 91] (67 :: 68 :: 65 :: 84 :: 65 :: 91 :: r) = some (6, ()) from litR_is (p := [67, 68, 65, 84, 65, 91]) rfl)]
  simp only [List.drop_succ_cons, List.drop_zero]
  unfold sectionX upToX
  rw [h]
  cases hu : untilR [93, 93, 62] r with
  | none =>
    rw [mapR_no hu]
    exact Fits.bad rfl (Bad.mk (by omega) (by omega))
  | some p =>
    obtain ⟨n, v⟩ := p
    rw [mapR_yes hu]
    refine Fits.ok (n := 1 + (6 + n)) (a := some (4, [], [], endsL v)) rfl ?_
    simp only [someX, Except.ok.injEq, Prod.mk.injEq, true_and]
    omega
theorem bang_none {r : List UInt8} (h1 : r.take 2 ≠ [45, 45]) (h2 : r.take 7 ≠ [91, 67, 68, 65, 84, 65, 91]) : bangR r = none := by
  unfold bangR
  cases r with
  | nil => rfl
  | cons c r =>
    rw [bindR_yes (n := 1) (a := c) rfl]
    simp only [List.drop_succ_cons, List.drop_zero]
    by_cases h45 : c = 45
    · subst h45
      rw [if_pos rfl, bindR_no (litR_no (p := [45]) (by
        intro e
        apply h1
        simp only [List.take_succ_cons, List.cons.injEq, true_and]
        exact e))]
    · rw [if_neg h45]
      by_cases h91 : c = 91
      · subst h91
        rw [guardR_yes (show ((91 : UInt8) == 91) = true from rfl), bindR_no (litR_no (p := [67, 68, 65, 84, 65, 91]) (by
          intro e
          apply h2
          simp only [List.take_succ_cons, List.cons.injEq, true_and]
          exact e))]
      · rw [guardR_no (by simpa using h91)]
theorem dw_len {p : UInt8 → Bool} (l : List UInt8) : (l.dropWhile p).length + (l.takeWhile p).length = l.length := by
  have := congrArg List.length (List.takeWhile_append_dropWhile (p := p) (l := l))
  rw [List.length_append] at this
  omega
theorem setting_cases (s : List UInt8) :
    (∃ m v, m ≤ s.length ∧ (s.dropWhile blkB).take 1 = [61] ∧ (∃ q r3 n, (((s.dropWhile blkB).drop 1).dropWhile blkB) = q :: r3 ∧ (q = 34 ∨ q = 39) ∧ untilR [q] r3 = some (n, v) ∧ s.drop m = r3.drop n) ∧
      ∀ vals fold, settingR vals fold s = if vals.contains (if fold then lowL v else v) then some (m, ()) else none) ∨
    ((¬ (s.dropWhile blkB).take 1 = [61] ∨ (match ((s.dropWhile blkB).drop 1).dropWhile blkB with | [] => True | q :: r3 => ¬ (q = 34 ∨ q = 39) ∨ untilR [q] r3 = none)) ∧ ∀ vals fold, settingR vals fold s = none) := by
  by_cases h1 : (s.takeWhile blkB).length < s.length
  · have hd := tw_drop (p := blkB) s
    by_cases h61 : (s.dropWhile blkB).take 1 = [61]
    · generalize hs1 : s.dropWhile blkB = s1 at *
      by_cases h2 : ((s1.drop 1).takeWhile blkB).length < (s1.drop 1).length
      · have hd2 := tw_drop (p := blkB) (s1.drop 1)
        cases hq : (s1.drop 1).dropWhile blkB with
        | nil =>
          have := dw_len (p := blkB) (s1.drop 1)
          rw [hq] at this
          simp only [List.length_nil] at this
          omega
        | cons q r3 =>
          have base : ∀ vals fold, settingR vals fold s = match (guardR (q == 34 || q == 39) (mapR (untilR [q]) fun v => if vals.contains (if fold then lowL v else v) then some () else none)) r3 with
              | none => none
              | some (m, b) => some ((s.takeWhile blkB).length + (1 + (((s1.drop 1).takeWhile blkB).length + (1 + m))), b) := by
            intro vals fold
            unfold settingR
            rw [bindR_yes (span_yes h1), hd, bindR_yes (litR_is (p := [61]) h61)]
            simp only [List.length_cons, List.length_nil, Nat.zero_add]
            rw [bindR_yes (span_yes h2), hd2, hq, bindR_yes (n := 1) (a := q) rfl]
            simp only [List.drop_succ_cons, List.drop_zero]
            cases (guardR (q == 34 || q == 39) (mapR (untilR [q]) fun v => if vals.contains (if fold then lowL v else v) then some () else none)) r3 <;> rfl
          by_cases hqq : q = 34 ∨ q = 39
          · have hqb : (q == 34 || q == 39) = true := by simpa using hqq
            cases hu : untilR [q] r3 with
            | none =>
              refine .inr ⟨.inr (by simp only; exact .inr hu), fun vals fold => ?_⟩
              rw [base, guardR_yes hqb, mapR_no hu]
            | some p =>
              obtain ⟨n, v⟩ := p
              have hn := (untilR_le hu).1
              have hl1 := dw_len (p := blkB) s
              have hl2 := dw_len (p := blkB) (s1.drop 1)
              have hl3 := congrArg List.length h61
              rw [hs1] at hl1
              rw [hq] at hl2
              simp only [List.length_cons, List.length_drop, List.length_take, List.length_nil] at hl2 hl3
              refine .inl ⟨(s.takeWhile blkB).length + (1 + (((s1.drop 1).takeWhile blkB).length + (1 + n))), v, by omega, h61, ⟨q, r3, n, rfl, hqq, hu, ?_⟩, fun vals fold => ?_⟩
              · rw [← List.drop_drop, hd, ← List.drop_drop, ← List.drop_drop, hd2, hq, ← List.drop_drop]
                rfl
              · rw [base, guardR_yes hqb, mapR_yes hu]
                by_cases hv : vals.contains (if fold then lowL v else v) = true
                · rw [if_pos hv, if_pos hv]
                · rw [if_neg hv, if_neg hv]
          · have hqb : (q == 34 || q == 39) = false := by simpa using hqq
            refine .inr ⟨.inr (by simp only; exact .inl hqq), fun vals fold => ?_⟩
            rw [base, guardR_no hqb]
      · have hnil : (s1.drop 1).dropWhile blkB = [] := by
          have := dw_len (p := blkB) (s1.drop 1)
          have h3 := tw_le blkB (s1.drop 1)
          exact List.eq_nil_of_length_eq_zero (by omega)
        refine .inr ⟨.inr (by rw [hnil]; trivial), fun vals fold => ?_⟩
        unfold settingR
        rw [bindR_yes (span_yes h1), hd, bindR_yes (litR_is (p := [61]) h61)]
        simp only [List.length_cons, List.length_nil, Nat.zero_add]
        rw [bindR_no (span_no h2)]
    · refine .inr ⟨.inl h61, fun vals fold => ?_⟩
      unfold settingR
      rw [bindR_yes (span_yes h1), hd, bindR_no (litR_no (p := [61]) h61)]
  · have hnil : s.dropWhile blkB = [] := by
      have := dw_len (p := blkB) s
      have h3 := tw_le blkB s
      exact List.eq_nil_of_length_eq_zero (by omega)
    refine .inr ⟨.inl (by rw [hnil]; simp), fun vals fold => ?_⟩
    unfold settingR
    rw [bindR_no (span_no h1)]
theorem told_cases (s name other : List UInt8) (hn : name ≠ []) :
    (∃ m v, (s.takeWhile blkB).length ≠ 0 ∧ (s.takeWhile blkB).length < s.length ∧ (s.dropWhile blkB).take name.length = name ∧
      toldX s name other = (v, s.drop ((s.takeWhile blkB).length + (name.length + m))) ∧ (s.takeWhile blkB).length + (name.length + m) ≤ s.length ∧
      ∀ vals fold, settingR vals fold ((s.dropWhile blkB).drop name.length) = if vals.contains (if fold then lowL v else v) then some (m, ()) else none) ∨
    (toldX s name other = (other, s) ∧ ((s.takeWhile blkB).length = 0 ∨ ¬ (s.dropWhile blkB).take name.length = name ∨ ∀ vals fold, settingR vals fold ((s.dropWhile blkB).drop name.length) = none)) := by
  have hl1 := dw_len (p := blkB) s
  unfold toldX
  simp only
  by_cases h0 : (s.dropWhile blkB).length = s.length
  · rw [if_pos h0]
    exact .inr ⟨rfl, .inl (by omega)⟩
  · rw [if_neg h0]
    by_cases hnm : (s.dropWhile blkB).take name.length = name
    · rw [if_neg (by simpa using hnm)]
      have hnl : name.length ≤ (s.dropWhile blkB).length := by
        have := congrArg List.length hnm
        simp only [List.length_take] at this
        omega
      have hnp : 0 < name.length := List.length_pos_iff.2 hn
      have hd := tw_drop (p := blkB) s
      rcases setting_cases ((s.dropWhile blkB).drop name.length) with ⟨m, v, hm, h61, ⟨q, r3, n, hq, hqq, hu, hdr⟩, hset⟩ | ⟨hno, hset⟩
      · left
        rw [List.length_drop] at hm
        refine ⟨m, v, by omega, by omega, hnm, ?_, by omega, hset⟩
        rw [if_neg (by simpa using h61), hq]
        simp only
        rw [if_pos hqq, hu]
        simp only [Prod.mk.injEq, true_and]
        rw [← hdr, ← List.drop_drop, hd, List.drop_drop]
      · right
        refine ⟨?_, .inr (.inr hset)⟩
        by_cases h61 : (((s.dropWhile blkB).drop name.length).dropWhile blkB).take 1 = [61]
        · rw [if_neg (by simpa using h61)]
          rcases hno with h | h
          · exact absurd h61 h
          · cases hq : (((s.dropWhile blkB).drop name.length).dropWhile blkB |>.drop 1).dropWhile blkB with
            | nil => rfl
            | cons q r3 =>
              rw [hq] at h
              simp only at h ⊢
              rcases h with h | h
              · rw [if_neg h]
              · rw [h]
                split <;> rfl
        · rw [if_pos h61]
    · rw [if_pos hnm]
      exact .inr ⟨rfl, .inr (.inl hnm)⟩
theorem declT3_cases (s : List UInt8) :
    ((s.dropWhile blkB).take 2 = [63, 62] ∧ (s.takeWhile blkB).length + 2 ≤ s.length ∧ declT3 s = some ((s.takeWhile blkB).length + 2, ())) ∨ (¬ (s.dropWhile blkB).take 2 = [63, 62] ∧ declT3 s = none) := by
  have hl1 := dw_len (p := blkB) s
  have hd := tw_drop (p := blkB) s
  unfold declT3
  by_cases h2 : (s.dropWhile blkB).take 2 = [63, 62]
  · have h3 := congrArg List.length h2
    simp only [List.length_take, List.length_cons, List.length_nil] at h3
    refine .inl ⟨h2, by omega, ?_⟩
    rw [bindR_yes (span_yes (by omega)), hd, litR_is (p := [63, 62]) h2]
    rfl
  · refine .inr ⟨h2, ?_⟩
    by_cases h1 : (s.takeWhile blkB).length < s.length
    · rw [bindR_yes (span_yes h1), hd, litR_no (p := [63, 62]) h2]
    · rw [bindR_no (span_no h1)]
theorem take_head {l p : List UInt8} {c : UInt8} (h : l.take (c :: p).length = c :: p) : ∃ r, l = c :: r ∧ r.take p.length = p := by
  cases l with
  | nil => simp at h
  | cons d r =>
    simp only [List.length_cons, List.take_succ_cons, List.cons.injEq] at h
    exact ⟨r, by rw [h.1], h.2⟩
def endX (s : List UInt8) : Option Nat :=
  let a := toldX s sStandalone sNo
  if (a.1 = sYes ∨ a.1 = sNo) ∧ (a.2.dropWhile blkB).take 2 = [63, 62] then some (s.length - ((a.2.dropWhile blkB).length - 2)) else none
def unitO (o : Option Nat) : Option (Nat × Unit) := o.map fun n => (n, ())
theorem head_cases (s : List UInt8) : (∃ c r, s.dropWhile blkB = c :: r ∧ spanR blkB s = some ((s.takeWhile blkB).length, s.takeWhile blkB) ∧ s.drop (s.takeWhile blkB).length = c :: r ∧ s.length = (s.takeWhile blkB).length + (r.length + 1)) ∨
    (s.dropWhile blkB = [] ∧ spanR blkB s = none) := by
  have hl1 := dw_len (p := blkB) s
  have hd := tw_drop (p := blkB) s
  cases hw : s.dropWhile blkB with
  | nil =>
    rw [hw] at hl1
    exact .inr ⟨rfl, span_no (by simp at hl1; omega)⟩
  | cons c r =>
    rw [hw] at hl1 hd
    simp only [List.length_cons] at hl1
    exact .inl ⟨c, r, rfl, span_yes (by omega), hd, by omega⟩
theorem stand_fit (s : List UInt8) : declT2 s = unitO (endX s) ∧ ∀ n, endX s = some n → n ≤ s.length := by
  have hl1 := dw_len (p := blkB) s
  unfold endX declT2
  rcases told_cases s sStandalone sNo (by decide) with ⟨m, v, h1, h2, h3, h4, h5, h6⟩ | ⟨h1, h2⟩
  · rw [h4]
    simp only
    obtain ⟨r, hr, hr2⟩ := take_head (c := 115) (p := [116, 97, 110, 100, 97, 108, 111, 110, 101]) h3
    have hd := tw_drop (p := blkB) s
    rw [hr] at hd
    rw [bindR_yes (span_yes h2), hd, bindR_yes (n := 1) (a := 115) rfl, if_neg (by decide), guardR_yes (by
      have : s.takeWhile blkB ≠ [] := fun e => h1 (by rw [e]; rfl)
      cases hh : s.takeWhile blkB with
      | nil => exact absurd hh this
      | cons c l => rfl)]
    simp only [List.drop_succ_cons, List.drop_zero]
    unfold standR
    rw [bindR_yes (litR_is (p := [116, 97, 110, 100, 97, 108, 111, 110, 101]) hr2)]
    have h6' := h6 [[121, 101, 115], [110, 111]] false
    rw [hr] at h6'
    have e10 : (115 :: r).drop sStandalone.length = r.drop ([116, 97, 110, 100, 97, 108, 111, 110, 101] : List UInt8).length := rfl
    rw [e10] at h6'
    by_cases hv : v = sYes ∨ v = sNo
    · have hc : ([[121, 101, 115], [110, 111]] : List (List UInt8)).contains (if false then lowL v else v) = true := by
        rcases hv with rfl | rfl <;> rfl
      rw [if_pos hc] at h6'
      rw [bindR_yes h6']
      have hrest : (r.drop ([116, 97, 110, 100, 97, 108, 111, 110, 101] : List UInt8).length).drop m = s.drop ((s.takeWhile blkB).length + (sStandalone.length + m)) := by
        rw [← List.drop_drop (l := s), hd, ← List.drop_drop (l := 115 :: r), e10]
      rw [hrest]
      generalize hS : s.drop ((s.takeWhile blkB).length + (sStandalone.length + m)) = s2 at *
      have hsl : s2.length = s.length - ((s.takeWhile blkB).length + (sStandalone.length + m)) := by rw [← hS, List.length_drop]
      have hl2 := dw_len (p := blkB) s2
      have hnl : sStandalone.length = 10 := rfl
      rcases declT3_cases s2 with ⟨t1, t2, t3⟩ | ⟨t1, t2⟩
      · rw [t3, if_pos ⟨hv, t1⟩]
        have h7 := congrArg List.length t1
        simp only [List.length_take, List.length_cons, List.length_nil] at h7
        refine ⟨?_, fun n hn => ?_⟩
        · simp only [unitO, Option.map_some, Option.some.injEq, Prod.mk.injEq, and_true, List.length_cons, List.length_nil]
          omega
        · simp only [Option.some.injEq] at hn
          omega
      · rw [t2, if_neg (fun h => t1 h.2)]
        exact ⟨rfl, fun n hn => by cases hn⟩
    · have hc : ¬ ([[121, 101, 115], [110, 111]] : List (List UInt8)).contains (if false then lowL v else v) = true := by
        intro h
        apply hv
        simp at h
        exact h
      rw [if_neg hc] at h6'
      rw [bindR_no h6', if_neg (fun h => hv h.1)]
      exact ⟨rfl, fun n hn => by cases hn⟩
  · rw [h1]
    simp only
    rcases head_cases s with ⟨c, r, hr, hs1, hd, hlen⟩ | ⟨hnil, hs1⟩
    · rw [bindR_yes hs1, hd, bindR_yes (n := 1) (a := c) rfl, hr]
      simp only [List.drop_succ_cons, List.drop_zero]
      by_cases h63 : c = 63
      · subst h63
        rw [if_pos rfl]
        by_cases h62 : r.take 1 = [62]
        · rw [litR_is (p := [62]) h62, if_pos ⟨.inr (by first | rfl | trivial), by rw [List.take_succ_cons, h62]⟩]
          have := congrArg List.length h62
          simp only [List.length_take, List.length_cons, List.length_nil] at this
          refine ⟨?_, fun n hn => ?_⟩
          · simp only [unitO, Option.map_some, Option.some.injEq, Prod.mk.injEq, and_true, List.length_cons, List.length_nil]
            omega
          · simp only [Option.some.injEq] at hn
            omega
        · rw [litR_no (p := [62]) h62, if_neg (fun h => h62 (by have := h.2; simpa using this))]
          exact ⟨rfl, fun n hn => by cases hn⟩
      · rw [if_neg h63, if_neg (fun h => h63 (by have := h.2; simp at this; exact this.1))]
        have hg : guardR (c == 115 && !(s.takeWhile blkB).isEmpty) standR r = none := by
          by_cases h115 : c = 115
          · subst h115
            rcases h2 with h | h | h
            · exact guardR_no (by rw [List.eq_nil_of_length_eq_zero h]; rfl) _
            · cases hb : (s.takeWhile blkB).isEmpty with
              | true => exact guardR_no (by simp) _
              | false =>
                rw [guardR_yes (by simp)]
                unfold standR
                rw [bindR_no (litR_no (p := [116, 97, 110, 100, 97, 108, 111, 110, 101]) (fun e => h (by rw [hr]; exact congrArg (115 :: ·) e)))]
            · cases hb : (s.takeWhile blkB).isEmpty with
              | true => exact guardR_no (by simp) _
              | false =>
                rw [guardR_yes (by simp)]
                unfold standR
                by_cases hl : r.take 9 = [116, 97, 110, 100, 97, 108, 111, 110, 101]
                · rw [bindR_yes (litR_is (p := [116, 97, 110, 100, 97, 108, 111, 110, 101]) hl)]
                  have := h [[121, 101, 115], [110, 111]] false
                  rw [hr] at this
                  rw [bindR_no (show settingR _ _ (r.drop ([116, 97, 110, 100, 97, 108, 111, 110, 101] : List UInt8).length) = none from this)]
                · rw [bindR_no (litR_no (p := [116, 97, 110, 100, 97, 108, 111, 110, 101]) hl)]
          · exact guardR_no (by simp [h115]) _
        rw [hg]
        exact ⟨rfl, fun n hn => by cases hn⟩
    · rw [bindR_no hs1, hnil, if_neg (fun h => by have := h.2; simp at this)]
      exact ⟨rfl, fun n hn => by cases hn⟩
theorem noenc {s : List UInt8} (h : (s.takeWhile blkB).length = 0 ∨ ¬ (s.dropWhile blkB).take sEncoding.length = sEncoding ∨ ∀ vals fold, settingR vals fold ((s.dropWhile blkB).drop sEncoding.length) = none) : declT1 s = declT2 s := by
  unfold declT1 declT2
  rcases head_cases s with ⟨c, r, hr, hs1, hd, hlen⟩ | ⟨hnil, hs1⟩
  · rw [bindR_yes hs1, bindR_yes hs1, hd, bindR_yes (n := 1) (a := c) rfl, bindR_yes (n := 1) (a := c) rfl]
    simp only [List.drop_succ_cons, List.drop_zero]
    by_cases h63 : c = 63
    · rw [if_pos h63, if_pos h63]
    · rw [if_neg h63, if_neg h63]
      by_cases h101 : c = 101
      · subst h101
        rw [if_pos rfl, guardR_no (c := ((101 : UInt8) == 115 && !(s.takeWhile blkB).isEmpty)) (by rfl)]
        have hg : ∀ X : Rd Unit, guardR (!(s.takeWhile blkB).isEmpty) (bindR (litR [110, 99, 111, 100, 105, 110, 103]) fun _ => bindR (settingR [[117, 116, 102, 45, 56]] true) fun _ => X) r = none := by
          intro X
          rcases h with h | h | h
          · exact guardR_no (by rw [List.eq_nil_of_length_eq_zero h]; rfl) _
          · cases hb : (s.takeWhile blkB).isEmpty with
            | true => exact guardR_no (by simp) _
            | false =>
              rw [guardR_yes (by simp), bindR_no (litR_no (p := [110, 99, 111, 100, 105, 110, 103]) (fun e => h (by rw [hr]; exact congrArg (101 :: ·) e)))]
          · cases hb : (s.takeWhile blkB).isEmpty with
            | true => exact guardR_no (by simp) _
            | false =>
              rw [guardR_yes (by simp)]
              by_cases hl : r.take 7 = [110, 99, 111, 100, 105, 110, 103]
              · rw [bindR_yes (litR_is (p := [110, 99, 111, 100, 105, 110, 103]) hl)]
                have := h [[117, 116, 102, 45, 56]] true
                rw [hr] at this
                rw [bindR_no (show settingR _ _ (r.drop ([110, 99, 111, 100, 105, 110, 103] : List UInt8).length) = none from this)]
              · rw [bindR_no (litR_no (p := [110, 99, 111, 100, 105, 110, 103]) hl)]
        rw [hg]
      · rw [if_neg h101]
  · rw [bindR_no hs1, bindR_no hs1]
def encX (s : List UInt8) : Option Nat :=
  let e := toldX s sEncoding sUtf8
  if lowL e.1 = sUtf8 then (endX e.2).map fun n => s.length - e.2.length + n else none
theorem enc_fit (s : List UInt8) : declT1 s = unitO (encX s) := by
  unfold encX
  rcases told_cases s sEncoding sUtf8 (by decide) with ⟨m, v, h1, h2, h3, h4, h5, h6⟩ | ⟨h1, h2⟩
  · rw [h4]
    simp only
    obtain ⟨r, hr, hr2⟩ := take_head (c := 101) (p := [110, 99, 111, 100, 105, 110, 103]) h3
    have hd := tw_drop (p := blkB) s
    rw [hr] at hd
    unfold declT1
    rw [bindR_yes (span_yes h2), hd, bindR_yes (n := 1) (a := 101) rfl, if_neg (by decide), if_pos rfl, guardR_yes (by
      have : s.takeWhile blkB ≠ [] := fun e => h1 (by rw [e]; rfl)
      cases hh : s.takeWhile blkB with
      | nil => exact absurd hh this
      | cons c l => rfl)]
    simp only [List.drop_succ_cons, List.drop_zero]
    rw [bindR_yes (litR_is (p := [110, 99, 111, 100, 105, 110, 103]) hr2)]
    have h6' := h6 [[117, 116, 102, 45, 56]] true
    rw [hr] at h6'
    have e10 : (101 :: r).drop sEncoding.length = r.drop ([110, 99, 111, 100, 105, 110, 103] : List UInt8).length := rfl
    rw [e10] at h6'
    by_cases hv : lowL v = sUtf8
    · have hc : ([[117, 116, 102, 45, 56]] : List (List UInt8)).contains (if true then lowL v else v) = true := by
        rw [if_pos rfl, hv]; rfl
      rw [if_pos hc] at h6'
      rw [bindR_yes h6', if_pos hv]
      have hrest : (r.drop ([110, 99, 111, 100, 105, 110, 103] : List UInt8).length).drop m = s.drop ((s.takeWhile blkB).length + (sEncoding.length + m)) := by
        rw [← List.drop_drop (l := s), hd, ← List.drop_drop (l := 101 :: r), e10]
      rw [hrest, (stand_fit _).1]
      cases endX (s.drop ((s.takeWhile blkB).length + (sEncoding.length + m))) with
      | none => rfl
      | some n =>
        simp only [unitO, Option.map_some, Option.some.injEq, Prod.mk.injEq, and_true, List.length_drop, List.length_cons, List.length_nil]
        have hnl : sEncoding.length = 8 := rfl
        omega
    · have hc : ¬ ([[117, 116, 102, 45, 56]] : List (List UInt8)).contains (if true then lowL v else v) = true := by
        intro h
        apply hv
        simp at h
        exact h
      rw [if_neg hc] at h6'
      rw [bindR_no h6', if_neg hv]
      rfl
  · rw [noenc h2, (stand_fit s).1, h1, if_pos (show lowL sUtf8 = sUtf8 from by decide)]
    simp only
    cases endX s with
    | none => rfl
    | some n =>
      simp only [unitO, Option.map_some, Option.some.injEq, Prod.mk.injEq, and_true]
      omega
theorem told_le (s name other : List UInt8) (hn : name ≠ []) : (toldX s name other).2.length ≤ s.length ∧ ∃ k, (toldX s name other).2 = s.drop k := by
  rcases told_cases s name other hn with ⟨m, v, h1, h2, h3, h4, h5, h6⟩ | ⟨h1, _⟩
  · rw [h4]; exact ⟨by simp, _, rfl⟩
  · rw [h1]; exact ⟨Nat.le_refl _, 0, rfl⟩
theorem decl_fit (L : List UInt8) (hq : declQ L) : (∃ n, declR L = some (n, ()) ∧ declX L = .ok n) ∨ (declR L = none ∧ Bad (declX L) L.length) := by
  obtain ⟨q1, q2⟩ := hq
  have e1 : declX L = match (if (toldX (L.drop 5) sVersion []).1 = sOne then encX (toldX (L.drop 5) sVersion []).2 else none) with
      | some n => .ok (L.length - (toldX (L.drop 5) sVersion []).2.length + n)
      | none => .error (0, 4) := by
    unfold declX
    rw [if_pos ⟨q1, q2⟩]
    simp only
    by_cases hv : (toldX (L.drop 5) sVersion []).1 = sOne
    · rw [if_pos hv]
      unfold encX
      simp only
      have t1 := (told_le (L.drop 5) sVersion [] (by decide)).1
      have t2 := (told_le (toldX (L.drop 5) sVersion []).2 sEncoding sUtf8 (by decide)).1
      have t3 := (told_le (toldX (toldX (L.drop 5) sVersion []).2 sEncoding sUtf8).2 sStandalone sNo (by decide)).1
      rw [List.length_drop] at t1
      generalize (toldX (L.drop 5) sVersion []) = v at *
      generalize (toldX v.2 sEncoding sUtf8) = e at *
      by_cases he : lowL e.1 = sUtf8
      · rw [if_pos he]
        unfold endX
        simp only
        generalize (toldX e.2 sStandalone sNo) = a at *
        by_cases hc : (a.1 = sYes ∨ a.1 = sNo) ∧ (a.2.dropWhile blkB).take 2 = [63, 62]
        · rw [if_pos ⟨hv, he, hc⟩, if_pos hc]
          have h7 := congrArg List.length hc.2
          have h8 := dw_len (p := blkB) a.2
          simp only [List.length_take, List.length_cons, List.length_nil] at h7
          simp only [Option.map_some, Except.ok.injEq]
          omega
        · rw [if_neg (fun h => hc h.2.2), if_neg hc]
          rfl
      · rw [if_neg (fun h => he h.2.1), if_neg he]
    · rw [if_neg (fun h => hv h.1), if_neg hv]
  rw [e1]
  clear e1
  have h5 := congrArg List.length q1
  simp only [List.length_take, List.length_cons, List.length_nil] at h5
  unfold declR
  rw [bindR_yes (litR_is (p := [60, 63, 120, 109, 108]) q1)]
  have hb : ((L.drop 5).takeWhile blkB).length ≠ 0 := by
    cases hd : L.drop 5 with
    | nil => rw [hd] at q2; simp at q2
    | cons c r =>
      rw [hd] at q2
      have : blkB c = true := by simpa using q2
      simp [this]
  simp only [List.length_cons, List.length_nil]
  have hLd : (L.drop 5).length = L.length - 5 := List.length_drop ..
  generalize hS : L.drop 5 = s at *
  rcases told_cases s sVersion [] (by decide) with ⟨m, v, h1, h2, h3, h4, h5', h6⟩ | ⟨h1, h2⟩
  · rw [h4]
    simp only
    have hd := tw_drop (p := blkB) s
    rw [bindR_yes (span_yes h2), hd, bindR_yes (litR_is (p := [118, 101, 114, 115, 105, 111, 110]) h3)]
    have h6' := h6 [[49, 46, 48]] false
    by_cases hv : v = sOne
    · have hc : ([[49, 46, 48]] : List (List UInt8)).contains (if false then lowL v else v) = true := by subst hv; rfl
      rw [if_pos hc] at h6'
      have h6'' : settingR [[49, 46, 48]] false ((s.dropWhile blkB).drop ([118, 101, 114, 115, 105, 111, 110] : List UInt8).length) = some (m, ()) := h6'
      have hrest : ((s.dropWhile blkB).drop ([118, 101, 114, 115, 105, 111, 110] : List UInt8).length).drop m = s.drop ((s.takeWhile blkB).length + (sVersion.length + m)) := by
        rw [← List.drop_drop (l := s), hd, ← List.drop_drop (l := s.dropWhile blkB)]
        rfl
      rw [bindR_yes h6'', hrest, enc_fit, if_pos hv]
      cases encX (s.drop ((s.takeWhile blkB).length + (sVersion.length + m))) with
      | none => exact .inr ⟨rfl, Bad.mk (by omega) (by omega)⟩
      | some n =>
        refine .inl ⟨5 + ((s.takeWhile blkB).length + (7 + (m + n))), rfl, ?_⟩
        have hnl : sVersion.length = 7 := rfl
        simp only [Except.ok.injEq, List.length_drop]
        omega
    · have hc : ¬ ([[49, 46, 48]] : List (List UInt8)).contains (if false then lowL v else v) = true := by
        intro h
        apply hv
        simp at h
        exact h
      rw [if_neg hc] at h6'
      have h6'' : settingR [[49, 46, 48]] false ((s.dropWhile blkB).drop ([118, 101, 114, 115, 105, 111, 110] : List UInt8).length) = none := h6'
      rw [bindR_no h6'', if_neg hv]
      exact .inr ⟨rfl, Bad.mk (by omega) (by omega)⟩
  · rw [h1]
    simp only
    rw [if_neg (by decide)]
    refine .inr ⟨?_, Bad.mk (by omega) (by omega)⟩
    rcases head_cases s with ⟨c, r, hr, hs1, hd, hlen⟩ | ⟨hnil, hs1⟩
    · rw [bindR_yes hs1, hd, ← hr]
      rcases h2 with h | h | h
      · exact absurd h hb
      · rw [bindR_no (litR_no (p := [118, 101, 114, 115, 105, 111, 110]) h)]
      · by_cases hl : (s.dropWhile blkB).take 7 = [118, 101, 114, 115, 105, 111, 110]
        · rw [bindR_yes (litR_is (p := [118, 101, 114, 115, 105, 111, 110]) hl)]
          have := h [[49, 46, 48]] false
          rw [bindR_no (show settingR _ _ ((s.dropWhile blkB).drop ([118, 101, 114, 115, 105, 111, 110] : List UInt8).length) = none from this)]
        · rw [bindR_no (litR_no (p := [118, 101, 114, 115, 105, 111, 110]) hl)]
    · rw [bindR_no hs1]
end Wb

namespace Wb
theorem dec_ascii (c : UInt8) (l : List UInt8) (h : c.toNat < 128) : dec (c :: l) = ((c.toNat : Int), 1) := by
  have e := enc_ascii h
  have hs : sgn (c.toNat : Int) = true := by rw [sgn_iff]; omega
  have := dec_enc (c.toNat : Int) hs l
  rw [e] at this
  rw [show c :: l = [c] ++ l from rfl, this]
  unfold slen
  rw [if_pos hs, if_pos (by omega)]
theorem decU_ascii (c : UInt8) (l : List UInt8) (h : c.toNat < 128) : decU (c :: l) = (c.toNat, 1) := by
  unfold decU
  rw [dec_ascii c l h]
  simp
theorem decU_enc (n : Int) (hs : sgn n = true) (r : List UInt8) : decU (enc n ++ r) = (n.toNat, (slen n).toNat) := by
  have := slen_one n hs
  unfold decU
  rw [dec_enc n hs r]
  rw [if_neg (by show ¬ slen n = 0; omega)]
theorem decU_le {l : List UInt8} (h : l ≠ []) : (decU l).2 ≤ l.length := by
  have := (dec_bd l).2.2
  have h1 := List.length_pos_iff.2 h
  unfold decU
  split
  · show 1 ≤ _; omega
  · show (dec l).2.toNat ≤ _; omega
theorem decU_low {l : List UInt8} {b : UInt8} (h : b ∈ l.take (decU l).2) (hb : b.toNat < 128) : ((decU l).1 : Int) = b.toNat := by
  cases l with
  | nil => simp at h
  | cons c l =>
    by_cases hc : c.toNat < 128
    · rw [decU_ascii c l hc] at h ⊢
      simp at h
      rw [h]
    · exfalso
      by_cases h0 : (dec (c :: l)).2 = 0
      · have e : decU (c :: l) = (65533, 1) := by unfold decU; rw [if_pos h0]
        rw [e] at h
        simp at h
        subst h
        exact hc hb
      · obtain ⟨n, k, hd⟩ := dec_pair (c :: l)
        rw [hd] at h0
        obtain ⟨h1, h2, r, h3⟩ := dec_some _ n k hd h0
        rw [h3, decU_enc n h1 r] at h
        have hl := enc_length n
        rw [List.take_append_of_le_length (by simp only; omega), List.take_of_length_le (by simp only; omega)] at h
        obtain ⟨h4, _⟩ := enc_low h hb
        rw [h4] at h3
        simp only [List.singleton_append, List.cons.injEq] at h3
        rw [h3.1] at hc
        exact hc hb
theorem part_low : ∀ c : Fin 128, partB (c.val : Int) = true → blkB (UInt8.ofNat c.val) = false ∧ UInt8.ofNat c.val ≠ 63 := by decide +kernel
theorem high_clean {b : UInt8} (h : 128 ≤ b.toNat) : blkB b = false ∧ b ≠ 63 := by
  have ne : ∀ c : UInt8, c.toNat < 128 → b ≠ c := fun c hc e => by rw [e] at h; omega
  refine ⟨?_, ne 63 (by decide)⟩
  unfold blkB
  have h1 := ne 9 (by decide)
  have h2 := ne 10 (by decide)
  have h3 := ne 13 (by decide)
  have h4 := ne 32 (by decide)
  simp [h1, h2, h3, h4]
theorem behind_split : ∀ (f : Nat) (l : List UInt8), ∃ p, l = p ++ behindU f l ∧ ∀ b ∈ p, blkB b = false ∧ b ≠ 63
  | 0, l => ⟨[], rfl, by simp⟩
  | f + 1, l => by
    unfold behindU
    split
    · rename_i h; exact ⟨[], by rw [h]; rfl, by simp⟩
    · split
      · rename_i h hp
        obtain ⟨p, h1, h2⟩ := behind_split f (l.drop (decU l).2)
        refine ⟨l.take (decU l).2 ++ p, ?_, fun b hb => ?_⟩
        · rw [List.append_assoc, ← h1, List.take_append_drop]
        · rcases List.mem_append.1 hb with hb | hb
          · by_cases hlow : b.toNat < 128
            · rw [decU_low hb hlow] at hp
              have := part_low ⟨b.toNat, hlow⟩ hp
              simpa using this
            · exact high_clean (by omega)
          · exact h2 b hb
      · exact ⟨[], rfl, by simp⟩
theorem behind_name {c : UInt8} (hc : c.toNat < 128) (hp : partB (c.toNat : Int) = false) (r : List UInt8) : ∀ (ns : List Int), (∀ n ∈ ns, partB n = true) → ∀ f, (ns.flatMap enc ++ c :: r).length ≤ f → behindU f (ns.flatMap enc ++ c :: r) = c :: r
  | [], _, f, hf => by
    rw [List.flatMap_nil, List.nil_append] at hf ⊢
    obtain ⟨f, rfl⟩ : ∃ f', f = f' + 1 := ⟨f - 1, by simp at hf; omega⟩
    unfold behindU
    rw [if_neg (by simp), decU_ascii c r hc, if_neg (by simp only [hp]; decide)]
  | n :: ns, h, f, hf => by
    have hn := h n (by simp)
    have hs := part_sgn n hn
    have h0 := (sgn_iff n).1 hs
    have h1 := slen_one n hs
    have hl := enc_length n
    obtain ⟨f, rfl⟩ : ∃ f', f = f' + 1 := ⟨f - 1, by simp at hf; omega⟩
    have e : (n :: ns).flatMap enc ++ c :: r = enc n ++ (ns.flatMap enc ++ c :: r) := by rw [List.flatMap_cons, List.append_assoc]
    rw [e] at hf ⊢
    unfold behindU
    rw [if_neg (by intro e; have := congrArg List.length e; simp at this), decU_enc n hs, if_pos (by simp only; rw [Int.toNat_of_nonneg h0.1]; exact hn)]
    simp only
    have hd : (enc n ++ (ns.flatMap enc ++ c :: r)).drop (slen n).toNat = ns.flatMap enc ++ c :: r := by
      rw [show (slen n).toNat = (enc n).length from by omega, List.drop_left]
    rw [hd]
    refine behind_name hc hp r ns (fun m hm => h m (by simp [hm])) f ?_
    simp only [List.length_append] at hf ⊢
    omega
theorem until_app {p : List UInt8} (B : List UInt8) (h : ∀ b ∈ p, b ≠ 63) : untilR [63, 62] (p ++ B) = (untilR [63, 62] B).map fun x => (p.length + x.1, p ++ x.2) := by
  induction p with
  | nil =>
    rw [List.nil_append]
    cases untilR [63, 62] B with
    | none => rfl
    | some x => simp
  | cons c p ih =>
    have hc := h c (by simp)
    rw [List.cons_append]
    conv => lhs; unfold untilR
    rw [if_neg (by simp [hc]), ih (fun b hb => h b (by simp [hb]))]
    cases untilR [63, 62] B with
    | none => rfl
    | some x =>
      simp only [Option.map_some, Option.some.injEq, Prod.mk.injEq, List.length_cons, List.cons_append, and_true]
      omega
def piQ (b : UInt8) : Bool := !(blkB b) && b != 63
theorem piQ_yes {b : UInt8} (h : blkB b = false ∧ b ≠ 63) : piQ b = true := by unfold piQ; simp [h.1, h.2]
theorem tw_app {p : UInt8 → Bool} {a : List UInt8} {c : UInt8} (r : List UInt8) (ha : ∀ b ∈ a, p b = true) (hc : p c = false) : (a ++ c :: r).takeWhile p = a := by
  induction a with
  | nil => simp [hc]
  | cons d a ih => simp [ha d (by simp), ih (fun b hb => ha b (by simp [hb]))]
theorem tw_mem {p : UInt8 → Bool} {x : UInt8} : ∀ {l : List UInt8}, x ∈ l.takeWhile p → p x = true
  | [], h => by simp at h
  | c :: l, h => by
    by_cases hc : p c = true
    · rw [List.takeWhile_cons_of_pos hc] at h
      rcases List.mem_cons.1 h with rfl | h
      · exact hc
      · exact tw_mem h
    · rw [List.takeWhile_cons_of_neg hc] at h
      simp at h
def piNext (l : List UInt8) : Prop := l.take 2 = [63, 62] ∨ (l.take 1).any blkB = true
theorem piNext_head {l : List UInt8} (h : piNext l) : ∃ c r, l = c :: r ∧ c.toNat < 128 ∧ partB (c.toNat : Int) = false ∧ piQ c = false := by
  cases l with
  | nil => rcases h with h | h <;> simp at h
  | cons c r =>
    refine ⟨c, r, rfl, ?_⟩
    rcases h with h | h
    · simp at h
      rw [h.1]
      decide
    · have hb : blkB c = true := by simpa using h
      unfold blkB at hb
      simp at hb
      rcases hb with ((rfl | rfl) | rfl) | rfl <;> decide
theorem piR_cases (r : List UInt8) :
    (∃ w b n v, r = w ++ b ∧ (∀ x ∈ w, blkB x = false ∧ x ≠ 63) ∧ nameB w = true ∧ lowL w ≠ sXml ∧ piNext b ∧ untilR [63, 62] b = some (n, v) ∧ piR r = some (w.length + n, none)) ∨
    (piR r = none ∧ ∀ w b, r = w ++ b → (∀ x ∈ w, blkB x = false ∧ x ≠ 63) → nameB w = true → lowL w ≠ sXml → piNext b → untilR [63, 62] b = none) := by
  have key : ∀ w b, r = w ++ b → (∀ x ∈ w, blkB x = false ∧ x ≠ 63) → nameB w = true → lowL w ≠ sXml → piNext b →
      piR r = match untilR [63, 62] b with | none => none | some (n, _) => some (w.length + n, none) := by
    intro w b hr hw hn hx hb
    obtain ⟨c, b', rfl, _, _, hq⟩ := piNext_head hb
    have htw : r.takeWhile (fun b => !(blkB b) && b != 63) = w := by
      rw [hr]; exact tw_app (p := piQ) b' (fun x hx => piQ_yes (hw x hx)) hq
    unfold piR
    rw [bindR_yes (span_yes (p := fun b => !(blkB b) && b != 63) (by rw [htw, hr]; simp)), htw, guardR_yes (by rw [hn]; simp; exact hx)]
    have hd : r.drop w.length = c :: b' := by rw [hr, List.drop_left]
    rw [hd]
    have hend : piEndR (c :: b') = mapR (untilR [63, 62]) (fun _ => some ()) (c :: b') := by
      unfold piEndR
      exact if_pos hb
    cases hu : untilR [63, 62] (c :: b') with
    | none =>
      rw [mapR_no hu] at hend
      rw [mapR_no hend]
    | some x =>
      obtain ⟨m, v⟩ := x
      rw [mapR_yes hu] at hend
      rw [mapR_yes hend]
  cases hp : piR r with
  | none =>
    refine .inr ⟨rfl, fun w b h1 h2 h3 h4 h5 => ?_⟩
    have := key w b h1 h2 h3 h4 h5
    rw [hp] at this
    cases hu : untilR [63, 62] b with
    | none => rfl
    | some x => rw [hu] at this; cases this
  | some x =>
    left
    obtain ⟨m, o⟩ := x
    unfold piR at hp
    obtain ⟨n1, w, m1, h1, h2, rfl⟩ := bindR_some hp
    unfold spanR at h1
    split at h1
    · rename_i hl
      simp only [Option.some.injEq, Prod.mk.injEq] at h1
      obtain ⟨hn1, hw⟩ := h1
      unfold guardR at h2
      split at h2
      · rename_i hg
        simp only [Bool.and_eq_true, Bool.not_eq_true', beq_eq_false_iff_ne] at hg
        obtain ⟨u, h3, h4⟩ := mapR_some h2
        unfold piEndR at h3
        split at h3
        · rename_i hnx
          obtain ⟨v, h5, _⟩ := mapR_some h3
          simp only [Option.some.injEq] at h4
          rw [← hn1] at h5 hnx
          rw [← hw] at hg
          refine ⟨r.takeWhile (fun b => !(blkB b) && b != 63), r.drop (r.takeWhile (fun b => !(blkB b) && b != 63)).length, m1, v, ?_, ?_, hg.1, hg.2, hnx, h5, ?_⟩
          · rw [tw_drop, List.takeWhile_append_dropWhile]
          · intro x hx
            have := tw_mem hx
            simpa using this
          · rw [← hn1, ← h4]
        · cases h3
      · cases h2
    · cases h1
theorem pi_fit (L : List UInt8) (fr : Nat) (hfr : fr ≤ L.length) : Fits (noneX (instructionU L fr)) (fr + 2) L.length (piR (L.drop (fr + 2))) := by
  unfold instructionU upToX
  simp only
  generalize hr : L.drop (fr + 2) = r
  obtain ⟨p, hp, hclean⟩ := behind_split r.length r
  generalize hb : behindU r.length r = b at *
  have hname : r.take (r.length - b.length) = p := by
    have : r.length - b.length = p.length := by rw [hp]; simp
    rw [this, hp, List.take_left]
  rw [hname]
  have uniq : ∀ w c, r = w ++ c → nameB w = true → piNext c → w = p ∧ c = b := by
    intro w c hw hn hc
    obtain ⟨d, c', rfl, h1, h2, _⟩ := piNext_head hc
    obtain ⟨_, n, ns, h4, h5, h6⟩ := (nameB_iff w).1 hn
    have e : behindU r.length r = d :: c' := by
      have := behind_name h1 h2 c' (n :: ns) (fun m hm => by
        rcases List.mem_cons.1 hm with rfl | hm
        · exact start_part _ h4
        · exact h5 m hm) r.length (by rw [← h6, ← hw]; exact Nat.le_refl _)
      rw [← h6, ← hw] at this
      exact this
    rw [hb] at e
    refine ⟨?_, e.symm⟩
    rw [hp, e] at hw
    exact (List.append_cancel_right hw).symm
  rcases piR_cases r with ⟨w, c, n, v, h1, h2, h3, h4, h5, h6, h7⟩ | ⟨h1, h2⟩
  · obtain ⟨rfl, rfl⟩ := uniq w c h1 h3 h5
    rw [h7, if_neg (by rintro (h | h); · rw [h3] at h; cases h
                       · exact h4 h), if_neg (by rintro ⟨_, h8, h9⟩; rcases h5 with h5 | h5; · exact h9 h5
                                                 · rw [h5] at h8; cases h8)]
    have hu : untilR [63, 62] r = some (w.length + n, w ++ v) := by
      rw [h1, until_app c (fun x hx => (h2 x hx).2), h6]; rfl
    rw [hu]
    exact Fits.ok (n := w.length + n) (a := none) rfl rfl
  · refine Fits.bad h1 ?_
    by_cases c1 : nameB p = false ∨ lowL p = sXml
    · rw [if_pos c1]
      exact Bad.mk hfr (by omega)
    · rw [if_neg c1]
      by_cases c2 : b ≠ [] ∧ (b.take 1).any blkB = false ∧ b.take 2 ≠ [63, 62]
      · rw [if_pos c2]
        exact Bad.mk hfr (by omega)
      · rw [if_neg c2]
        have hu : untilR [63, 62] r = none := by
          rw [hp, until_app b (fun x hx => (hclean x hx).2)]
          by_cases hbn : b = []
          · rw [hbn]; rfl
          · have hnx : piNext b := by
              by_cases h3 : b.take 2 = [63, 62]
              · exact .inl h3
              · cases h4 : (b.take 1).any blkB with
                | true => exact .inr h4
                | false => exact absurd ⟨hbn, h4, h3⟩ c2
            have hn : nameB p = true := by
              cases h3 : nameB p with
              | true => rfl
              | false => exact absurd (.inl h3) c1
            rw [h2 p b hp hclean hn (fun h => c1 (.inr h)) hnx]
            rfl
        rw [hu]
        exact Bad.mk hfr (by omega)
theorem Fits.shift {α : Type} {e : Er (α × Nat)} {at_ k len : Nat} {o o' : Option (Nat × α)} (h : Fits e (at_ + k) len o) (ho : o' = o.map fun x => (k + x.1, x.2)) : Fits e at_ len o' := by
  subst ho
  rcases h.split with ⟨n, a, h1, h2⟩ | ⟨h1, h2⟩
  · rw [h1, h2]
    exact Fits.ok (n := k + n) (a := a) rfl (by rw [Nat.add_assoc])
  · rw [h1]
    exact Fits.bad rfl h2
theorem mark_is (c : UInt8) (r : List UInt8) : markR (60 :: c :: r) = ((if c = 63 then piR else if c = 33 then bangR else if c = 47 then endR else guardR (wordB c) (startR c)) r).map fun x => (2 + x.1, x.2) := by
  unfold markR
  rw [bindR_yes (n := 1) (a := ()) (show litR [60] (60 :: c :: r) = some (1, ()) from litR_is (p := [60]) rfl)]
  simp only [List.drop_succ_cons, List.drop_zero]
  rw [bindR_yes (n := 1) (a := c) rfl]
  simp only [List.drop_succ_cons, List.drop_zero]
  cases (if c = 63 then piR else if c = 33 then bangR else if c = 47 then endR else guardR (wordB c) (startR c)) r with
  | none => rfl
  | some x =>
    simp only [Option.map_some, Option.some.injEq, Prod.mk.injEq, and_true]
    omega
theorem token_fit (L : List UInt8) (fr : Nat) (hfr : fr < L.length) : Fits (tokenU L fr) fr L.length (pieceR (L.drop fr)) := by
  unfold tokenU pieceR
  simp only
  cases hl : L.drop fr with
  | nil => have := drop_nil_len hl; omega
  | cons c t =>
    by_cases h60 : c = 60
    · subst h60
      have ht := drop_cons_next hl
      rw [if_neg (by simp), if_pos (show (60 :: t).take 1 = [60] from rfl)]
      cases t with
      | nil =>
        have hm : markR [60] = none := by
          unfold markR
          rw [bindR_yes (n := 1) (a := ()) (show litR [60] [60] = some (1, ()) from litR_is (p := [60]) rfl)]
          rfl
        rw [hm]
        rw [if_neg (by decide), if_neg (by decide), if_neg (by decide), if_neg (by decide), if_neg (by decide), if_neg (by decide)]
        refine Fits.bad rfl ?_
        have : startTagX L fr = .error (fr, 2) := by
          unfold startTagX namedX
          rw [ht]
        rw [this]
        exact Bad.mk (by omega) (by omega)
      | cons d r =>
        have hr2 : L.drop (fr + 2) = r := drop_cons_next ht
        have hlen := drop_cons_len ht
        rw [mark_is]
        simp only [List.take_succ_cons, List.take_zero, List.cons.injEq, true_and, and_true]
        by_cases h63 : d = 63
        · subst h63
          rw [if_pos rfl, if_pos rfl, ← hr2]
          exact (pi_fit L fr (by omega)).shift rfl
        · rw [if_neg h63, if_neg h63]
          by_cases h33 : d = 33
          · subst h33
            simp only [true_and, if_true]
            by_cases hc : r.take 2 = [45, 45]
            · rw [if_pos hc]
              obtain ⟨r1, rfl, h1⟩ := take_head (c := 45) (p := [45]) hc
              obtain ⟨r2, rfl, _⟩ := take_head (c := 45) (p := []) h1
              have hr4 : L.drop (fr + 4) = r2 := by rw [show fr + 4 = (fr + 2) + 2 from rfl, drop_plus, hr2]; rfl
              have hll := congrArg List.length hr2
              simp only [List.length_drop, List.length_cons] at hll
              exact (comment_fit L fr r2 hr4 (by omega)).shift rfl
            · rw [if_neg hc]
              by_cases hs : r.take 7 = [91, 67, 68, 65, 84, 65, 91]
              · rw [if_pos hs]
                have e : r = [91, 67, 68, 65, 84, 65, 91] ++ r.drop 7 := by rw [← hs, List.take_append_drop]
                have hr9 : L.drop (fr + 9) = r.drop 7 := by rw [show fr + 9 = (fr + 2) + 7 from rfl, drop_plus, hr2]
                have hll := congrArg List.length hr2
                have hsl := congrArg List.length hs
                simp only [List.length_drop, List.length_take, List.length_cons, List.length_nil] at hll hsl
                have := (section_fit L fr (r.drop 7) hr9 (by omega)).shift (o' := (bangR r).map fun x => (2 + x.1, x.2)) (by rw [e]; rfl)
                exact this
              · rw [if_neg hs, bang_none hc hs]
                by_cases h68 : r.take 1 = [68]
                · rw [if_pos h68]
                  exact Fits.bad rfl (Bad.mk (by omega) (by omega))
                · rw [if_neg h68]
                  exact Fits.bad rfl (Bad.mk (by omega) (by omega))
          · simp only [h33, false_and, if_false]
            by_cases h47 : d = 47
            · subst h47
              rw [if_pos rfl, if_pos rfl, ← hr2]
              exact (end_fit L fr (by omega)).shift rfl
            · rw [if_neg h47, if_neg h47]
              exact (start_fit L fr (by omega) d r ht).shift rfl
    · rw [if_pos (by simpa using h60), if_neg (by simpa using h60), ← hl]
      exact text_fit L fr hfr (by rw [hl]; simpa using h60)
theorem toks_fit (L : List UInt8) : ∀ (f at_ : Nat), L.length < at_ + f → at_ ≤ L.length → (∃ ts, tokL f (L.drop at_) at_ = some ts ∧ tokLU L f at_ = .ok ts) ∨ (tokL f (L.drop at_) at_ = none ∧ Bad (tokLU L f at_) L.length)
  | 0, at_, h, h' => by omega
  | f + 1, at_, h, h' => by
    unfold tokLU
    by_cases hat : L.length ≤ at_
    · rw [if_pos hat, List.drop_eq_nil_of_le hat, tokL_nil]
      exact .inl ⟨[], rfl, rfl⟩
    · rw [if_neg hat]
      unfold tokL
      have hne : (L.drop at_).isEmpty = false := by
        cases hd : L.drop at_ with
        | nil => have := drop_nil_len hd; omega
        | cons c r => rfl
      rw [hne]
      simp only [Bool.false_eq_true, if_false]
      rcases (token_fit L at_ (by omega)).split with ⟨n, t, h1, h2⟩ | ⟨h1, h2⟩
      · rw [h1, h2]
        simp only
        have hn := piece_takes h1
        have hin := (piece_loc _ _ _ h1).1
        rw [List.length_drop] at hin
        rw [← drop_plus]
        rcases toks_fit L f (at_ + n) (by omega) (by omega) with ⟨ts, h3, h4⟩ | ⟨h3, h4⟩
        · rw [h3, h4]
          exact .inl ⟨_, rfl, rfl⟩
        · obtain ⟨p, q, e1, e2⟩ := h4.err (β := List (Nat × Tk))
          rw [h3, e1]
          exact .inr ⟨rfl, e2⟩
      · obtain ⟨p, q, e1, e2⟩ := h2.err (β := List (Nat × Tk))
        rw [h1, e1]
        exact .inr ⟨rfl, e2⟩
theorem badU_flat : ∀ (ns : List Int), (∀ n ∈ ns, sgn n = true) → ∀ (f k : Nat), (ns.flatMap enc).length ≤ f → (badU f (ns.flatMap enc) k = none ↔ ∀ n ∈ ns, charB n = true)
  | [], _, f, k, _ => by
    have : badU f ([] : List UInt8) k = none := by cases f <;> rfl
    simp [this]
  | n :: ns, h, f, k, hf => by
    have hs := h n (by simp)
    have h0 := (sgn_iff n).1 hs
    have h1 := slen_one n hs
    have hl := enc_length n
    rw [List.flatMap_cons] at hf ⊢
    rw [List.length_append] at hf
    obtain ⟨f, rfl⟩ : ∃ f', f = f' + 1 := ⟨f - 1, by omega⟩
    unfold badU
    rw [if_neg (by intro e; have := congrArg List.length e; rw [List.length_append, List.length_nil] at this; omega), decU_enc n hs]
    simp only
    rw [Int.toNat_of_nonneg h0.1, show (slen n).toNat = (enc n).length from by omega, List.drop_left]
    by_cases hc : charB n = true
    · rw [if_pos hc, badU_flat ns (fun m hm => h m (by simp [hm])) f _ (by omega)]
      simp [hc]
    · rw [if_neg hc]
      simp [hc]
theorem badU_lt : ∀ (f : Nat) (l : List UInt8) (k p : Nat), badU f l k = some p → p < k + l.length
  | 0, l, k, p, h => by cases h
  | f + 1, l, k, p, h => by
    unfold badU at h
    split at h
    · cases h
    · rename_i hne
      have := decU_le hne
      have h1 := List.length_pos_iff.2 hne
      split at h
      · have h2 := badU_lt f _ _ _ h
        rw [List.length_drop] at h2
        omega
      · simp only [Option.some.injEq] at h
        omega
theorem check_fit (L : List UInt8) : (L.length ≤ 32768 ∧ TxtOK L ∧ checkU L = .ok ()) ∨ (¬ (L.length ≤ 32768 ∧ TxtOK L) ∧ Bad (checkU L) L.length) := by
  unfold checkU
  by_cases h1 : 32768 < L.length
  · rw [if_pos h1]
    exact .inr ⟨fun h => by omega, Bad.mk (by omega) (by omega)⟩
  · rw [if_neg h1]
    obtain ⟨ns, r, hs, hL, hr⟩ := form L.length L (Nat.le_refl _)
    have hc := chk_form ns r hs hr
    rw [← hL] at hc
    by_cases h2 : 0 ≤ chk L
    · rw [if_pos h2]
      refine .inr ⟨fun ⟨_, ms, h3, h4⟩ => ?_, Bad.mk ?_ (by omega)⟩
      · have := chk_form ms [] (fun m hm => char_sgn m (h3 m hm)) rfl
        rw [List.append_nil, ← h4, if_pos rfl] at this
        omega
      · rcases chk_bd L with h | h
        · omega
        · omega
    · rw [if_neg h2]
      have hrn : r = [] := by
        apply Classical.byContradiction
        intro hn
        rw [if_neg hn] at hc
        omega
      subst hrn
      rw [List.append_nil] at hL
      have hb := badU_flat ns hs L.length 0 (by rw [← hL]; exact Nat.le_refl _)
      rw [← hL] at hb
      cases hbu : badU L.length L 0 with
      | none => exact .inl ⟨by omega, ⟨ns, hb.1 hbu, hL⟩, rfl⟩
      | some p =>
        have := badU_lt _ _ _ _ hbu
        refine .inr ⟨fun ⟨_, ms, h3, h4⟩ => ?_, Bad.mk (by omega) (by omega)⟩
        have h5 := (badU_flat ms (fun m hm => char_sgn m (h3 m hm)) L.length 0 (by rw [← h4]; exact Nat.le_refl _)).2 h3
        rw [← h4, hbu] at h5
        cases h5
theorem declX_no {L : List UInt8} (h : ¬ declQ L) : declX L = .ok 0 := by
  unfold declX
  exact if_neg h
theorem tokens_fit (L : List UInt8) : (∃ ts, DocIs L ts ∧ tokensU L = .ok ts) ∨ ((∀ ts, ¬ DocIs L ts) ∧ Bad (tokensU L) L.length) := by
  unfold tokensU
  rcases check_fit L with ⟨h1, h2, h3⟩ | ⟨h1, h2⟩
  · rw [h3]
    simp only
    by_cases hq : declQ L
    · rcases decl_fit L hq with ⟨n, d1, d2⟩ | ⟨d1, d2⟩
      · rw [d2]
        simp only
        have hn := (decl_loc _ _ _ d1).1
        rcases toks_fit L (L.length + 1) n (by omega) hn with ⟨ts, h4, h5⟩ | ⟨h4, h5⟩
        · exact .inl ⟨ts, ⟨h1, h2, .inl ⟨hq, n, d1, h4⟩⟩, h5⟩
        · refine .inr ⟨fun ts hd => ?_, h5⟩
          rcases hd.2.2 with ⟨_, m, e1, e2⟩ | ⟨e1, _⟩
          · rw [d1] at e1
            simp only [Option.some.injEq, Prod.mk.injEq, and_true] at e1
            subst e1
            rw [h4] at e2
            cases e2
          · exact e1 hq
      · obtain ⟨p, q, e1, e2⟩ := d2.err (β := List (Nat × Tk))
        rw [e1]
        refine .inr ⟨fun ts hd => ?_, e2⟩
        rcases hd.2.2 with ⟨_, m, e3, _⟩ | ⟨e3, _⟩
        · rw [d1] at e3; cases e3
        · exact e3 hq
    · rw [declX_no hq]
      simp only
      rcases toks_fit L (L.length + 1) 0 (by omega) (Nat.zero_le _) with ⟨ts, h4, h5⟩ | ⟨h4, h5⟩
      · exact .inl ⟨ts, ⟨h1, h2, .inr ⟨hq, by rw [List.drop_zero] at h4; exact h4⟩⟩, h5⟩
      · refine .inr ⟨fun ts hd => ?_, h5⟩
        rw [List.drop_zero] at h4
        rcases hd.2.2 with ⟨e1, _⟩ | ⟨_, e2⟩
        · exact hq e1
        · rw [h4] at e2; cases e2
  · obtain ⟨p, q, e1, e2⟩ := h2.err (β := List (Nat × Tk))
    rw [e1]
    exact .inr ⟨fun ts hd => h1 ⟨hd.1, hd.2.1⟩, e2⟩
end Wb

