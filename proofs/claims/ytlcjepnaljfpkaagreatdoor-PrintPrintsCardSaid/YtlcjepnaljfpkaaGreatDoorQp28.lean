/- LeFit2. -/
import Derived.Test.YtlcjepnaljfpkaaGreatDoorQp26
namespace Wb
theorem Bad.err {α β : Type} {e : Er α} {len : Nat} (h : Bad e len) : ∃ p c, e = .error (p, c) ∧ Bad (.error (p, c) : Er β) len := by
  obtain ⟨p, c, h1, h2, h3⟩ := h
  exact ⟨p, c, h1, Bad.mk h2 h3⟩
theorem litR_no {p l : List UInt8} (h : ¬ l.take p.length = p) : litR p l = none := by unfold litR; rw [if_neg h]
theorem litR_is {p l : List UInt8} (h : l.take p.length = p) : litR p l = some (p.length, ()) := by unfold litR; rw [if_pos h]
theorem tw_drop {p : UInt8 → Bool} (l : List UInt8) : l.drop (l.takeWhile p).length = l.dropWhile p := by
  induction l with
  | nil => rfl
  | cons c l ih =>
    by_cases h : p c = true
    · simp [h, ih]
    · simp [h]
theorem word_cases {L : List UInt8} {at_ : Nat} {c : UInt8} {r : List UInt8} (h : L.drop at_ = c :: r) :
    (wordB c = true ∧ (r.takeWhile wordB).length < 129 ∧ wordX L at_ = c :: r.takeWhile wordB) ∨ ((wordB c = false ∨ 129 ≤ (r.takeWhile wordB).length) ∧ wordX L at_ = []) := by
  unfold wordX
  rw [h]
  by_cases hc : wordB c = true
  · rw [List.takeWhile_cons_of_pos hc]
    by_cases hl : (r.takeWhile wordB).length < 129
    · exact .inl ⟨hc, hl, by rw [if_pos (by simp only [List.length_cons]; omega)]⟩
    · exact .inr ⟨.inr (by omega), by rw [if_neg (by simp only [List.length_cons]; omega)]⟩
  · have hf := Bool.eq_false_iff.2 hc
    exact .inr ⟨.inl hf, by rw [List.takeWhile_cons_of_neg hc]; rfl⟩
theorem attr_fit (L : List UInt8) (fr at_ others : Nat) (apart : Bool) (c : UInt8) (r : List UInt8) (hfr : fr ≤ L.length) (h : L.drop at_ = c :: r) (ho : others ≤ 65) :
    Fits (attributeX L fr at_ others apart) (at_ + 1) L.length (guardR (wordB c && apart && decide (others < 65)) (attrR c) r) := by
  have hat := drop_cons_len h
  have hr := drop_cons_next h
  rcases word_cases h with ⟨h1, h2, h3⟩ | ⟨h1, h3⟩
  · by_cases hoth : others = 65
    · subst hoth
      refine Fits.bad (guardR_no (by simp) _) ?_
      unfold attributeX
      rw [h3, if_neg (by simp), if_pos rfl]
      exact Bad.mk (by omega) (by omega)
    · cases apart with
      | false =>
        refine Fits.bad (guardR_no (by simp) _) ?_
        unfold attributeX
        rw [h3, if_neg (by simp), if_neg hoth, if_pos rfl]
        exact Bad.mk (by omega) (by omega)
      | true =>
        rw [guardR_yes (by simp [h1]; omega)]
        have e : attributeX L fr at_ others true = match takeX L fr (at_ + (wordX L at_).length + blankN L (at_ + (wordX L at_).length)) 61 with
            | .error e => .error e
            | .ok a => match valueX L fr (a + blankN L a) with
              | .error e => .error e
              | .ok (v, b) => .ok ((wordX L at_, v), b) := by
          conv => lhs; unfold attributeX
          rw [if_neg (by rw [h3]; simp), if_neg hoth, if_neg (by simp)]
          rfl
        rw [e, h3]
        clear e
        generalize hw : r.takeWhile wordB = w at *
        have hwl : w.length ≤ r.length := by rw [← hw]; exact tw_le _ _
        have hlen : at_ + 1 + r.length = L.length := by
          have := congrArg List.length h
          simp at this; omega
        have hd1 : L.drop (at_ + (c :: w).length) = r.drop w.length := by
          rw [show at_ + (c :: w).length = (at_ + 1) + w.length from by simp; omega, drop_plus, hr]
        generalize ha1 : at_ + (c :: w).length = a1 at *
        have ha1' : a1 = at_ + 1 + w.length := by rw [← ha1]; simp; omega
        unfold attrR
        by_cases hwr : w.length < r.length
        · have hs1 : spanR wordB r = some (w.length, w) := by rw [← hw]; exact span_yes (by rw [hw]; exact hwr)
          rw [bindR_yes hs1, guardR_yes (by simpa using h2), ← hd1]
          rcases blank_span L a1 with ⟨hb1, hb2⟩ | ⟨hb1, hb2⟩
          · rw [bindR_yes hb2, ← drop_plus]
            rcases take_fit L fr (a1 + blankN L a1) 61 hfr with ⟨t1, t2⟩ | ⟨t1, t2⟩
            · rw [bindR_yes t1, t2, ← drop_plus]
              simp only
              rcases blank_span L (a1 + blankN L a1 + 1) with ⟨hc1, hc2⟩ | ⟨hc1, hc2⟩
              · rw [bindR_yes hc2, ← drop_plus]
                rcases (value_fit L fr (a1 + blankN L a1 + 1 + blankN L (a1 + blankN L a1 + 1)) hfr).split with ⟨n, v, v1, v2⟩ | ⟨v1, v2⟩
                · rw [v2, mapR_yes v1]
                  refine Fits.ok (n := w.length + (blankN L a1 + (1 + (blankN L (a1 + blankN L a1 + 1) + n)))) (a := (c :: w, v)) rfl ?_
                  simp only [Except.ok.injEq, Prod.mk.injEq, true_and]
                  omega
                · obtain ⟨p, q, e1, e2⟩ := v2.err (β := (List UInt8 × List UInt8) × Nat)
                  rw [e1, mapR_no v1]
                  exact Fits.bad rfl e2
              · have hv : valueX L fr (a1 + blankN L a1 + 1 + blankN L (a1 + blankN L a1 + 1)) = .error (fr, 2) := by unfold valueX; rw [hc1]
                rw [hv, bindR_no hc2]
                exact Fits.bad rfl (Bad.mk hfr (by omega))
            · obtain ⟨p, q, e1, e2⟩ := t2.err (β := (List UInt8 × List UInt8) × Nat)
              rw [bindR_no t1, e1]
              exact Fits.bad rfl e2
          · have hv : takeX L fr (a1 + blankN L a1) 61 = .error (fr, 2) := by unfold takeX; rw [hb1]
            rw [hv, bindR_no hb2]
            exact Fits.bad rfl (Bad.mk hfr (by omega))
        · have hs1 : spanR wordB r = none := by exact span_no (by rw [hw]; exact hwr)
          have hnil : L.drop a1 = [] := List.drop_eq_nil_of_le (by omega)
          have hb0 : blankN L a1 = 0 := by unfold blankN; rw [hnil]; rfl
          have hv : takeX L fr (a1 + blankN L a1) 61 = .error (fr, 2) := by unfold takeX; rw [hb0, Nat.add_zero, hnil]
          rw [hv, bindR_no hs1]
          exact Fits.bad rfl (Bad.mk hfr (by omega))
  · have e : attributeX L fr at_ others apart = .error (at_, 4) := by unfold attributeX; rw [if_pos h3]
    rw [e]
    refine Fits.bad ?_ (Bad.mk (by omega) (by omega))
    rcases h1 with h1 | h1
    · exact guardR_no (by simp [h1]) _
    · by_cases hg : (wordB c && apart && decide (others < 65)) = true
      · rw [guardR_yes hg]
        unfold attrR
        by_cases hwr : (r.takeWhile wordB).length < r.length
        · rw [bindR_yes (span_yes hwr), guardR_no (by simpa using h1)]
        · rw [bindR_no (span_no hwr)]
      · exact guardR_no (Bool.eq_false_iff.2 hg) _
theorem attrs_fit (L : List UInt8) (fr : Nat) (hfr : fr ≤ L.length) : ∀ (f at_ : Nat) (acc : List (List UInt8 × List UInt8)), at_ ≤ L.length → acc.length ≤ 65 →
    Fits (attrsX L fr f at_ acc) at_ L.length (attrsR f acc (L.drop at_))
  | 0, at_, acc, hat, _ => Fits.bad rfl (Bad.mk hat (by omega))
  | f + 1, at_, acc, hat, hacc => by
    unfold attrsX attrsR
    rcases blank_span L at_ with ⟨hb1, hb2⟩ | ⟨hb1, hb2⟩
    · rw [bindR_yes hb2, ← drop_plus]
      have hbs : (!((L.drop at_).takeWhile blkB).isEmpty) = decide (0 < blankN L at_) := by
        unfold blankN
        cases (L.drop at_).takeWhile blkB <;> simp
      cases hd : L.drop (at_ + blankN L at_) with
      | nil => have := drop_nil_len hd; omega
      | cons c r =>
        have hr := drop_cons_next hd
        rw [bindR_yes (n := 1) (a := c) rfl]
        simp only [List.drop_succ_cons, List.drop_zero]
        by_cases h47 : c = 47
        · subst h47
          rw [if_pos rfl, if_neg (by decide), if_pos rfl, ← hr]
          rcases take_fit L fr (at_ + blankN L at_ + 1) 62 hfr with ⟨t1, t2⟩ | ⟨t1, t2⟩
          · rw [t2, mapR_yes t1]
            refine Fits.ok (n := blankN L at_ + (1 + 1)) (a := (3, acc)) rfl ?_
            simp only [Except.ok.injEq, Prod.mk.injEq, true_and]
            omega
          · obtain ⟨p, q, e1, e2⟩ := t2.err (β := (Int × List (List UInt8 × List UInt8)) × Nat)
            rw [e1, mapR_no t1]
            exact Fits.bad rfl e2
        · rw [if_neg h47]
          by_cases h62 : c = 62
          · subst h62
            rw [if_pos rfl, if_pos rfl]
            refine Fits.ok (n := blankN L at_ + (1 + 0)) (a := (1, acc)) rfl ?_
            simp only [Except.ok.injEq, Prod.mk.injEq, true_and]
            omega
          · rw [if_neg h62, if_neg h62, if_neg h47, hbs]
            have hgd : guardR (wordB c && decide (0 < blankN L at_) && decide (acc.length < 65)) (bindR (attrR c) fun a => attrsR f (acc ++ [a])) r = bindR (guardR (wordB c && decide (0 < blankN L at_) && decide (acc.length < 65)) (attrR c)) (fun a => attrsR f (acc ++ [a])) r := by
              cases hg : (wordB c && decide (0 < blankN L at_) && decide (acc.length < 65)) <;> rfl
            rw [hgd]
            rcases (attr_fit L fr (at_ + blankN L at_) acc.length (decide (0 < blankN L at_)) c r hfr hd hacc).split with ⟨n, a, a1, a2⟩ | ⟨a1, a2⟩
            · rw [a2, bindR_yes a1]
              simp only
              have hacc2 : acc.length < 65 := by
                by_cases hg : (wordB c && decide (0 < blankN L at_) && decide (acc.length < 65)) = true
                · simp at hg; exact hg.2
                · rw [guardR_no (Bool.eq_false_iff.2 hg)] at a1; cases a1
              have hin : at_ + blankN L at_ + 1 + n ≤ L.length := by
                have := (Loc.guard _ (attr_loc c) _ _ _ a1).1
                rw [← hr, List.length_drop] at this
                omega
              have hdr : r.drop n = L.drop (at_ + blankN L at_ + 1 + n) := by rw [drop_plus, hr]
              rw [hdr]
              rcases (attrs_fit L fr hfr f (at_ + blankN L at_ + 1 + n) (acc ++ [a]) hin (by simp; omega)).split with ⟨m, b, b1, b2⟩ | ⟨b1, b2⟩
              · rw [b2, b1]
                refine Fits.ok (n := blankN L at_ + (1 + (n + m))) (a := b) rfl ?_
                simp only [Except.ok.injEq, Prod.mk.injEq, true_and]
                omega
              · rw [b1]
                exact Fits.bad rfl b2
            · obtain ⟨p, q, e1, e2⟩ := a2.err (β := (Int × List (List UInt8 × List UInt8)) × Nat)
              rw [e1, bindR_no a1]
              exact Fits.bad rfl e2
    · rw [bindR_no hb2, hb1]
      exact Fits.bad rfl (Bad.mk hfr (by omega))
theorem start_fit (L : List UInt8) (fr : Nat) (hfr : fr ≤ L.length) (c : UInt8) (r : List UInt8) (h : L.drop (fr + 1) = c :: r) :
    Fits (someX (startTagX L fr)) (fr + 2) L.length (guardR (wordB c) (startR c) r) := by
  have hr := drop_cons_next h
  have hlen := drop_cons_len h
  rcases word_cases h with ⟨h1, h2, h3⟩ | ⟨h1, h3⟩
  · rw [guardR_yes h1]
    have e : startTagX L fr = match attrsX L fr 67 (fr + 1 + (wordX L (fr + 1)).length) [] with
        | .error e => .error e
        | .ok ((k, l), b) => .ok ((k, wordX L (fr + 1), l, []), b) := by
      unfold startTagX namedX
      rw [h]
      simp only
      rw [if_neg (by rw [h3]; simp)]
      rfl
    rw [e, h3]
    clear e
    generalize hw : r.takeWhile wordB = w at *
    have hwl : w.length ≤ r.length := by rw [← hw]; exact tw_le _ _
    have hll : fr + 1 + 1 + r.length = L.length := by
      have := congrArg List.length h
      simp at this; omega
    have hd1 : L.drop (fr + 1 + (c :: w).length) = r.drop w.length := by
      rw [show fr + 1 + (c :: w).length = (fr + 1 + 1) + w.length from by simp; omega, drop_plus, hr]
    have hal : fr + 1 + (c :: w).length ≤ L.length := by simp; omega
    unfold startR
    by_cases hwr : w.length < r.length
    · have hs1 : spanR wordB r = some (w.length, w) := by rw [← hw]; exact span_yes (by rw [hw]; exact hwr)
      rw [bindR_yes hs1, guardR_yes (by simpa using h2), ← hd1]
      rcases (attrs_fit L fr hfr 67 (fr + 1 + (c :: w).length) [] hal (by simp)).split with ⟨n, ⟨k, l⟩, a1, a2⟩ | ⟨a1, a2⟩
      · rw [a2, mapR_yes a1]
        refine Fits.ok (n := w.length + n) (a := some (k, c :: w, l, [])) rfl ?_
        simp only [someX, Except.ok.injEq, Prod.mk.injEq, true_and, List.length_cons]
        omega
      · obtain ⟨p, q, e1, e2⟩ := a2.err (β := Option Tk × Nat)
        rw [e1, mapR_no a1]
        exact Fits.bad rfl e2
    · have hnil : L.drop (fr + 1 + (c :: w).length) = [] := List.drop_eq_nil_of_le (by simp; omega)
      have ha : attrsX L fr 67 (fr + 1 + (c :: w).length) [] = .error (fr, 2) := by
        have hb0 : blankN L (fr + 1 + (c :: w).length) = 0 := by unfold blankN; rw [hnil]; rfl
        unfold attrsX
        rw [hb0, Nat.add_zero, hnil]
      rw [ha, bindR_no (span_no (by rw [hw]; exact hwr))]
      exact Fits.bad rfl (Bad.mk hfr (by omega))
  · have e : startTagX L fr = .error (fr + 1, 12) := by
      unfold startTagX namedX
      rw [h]
      simp only
      rw [if_pos h3]
    rw [e]
    refine Fits.bad ?_ (Bad.mk (by omega) (by omega))
    rcases h1 with h1 | h1
    · exact guardR_no h1 _
    · by_cases hg : wordB c = true
      · rw [guardR_yes hg]
        unfold startR
        by_cases hwr : (r.takeWhile wordB).length < r.length
        · rw [bindR_yes (span_yes hwr), guardR_no (by simpa using h1)]
        · rw [bindR_no (span_no hwr)]
      · exact guardR_no (Bool.eq_false_iff.2 hg) _
theorem end_fit (L : List UInt8) (fr : Nat) (hfr : fr + 2 ≤ L.length) : Fits (someX (endTagX L fr)) (fr + 2) L.length (endR (L.drop (fr + 2))) := by
  unfold endTagX namedX endR
  cases h : L.drop (fr + 2) with
  | nil =>
    refine Fits.bad ?_ (Bad.mk (by omega) (by omega))
    exact bindR_no (span_no (by simp))
  | cons c r =>
    simp only
    have hlen := drop_cons_len h
    have hwx : wordX L (fr + 2) = if ((c :: r).takeWhile wordB).length ≤ 129 then (c :: r).takeWhile wordB else [] := by unfold wordX; rw [h]
    generalize hw : (c :: r).takeWhile wordB = w at *
    by_cases hok : w ≠ [] ∧ w.length ≤ 129
    · obtain ⟨h0, h129⟩ := hok
      rw [if_pos h129] at hwx
      rw [hwx, if_neg h0]
      simp only
      have hwl : w.length ≤ (c :: r).length := by rw [← hw]; exact tw_le _ _
      have hd1 : L.drop (fr + 2 + w.length) = (c :: r).drop w.length := by rw [drop_plus, h]
      by_cases hwr : w.length < (c :: r).length
      · have hs1 : spanR wordB (c :: r) = some (w.length, w) := by rw [← hw]; exact span_yes (by rw [hw]; exact hwr)
        rw [bindR_yes hs1, guardR_yes (by cases w <;> simp_all), ← hd1]
        rcases blank_span L (fr + 2 + w.length) with ⟨hb1, hb2⟩ | ⟨hb1, hb2⟩
        · rw [bindR_yes hb2, ← drop_plus]
          rcases take_fit L fr (fr + 2 + w.length + blankN L (fr + 2 + w.length)) 62 (by omega) with ⟨t1, t2⟩ | ⟨t1, t2⟩
          · rw [t2, mapR_yes t1]
            refine Fits.ok (n := w.length + (blankN L (fr + 2 + w.length) + 1)) (a := some (2, w, [], [])) rfl ?_
            simp only [someX, Except.ok.injEq, Prod.mk.injEq, true_and]
            omega
          · obtain ⟨p, q, e1, e2⟩ := t2.err (β := Option Tk × Nat)
            rw [e1, mapR_no t1]
            exact Fits.bad rfl e2
        · have hv : takeX L fr (fr + 2 + w.length + blankN L (fr + 2 + w.length)) 62 = .error (fr, 2) := by unfold takeX; rw [hb1]
          rw [hv, bindR_no hb2]
          exact Fits.bad rfl (Bad.mk (by omega) (by omega))
      · have hnil : L.drop (fr + 2 + w.length) = [] := by rw [hd1]; exact List.drop_eq_nil_of_le (by omega)
        have hb0 : blankN L (fr + 2 + w.length) = 0 := by unfold blankN; rw [hnil]; rfl
        have hv : takeX L fr (fr + 2 + w.length + blankN L (fr + 2 + w.length)) 62 = .error (fr, 2) := by unfold takeX; rw [hb0, Nat.add_zero, hnil]
        rw [hv, bindR_no (span_no (by rw [hw]; exact hwr))]
        exact Fits.bad rfl (Bad.mk (by omega) (by omega))
    · have hwx0 : wordX L (fr + 2) = [] := by
        rw [hwx]
        by_cases h129 : w.length ≤ 129
        · rw [if_pos h129]
          exact Classical.byContradiction fun hn => hok ⟨hn, h129⟩
        · rw [if_neg h129]
      rw [hwx0, if_pos rfl]
      refine Fits.bad ?_ (Bad.mk (by omega) (by omega))
      by_cases hwr : w.length < (c :: r).length
      · have hs1 : spanR wordB (c :: r) = some (w.length, w) := by rw [← hw]; exact span_yes (by rw [hw]; exact hwr)
        have hg : (!(w.isEmpty) && decide (w.length ≤ 129)) = false := by
          by_cases h0 : w = []
          · subst h0; rfl
          · have : ¬ w.length ≤ 129 := fun h1 => hok ⟨h0, h1⟩
            simp [this]
        rw [bindR_yes hs1, guardR_no hg]
      · exact bindR_no (span_no (by rw [hw]; exact hwr))
end Wb
