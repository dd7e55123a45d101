
/- Plain facts for the statements of layer 2: what the awake answers are; a name's parts are the name again; what is bound within counts within; attributes in another order. No program in sight. -/
import Derived.Test.YtkcpkgegkmockaaQnPlain
namespace Wb
open Go

def sA : ByteArray := ⟨#[97]⟩
def sB : ByteArray := ⟨#[98]⟩
def sAB : ByteArray := ⟨#[97, 58, 98]⟩
def sUrn : ByteArray := ⟨#[117, 114, 110, 58, 120]⟩

theorem awake_split : splitB sAB = (sA, sB, true) := by
  have h : cIx sAB = some 1 := by
    refine (cIx_some sAB 1).2 ⟨by decide, by decide, fun i hi => ?_⟩
    obtain rfl : i = 0 := by omega
    decide
  rw [splitB_some h (b := true) (c := true) (by decide) (by decide)]
  rfl
theorem awake_bind : bindB sA sUrn = 0 := by
  unfold bindB; simp only [eqT_dec]; decide
theorem awake_bind2 : bindB sXml sUrn = 13 := by
  unfold bindB; simp only [eqT_dec]; decide
theorem awake_find : findB [(sA, sUrn)] sA = (sUrn, true) :=
  findB_some (eqT_false.2 (by decide)) (by unfold lastB; simp only [lastB]; rw [eqT_self]; rfl)
theorem awake_res : resB [(sA, sUrn)] sAB false = ((sUrn, sB), 0) := by
  rw [resB_full awake_split (by rfl) awake_find (b1 := false) (eqT_false.2 (by decide))]; rfl

theorem ba_ext {a b : ByteArray} (h : a.data.toList = b.data.toList) : a = b := by
  cases a; cases b; simp only at h; rw [Array.toList_inj.1 h]

theorem glue (q : ByteArray) (k : Nat) (h : k < q.size) (hc : q[k]! = 58) : q.extract 0 k ++ ⟨#[58]⟩ ++ q.extract (k + 1) q.size = q := by
  apply ba_ext
  have hk : k < q.data.toList.length := by simpa using h
  have hq : q.data.toList[k] = 58 := by
    rw [getElem!_pos q k h] at hc
    exact hc
  have hs : q.size = q.data.toList.length := by simp
  simp only [ByteArray.data_append, Array.toList_append, ByteArray.data_extract, Array.toList_extract, hs]
  rw [List.extract_eq_take_drop, List.extract_eq_take_drop]
  simp only [Nat.sub_zero, List.drop_zero]
  rw [List.take_of_length_le (l := List.drop (k + 1) q.data.toList) (by simp)]
  have e : [(58 : UInt8)] ++ List.drop (k + 1) q.data.toList = List.drop k q.data.toList := by
    rw [List.drop_eq_getElem_cons hk, hq]; rfl
  rw [List.append_assoc, e, List.take_append_drop]

theorem name_empty (p : ByteArray) (h : nameB p.data.toList = true) : eqT p sE = false := by
  refine eqT_false.2 ?_
  rintro rfl
  exact absurd h (by decide)

theorem split_back {q p lo : ByteArray} (h : splitB q = (p, lo, true)) : (p = sE ∧ lo = q) ∨ (eqT p sE = false ∧ p ++ ⟨#[58]⟩ ++ lo = q) := by
  rcases hc : cIx q with _ | k
  · cases hn : nameB q.data.toList
    · rw [splitB_none hc hn] at h; simp at h
    · rw [splitB_none hc hn] at h
      simp only [if_true, Prod.mk.injEq] at h
      exact .inl ⟨h.1.symm, h.2.1.symm⟩
  · cases h1 : nameB (q.extract 0 k).data.toList
    · rw [splitB_half hc h1] at h; simp at h
    · cases h2 : nameB (q.extract (k + 1) q.size).data.toList
      · rw [splitB_some hc h1 h2] at h; simp at h
      · rw [splitB_some hc h1 h2] at h
        simp only [Bool.and_self, if_true, Prod.mk.injEq] at h
        obtain ⟨a, b, _⟩ := h
        obtain ⟨k1, k2, _⟩ := (cIx_some q k).1 hc
        exact .inr ⟨by rw [← a]; exact name_empty _ h1, by rw [← a, ← b]; exact glue q k k1 k2⟩

theorem find_added {l : List Pr} {p s : ByteArray} (h : bindB p s = 0) : findB (l ++ [(p, s)]) p = (s, true) := by
  cases hx : eqT p sXml
  · refine findB_some hx ?_
    rw [lastB_snoc, eqT_self]; rfl
  · rw [findB_xml hx]
    have h1 : eqT s sXML = true := by
      cases hs : eqT s sXML
      · exfalso
        unfold bindB at h
        rw [hx, hs] at h
        split at h
        · cases h
        · simp at h
      · rfl
    rw [(eqT_iff _ _).1 h1]

theorem find_apart {l : List Pr} {p p' s : ByteArray} (h : eqT p' p = false) : findB (l ++ [(p', s)]) p = findB l p := by
  unfold findB
  rw [lastB_snoc]
  simp only [h]
  rfl
theorem res_apart {l : List Pr} {p' s q : ByteArray} {attr : Bool} (h : eqT p' (splitB q).1 = false) : resB (l ++ [(p', s)]) q attr = resB l q attr := by
  unfold resB
  rw [find_apart h]

/-! ### attributes in another order -/
def attrF (sc : List Pr) (x : Pr) : Tr := ((resB sc x.1 true).1, x.2)

theorem attrL_ok_iff (sc : List Pr) : ∀ (l : List Pr) (out r : List Tr), attrL sc l out = .ok r ↔
    (∀ x ∈ l, (resB sc x.1 true).2 = 0) ∧ (out ++ l.map (attrF sc) = r) ∧ (∀ x ∈ l, ∀ y ∈ out, y.1 ≠ (attrF sc x).1) ∧ (l.map fun x => (attrF sc x).1).Pairwise (· ≠ ·)
  | [], out, r => by simp [attrL]
  | x :: l, out, r => by
    unfold attrL
    by_cases h0 : (resB sc x.1 true).2 = 0
    · rw [if_pos h0]
      cases ha : out.any (fun y => eqP y.1 (resB sc x.1 true).1)
      · rw [if_neg (by decide), attrL_ok_iff sc l]
        have hn : ∀ y ∈ out, y.1 ≠ (attrF sc x).1 := by
          intro y hy e
          have : out.any (fun y => eqP y.1 (resB sc x.1 true).1) = true := List.any_eq_true.2 ⟨y, hy, (eqP_iff _ _).2 e⟩
          rw [ha] at this; cases this
        constructor
        · rintro ⟨a, b, c, d⟩
          refine ⟨?_, by rw [← b]; simp [attrF], ?_, ?_⟩
          · intro z hz
            rcases List.mem_cons.1 hz with rfl | hz
            · exact h0
            · exact a z hz
          · intro z hz y hy
            rcases List.mem_cons.1 hz with rfl | hz
            · exact hn y hy
            · exact c z hz y (by simp [hy])
          · rw [List.map_cons, List.pairwise_cons]
            refine ⟨fun n hnm => ?_, d⟩
            obtain ⟨z, hz, rfl⟩ := List.mem_map.1 hnm
            exact c z hz (attrF sc x) (by simp [attrF])
        · rintro ⟨a, b, c, d⟩
          rw [List.map_cons, List.pairwise_cons] at d
          refine ⟨fun z hz => a z (by simp [hz]), by rw [← b]; simp [attrF], ?_, d.2⟩
          intro z hz y hy
          rcases List.mem_append.1 hy with hy | hy
          · exact c z (by simp [hz]) y hy
          · rw [List.mem_singleton.1 hy]
            exact d.1 _ (List.mem_map.2 ⟨z, hz, rfl⟩)
      · rw [if_pos rfl]
        obtain ⟨y, hy, e⟩ := List.any_eq_true.1 ha
        constructor
        · intro h; cases h
        · rintro ⟨_, _, c, _⟩
          exact absurd ((eqP_iff _ _).1 e) (c x (by simp) y hy)
    · rw [if_neg h0]
      constructor
      · intro h; cases h
      · rintro ⟨a, _⟩
        exact absurd (a x (by simp)) h0

theorem attrL_turn {sc l : List Pr} {r : List Tr} (h : attrL sc l [] = .ok r) : attrL sc l.reverse [] = .ok r.reverse ∧ r.length = l.length := by
  obtain ⟨a, b, _, d⟩ := (attrL_ok_iff sc l [] r).1 h
  rw [List.nil_append] at b
  refine ⟨(attrL_ok_iff sc l.reverse [] r.reverse).2 ⟨fun x hx => a x (by simpa using hx), ?_, fun _ _ y hy => by simp at hy, ?_⟩, by rw [← b]; simp⟩
  · rw [← b]; simp
  · rw [List.map_reverse, List.pairwise_reverse]
    exact d.imp (fun h => h.symm)
theorem attrL_turn_err {sc l : List Pr} {er : Int} (h : attrL sc l [] = .error er) : ∃ er', attrL sc l.reverse [] = .error er' := by
  cases h' : attrL sc l.reverse [] with
  | error e => exact ⟨e, rfl⟩
  | ok r =>
    have := (attrL_turn h').1
    rw [List.reverse_reverse, h] at this
    cases this
end Wb
