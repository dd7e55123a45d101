/- UbE UbF. -/
import Derived.Test.YtbdamneophbnnaaGreatDoorCZ13
import Derived.Test.YtbdamneophbnnaaGreatDoorCZ25
namespace Wb
theorem uhead_none {d : List UInt8} (h : ∀ x ∈ d, x ≠ 91) : headP d = (d, []) := by
  unfold headP
  have h1 : d.takeWhile (· != 91) = d := by
    have := List.takeWhile_append_of_pos (p := (· != 91)) (l₁ := d) (l₂ := []) (fun x hx => by simpa using h x hx)
    simpa using this
  have h2 : d.dropWhile (· != 91) = [] := by
    have := List.dropWhile_append_of_pos (p := (· != 91)) (l₁ := d) (l₂ := []) (fun x hx => by simpa using h x hx)
    simpa using this
  rw [h1, h2]
theorem uhead_at {X Y : List UInt8} (h : ∀ x ∈ X, x ≠ 91) : headP (X ++ 91 :: Y) = (X, 91 :: Y) := by
  unfold headP
  have hp : ∀ x ∈ X, (x != 91) = true := fun x hx => by simpa using h x hx
  rw [List.takeWhile_append_of_pos hp, List.dropWhile_append_of_pos hp]
  simp
theorem posn_nil : posnP [] = some (0, []) := by
  unfold posnP
  rw [if_pos (.inl rfl)]
theorem posn_test {r : List UInt8} (h : r.take 2 = [91, 64]) : posnP r = some (0, r) := by
  unfold posnP
  rw [if_pos (.inr h)]
theorem posn_open {r : List UInt8} (h0 : r ≠ []) (h1 : r.take 2 ≠ [91, 64]) (h : ∀ x ∈ r, x ≠ 93) : posnP r = none := by
  unfold posnP
  rw [if_neg (fun h => h.elim h0 h1)]
  cases hc : cutC 93 (r.drop 1) with
  | none => rfl
  | some p =>
    obtain ⟨t, r'⟩ := p
    obtain ⟨e, _⟩ := cutC_some hc
    exact absurd rfl (h 93 (List.mem_of_mem_drop (i := 1) (by rw [e]; simp)))
theorem posn_at {T Z : List UInt8} (h1 : (91 :: (T ++ 93 :: Z)).take 2 ≠ [91, 64]) (h : ∀ x ∈ T, x ≠ 93) : posnP (91 :: (T ++ 93 :: Z)) = if posP T = 0 then none else some (posP T, Z) := by
  unfold posnP
  rw [if_neg (fun h => h.elim (fun h => by cases h) h1), List.drop_succ_cons, List.drop_zero, cutC_at Z h]
theorem ustep_name {sc : List Pr} {d : List UInt8} (h1 : (headP d).1 ≠ [42]) (h2 : (splitB ⟨(headP d).1.toArray⟩).2.2 = false) : stepP sc d = .error 33 := by
  unfold stepP
  rw [if_pos ⟨h1, h2⟩]
theorem ustep_posn {sc : List Pr} {d : List UInt8} (h1 : (headP d).1 = [42] ∨ (splitB ⟨(headP d).1.toArray⟩).2.2 = true) (h2 : posnP (headP d).2 = none) : stepP sc d = .error 33 := by
  unfold stepP
  rw [if_neg (fun ab => h1.elim ab.1 (fun h => by rw [ab.2] at h; cases h)), h2]
theorem ustep_test {sc : List Pr} {d : List UInt8} {p : Nat} {r : List UInt8} (h1 : (headP d).1 = [42] ∨ (splitB ⟨(headP d).1.toArray⟩).2.2 = true) (h2 : posnP (headP d).2 = some (p, r)) (h3 : r ≠ []) (h4 : testP r = none) : stepP sc d = .error 33 := by
  unfold stepP
  rw [if_neg (fun ab => h1.elim ab.1 (fun h => by rw [ab.2] at h; cases h)), h2]
  simp only
  rw [if_neg h3, h4]
theorem ustep_go {sc : List Pr} {d : List UInt8} {p : Nat} {r : List UInt8} (h1 : (headP d).1 = [42] ∨ (splitB ⟨(headP d).1.toArray⟩).2.2 = true) (h2 : posnP (headP d).2 = some (p, r)) :
    stepP sc d = if r = [] then
        if (headP d).1 = [42] then .ok ⟨1, true, nE, p, false, nE, sE⟩
        else if (resB sc ⟨(headP d).1.toArray⟩ false).2 = 0 then .ok ⟨1, false, (resB sc ⟨(headP d).1.toArray⟩ false).1, p, false, nE, sE⟩ else .error (resB sc ⟨(headP d).1.toArray⟩ false).2
      else match testP r with
        | none => .error 33
        | some (an, v) =>
          if (headP d).1 ≠ [42] ∧ (resB sc ⟨(headP d).1.toArray⟩ false).2 ≠ 0 then .error (resB sc ⟨(headP d).1.toArray⟩ false).2
          else if (resB sc ⟨an.toArray⟩ true).2 ≠ 0 then .error (resB sc ⟨an.toArray⟩ true).2
          else if (unV v).2 ≠ 0 then .error (unV v).2
          else .ok ⟨1, decide ((headP d).1 = [42]), if (headP d).1 = [42] then nE else (resB sc ⟨(headP d).1.toArray⟩ false).1, p, true, (resB sc ⟨an.toArray⟩ true).1, ⟨(unV v).1.toArray⟩⟩ := by
  conv => lhs; unfold stepP
  rw [if_neg (fun ab => h1.elim ab.1 (fun h => by rw [ab.2] at h; cases h)), h2]
  rfl
theorem ustep_any {sc : List Pr} {d : List UInt8} {p : Nat} (h1 : (headP d).1 = [42]) (h2 : posnP (headP d).2 = some (p, [])) : stepP sc d = .ok ⟨1, true, nE, p, false, nE, sE⟩ := by
  rw [ustep_go (.inl h1) h2, if_pos rfl, if_pos h1]
theorem ustep_one {sc : List Pr} {d : List UInt8} {p : Nat} (h0 : (headP d).1 ≠ [42]) (h1 : (splitB ⟨(headP d).1.toArray⟩).2.2 = true) (h2 : posnP (headP d).2 = some (p, [])) :
    stepP sc d = if (resB sc ⟨(headP d).1.toArray⟩ false).2 = 0 then .ok ⟨1, false, (resB sc ⟨(headP d).1.toArray⟩ false).1, p, false, nE, sE⟩ else .error (resB sc ⟨(headP d).1.toArray⟩ false).2 := by
  rw [ustep_go (.inr h1) h2, if_pos rfl, if_neg h0]
theorem ustep_any_by {sc : List Pr} {d : List UInt8} {p : Nat} {r an v : List UInt8} (h1 : (headP d).1 = [42]) (h2 : posnP (headP d).2 = some (p, r)) (h3 : r ≠ []) (h4 : testP r = some (an, v)) :
    stepP sc d = if (resB sc ⟨an.toArray⟩ true).2 ≠ 0 then .error (resB sc ⟨an.toArray⟩ true).2 else if (unV v).2 ≠ 0 then .error (unV v).2 else .ok ⟨1, true, nE, p, true, (resB sc ⟨an.toArray⟩ true).1, ⟨(unV v).1.toArray⟩⟩ := by
  rw [ustep_go (.inl h1) h2, if_neg h3, h4]
  simp only [h1, ne_eq, not_true_eq_false, false_and, if_false, if_true, decide_true]
theorem ustep_one_bad {sc : List Pr} {d : List UInt8} {p : Nat} {r an v : List UInt8} (h0 : (headP d).1 ≠ [42]) (h1 : (splitB ⟨(headP d).1.toArray⟩).2.2 = true) (h2 : posnP (headP d).2 = some (p, r)) (h3 : r ≠ []) (h4 : testP r = some (an, v)) (h5 : (resB sc ⟨(headP d).1.toArray⟩ false).2 ≠ 0) :
    stepP sc d = .error (resB sc ⟨(headP d).1.toArray⟩ false).2 := by
  rw [ustep_go (.inr h1) h2, if_neg h3, h4]
  simp only
  rw [if_pos ⟨h0, h5⟩]
theorem ustep_one_by {sc : List Pr} {d : List UInt8} {p : Nat} {r an v : List UInt8} (h0 : (headP d).1 ≠ [42]) (h1 : (splitB ⟨(headP d).1.toArray⟩).2.2 = true) (h2 : posnP (headP d).2 = some (p, r)) (h3 : r ≠ []) (h4 : testP r = some (an, v)) (h5 : (resB sc ⟨(headP d).1.toArray⟩ false).2 = 0) :
    stepP sc d = if (resB sc ⟨an.toArray⟩ true).2 ≠ 0 then .error (resB sc ⟨an.toArray⟩ true).2 else if (unV v).2 ≠ 0 then .error (unV v).2 else .ok ⟨1, false, (resB sc ⟨(headP d).1.toArray⟩ false).1, p, true, (resB sc ⟨an.toArray⟩ true).1, ⟨(unV v).1.toArray⟩⟩ := by
  rw [ustep_go (.inr h1) h2, if_neg h3, h4]
  simp only
  rw [if_neg (fun h => h.2 h5), decide_eq_false h0, if_neg h0]
end Wb
namespace Wb
open Go
structure StAt (sc : List Pr) (d : List UInt8) (N R : ByteArray) : Prop where
  hd : headP d = (N.data.toList, R.data.toList)
theorem StAt.name {sc : List Pr} {d : List UInt8} {N R : ByteArray} (h : StAt sc d N R) (h1 : ¬ N.data.toList = [42]) (h2 : (splitB N).2.2 = false) : stepP sc d = .error 33 :=
  ustep_name (by rw [h.hd]; exact h1) (by rw [h.hd, to_list]; exact h2)
theorem StAt.ok {sc : List Pr} {d : List UInt8} {N R : ByteArray} (h : StAt sc d N R) (h1 : N.data.toList = [42] ∨ (splitB N).2.2 = true) : (headP d).1 = [42] ∨ (splitB ⟨(headP d).1.toArray⟩).2.2 = true := by
  rw [h.hd, to_list]
  exact h1
theorem StAt.posn {sc : List Pr} {d : List UInt8} {N R : ByteArray} (h : StAt sc d N R) (h1 : N.data.toList = [42] ∨ (splitB N).2.2 = true) (h2 : posnP R.data.toList = none) : stepP sc d = .error 33 :=
  ustep_posn (h.ok h1) (by rw [h.hd]; exact h2)
theorem StAt.test {sc : List Pr} {d : List UInt8} {N R Z : ByteArray} {p : Nat} (h : StAt sc d N R) (h1 : N.data.toList = [42] ∨ (splitB N).2.2 = true) (h2 : posnP R.data.toList = some (p, Z.data.toList)) (h3 : ¬ Z.data.toList = []) (h4 : testP Z.data.toList = none) : stepP sc d = .error 33 :=
  ustep_test (h.ok h1) (by rw [h.hd]; exact h2) h3 h4
theorem StAt.any {sc : List Pr} {d : List UInt8} {N R : ByteArray} {p : Nat} (h : StAt sc d N R) (h1 : N.data.toList = [42]) (h2 : posnP R.data.toList = some (p, [])) : stepP sc d = .ok ⟨1, true, nE, p, false, nE, sE⟩ :=
  ustep_any (by rw [h.hd]; exact h1) (by rw [h.hd]; exact h2)
theorem StAt.one {sc : List Pr} {d : List UInt8} {N R : ByteArray} {p : Nat} {s1 l1 : ByteArray} {e1 : Int} (h : StAt sc d N R) (h0 : ¬ N.data.toList = [42]) (h1 : (splitB N).2.2 = true) (h2 : posnP R.data.toList = some (p, [])) (hr : resB sc N false = ((s1, l1), e1)) :
    stepP sc d = if e1 = 0 then .ok ⟨1, false, (s1, l1), p, false, nE, sE⟩ else .error e1 := by
  have := ustep_one (sc := sc) (d := d) (p := p) (by rw [h.hd]; exact h0) (by rw [h.hd, to_list]; exact h1) (by rw [h.hd]; exact h2)
  rw [h.hd, to_list, hr] at this
  exact this
theorem StAt.anyBy {sc : List Pr} {d : List UInt8} {N R Z a v : ByteArray} {p : Nat} {s2 l2 : ByteArray} {e2 : Int} (h : StAt sc d N R) (h1 : N.data.toList = [42]) (h2 : posnP R.data.toList = some (p, Z.data.toList)) (h3 : ¬ Z.data.toList = []) (h4 : testP Z.data.toList = some (a.data.toList, v.data.toList)) (hr : resB sc a true = ((s2, l2), e2)) :
    stepP sc d = if e2 ≠ 0 then .error e2 else if (unV v.data.toList).2 ≠ 0 then .error (unV v.data.toList).2 else .ok ⟨1, true, nE, p, true, (s2, l2), mkT (unV v.data.toList).1⟩ := by
  have := ustep_any_by (sc := sc) (d := d) (p := p) (by rw [h.hd]; exact h1) (by rw [h.hd]; exact h2) h3 h4
  rw [to_list, hr] at this
  exact this
theorem StAt.oneBad {sc : List Pr} {d : List UInt8} {N R Z a v : ByteArray} {p : Nat} {s1 l1 : ByteArray} {e1 : Int} (h : StAt sc d N R) (h0 : ¬ N.data.toList = [42]) (h1 : (splitB N).2.2 = true) (h2 : posnP R.data.toList = some (p, Z.data.toList)) (h3 : ¬ Z.data.toList = []) (h4 : testP Z.data.toList = some (a.data.toList, v.data.toList)) (hr : resB sc N false = ((s1, l1), e1)) (h5 : ¬ e1 = 0) :
    stepP sc d = .error e1 := by
  have := ustep_one_bad (sc := sc) (d := d) (p := p) (by rw [h.hd]; exact h0) (by rw [h.hd, to_list]; exact h1) (by rw [h.hd]; exact h2) h3 h4 (by rw [h.hd, to_list, hr]; exact h5)
  rw [h.hd, to_list, hr] at this
  exact this
theorem StAt.oneBy {sc : List Pr} {d : List UInt8} {N R Z a v : ByteArray} {p : Nat} {s1 l1 : ByteArray} {s2 l2 : ByteArray} {e2 : Int} (h : StAt sc d N R) (h0 : ¬ N.data.toList = [42]) (h1 : (splitB N).2.2 = true) (h2 : posnP R.data.toList = some (p, Z.data.toList)) (h3 : ¬ Z.data.toList = []) (h4 : testP Z.data.toList = some (a.data.toList, v.data.toList)) (hr : resB sc N false = ((s1, l1), 0)) (hr2 : resB sc a true = ((s2, l2), e2)) :
    stepP sc d = if e2 ≠ 0 then .error e2 else if (unV v.data.toList).2 ≠ 0 then .error (unV v.data.toList).2 else .ok ⟨1, false, (s1, l1), p, true, (s2, l2), mkT (unV v.data.toList).1⟩ := by
  have := ustep_one_by (sc := sc) (d := d) (p := p) (by rw [h.hd]; exact h0) (by rw [h.hd, to_list]; exact h1) (by rw [h.hd]; exact h2) h3 h4 (by rw [h.hd, to_list, hr])
  rw [h.hd, to_list, hr, hr2] at this
  exact this
def NmIs (sc : List Pr) (N : ByteArray) (any : Bool) (n1 n2 : ByteArray) : Prop :=
  (N.data.toList = [42] ∧ any = true ∧ n1 = ⟨#[]⟩ ∧ n2 = ⟨#[]⟩) ∨ (¬ N.data.toList = [42] ∧ any = false ∧ (splitB N).2.2 = true ∧ resB sc N false = ((n1, n2), 0))
theorem StAt.finNone {sc : List Pr} {d : List UInt8} {N R n1 n2 : ByteArray} {p : Nat} {any : Bool} (h : StAt sc d N R) (hn : NmIs sc N any n1 n2) (h2 : posnP R.data.toList = some (p, [])) :
    stepP sc d = .ok ⟨1, any, (n1, n2), p, false, nE, sE⟩ := by
  rcases hn with ⟨a, rfl, rfl, rfl⟩ | ⟨a, rfl, b, c⟩
  · exact h.any a h2
  · rw [h.one a b h2 c, if_pos rfl]
theorem StAt.finBy {sc : List Pr} {d : List UInt8} {N R Z a v n1 n2 s2 l2 : ByteArray} {p : Nat} {any : Bool} {e2 : Int} (h : StAt sc d N R) (hn : NmIs sc N any n1 n2) (h2 : posnP R.data.toList = some (p, Z.data.toList)) (h3 : ¬ Z.data.toList = []) (h4 : testP Z.data.toList = some (a.data.toList, v.data.toList)) (hr : resB sc a true = ((s2, l2), e2)) :
    stepP sc d = if e2 ≠ 0 then .error e2 else if (unV v.data.toList).2 ≠ 0 then .error (unV v.data.toList).2 else .ok ⟨1, any, (n1, n2), p, true, (s2, l2), mkT (unV v.data.toList).1⟩ := by
  rcases hn with ⟨a1, rfl, rfl, rfl⟩ | ⟨a1, rfl, b, c⟩
  · exact h.anyBy a1 h2 h3 h4 hr
  · exact h.oneBy a1 b h2 h3 h4 c hr
theorem StAt.finBad {sc : List Pr} {d : List UInt8} {N R Z s1 l1 : ByteArray} {p : Nat} {e1 : Int} (h : StAt sc d N R) (h0 : ¬ N.data.toList = [42]) (h1 : (splitB N).2.2 = true) (h2 : posnP R.data.toList = some (p, Z.data.toList)) (h3 : Z.data.toList = [] ∨ ∃ a v : ByteArray, testP Z.data.toList = some (a.data.toList, v.data.toList)) (hr : resB sc N false = ((s1, l1), e1)) (h5 : ¬ e1 = 0) :
    stepP sc d = .error e1 := by
  by_cases hz : Z.data.toList = []
  · rw [hz] at h2
    rw [h.one h0 h1 h2 hr, if_neg h5]
  · obtain ⟨a, v, h4⟩ := h3.resolve_left hz
    exact h.oneBad h0 h1 h2 hz h4 hr h5
def Pos9 (R : ByteArray) (b : Bool) : Prop := (b = false ∧ posnP R.data.toList = some (0, R.data.toList)) ∨ (b = true ∧ (¬ R = ⟨#[]⟩) ∧ R.data.toList.take 2 ≠ [91, 64])
def Tst9 (Z a v : ByteArray) (is : Bool) : Prop := (is = false ∧ Z.data.toList = []) ∨ (is = true ∧ (¬ Z.data.toList = []) ∧ testP Z.data.toList = some (a.data.toList, v.data.toList))
theorem test_size {L a v : List UInt8} (h : testP L = some (a, v)) : a.length ≤ L.length ∧ v.length ≤ L.length := by
  obtain ⟨q, _, es, _⟩ := test_form h
  have := congrArg List.length es
  simp only [List.length_cons, List.length_append, List.length_nil] at this
  omega
theorem ba_nil {s : ByteArray} (h : ¬ s = ⟨#[]⟩) : ¬ s.data.toList = [] := fun e => h (by
  have : s.data = #[] := Array.toList_inj.1 e
  rw [← this])
theorem ba_emp {s : ByteArray} (h : ¬ s = ⟨#[]⟩) : s.toList.isEmpty = false := by
  rw [List.isEmpty_eq_false_iff, ByteArray.toList_eq]
  exact ba_nil h
end Wb
namespace Go.Proofs.YtbdamneophbnnaaGreatDoor
open Go.RowKit Wb
structure ElHyp (A : Option Addr) (l : List Pr) (c : Nat) (w : World) : Prop where
  res : ∀ (q : ByteArray) (attr : Bool) (s lo : ByteArray) (er : Int) (v : World), q.size ≤ 1000000 → resB l q attr = ((s, lo), er) → Below w.heap.size w v → Calls Tryz.prog 45 #[.slice A l.length c, .string q, .bool attr] v fun e w' => e = .returned (.tuple #[.agg #[.string s, .string lo], .int .i64 er]) ∧ Below v.heap.size v w'
theorem ElHyp.of {A : Option Addr} {l : List Pr} {c : Nat} {w : World} (hl : l.length ≤ 1000000) (hA : Sl2 w A l) : ElHyp A l c w := ⟨fun q attr s lo er v hq hr hb => by
  have := rresolve_any A l c q attr v (by omega) (by omega) (hA.below hb)
  rw [hr] at this
  exact this⟩
theorem runv_any (v : ByteArray) (u : World) (hv : v.size ≤ 1000000) : ∃ up, Calls Tryz.prog 72 #[.string v, .bool true] u fun e w' => e = .returned (.tuple #[.string (mkT (unV v.data.toList).1), .int .i64 up, .int .i64 (unV v.data.toList).2]) ∧ Below u.heap.size u w' := by
  have := runescape_any v true u (by omega)
  have h2 := unV_unB v.data.toList
  rw [show mkT v.data.toList = v from to_list v] at h2
  rw [h2.1, h2.2] at this
  exact ⟨_, this⟩
end Go.Proofs.YtbdamneophbnnaaGreatDoor
