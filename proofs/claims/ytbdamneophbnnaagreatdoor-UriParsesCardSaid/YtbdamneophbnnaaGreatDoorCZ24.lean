/- UbB UbC. -/
import Derived.Test.YtbdamneophbnnaaGreatDoorCZ9
import Derived.Test.YtbdamneophbnnaaGreatDoorCZ23
namespace Wb
theorem test_parts {X VL a v : List UInt8} (hX : ∀ x ∈ X, x ≠ 61) (h : testP (X ++ 61 :: (VL ++ [93])) = some (a, v)) :
    ∃ q : UInt8, (q = 34 ∨ q = 39) ∧ X = 91 :: 64 :: a ∧ VL = q :: (v ++ [q]) ∧ (∀ x ∈ v, x ≠ q) ∧ (splitB ⟨a.toArray⟩).2.2 = true := by
  obtain ⟨q, hq, es, ha, hv, hs⟩ := test_form h
  have e1 := cutC_at (c := 61) (VL ++ [93]) hX
  have e2 : cutC 61 ((91 :: 64 :: a) ++ 61 :: (q :: (v ++ [q, 93]))) = some (91 :: 64 :: a, q :: (v ++ [q, 93])) := cutC_at _ fun x hx => by
    rcases List.mem_cons.1 hx with rfl | hx
    · decide
    · rcases List.mem_cons.1 hx with rfl | hx
      · decide
      · exact ha x hx
  rw [es, show (91 :: 64 :: (a ++ 61 :: q :: (v ++ [q, 93])) : List UInt8) = (91 :: 64 :: a) ++ 61 :: (q :: (v ++ [q, 93])) from rfl, e2] at e1
  injection e1 with e1
  injection e1 with e1 e3
  refine ⟨q, hq, e1.symm, ?_, hv, hs⟩
  have : (VL ++ [93] : List UInt8) = (q :: (v ++ [q])) ++ [93] := by rw [← e3]; simp
  exact List.append_cancel_right this
theorem test_whole {X VL a v : List UInt8} {q : UInt8} (hX : ∀ x ∈ X, x ≠ 61) (hx : X = 91 :: 64 :: a) (hq : q = 34 ∨ q = 39) (hV : VL = q :: (v ++ [q])) (hv : ∀ x ∈ v, x ≠ q) :
    testP (X ++ 61 :: (VL ++ [93])) = if (splitB ⟨a.toArray⟩).2.2 = true then some (a, v) else none := by
  by_cases hs : (splitB ⟨a.toArray⟩).2.2 = true
  · rw [if_pos hs, hx, hV]
    have := test_of hq (fun x hxa => hX x (by rw [hx]; simp [hxa])) hv hs
    rw [← this]
    simp
  · rw [if_neg hs]
    cases ht : testP (X ++ 61 :: (VL ++ [93])) with
    | none => rfl
    | some av =>
      obtain ⟨a', v'⟩ := av
      obtain ⟨q', _, e1, _, _, hs'⟩ := test_parts hX ht
      rw [hx] at e1
      injection e1 with _ e1
      injection e1 with _ e1
      rw [← e1] at hs'
      exact absurd hs' hs
theorem test_not {L : List UInt8} (h : L.length < 7 ∨ L.take 2 ≠ [91, 64] ∨ L.getLast? ≠ some 93 ∨ (∀ x ∈ L, x ≠ 61)) : testP L = none := by
  cases ht : testP L with
  | none => rfl
  | some av =>
    obtain ⟨a, v⟩ := av
    obtain ⟨q, _, es, _, _, hs⟩ := test_form ht
    have ha := split_ne hs
    exfalso
    rcases h with h | h | h | h
    · have : 0 < a.length := List.length_pos_iff.2 ha
      rw [es] at h
      simp only [List.length_cons, List.length_append, List.length_nil] at h
      omega
    · rw [es] at h
      exact h rfl
    · rw [es] at h
      apply h
      have : (91 :: 64 :: (a ++ 61 :: q :: (v ++ [q, 93])) : List UInt8) = (91 :: 64 :: (a ++ 61 :: q :: (v ++ [q]))) ++ [93] := by simp
      rw [this, List.getLast?_concat]
    · exact h 61 (by rw [es]; simp) rfl
theorem test_short {X Y : List UInt8} (hX : ∀ x ∈ X, x ≠ 61) (h : Y.length ≤ 2) : testP (X ++ 61 :: Y) = none := by
  cases ht : testP (X ++ 61 :: Y) with
  | none => rfl
  | some av =>
    obtain ⟨a, v⟩ := av
    obtain ⟨q, _, es, ha, _, _⟩ := test_form ht
    exfalso
    have e1 := cutC_at (c := 61) Y hX
    have e2 : cutC 61 ((91 :: 64 :: a) ++ 61 :: (q :: (v ++ [q, 93]))) = some (91 :: 64 :: a, q :: (v ++ [q, 93])) := cutC_at _ fun x hx => by
      rcases List.mem_cons.1 hx with rfl | hx
      · decide
      · rcases List.mem_cons.1 hx with rfl | hx
        · decide
        · exact ha x hx
    rw [es, show (91 :: 64 :: (a ++ 61 :: q :: (v ++ [q, 93])) : List UInt8) = (91 :: 64 :: a) ++ 61 :: (q :: (v ++ [q, 93])) from rfl, e2] at e1
    injection e1 with e1
    injection e1 with _ e3
    rw [← e3] at h
    simp only [List.length_cons, List.length_append, List.length_nil] at h
    omega
end Wb
namespace Wb
theorem ext_drop10 (s : ByteArray) (a b : Nat) : (s.extract a b).data.toList = (s.data.toList.drop a).take (b - a) := by simp [ByteArray.data_extract]
theorem test_walk {s : ByteArray} {k n : Nat} (hn : s.size = n + 1) (hb : s.data.toList.take 2 = [91, 64]) (h93 : s.data.toList.getLast? = some 93) (hk : k + 2 < n) (hd : s.data.toList = (s.extract 0 k).data.toList ++ 61 :: s.data.toList.drop (k + 1)) :
    2 ≤ k ∧ s.data.toList = (s.extract 0 k).data.toList ++ 61 :: ((s.extract (k + 1) n).data.toList ++ [93]) ∧ (s.extract 0 k).data.toList = 91 :: 64 :: (s.extract 2 k).data.toList := by
  have hl : s.data.toList.length = n + 1 := by simp [hn]
  have e0 : (s.extract 0 k).data.toList = s.data.toList.take k := by simp [ByteArray.data_extract]
  have ek : s.data.toList[k]? = some 61 := by
    rw [hd, List.getElem?_append_right (by rw [e0]; simp; omega)]
    have : k - (s.extract 0 k).data.toList.length = 0 := by rw [e0, List.length_take]; omega
    rw [this]; rfl
  have h2 : 2 ≤ k := by
    by_cases h : 2 ≤ k
    · exact h
    · exfalso
      have h3 : (s.data.toList.take 2)[k]? = some 61 := by rw [List.getElem?_take_of_lt (by omega)]; exact ek
      rw [hb] at h3
      have : k = 0 ∨ k = 1 := by omega
      rcases this with rfl | rfl <;> simp at h3
  have e1 : (s.extract (k + 1) n).data.toList = (s.data.toList.drop (k + 1)).take (n - (k + 1)) := ext_drop10 s (k + 1) n
  have e2 : s.data.toList.drop (k + 1) = (s.extract (k + 1) n).data.toList ++ [93] := by
    rw [e1]
    have h4 : (s.data.toList.drop (k + 1)).drop (n - (k + 1)) = [93] := by
      rw [List.drop_drop, show k + 1 + (n - (k + 1)) = n by omega]
      rw [List.drop_eq_getElem_cons (by omega), List.drop_eq_nil_of_le (by omega)]
      rw [List.getLast?_eq_getElem?, hl, Nat.add_sub_cancel, List.getElem?_eq_getElem (by omega)] at h93
      rw [Option.some.inj h93]
    rw [← h4, List.take_append_drop]
  refine ⟨h2, by rw [← e2]; exact hd, ?_⟩
  have e3 : (s.extract 2 k).data.toList = (s.data.toList.take k).drop 2 := by rw [ext_drop10, List.drop_take]
  rw [e0, e3]
  have := (List.take_append_drop 2 (s.data.toList.take k)).symm
  rw [List.take_take, Nat.min_eq_left h2, hb] at this
  exact this
theorem ends_at {V : ByteArray} {m : Nat} (hm : V.size = m + 1) (h1 : 1 ≤ m) : V.data.toList = V[0] :: ((V.extract 1 m).data.toList ++ [V[m]]) := by
  have hl : V.data.toList.length = m + 1 := by simp [hm]
  have e1 : (V.extract 1 m).data.toList = (V.data.toList.drop 1).take (m - 1) := ext_drop10 V 1 m
  have h0 : V.data.toList = V[0] :: V.data.toList.drop 1 := by
    have := List.drop_eq_getElem_cons (l := V.data.toList) (i := 0) (by omega)
    rw [List.drop_zero] at this
    exact this
  have h4 : (V.data.toList.drop 1).drop (m - 1) = [V[m]] := by
    rw [List.drop_drop, show 1 + (m - 1) = m by omega]
    rw [List.drop_eq_getElem_cons (by omega), List.drop_eq_nil_of_le (by omega)]
    rfl
  rw [e1, ← h4, List.take_append_drop]
  exact h0
theorem test_q {X : List UInt8} {V : ByteArray} (hX : ∀ x ∈ X, x ≠ 61) (h0 : 0 < V.size) (hq : ¬ (V[0] = 34 ∨ V[0] = 39)) : testP (X ++ 61 :: (V.data.toList ++ [93])) = none := by
  cases ht : testP (X ++ 61 :: (V.data.toList ++ [93])) with
  | none => rfl
  | some av =>
    obtain ⟨a, v⟩ := av
    obtain ⟨q, hq2, _, e1, _, _⟩ := test_parts hX ht
    have : V.data.toList[0]? = some q := by rw [e1]; rfl
    rw [List.getElem?_eq_getElem (by simpa using h0)] at this
    exact absurd (by rw [← Option.some.inj this] at hq2; exact hq2) hq
theorem test_last {X : List UInt8} {V : ByteArray} {m : Nat} (hX : ∀ x ∈ X, x ≠ 61) (hm : V.size = m + 1) (h1 : 1 ≤ m) (hq : V[m] ≠ V[0]) : testP (X ++ 61 :: (V.data.toList ++ [93])) = none := by
  cases ht : testP (X ++ 61 :: (V.data.toList ++ [93])) with
  | none => rfl
  | some av =>
    obtain ⟨a, v⟩ := av
    obtain ⟨q, hq2, _, e1, _, _⟩ := test_parts hX ht
    rw [ends_at hm h1] at e1
    injection e1 with e1 e2
    have := congrArg List.getLast? e2
    rw [List.getLast?_concat, List.getLast?_concat] at this
    exact absurd ((Option.some.inj this).trans e1.symm) hq
theorem test_mid {X : List UInt8} {V : ByteArray} {m i : Nat} (hX : ∀ x ∈ X, x ≠ 61) (hm : V.size = m + 1) (h1 : 1 ≤ i) (hi : i < m) (hq : V[i] = V[0]) : testP (X ++ 61 :: (V.data.toList ++ [93])) = none := by
  cases ht : testP (X ++ 61 :: (V.data.toList ++ [93])) with
  | none => rfl
  | some av =>
    obtain ⟨a, v⟩ := av
    obtain ⟨q, hq2, _, e1, hv, _⟩ := test_parts hX ht
    have hl : V.data.toList.length = m + 1 := by simp [hm]
    have hvl : v.length + 2 = m + 1 := by rw [← hl, e1]; simp
    have ei : V.data.toList[i]? = some V[0] := by rw [List.getElem?_eq_getElem (by omega), ← hq]; rfl
    have e0 : V.data.toList[0]? = some V[0] := by rw [List.getElem?_eq_getElem (by omega)]; rfl
    rw [e1] at ei e0
    have e0 : q = V[0] := Option.some.inj e0
    obtain ⟨j, rfl⟩ : ∃ j, i = j + 1 := ⟨i - 1, by omega⟩
    rw [List.getElem?_cons_succ, List.getElem?_append_left (by omega), List.getElem?_eq_getElem (by omega)] at ei
    exact absurd ((Option.some.inj ei).trans e0.symm) (hv _ (List.getElem_mem _))
theorem test_end {X a : List UInt8} {V : ByteArray} {m : Nat} (hX : ∀ x ∈ X, x ≠ 61) (hx : X = 91 :: 64 :: a) (hm : V.size = m + 1) (h1 : 1 ≤ m) (hq : V[0] = 34 ∨ V[0] = 39) (hl : V[m] = V[0]) (hv : ∀ j (hj : j < V.size), 1 ≤ j → j < m → V[j] ≠ V[0]) :
    testP (X ++ 61 :: (V.data.toList ++ [93])) = if (splitB ⟨a.toArray⟩).2.2 = true then some (a, (V.extract 1 m).data.toList) else none := by
  have he := ends_at hm h1
  rw [hl] at he
  refine test_whole hX hx hq he fun x hx => ?_
  obtain ⟨i, hi, hxi⟩ := List.getElem_of_mem hx
  have hsz : (V.extract 1 m).data.toList.length = m - 1 := by simp; omega
  rw [← hxi]
  have : (V.extract 1 m).data.toList[i] = V[i + 1]'(by omega) := by
    have hl : V.data.toList.length = m + 1 := by simp [hm]
    have e1 : (V.extract 1 m).data.toList = (V.data.toList.drop 1).take (m - 1) := ext_drop10 V 1 m
    have e2 : (V.extract 1 m).data.toList[i]? = some (V[i + 1]'(by omega)) := by
      rw [e1, List.getElem?_take_of_lt (by omega), List.getElem?_drop, Nat.add_comm 1 i, List.getElem?_eq_getElem (by omega)]
      rfl
    rw [List.getElem?_eq_getElem hi] at e2
    exact Option.some.inj e2
  rw [this]
  exact hv (i + 1) (by omega) (by omega) (by omega)
end Wb
