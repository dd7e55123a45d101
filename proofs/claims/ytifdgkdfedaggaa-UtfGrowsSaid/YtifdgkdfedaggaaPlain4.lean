/- Plain facts on names that grow, and on their beginnings. -/
import Derived.Test.YtifdgkdfedaggaaPlain3
namespace Wb

theorem nameB_flat (n : Int) (ns : List Int) (h1 : sgn n = true) (h2 : ∀ m ∈ ns, sgn m = true) :
    nameB ((n :: ns).flatMap enc) = (decide (((n :: ns).flatMap enc).length ≤ 64) && (startB n && ns.all partB)) := by
  have hd := flat_dec n ns [] h1
  have hr := flat_drop n ns []
  rw [List.append_nil] at hd hr
  rw [List.append_nil] at hr
  have hs := slen_one n h1
  unfold nameB
  rw [hd, hr]
  rw [decide_eq_true (show slen n ≠ 0 by omega), Bool.true_and, nameL_form ns _ h2 (by rw [List.flatMap_cons, List.length_append]; omega)]

def Pre (l : List UInt8) (p : Nat) : Prop :=
  ∃ (n : Int) (ns ms ks : List Int), startB n = true ∧ (∀ m ∈ ns, partB m = true) ∧ l.length ≤ 64 ∧ n :: ns = ms ++ ks ∧ l = (n :: ns).flatMap enc ∧ p = (ms.flatMap enc).length

theorem pre_start (l : List UInt8) (h : nameB l = true) : Pre l 0 := by
  obtain ⟨h1, n, ns, h2, h3, h4⟩ := (nameB_iff l).1 h
  exact ⟨n, ns, [], n :: ns, h2, h3, h1, rfl, h4, rfl⟩

theorem pre_name (l : List UInt8) (p : Nat) (h : Pre l p) (hp : 0 < p) : nameB (l.take p) = true := by
  obtain ⟨n, ns, ms, ks, h1, h2, h3, h4, h5, h6⟩ := h
  cases ms with
  | nil => simp at h6; omega
  | cons m ms =>
    simp only [List.cons_append, List.cons.injEq] at h4
    obtain ⟨rfl, rfl⟩ := h4
    refine (nameB_iff _).2 ⟨?_, n, ms, h1, fun m hm => h2 m (List.mem_append.2 (.inl hm)), ?_⟩
    · rw [List.length_take]; omega
    · rw [h5, h6, ← List.cons_append, List.flatMap_append, List.take_left]

theorem pre_next (l : List UInt8) (p : Nat) (h : Pre l p) (hp : p < l.length) :
    ∃ m : Nat, 1 ≤ m ∧ (dec (l.drop p)).2 = (m : Int) ∧ p + m ≤ l.length ∧ Pre l (p + m) := by
  obtain ⟨n, ns, ms, ks, h1, h2, h3, h4, h5, h6⟩ := h
  have hl : l = ms.flatMap enc ++ ks.flatMap enc := by rw [h5, h4, List.flatMap_append]
  cases ks with
  | nil => simp at hl; rw [hl] at hp; omega
  | cons k ks =>
    have hk : k ∈ n :: ns := by rw [h4]; simp
    have hsk : sgn k = true := by
      rcases List.mem_cons.1 hk with rfl | hk
      · exact start_sgn _ h1
      · exact part_sgn _ (h2 _ hk)
    have hd : l.drop p = (k :: ks).flatMap enc := by rw [hl, h6, List.drop_left]
    have hdd := flat_dec k ks [] hsk
    rw [List.append_nil, ← hd] at hdd
    have he := enc_length k
    have hs := slen_one k hsk
    refine ⟨(enc k).length, by omega, by rw [hdd]; exact he.symm, ?_, n, ns, ms ++ [k], ks, h1, h2, h3, by rw [h4]; simp, h5, by rw [h6]; simp⟩
    rw [hl, h6]
    simp

/-- A name with a sign more. -/
theorem name_more (l : List UInt8) (r : Int) (h : nameB l = true) :
    nameB (l ++ enc r) = (decide ((l ++ enc r).length ≤ 64) && (partB r || (enc r).isEmpty)) := by
  obtain ⟨h1, n, ns, h2, h3, h4⟩ := (nameB_iff l).1 h
  by_cases hs : sgn r = true
  · have e : l ++ enc r = (n :: (ns ++ [r])).flatMap enc := by rw [h4]; simp
    have hne := enc_ne r hs
    rw [e, nameB_flat n (ns ++ [r]) (start_sgn n h2) (fun m hm => by
      rcases List.mem_append.1 hm with q | q
      · exact part_sgn m (h3 m q)
      · rw [List.mem_singleton.1 q]; exact hs), ← e, h2]
    have hall : ns.all partB = true := by rw [List.all_eq_true]; exact h3
    cases hq : (enc r).isEmpty
    · simp [List.all_append, hall]
    · exact absurd (List.isEmpty_iff.1 hq) hne
  · have e : enc r = [] := by unfold enc; rw [if_neg hs]
    rw [e, List.append_nil, h, decide_eq_true h1]
    simp

theorem name_blank (l : List UInt8) (h : nameB l = true) : nameB (32 :: l) = false := by
  obtain ⟨h1, n, ns, h2, h3, h4⟩ := (nameB_iff l).1 h
  have e : 32 :: l = (32 :: n :: ns).flatMap enc := by
    rw [List.flatMap_cons, ← h4]; rfl
  rw [e, nameB_flat 32 (n :: ns) (by decide) (fun m hm => by
    rcases List.mem_cons.1 hm with rfl | q
    · exact start_sgn _ h2
    · exact part_sgn m (h3 m q)), show startB 32 = false from by decide]
  simp

theorem name_colon (l : List UInt8) (h : nameB l = true) : nameB (l ++ [58]) = false := by
  have := name_more l 58 h
  rw [show enc 58 = [58] from by decide, show partB 58 = false from by decide] at this
  rw [this]
  simp

/-! ### No byte of a name is a blank -/
theorem enc_bytes (r : Int) (h : partB r = true) : ∀ c ∈ enc r, blkU c = false := by
  have hs := part_sgn r h
  have hr := (sgn_iff r).1 hs
  have h45 : 45 ≤ r := by
    simp only [partB, startB, inS, startS, partS, List.any_cons, List.any_nil, Bool.or_eq_true, Bool.and_eq_true, decide_eq_true_eq, Bool.or_false] at h
    omega
  have big : ∀ x : Int, 33 ≤ x → x < 256 → blkU (b8 x) = false := by
    intro x h0 h1
    unfold blkU blk
    rw [b8_toNat x (by omega) h1]
    simp
    omega
  intro c hc
  unfold enc at hc
  rw [if_pos hs] at hc
  split at hc
  · simp only [List.mem_cons, List.not_mem_nil, or_false] at hc
    rw [hc]; exact big _ (by omega) (by omega)
  · split at hc
    · simp only [List.mem_cons, List.not_mem_nil, or_false] at hc
      rcases hc with rfl | rfl <;> exact big _ (by omega) (by omega)
    · split at hc
      · simp only [List.mem_cons, List.not_mem_nil, or_false] at hc
        rcases hc with rfl | rfl | rfl <;> exact big _ (by omega) (by omega)
      · simp only [List.mem_cons, List.not_mem_nil, or_false] at hc
        rcases hc with rfl | rfl | rfl | rfl <;> exact big _ (by omega) (by omega)

theorem name_bytes (l : List UInt8) (h : nameB l = true) : ∀ c ∈ l, blkU c = false := by
  obtain ⟨h1, n, ns, h2, h3, h4⟩ := (nameB_iff l).1 h
  intro c hc
  rw [h4, List.mem_flatMap] at hc
  obtain ⟨m, hm, hcm⟩ := hc
  refine enc_bytes m ?_ c hcm
  rcases List.mem_cons.1 hm with rfl | q
  · exact start_part _ h2
  · exact h3 m q

theorem dropWhile_none (l t : List UInt8) (h : ∀ c ∈ l, blkU c = false) (hne : l ≠ []) : (l ++ t).dropWhile blkU = l ++ t := by
  cases l with
  | nil => exact absurd rfl hne
  | cons c l =>
    have := h c (by simp)
    rw [List.cons_append, List.dropWhile_cons, this]
    rfl

theorem trim_about (l : List UInt8) (h : ∀ c ∈ l, blkU c = false) (hne : l ≠ []) : trimL (([32, 9] ++ l) ++ [13, 10]) = l := by
  unfold trimL
  have e1 : (([32, 9] ++ l) ++ [13, 10]).dropWhile blkU = l ++ [13, 10] := by
    show List.dropWhile blkU (32 :: 9 :: (l ++ [13, 10])) = _
    rw [List.dropWhile_cons, if_pos (by decide), List.dropWhile_cons, if_pos (by decide), dropWhile_none l _ h hne]
  have e2 : (l ++ [13, 10]).reverse = 10 :: 13 :: (l.reverse ++ []) := by simp
  rw [e1, e2, List.dropWhile_cons, if_pos (by decide), List.dropWhile_cons, if_pos (by decide), dropWhile_none l.reverse [] (fun c hc => h c (List.mem_reverse.1 hc)) (by simpa using hne)]
  simp
end Wb
