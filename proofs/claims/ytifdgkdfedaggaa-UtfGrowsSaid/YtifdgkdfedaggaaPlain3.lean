/- Plain facts that the statements of layer 1 ask for. -/
import Derived.Test.YtifdgkdfedaggaaPlain2
namespace Wb

theorem dec_fst (l : List UInt8) : 0 ≤ (dec l).1 ∧ (dec l).1 ≤ 1114111 := by
  by_cases h : (dec l).2 = 0
  · rw [dec_zero l h]; omega
  · obtain ⟨n, k, hd⟩ := dec_pair l
    rw [hd] at h
    obtain ⟨h1, _, _⟩ := dec_some l n k hd h
    have := (sgn_iff n).1 h1
    rw [hd]
    exact ⟨this.1, this.2.1⟩

theorem runeS_fst (s : ByteArray) (i : Int) : 0 ≤ (runeS s i).1 ∧ (runeS s i).1 ≤ 1114111 := by
  unfold runeS
  split
  · exact ⟨by decide, by decide⟩
  · exact dec_fst _

/-- A sign that was put is read, whatever stands ahead and behind. -/
theorem back_whole (a b : ByteArray) (r : Int) (h : sgn r = true) : runeS (a ++ ⟨(enc r).toArray⟩ ++ b) a.size = (r, slen r) := by
  have hne := List.length_pos_iff.2 (enc_ne r h)
  unfold runeS
  rw [if_neg (by simp [ByteArray.size_append]; have : (ByteArray.mk (enc r).toArray).size = (enc r).length := by simp [ByteArray.size]
                 omega), Int.toNat_natCast]
  have e : (a ++ ⟨(enc r).toArray⟩ ++ b).data.toList = a.data.toList ++ (enc r ++ b.data.toList) := by simp [ByteArray.data_append]
  have el : a.size = a.data.toList.length := by simp
  rw [e, el, List.drop_left]
  exact dec_enc r h _

theorem dec_short (r : Int) (h : sgn r = true) (l : List UInt8) (t : List UInt8) (ht : t ≠ []) (e : enc r = l ++ t) : (dec l).2 = 0 := by
  by_cases h0 : (dec l).2 = 0
  · exact h0
  · exfalso
    obtain ⟨n, k, hd⟩ := dec_pair l
    rw [hd] at h0
    obtain ⟨h1, h2, rest, h3⟩ := dec_some l n k hd h0
    have h4 := dec_enc r h []
    rw [List.append_nil, e, h3, List.append_assoc] at h4
    have h5 := dec_enc n h1 (rest ++ t)
    rw [h5] at h4
    have h6 : n = r := congrArg Prod.fst h4
    subst h6
    have hl : (enc n).length = l.length + t.length := by rw [e]; simp
    have hl2 : l.length = (enc n).length + rest.length := by rw [h3]; simp
    have : 0 < t.length := List.length_pos_iff.2 ht
    omega

theorem back_cut (a : ByteArray) (r : Int) (h : sgn r = true) : (runeS (a ++ (ByteArray.mk (enc r).toArray).extract 0 ((ByteArray.mk (enc r).toArray).size - 1)) a.size).2 = 0 := by
  have hne := List.length_pos_iff.2 (enc_ne r h)
  have hs : (ByteArray.mk (enc r).toArray).size = (enc r).length := by simp [ByteArray.size]
  unfold runeS
  split
  · rfl
  · rw [Int.toNat_natCast]
    have e : (a ++ (ByteArray.mk (enc r).toArray).extract 0 ((ByteArray.mk (enc r).toArray).size - 1)).data.toList = a.data.toList ++ (enc r).take ((enc r).length - 1) := by
      rw [hs]
      simp [ByteArray.data_append, ByteArray.data_extract, List.dropLast_eq_take]
    have el : a.size = a.data.toList.length := by simp
    rw [e, el, List.drop_left]
    refine dec_short r h _ ((enc r).drop ((enc r).length - 1)) ?_ (List.take_append_drop _ _).symm
    intro q
    have := congrArg List.length q
    simp at this
    omega
theorem trim_idem (l : List UInt8) : trimL (trimL l) = trimL l := by
  unfold trimL
  generalize hm : l.dropWhile blkU = m
  have h1 : m.dropWhile blkU = m := by rw [← hm]; exact dropWhile_idem _ _
  -- what is left begins with no blank
  have h2 : (m.reverse.dropWhile blkU).reverse.dropWhile blkU = (m.reverse.dropWhile blkU).reverse := by
    cases hr : m.reverse.dropWhile blkU with
    | nil => rfl
    | cons c t =>
      -- m = (c :: t).reverse ++ blanks
      have hpre : (m.reverse.dropWhile blkU).reverse <+: m := by
        have := List.dropWhile_suffix blkU (l := m.reverse)
        have := List.reverse_prefix.2 this
        simpa using this
      rw [hr] at hpre
      obtain ⟨u, hu⟩ := hpre
      cases hq : (c :: t).reverse with
      | nil => simp at hq
      | cons d v =>
        rw [hq] at hu
        rw [← hu] at h1
        simp only [List.cons_append, List.dropWhile_cons] at h1
        split at h1
        · have := congrArg List.length h1
          have hle := (List.dropWhile_suffix blkU (l := v ++ u)).length_le
          simp at this hle
          omega
        · rename_i hd
          rw [List.dropWhile_cons, if_neg hd]
  rw [h2, List.reverse_reverse, dropWhile_idem]
end Wb
