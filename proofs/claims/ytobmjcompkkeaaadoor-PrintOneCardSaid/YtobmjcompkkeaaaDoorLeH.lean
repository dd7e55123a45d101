
/- Contracts: lines, meant, reference. -/
import Derived.Test.YtobmjcompkkeaaaDoorLeG
namespace Go.Proofs.YtobmjcompkkeaaaDoor
open Go.RowKit Wb

/-- What the inside of a reference stands for; no bytes: for nothing. -/
def meantX (t : List UInt8) : List UInt8 := (refV t).getD []

theorem meantX_eq (t : List UInt8) : meantX t = if t = sLt then [60] else if t = sGt then [62] else if t = sAmp then [38] else if t = sQuot then [34] else if t = sApos then [39]
    else if t.take 2 = [35, 120] then numX 16 (t.drop 2) else if t.take 1 = [35] then numX 10 (t.drop 1) else [] := by
  have key : ∀ (b : Int) (l : List UInt8), (match numL b l with | some n => if charB n = true then some (enc n) else none | none => none : Option (List UInt8)).getD [] = numX b l := by
    intro b l
    unfold numX puX
    cases numL b l with
    | none => rfl
    | some n =>
      simp only
      by_cases hc : charB n = true
      · have hn : n ≤ 2147483647 := by
          have := (sgn_iff n).1 (char_sgn n hc)
          omega
        rw [if_pos hc, if_pos hn]
        simp only [if_pos hc]
        rfl
      · rw [if_neg hc]
        by_cases hn : n ≤ 2147483647
        · rw [if_pos hn]; simp only [if_neg hc]; rfl
        · rw [if_neg hn]; rfl
  unfold meantX refV
  by_cases h1 : t = sLt
  · rw [if_pos h1, if_pos h1]; rfl
  rw [if_neg h1, if_neg h1]
  by_cases h2 : t = sGt
  · rw [if_pos h2, if_pos h2]; rfl
  rw [if_neg h2, if_neg h2]
  by_cases h3 : t = sAmp
  · rw [if_pos h3, if_pos h3]; rfl
  rw [if_neg h3, if_neg h3]
  by_cases h4 : t = sQuot
  · rw [if_pos h4, if_pos h4]; rfl
  rw [if_neg h4, if_neg h4]
  by_cases h5 : t = sApos
  · rw [if_pos h5, if_pos h5]; rfl
  rw [if_neg h5, if_neg h5]
  unfold refN
  by_cases h6 : t.take 2 = [35, 120]
  · rw [if_pos h6, if_pos h6]; exact key 16 _
  rw [if_neg h6, if_neg h6]
  by_cases h7 : t.take 1 = [35]
  · rw [if_pos h7, if_pos h7]; exact key 10 _
  rw [if_neg h7, if_neg h7]
  rfl

theorem pre_take (p l : List UInt8) : p.isPrefixOf l = decide (l.take p.length = p) := by
  by_cases h : l.take p.length = p
  · rw [decide_eq_true h]
    exact List.isPrefixOf_iff_prefix.2 (List.prefix_iff_eq_take.2 h.symm)
  · rw [decide_eq_false h]
    cases hq : p.isPrefixOf l with
    | false => rfl
    | true => exact absurd (List.prefix_iff_eq_take.1 (List.isPrefixOf_iff_prefix.1 hq)).symm h

theorem list_eq (t : ByteArray) (l : List UInt8) : (t.toList == l) = decide (t.data.toList = l) := by
  rw [ByteArray.toList_eq]
  by_cases h : t.data.toList = l
  · rw [decide_eq_true h]; simpa using h
  · rw [decide_eq_false h]; simpa using h

end Go.Proofs.YtobmjcompkkeaaaDoor
