/- QnPlain QdQ. -/
import Derived.Test.YtbdamneophbnnaaGreatDoorCZ2
namespace Wb
open Go
theorem sXML_ne : sXML ≠ sXMLNS := by decide
end Wb
namespace Wb
def PieAt (by_ : UInt8) (s : List UInt8) (out : List (List UInt8)) (fr i : Nat) : Prop := pieceF by_ s = out ++ pieceA by_ ((s.take i).drop fr) (s.drop i)
theorem pieAt_zero (by_ : UInt8) (s : List UInt8) : PieAt by_ s [] 0 0 := rfl
theorem pieAt_by {by_ : UInt8} {s : List UInt8} {out : List (List UInt8)} {fr i : Nat} (hp : PieAt by_ s out fr i) (h : i < s.length) (hc : s[i] = by_) : PieAt by_ s (out ++ [(s.take i).drop fr]) (i + 1) (i + 1) := by
  unfold PieAt at hp ⊢
  rw [hp, pdrop_at h, pieceA, if_pos hc, List.append_assoc]
  congr 1
  have : (s.take (i + 1)).drop (i + 1) = [] := List.drop_eq_nil_of_le (by rw [List.length_take]; omega)
  rw [this]
  rfl
theorem pieAt_go {by_ : UInt8} {s : List UInt8} {out : List (List UInt8)} {fr i : Nat} (hp : PieAt by_ s out fr i) (h : i < s.length) (hf : fr ≤ i) (hc : s[i] ≠ by_) : PieAt by_ s out fr (i + 1) := by
  unfold PieAt at hp ⊢
  rw [hp, pdrop_at h, pieceA, if_neg hc]
  congr 2
  rw [← List.take_append_getElem h, List.drop_append_of_le_length (by rw [List.length_take]; omega)]
theorem pieAt_end {by_ : UInt8} {s : List UInt8} {out : List (List UInt8)} {fr i : Nat} (hp : PieAt by_ s out fr i) (h : s.length ≤ i) : pieceF by_ s = out ++ [s.drop fr] := by
  unfold PieAt at hp
  rw [hp, List.drop_eq_nil_of_le h, List.take_of_length_le h]
  rfl
end Wb
