
/- Contracts of Trim of packages utf and watchbillref01. -/
import Derived.Test.YtobmjcompkkeaaaDoorMgU
namespace Go.Proofs.YtobmjcompkkeaaaDoor
open Go.RowKit Wb

theorem t1_step (s : ByteArray) (k : Nat) (h : k < s.size) (hb : blk s[k].toNat = true) :
    (s.data.toList.drop k).dropWhile blkU = (s.data.toList.drop (k + 1)).dropWhile blkU := by
  rw [drop_cons s k h, List.dropWhile_cons, if_pos (show blkU s[k] = true from hb)]
theorem t1_stop (s : ByteArray) (k : Nat) (h : k < s.size) (hb : blk s[k].toNat = false) :
    (s.data.toList.drop k).dropWhile blkU = s.data.toList.drop k := by
  conv => lhs; rw [drop_cons s k h]
  rw [List.dropWhile_cons, if_neg (show ¬ blkU s[k] = true by unfold blkU; rw [hb]; simp), ← drop_cons s k h]
theorem t1_end (s : ByteArray) (k : Nat) (h : ¬ k < s.size) : (s.data.toList.drop k).dropWhile blkU = s.data.toList.drop k := by
  rw [List.drop_eq_nil_of_le (by rw [show s.data.toList.length = s.size by simp]; omega)]; rfl

theorem take_last (s : ByteArray) (k q : Nat) (hk : k ≤ q) (h : q < s.size) : (s.data.toList.take (q + 1)).drop k = (s.data.toList.take q).drop k ++ [s[q]] := by
  have hl : s.data.toList.length = s.size := by simp
  rw [List.take_succ_eq_append_getElem (by omega), List.drop_append_of_le_length (by rw [List.length_take]; omega)]
  rfl
theorem t2_step (s : ByteArray) (k q : Nat) (hk : k ≤ q) (h : q < s.size) (hb : blk s[q].toNat = true) :
    ((s.data.toList.take (q + 1)).drop k).reverse.dropWhile blkU = ((s.data.toList.take q).drop k).reverse.dropWhile blkU := by
  rw [take_last s k q hk h, List.reverse_append]
  show List.dropWhile blkU (s[q] :: _) = _
  rw [List.dropWhile_cons, if_pos (show blkU s[q] = true from hb)]
  rfl
theorem t2_stop (s : ByteArray) (k q : Nat) (hk : k ≤ q) (h : q < s.size) (hb : blk s[q].toNat = false) :
    ((s.data.toList.take (q + 1)).drop k).reverse.dropWhile blkU = ((s.data.toList.take (q + 1)).drop k).reverse := by
  rw [take_last s k q hk h, List.reverse_append]
  show List.dropWhile blkU (s[q] :: _) = s[q] :: _
  rw [List.dropWhile_cons, if_neg (show ¬ blkU s[q] = true by unfold blkU; rw [hb]; simp)]
theorem t2_end (s : ByteArray) (k m : Nat) (h : ¬ k < m) :
    ((s.data.toList.take m).drop k).reverse.dropWhile blkU = ((s.data.toList.take m).drop k).reverse := by
  rw [List.drop_eq_nil_of_le (by rw [List.length_take]; omega)]; rfl

theorem trim_end (s : ByteArray) (k m : Nat) (h1 : s.data.toList.dropWhile blkU = s.data.toList.drop k)
    (h2 : (s.data.toList.drop k).reverse.dropWhile blkU = ((s.data.toList.take m).drop k).reverse.dropWhile blkU)
    (h3 : ((s.data.toList.take m).drop k).reverse.dropWhile blkU = ((s.data.toList.take m).drop k).reverse) :
    s.extract k m = ⟨(trimL s.data.toList).toArray⟩ := by
  unfold trimL
  rw [h1, h2, h3, List.reverse_reverse]
  have hd := Lib.extract_data s k m
  rw [List.drop_take, ← hd]

end Go.Proofs.YtobmjcompkkeaaaDoor
