
/- Contracts: reference, unescape, Unescape. -/
import Derived.Test.YtobmjcompkkeaaaDoorLeH
import Derived.Test.YtobmjcompkkeaaaDoorLeA
import Derived.Test.YtobmjcompkkeaaaDoorMgL
import Derived.Test.YtobmjcompkkeaaaDoorMgM
import Derived.Test.YtobmjcompkkeaaaDoorMem3
import Derived.Deep.RegionHeld2
import Derived.Deep.DeepCutAuto
namespace Go.Proofs.YtobmjcompkkeaaaDoor
open Go.RowKit Wb

theorem toL (l : List UInt8) : (⟨l.toArray⟩ : ByteArray).data.toList = l := rfl

/-! ### the builder -/
theorem isb_below {T e : TypeId} {B b : Nat} {bs : List Value} {w w' : World} (h : Lib.IsBuilder T e B b bs w) (hb : Below w.heap.size w w') : Lib.IsBuilder T e B b bs w' := by
  have k : ∀ p, Lib.BuilderAt T e B b p bs w → Lib.BuilderAt T e B b p bs w' := by
    rintro p ⟨h1, v, h2, h3, h4⟩
    exact ⟨h1, v, still_block h2 hb, own_below h3 hb, h4⟩
  exact h.imp (k _) (k _)

def sLen : Value → Nat
  | .string b => b.size
  | _ => 0

end Go.Proofs.YtobmjcompkkeaaaDoor

namespace Go.Proofs.YtobmjcompkkeaaaDoor
open Go.RowKit Wb

theorem heap3 (w : World) (o0 o1 o2 : Obj) : (((w.alloc o0).alloc o1).alloc o2).heap[w.heap.size]? = some o0 ∧ (((w.alloc o0).alloc o1).alloc o2).heap[w.heap.size + 1]? = some o1 ∧
    (((w.alloc o0).alloc o1).alloc o2).heap[w.heap.size + 1 + 1]? = some o2 ∧ (((w.alloc o0).alloc o1).alloc o2).heap.size = w.heap.size + 3 := by
  have e : (((w.alloc o0).alloc o1).alloc o2).heap = ((w.heap.push o0).push o1).push o2 := rfl
  rw [e]
  refine ⟨?_, ?_, ?_, ?_⟩
  · rw [Array.getElem?_push, if_neg (by simp; omega), Array.getElem?_push, if_neg (by simp), Array.getElem?_push, if_pos rfl]
  · rw [Array.getElem?_push, if_neg (by simp), Array.getElem?_push, if_pos (by simp)]
  · rw [Array.getElem?_push, if_pos (by simp)]
  · simp

theorem set_other {w : World} {g : Nat} {o : Obj} (h : w.heap[g]? = some o) {b : Nat} (hb : g ≠ b) (v : Value) : (w.setCell ⟨b, 0, none⟩ v).heap[g]? = some o := by
  rw [Below.heap_setCell _ _ _ _ (by simpa using hb)]; exact h

/-- Three results that lie in blocks of their own. -/
theorem results3 {P : Program} {fn : Func} {p0 p1 p2 : Tmp} {t0 t1 t2 : TypeId} (h : fn.results = #[.cell p0 t0, .cell p1 t1, .cell p2 t2]) (tmps : Array Value) (w : World) (b0 b1 b2 : Nat) (u0 u1 u2 : TypeId) (v0 v1 v2 : Value)
    (e0 : tmps[p0]?.getD undef = .pointer (some ⟨b0, 0, none⟩)) (e1 : tmps[p1]?.getD undef = .pointer (some ⟨b1, 0, none⟩)) (e2 : tmps[p2]?.getD undef = .pointer (some ⟨b2, 0, none⟩))
    (h0 : w.heap[b0]? = some (.cells #[v0] u0 (0, 0))) (h1 : w.heap[b1]? = some (.cells #[v1] u1 (0, 0))) (h2 : w.heap[b2]? = some (.cells #[v2] u2 (0, 0)))
    (a0 : ∀ w, (isAgg t0).run P w = .ok false w) (a1 : ∀ w, (isAgg t1).run P w = .ok false w) (a2 : ∀ w, (isAgg t2).run P w = .ok false w) :
    (results fn tmps).run P w = .ok (.tuple #[v0, v1, v2]) w := by
  have c0 : w.cell? ⟨b0, 0, none⟩ = some v0 := blk_cell h0 0
  have c1 : w.cell? ⟨b1, 0, none⟩ = some v1 := blk_cell h1 0
  have c2 : w.cell? ⟨b2, 0, none⟩ = some v2 := blk_cell h2 0
  unfold results
  rw [h]
  simp [go_sem, e0, e1, e2, c0, c1, c2, a0, a1, a2]

end Go.Proofs.YtobmjcompkkeaaaDoor

namespace Go.Proofs.YtobmjcompkkeaaaDoor
open Go.RowKit Wb

/-- Of what was there nothing has turned but block D. -/
structure Keeps (D : Nat) (w w' : World) : Prop where
  os : w'.os = w.os
  tape : w'.tape = w.tape
  output : w'.output = w.output
  size : w.heap.size ≤ w'.heap.size
  block : ∀ k, k < w.heap.size → k ≠ D → w'.heap[k]? = w.heap[k]?

theorem Keeps.refl (D : Nat) (w : World) : Keeps D w w := ⟨rfl, rfl, rfl, Nat.le_refl _, fun _ _ _ => rfl⟩
theorem Keeps.trans {D : Nat} {a b c : World} (h : Keeps D a b) (k : Keeps D b c) : Keeps D a c :=
  ⟨k.os.trans h.os, k.tape.trans h.tape, k.output.trans h.output, Nat.le_trans h.size k.size, fun i hi hd => (k.block i (Nat.lt_of_lt_of_le hi h.size) hd).trans (h.block i hi hd)⟩
theorem Keeps.of_below {D : Nat} {w w' : World} (h : Below w.heap.size w w') : Keeps D w w' := ⟨h.os, h.tape, h.output, h.size, fun k hk _ => h.block k hk⟩
theorem Keeps.drewN (D : Nat) (w : World) (m : Nat) : Keeps D w (w.drewN m) := ⟨rfl, rfl, rfl, Nat.le_refl _, fun _ _ _ => rfl⟩
theorem Keeps.drew {D : Nat} {a w : World} (h : Keeps D a w) : Keeps D a w.drew := ⟨h.os, h.tape, h.output, h.size, h.block⟩
theorem Keeps.setCell {D : Nat} {a w : World} (h : Keeps D a w) (o : Nat) (v : Value) : Keeps D a (w.setCell ⟨D, o, none⟩ v) :=
  h.trans ⟨rfl, rfl, rfl, by simp [World.setCell], fun k _ hd => Below.heap_setCell _ _ _ _ (by simpa using hd)⟩
theorem Keeps.below {D : Nat} {w w' : World} (h : Keeps D w w') (hD : D < w.heap.size) : Below D w w' := ⟨h.os, h.tape, h.output, h.size, fun k hk => h.block k (by omega) (by omega)⟩
theorem Keeps.next {D : Nat} {a b c : World} (h : Keeps D a b) (k : Below b.heap.size b c) : Keeps D a c := h.trans (Keeps.of_below k)

theorem blk_all : ∀ n : Fin 256, blkB (UInt8.ofNat n.val) = blk (n.val : Int) := by decide +kernel
theorem blkB_eq (c : UInt8) : blk (c.toNat : Int) = blkB c := by
  have := blk_all ⟨c.toNat, c.toNat_lt⟩
  simp only [UInt8.ofNat_toNat] at this
  exact this.symm
def sWordEnd : List UInt8 := [47, 62, 61, 60, 34, 39, 38]
theorem word_all : ∀ n : Fin 256, wordB (UInt8.ofNat n.val) = (!(blkB (UInt8.ofNat n.val)) && decide (Lib.indexByte sWordEnd (UInt8.ofNat n.val) < 0)) := by decide +kernel
theorem wordB_eq (c : UInt8) : wordB c = (!(blkB c) && decide (Lib.indexByte sWordEnd c < 0)) := by
  have := word_all ⟨c.toNat, c.toNat_lt⟩
  simp only [UInt8.ofNat_toNat] at this
  exact this

end Go.Proofs.YtobmjcompkkeaaaDoor

namespace Go.Proofs.YtobmjcompkkeaaaDoor
open Go.RowKit Wb

/-- The first such text, as the library finds it and as the reader does. -/
theorem index_until (p : List UInt8) (hp : p ≠ []) : ∀ l : List UInt8, (Lib.index l p = -1 ∧ untilR p l = none) ∨ ∃ k : Nat, Lib.index l p = k ∧ k + p.length ≤ l.length ∧ untilR p l = some (k + p.length, l.take k)
  | [] => by
    left
    refine ⟨?_, ?_⟩
    · unfold Lib.index
      cases p with
      | nil => exact absurd rfl hp
      | cons c r => rfl
    · unfold untilR; rw [if_neg hp]
  | c :: l => by
    by_cases h : (c :: l).take p.length = p
    · right
      refine ⟨0, ?_, ?_, ?_⟩
      · unfold Lib.index
        rw [if_pos (by rw [pre_take, decide_eq_true h])]
        rfl
      · have := congrArg List.length h
        rw [List.length_take] at this
        omega
      · unfold untilR
        rw [if_pos h]
        simp
    · have e : Lib.index (c :: l) p = if Lib.index l p == -1 then -1 else Lib.index l p + 1 := by
        conv => lhs; unfold Lib.index
        rw [if_neg (by rw [pre_take, decide_eq_false h]; simp)]
      rcases index_until p hp l with ⟨h1, h2⟩ | ⟨k, h1, h2, h3⟩
      · left
        refine ⟨by rw [e, h1]; rfl, ?_⟩
        unfold untilR
        rw [if_neg h, h2]
      · right
        refine ⟨k + 1, ?_, by simp; omega, ?_⟩
        · rw [e, h1, if_neg (by simp)]
          rfl
        · unfold untilR
          rw [if_neg h, h3]
          simp
          omega
theorem cut_until (p : List UInt8) (hp : p ≠ []) (l : List UInt8) :
    (untilR p l = none ∧ Lib.cut l p = (l, [], false)) ∨ ∃ n v, untilR p l = some (n, v) ∧ Lib.cut l p = (v, l.drop n, true) ∧ n = v.length + p.length ∧ n ≤ l.length := by
  rcases index_until p hp l with ⟨h1, h2⟩ | ⟨k, h1, h2, h3⟩
  · left
    refine ⟨h2, ?_⟩
    unfold Lib.cut
    rw [h1, if_neg (by decide)]
  · right
    refine ⟨k + p.length, l.take k, h3, ?_, ?_, h2⟩
    · unfold Lib.cut
      rw [h1, if_pos (by omega)]
      simp
    · rw [List.length_take, Nat.min_eq_left (by omega)]

end Go.Proofs.YtobmjcompkkeaaaDoor

namespace Go.Proofs.YtobmjcompkkeaaaDoor
open Go.RowKit Wb

theorem dropW_len (L : List UInt8) (at_ : Nat) : ((L.drop at_).dropWhile blkB).length + blankN L at_ = (L.drop at_).length := by
  unfold blankN
  conv => rhs; rw [← List.takeWhile_append_dropWhile (p := blkB) (l := L.drop at_)]
  rw [List.length_append]
  omega
theorem blankN_le (L : List UInt8) (at_ : Nat) (h : at_ ≤ L.length) : at_ + blankN L at_ ≤ L.length := by
  have := dropW_len L at_
  rw [List.length_drop] at this
  omega

theorem takeW_take (p : UInt8 → Bool) : ∀ (l : List UInt8) (n : Nat), (∀ j (h : j < l.length), j < n → p l[j] = true) → n ≤ l.length → (∀ h : n < l.length, p l[n] = false) → l.takeWhile p = l.take n
  | [], n, _, h, _ => by simp
  | c :: l, 0, _, _, h0 => by
    have := h0 (by simp)
    simp only [List.getElem_cons_zero] at this
    simp [this]
  | c :: l, n + 1, h, hn, h0 => by
    have hc := h 0 (by simp) (by omega)
    simp only [List.getElem_cons_zero] at hc
    rw [List.takeWhile_cons, hc, if_pos rfl, List.take_succ_cons, takeW_take p l n (fun j hj hjn => by have := h (j + 1) (by simpa using hj) (by omega); simpa using this) (by simpa using hn) (fun hl => by have := h0 (by simpa using hl); simpa using this)]

/-- The word that comes, its bytes told one by one. -/
theorem word_is (s : ByteArray) (at_ k : Nat) (hk : at_ ≤ k) (hks : k ≤ s.size) (hall : ∀ j (h : j < s.size), at_ ≤ j → j < k → wordB s[j] = true) (hend : ∀ h : k < s.size, wordB s[k] = false) :
    (s.data.toList.drop at_).takeWhile wordB = (s.extract at_ k).data.toList := by
  rw [extract_L]
  refine takeW_take wordB _ _ ?_ ?_ ?_
  · intro j hj hjn
    rw [List.getElem_drop]
    have hl := Lib.size_eq s
    have := hall (at_ + j) (by rw [List.length_drop] at hj; omega) (by omega) (by omega)
    exact this
  · rw [List.length_drop, ← Lib.size_eq]; omega
  · intro h
    rw [List.getElem_drop]
    have hl := Lib.size_eq s
    have hkk : at_ + (k - at_) = k := by omega
    have := hend (by rw [List.length_drop] at h; omega)
    simp only [hkk]
    exact this

end Go.Proofs.YtobmjcompkkeaaaDoor

namespace Go.Proofs.YtobmjcompkkeaaaDoor
open Go.RowKit Wb

theorem lenL (s : ByteArray) : s.data.toList.length = s.size := (Lib.size_eq s).symm
theorem wordX_le (s : ByteArray) (at_ : Nat) (hat : at_ ≤ s.size) : at_ + (wordX s.data.toList at_).length ≤ s.size := by
  unfold wordX
  split
  · have := tw_le wordB (s.data.toList.drop at_)
    rw [List.length_drop, lenL] at this
    omega
  · simpa using hat
theorem idx60 (v : List UInt8) : (Lib.indexByte v 60 = -1 ∧ v.findIdx? (· == 60) = none) ∨ ∃ k : Nat, Lib.indexByte v 60 = k ∧ v.findIdx? (· == 60) = some k ∧ k < v.length := by
  induction v with
  | nil => exact .inl ⟨rfl, rfl⟩
  | cons c v ih =>
    by_cases hc : c = 60
    · subst hc
      right
      exact ⟨0, rfl, rfl, by simp⟩
    · have hb : (c == 60) = false := by simpa using hc
      have e1 : Lib.indexByte (c :: v) 60 = if Lib.indexByte v 60 == -1 then -1 else Lib.indexByte v 60 + 1 := by
        conv => lhs; unfold Lib.indexByte
        rw [if_neg (by simpa using hc)]
      rw [List.findIdx?_cons, hb]
      rcases ih with ⟨h1, h2⟩ | ⟨k, h1, h2, h3⟩
      · left
        exact ⟨by rw [e1, h1]; rfl, by rw [h2]; rfl⟩
      · right
        exact ⟨k + 1, by rw [e1, h1, if_neg (by simp)]; rfl, by rw [h2]; rfl, by simpa using h3⟩

theorem conv_byte (c : UInt8) (hc : c = 34 ∨ c = 39) (w : World) : (convert 5 9 (.int .u8 (c.toNat : Int))).run Tryd.prog w = .ok (.string ⟨#[c]⟩) w := by
  rcases hc with rfl | rfl
  · kernel_rfl
  · kernel_rfl

end Go.Proofs.YtobmjcompkkeaaaDoor

namespace Go.Proofs.YtobmjcompkkeaaaDoor
open Go.RowKit Wb

end Go.Proofs.YtobmjcompkkeaaaDoor

namespace Go.Proofs.YtobmjcompkkeaaaDoor
open Go.RowKit Wb

/-- A token's cells, as they are made: no attributes. -/
def tokZ (k p : Int) (n x : ByteArray) : Array Value := #[.int .i64 k, .int .i64 p, .string n, .slice none 0 0, .string x]

theorem Keeps.alloc {D : Nat} {a w : World} (h : Keeps D a w) (o : Obj) : Keeps D a (w.alloc o) := h.next ((Below.refl _ w).alloc (Nat.le_refl _) o)
theorem Keeps.other {D : Nat} {a w : World} (h : Keeps D a w) {b : Nat} (hb : a.heap.size ≤ b) (o : Nat) (v : Value) : Keeps D a (w.setCell ⟨b, o, none⟩ v) :=
  ⟨h.os, h.tape, h.output, Nat.le_trans h.size (by simp [World.setCell]), fun k hk hd => (Below.heap_setCell _ _ _ _ (by simp; omega)).trans (h.block k hk hd)⟩
theorem five_set {w : World} {b : Nat} {u0 u1 u2 u3 u4 : Value} {t : TypeId} (h : w.heap[b]? = some (.cells #[u0, u1, u2, u3, u4] t (0, 0))) (v0 v1 v2 v3 v4 : Value) :
    (((((w.setCell ⟨b, 0, none⟩ v0).setCell ⟨b, 1, none⟩ v1).setCell ⟨b, 2, none⟩ v2).setCell ⟨b, 3, none⟩ v3).setCell ⟨b, 4, none⟩ v4).heap[b]? = some (.cells #[v0, v1, v2, v3, v4] t (0, 0)) :=
  blk_set (blk_set (blk_set (blk_set (blk_set h 0 v0) 1 v1) 2 v2) 3 v3) 4 v4
theorem five_other {w : World} {b g : Nat} (hg : g ≠ b) (v0 v1 v2 v3 v4 : Value) :
    (((((w.setCell ⟨b, 0, none⟩ v0).setCell ⟨b, 1, none⟩ v1).setCell ⟨b, 2, none⟩ v2).setCell ⟨b, 3, none⟩ v3).setCell ⟨b, 4, none⟩ v4).heap[g]? = w.heap[g]? := by
  rw [Below.heap_setCell _ _ _ _ (by simpa using hg), Below.heap_setCell _ _ _ _ (by simpa using hg), Below.heap_setCell _ _ _ _ (by simpa using hg), Below.heap_setCell _ _ _ _ (by simpa using hg), Below.heap_setCell _ _ _ _ (by simpa using hg)]

theorem Keeps.five {D : Nat} {w w' : World} (h : Keeps D w w') {b : Nat} {u0 u1 u2 u3 u4 : Value} {t : TypeId} (hb : w.heap[b]? = some (.cells #[u0, u1, u2, u3, u4] t (0, 0))) (hl : b < w.heap.size) (hd : b ≠ D) :
    w'.heap[b]? = some (.cells #[u0, u1, u2, u3, u4] t (0, 0)) := (h.block b hl hd).trans hb
theorem five_cells {w : World} {b : Nat} {u0 u1 u2 u3 u4 : Value} {t : TypeId} (h : w.heap[b]? = some (.cells #[u0, u1, u2, u3, u4] t (0, 0))) :
    w.cell? ⟨b, 0, none⟩ = some u0 ∧ w.cell? ⟨b, 1, none⟩ = some u1 ∧ w.cell? ⟨b, 2, none⟩ = some u2 ∧ w.cell? ⟨b, 3, none⟩ = some u3 ∧ w.cell? ⟨b, 4, none⟩ = some u4 ∧
    w.frozen? ⟨b, 0, none⟩ = false ∧ w.frozen? ⟨b, 1, none⟩ = false ∧ w.frozen? ⟨b, 2, none⟩ = false ∧ w.frozen? ⟨b, 3, none⟩ = false ∧ w.frozen? ⟨b, 4, none⟩ = false :=
  ⟨blk_cell h 0, blk_cell h 1, blk_cell h 2, blk_cell h 3, blk_cell h 4, blk_free h 0, blk_free h 1, blk_free h 2, blk_free h 3, blk_free h 4⟩

theorem second_block (w : World) (o1 o2 : Obj) : ((w.alloc o1).alloc o2).drew.heap[w.heap.size + 1]? = some o2 := by
  show ((w.heap.push o1).push o2)[w.heap.size + 1]? = some o2
  rw [Array.getElem?_push, if_pos (by simp)]
theorem first_block (w : World) (o1 : Obj) : (w.alloc o1).heap[w.heap.size]? = some o1 := kept_block (Below.refl _ _)
theorem first_block2 (w : World) (o1 o2 : Obj) : ((w.alloc o1).alloc o2).drew.heap[w.heap.size]? = some o1 := by
  show ((w.heap.push o1).push o2)[w.heap.size]? = some o1
  rw [Array.getElem?_push, if_neg (by simp), Array.getElem?_push, if_pos rfl]

theorem namedX_le {s : ByteArray} {fr at_ a : Nat} {x : List UInt8} (hat : at_ ≤ s.size) (h : namedX s.data.toList fr at_ = .ok (x, a)) : a ≤ s.size := by
  unfold namedX at h
  split at h
  · cases h
  · split at h
    · cases h
    · simp only [Except.ok.injEq, Prod.mk.injEq] at h
      have := wordX_le s at_ hat
      omega

end Go.Proofs.YtobmjcompkkeaaaDoor

