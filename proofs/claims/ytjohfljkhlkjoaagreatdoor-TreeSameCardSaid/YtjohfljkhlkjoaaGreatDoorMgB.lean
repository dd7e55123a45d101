import Derived.Test.YtjohfljkhlkjoaaGreatDoorMgA
import Derived.Test.YtjohfljkhlkjoaaGreatDoorMgKi
import Derived.Deep.RegionLaw
import Derived.Test.YtjohfljkhlkjoaaGreatDoorLePlain
import GoSem.Claim
import Derived.Deep.LoopGhost
import Derived.Lib.Fold
import Derived.Laws.RangeAny
import Derived.Laws.BitsAllLaws
import Derived.Shelf.GgClosure.StringsTrimFunc
namespace Go.Proofs.YtjohfljkhlkjoaaGreatDoor
open Go.RowKit Wb
theorem raw_info : (Tryz.prog.info? 59).map (fun i => (i.zero, i.size, i.bytes)) = some (some (.agg #[.string ⟨#[]⟩, .string ⟨#[]⟩]), 2, 32) := by kernel_rfl
theorem own_keeps {D : Nat} {w w2 : World} {base sz n : Nat} {e : TypeId} {v : Value} {xs : List Value} (h : w.ownsRow base e sz v n xs) (hk : Keeps D w w2) (hD : D < base) : w2.ownsRow base e sz v n xs := by
  refine ⟨h.1, ?_⟩
  rcases h.2 with hn | ⟨g, cap, cur, rfl, hbg, hg, rest⟩
  · exact .inl hn
  · have hl : g < w.heap.size := by
      rcases Nat.lt_or_ge g w.heap.size with hl | hl
      · exact hl
      · rw [Array.getElem?_eq_none hl] at hg; cases hg
    exact .inr ⟨g, cap, cur, rfl, hbg, (hk.block g hl (by omega)).trans hg, rest⟩
theorem own_blk_ne {w : World} {base sz n g : Nat} {e t : TypeId} {v : Value} {xs : List Value} {cs : Array Value} {fr : Nat × Nat} (h : w.ownsRow base e sz v n xs) (hb : w.heap[g]? = some (.cells cs t fr)) (hne : t ≠ e) : v.ownBlock ≠ some g := by
  intro hv
  rcases h.2 with ⟨rfl, _⟩ | ⟨k, cap, cur, rfl, _, hk, _⟩
  · simp [Value.ownBlock] at hv
  · simp [Value.ownBlock] at hv
    subst hv
    rw [hb] at hk
    injection hk with hk
    injection hk with _ ht
    exact hne ht
theorem own_set {w : World} {base sz n g : Nat} {e : TypeId} {v : Value} {xs : List Value} (h : w.ownsRow base e sz v n xs) (hne : v.ownBlock ≠ some g) (o : Nat) (u : Value) : (w.setCell ⟨g, o, none⟩ u).ownsRow base e sz v n xs := by
  refine ⟨h.1, ?_⟩
  rcases h.2 with hn | ⟨k, cap, cur, rfl, hbg, hk, rest⟩
  · exact .inl hn
  · have : k ≠ g := by
      intro e
      subst e
      exact hne rfl
    exact .inr ⟨k, cap, cur, rfl, hbg, (Below.heap_setCell _ _ _ _ (by simpa using this)).trans hk, rest⟩
structure TagW (w0 : World) (D : Nat) (s : ByteArray) (fr at_ T : Nat) (k : Int) (x : ByteArray) (acc : List Pr) (w : World) : Prop where
  keeps : Keeps D w0 w
  doc : DocW w D s fr at_
  rblk : w.heap[w0.heap.size]? = some (.cells (tokZ 0 0 ⟨#[]⟩ ⟨#[]⟩) 57 (0, 0))
  lt : w0.heap.size < T
  ex : ∃ v, w.heap[T]? = some (.cells #[.int .i64 k, .int .i64 fr, .string x, v, .string ⟨#[]⟩] 57 (0, 0)) ∧ w.ownsRow w0.heap.size 59 2 v acc.length (cells2 acc)
section
variable {w0 w w' : World} {D : Nat} {s : ByteArray} {fr at_ T : Nat} {k : Int} {x : ByteArray} {acc : List Pr}
theorem blk_lt {w : World} {g : Nat} {o : Obj} (h : w.heap[g]? = some o) : g < w.heap.size := by
  rcases Nat.lt_or_ge g w.heap.size with hl | hl
  · exact hl
  · rw [Array.getElem?_eq_none hl] at h; cases h
theorem TagW.step (h : TagW w0 D s fr at_ T k x acc w) {a : Nat} (hk : Keeps D w w') (hd : DocW w' D s fr a) (hD : D < w0.heap.size) : TagW w0 D s fr a T k x acc w' := by
  obtain ⟨v, h1, h2⟩ := h.ex
  have hlt := h.lt
  exact ⟨h.keeps.trans hk, hd, (hk.block _ (blk_lt h.rblk) (by omega)).trans h.rblk, h.lt, v, (hk.block _ (blk_lt h1) (by omega)).trans h1, own_keeps h2 hk hD⟩
theorem TagW.kind (h : TagW w0 D s fr at_ T k x acc w) (k' : Int) (hD : D < w0.heap.size) : TagW w0 D s fr at_ T k' x acc (w.setCell ⟨T, 0, none⟩ (.int .i64 k')) := by
  obtain ⟨v, h1, h2⟩ := h.ex
  have hlt := h.lt
  exact ⟨h.keeps.other (by omega) _ _, h.doc.other (by omega) _ _, (Below.heap_setCell _ _ _ _ (by simp; omega)).trans h.rblk, h.lt, v, blk_set h1 0 _, own_set h2 (own_blk_ne h2 h1 (by decide)) _ _⟩
theorem TagW.app (h : TagW w0 D s fr at_ T k x acc w) (hD : D < w0.heap.size) (p : Pr) {v v4 : Value} {w4 : World} {cs : Array Value}
    (hv : w.heap[T]? = some (.cells #[.int .i64 k, .int .i64 fr, .string x, v, .string ⟨#[]⟩] 57 (0, 0))) (hown : w.ownsRow w0.heap.size 59 2 v acc.length (cells2 acc))
    (h4 : w4.ownsRow w0.heap.size 59 2 v4 (acc.length + 1) (cells2 acc ++ [.string p.1, .string p.2])) (hg : (w.alloc (.cells cs 59)).grownBy w4 v.ownBlock) :
    TagW w0 D s fr at_ T k x (acc ++ [p]) (w4.setCell ⟨T, 3, none⟩ v4) := by
  have hlt := h.lt
  have old : ∀ g, g < w.heap.size → v.ownBlock ≠ some g → w4.heap[g]? = w.heap[g]? := fun g h1 h2 => (hg.block g (by simp; omega) (fun e => h2 e.symm)).trans (Below.heap_alloc _ _ _ h1)
  have hT4 : w4.heap[T]? = some (.cells #[.int .i64 k, .int .i64 fr, .string x, v, .string ⟨#[]⟩] 57 (0, 0)) := (old T (blk_lt hv) (own_blk_ne hown hv (by decide))).trans hv
  have hR4 : w4.heap[w0.heap.size]? = some (.cells (tokZ 0 0 ⟨#[]⟩ ⟨#[]⟩) 57 (0, 0)) := (old _ (blk_lt h.rblk) (own_blk_ne hown h.rblk (by decide))).trans h.rblk
  have hb : ∀ g, g < w0.heap.size → v.ownBlock ≠ some g := by
    intro g hgl he
    rcases hown.2 with ⟨rfl, _⟩ | ⟨q, cap, cur, rfl, hbq, _⟩
    · simp [Value.ownBlock] at he
    · simp [Value.ownBlock] at he
      omega
  have hk4 : Keeps D w0 w4 := ⟨hg.os.trans h.keeps.os, hg.tape.trans h.keeps.tape, hg.output.trans h.keeps.output, Nat.le_trans h.keeps.size (Nat.le_trans (by simp) hg.size), fun g hgl hgd =>
    (old g (Nat.lt_of_lt_of_le hgl h.keeps.size) (hb g hgl)).trans (h.keeps.block g hgl hgd)⟩
  refine ⟨hk4.other (by omega) _ _, ?_, ?_, h.lt, v4, blk_set hT4 3 _, ?_⟩
  · exact DocW.other (w := w4) ((old D h.doc.lt (hb D hD)).trans h.doc) (by omega) _ _
  · exact (Below.heap_setCell _ _ _ _ (by simp; omega)).trans hR4
  · have := own_set h4 (own_blk_ne h4 hT4 (by decide)) 3 v4
    rw [List.length_append, cells2_append]
    exact this
end
end Go.Proofs.YtjohfljkhlkjoaaGreatDoor

namespace Go.Proofs.YtjohfljkhlkjoaaGreatDoor
open Go.RowKit Wb
end Go.Proofs.YtjohfljkhlkjoaaGreatDoor
namespace Wb
open Go
theorem seq_skip {y : Code} {P : Program} {Q : Exit → Act → World → Prop} {a : Act} {w : World} (h : y.wp P Q a w) : (Code.seq .skip y).wp P Q a w := wp_seq (wp_skip h)
theorem wp_scope_ghost2 {c : Code} {P : Program} {a : Act} {w : World} {Q : Exit → Act → World → Prop} (J : Nat → Nat → Act → World → Prop)
    (pass : ∀ l n a w, J l n a w → ∃ rest, findLabel c l = some (.seq .skip rest) ∧ rest.wp P (jumpsTo (fun l' a' w' => ∃ n', n' < n ∧ J l' n' a' w') Q) a w)
    (first : (∀ l n a w rest, J l n a w → findLabel c l = some (.seq .skip rest) → rest.wp P (jumpsTo (fun l' a' w' => ∃ n', J l' n' a' w') Q) a w) → c.wp P (jumpsTo (fun l a' w' => ∃ n, J l n a' w') Q) a w) : (Code.scope c).wp P Q a w := by
  refine wp_scope_ghost J (first ?_) (fun l n a w hJ => (pass l n a w hJ).elim fun rest h => ⟨_, h.1, Wb.seq_skip h.2⟩)
  intro l n a w rest hJ hf
  obtain ⟨rest', hf', hp⟩ := pass l n a w hJ
  obtain rfl : rest' = rest := by have := Option.some.inj (hf'.symm.trans hf); injection this
  exact jumpsTo_weaken (fun l a w ⟨n', _, h⟩ => ⟨n', h⟩) hp
end Wb
namespace Go.Proofs.YtjohfljkhlkjoaaGreatDoor
open Go.RowKit Wb
abbrev AL := List (List UInt8 × List UInt8)
def prs (l : AL) : List Pr := l.map fun p => (⟨p.1.toArray⟩, ⟨p.2.toArray⟩)
theorem prs_len (l : AL) : (prs l).length = l.length := by simp [prs]
theorem attribute_two (D : Nat) (s : ByteArray) (fr at_ others : Nat) (apart : Bool) (w : World) (h : DocW w D s fr at_) (hG : Gv w) (hD : 11 ≤ D) (hat : at_ ≤ s.size) (hs : s.size ≤ 1000000) (ho : others ≤ 1000000) :
    Calls Tryz.prog 138 #[.pointer (some ⟨D, 0, none⟩), .int .i64 others, .bool apart] w fun e w' =>
      (∃ q c, attributeX s.data.toList fr at_ others apart = .error (q, c) ∧ e = .panicked [flt q c] ∧ Keeps D w w') ∨
      (∃ n v a, attributeX s.data.toList fr at_ others apart = .ok ((n, v), a) ∧ e = .returned (.agg #[.string ⟨n.toArray⟩, .string ⟨v.toArray⟩]) ∧ DocW w' D s fr a ∧ Keeps D w w') := by
  refine (attribute_any D s fr at_ others apart w h hG hD hat hs ho).mono ?_
  rintro e w' ⟨hk, he⟩
  cases hn : attributeX s.data.toList fr at_ others apart with
  | error pe =>
    obtain ⟨q, c⟩ := pe
    rw [hn] at he
    exact .inl ⟨q, c, rfl, he, hk⟩
  | ok nva =>
    obtain ⟨⟨n, v⟩, a⟩ := nva
    rw [hn] at he
    exact .inr ⟨n, v, a, rfl, he.1, he.2, hk⟩
theorem tag_grown {w w4 : World} {T B : Nat} {k fr : Int} {x : ByteArray} {v : Value} {xs : List Value} {n : Nat} {cs : Array Value}
    (hv : w.heap[T]? = some (.cells #[.int .i64 k, .int .i64 fr, .string x, v, .string ⟨#[]⟩] 57 (0, 0))) (hown : w.ownsRow B 59 2 v n xs) (hg : (w.alloc (.cells cs 59)).grownBy w4 v.ownBlock) :
    w4.heap[T]? = some (.cells #[.int .i64 k, .int .i64 fr, .string x, v, .string ⟨#[]⟩] 57 (0, 0)) :=
  (hg.block T (by have := blk_lt hv; simp; omega) (fun e => own_blk_ne hown hv (by decide) e.symm)).trans ((Below.heap_alloc _ _ _ (blk_lt hv)).trans hv)
theorem TagW.app2 {w0 w : World} {D : Nat} {s : ByteArray} {fr at_ T : Nat} {k : Int} {x : ByteArray} {acc : AL} (h : TagW w0 D s fr at_ T k x (prs acc) w) (hD : D < w0.heap.size) (nn vv : List UInt8) (x1 x2 : ByteArray) (h1 : (⟨nn.toArray⟩ : ByteArray) = x1) (h2 : (⟨vv.toArray⟩ : ByteArray) = x2) {v v4 : Value} {w4 : World} {cs : Array Value}
    (hv : w.heap[T]? = some (.cells #[.int .i64 k, .int .i64 fr, .string x, v, .string ⟨#[]⟩] 57 (0, 0))) (hown : w.ownsRow w0.heap.size 59 2 v acc.length (cells2 (prs acc)))
    (h4 : w4.ownsRow w0.heap.size 59 2 v4 (acc.length + 1) (cells2 (prs acc) ++ [.string x1, .string x2])) (hg : (w.alloc (.cells cs 59)).grownBy w4 v.ownBlock) :
    TagW w0 D s fr at_ T k x (prs (acc ++ [(nn, vv)])) (w4.setCell ⟨T, 3, none⟩ v4) := by
  have e : prs (acc ++ [(nn, vv)]) = prs acc ++ [(x1, x2)] := by simp [prs, h1, h2]
  rw [e]
  exact h.app hD (x1, x2) hv (by rw [prs_len]; exact hown) (by rw [prs_len]; exact h4) hg
def TagF (D : Nat) (w0 : World) (T : Nat) (ap : Bool) (a : Act) : Prop := ∃ (u1 u5 u6 u7 u8 u9 u10 u11 u12 u13 u14 u15 u16 u17 u18 u19 u20 u21 u22 u23 u24 u25 u26 u27 u28 u29 u30 u31 u32 u33 u34 u35 u36 u37 u38 u39 u40 u41 : Value), a = { tmps := #[.pointer (some ⟨D, 0, none⟩), u1, .pointer (some ⟨w0.heap.size, 0, none⟩), .pointer (some ⟨T, 0, none⟩), .bool ap, u5, u6, u7, u8, u9, u10, u11, u12, u13, u14, u15, u16, u17, u18, u19, u20, u21, u22, u23, u24, u25, u26, u27, u28, u29, u30, u31, u32, u33, u34, u35, u36, u37, u38, u39, u40, u41], defers := [] }
def TagJ0 (D : Nat) (s : ByteArray) (fr : Nat) (w0 : World) (x : ByteArray) (r : Er ((Int × AL) × Nat)) (n : Nat) (a : Act) (w : World) : Prop :=
  ∃ (T : Nat) (ap : Bool) (at_ f : Nat) (acc : AL), TagF D w0 T ap a ∧ n = 2 * f + 2 ∧ Hid (TagW w0 D s fr at_ T 1 x (prs acc) w) ∧ at_ ≤ s.size ∧ acc.length + f = 67 ∧ acc.length ≤ 65 ∧ Hid (attrsX s.data.toList fr f at_ acc = r)
def TagJ1 (D : Nat) (s : ByteArray) (fr : Nat) (w0 : World) (x : ByteArray) (r : Er ((Int × AL) × Nat)) (n : Nat) (a : Act) (w : World) : Prop :=
  ∃ (T : Nat) (ap : Bool) (at_ : Nat) (acc : AL), TagF D w0 T ap a ∧ n = 1 ∧ Hid (TagW w0 D s fr at_ T 1 x (prs acc) w) ∧ at_ < s.size ∧ acc.length ≤ 65 ∧ Hid ((match takeX s.data.toList fr (at_ + 1) 62 with | .error e => .error e | .ok b => .ok ((3, acc), b) : Er ((Int × AL) × Nat)) = r)
def TagJ2 (D : Nat) (s : ByteArray) (fr : Nat) (w0 : World) (x : ByteArray) (r : Er ((Int × AL) × Nat)) (n : Nat) (a : Act) (w : World) : Prop :=
  ∃ (T : Nat) (ap : Bool) (at_ : Nat) (k : Int) (acc : AL), TagF D w0 T ap a ∧ n = 0 ∧ Hid (TagW w0 D s fr at_ T k x (prs acc) w) ∧ at_ ≤ s.size ∧ acc.length ≤ 65 ∧ Hid ((match takeX s.data.toList fr at_ 62 with | .error e => .error e | .ok b => .ok ((k, acc), b) : Er ((Int × AL) × Nat)) = r)
def TagJ3 (D : Nat) (s : ByteArray) (fr : Nat) (w0 : World) (x : ByteArray) (r : Er ((Int × AL) × Nat)) (n : Nat) (a : Act) (w : World) : Prop :=
  ∃ (T : Nat) (ap : Bool) (at_ f : Nat) (acc : AL), TagF D w0 T ap a ∧ n = 2 * f + 3 ∧ Hid (TagW w0 D s fr at_ T 1 x (prs acc) w) ∧ at_ ≤ s.size ∧ acc.length + f = 66 ∧ acc.length ≤ 65 ∧
      Hid ((match attributeX s.data.toList fr at_ acc.length ap with | .error e => .error e | .ok (a, b) => attrsX s.data.toList fr f b (acc ++ [a]) : Er ((Int × AL) × Nat)) = r)
def TagR (s : ByteArray) (fr : Nat) (x : ByteArray) (r : Er ((Int × AL) × Nat)) : Prop := ∃ y q, namedX s.data.toList fr (fr + 1) = .ok (y, q) ∧ (⟨y.toArray⟩ : ByteArray) = x ∧ attrsX s.data.toList fr 67 q [] = r
def TagJ (D : Nat) (s : ByteArray) (fr : Nat) (w0 : World) (l n : Nat) (a : Act) (w : World) : Prop :=
  ∃ x r, Hid (TagR s fr x r) ∧ ((l = 0 ∧ TagJ0 D s fr w0 x r n a w) ∨ (l = 1 ∧ TagJ1 D s fr w0 x r n a w) ∨ (l = 2 ∧ TagJ2 D s fr w0 x r n a w) ∨ (l = 3 ∧ TagJ3 D s fr w0 x r n a w))
def StartPost (D : Nat) (s : ByteArray) (fr : Nat) (w : World) (e : Ending) (w' : World) : Prop := Keeps D w w' ∧ match startTagX s.data.toList fr with
      | .ok ((k, n, l, _), a) => (∃ A c, e = .returned (.agg #[.int .i64 k, .int .i64 fr, .string ⟨n.toArray⟩, .slice A l.length c, .string ⟨#[]⟩]) ∧ Sl2 w' A (prs l) ∧ (∀ ad, A = some ad → w.heap.size ≤ ad.block) ∧ l.length ≤ 65) ∧ DocW w' D s fr a
      | .error (p, c) => e = .panicked [flt p c]
theorem StartPost.bad {D : Nat} {s : ByteArray} {fr : Nat} {w w' : World} {q c : Nat} (h : namedX s.data.toList fr (fr + 1) = .error (q, c)) (hk : Keeps D w w') : StartPost D s fr w (.panicked [flt q c]) w' := by
  refine ⟨hk, ?_⟩
  have e1 : startTagX s.data.toList fr = .error (q, c) := by unfold startTagX; rw [h]
  rw [e1]
theorem TagR.err {s : ByteArray} {fr : Nat} {x : ByteArray} {r : Er ((Int × AL) × Nat)} (h : TagR s fr x r) {D : Nat} {w w' : World} {p c : Nat} (hr : r = .error (p, c)) (hk : Keeps D w w') : StartPost D s fr w (.panicked [flt p c]) w' := by
  obtain ⟨y, q, h1, h2, h3⟩ := h
  refine ⟨hk, ?_⟩
  have e1 : startTagX s.data.toList fr = .error (p, c) := by unfold startTagX; rw [h1]; simp only [h3, hr]
  rw [e1]
theorem own_fresh {w : World} {base sz n m c : Nat} {e : TypeId} {A : Option Addr} {xs : List Value} (h : w.ownsRow base e sz (.slice A n c) m xs) : ∀ ad, A = some ad → base ≤ ad.block := by
  intro ad ha
  subst ha
  rcases h.2 with ⟨hn, _⟩ | ⟨g, cap, cur, hv, hbg, _⟩
  · cases hn
  · injection hv with h1
    injection h1 with h1
    rw [h1]
    exact hbg
theorem TagR.ok {s : ByteArray} {fr : Nat} {x : ByteArray} {r : Er ((Int × AL) × Nat)} (h : TagR s fr x r) {D : Nat} {w w' : World} {k : Int} {l : AL} {b : Nat} (hr : r = .ok ((k, l), b)) (hk : Keeps D w w') {v : Value} {B : Nat}
    (hB : w.heap.size ≤ B) (hv : w'.ownsRow B 59 2 v l.length (cells2 (prs l))) (hl : l.length ≤ 65) (hd : DocW w' D s fr b) : StartPost D s fr w (.returned (.agg #[.int .i64 k, .int .i64 fr, .string x, v, .string ⟨#[]⟩])) w' := by
  obtain ⟨y, q, h1, rfl, h3⟩ := h
  refine ⟨hk, ?_⟩
  have e1 : startTagX s.data.toList fr = .ok ((k, y, l, []), b) := by unfold startTagX; rw [h1]; simp only [h3, hr]
  rw [e1]
  obtain ⟨A, c, rfl⟩ := own_shape hv
  have hv' : w'.ownsRow B 59 2 (.slice A (prs l).length c) (prs l).length (cells2 (prs l)) := by rw [prs_len]; exact hv
  exact ⟨⟨A, c, rfl, Sl2.of_own hv', fun ad ha => Nat.le_trans hB (own_fresh hv' ad ha), hl⟩, hd⟩
theorem attrsX_step (L : List UInt8) (fr f at_ : Nat) (acc : AL) : attrsX L fr (f + 1) at_ acc = match L.drop (at_ + blankN L at_) with
    | [] => .error (fr, 2)
    | c :: _ =>
      if c = 47 then match takeX L fr (at_ + blankN L at_ + 1) 62 with
        | .error e => .error e
        | .ok b => .ok ((3, acc), b)
      else if c = 62 then .ok ((1, acc), at_ + blankN L at_ + 1)
      else match attributeX L fr (at_ + blankN L at_) acc.length (decide (0 < blankN L at_)) with
        | .error e => .error e
        | .ok (a, b) => attrsX L fr f b (acc ++ [a]) := rfl
theorem takeX_at {L : List UInt8} {fr at_ : Nat} {c : UInt8} {l : List UInt8} (h : L.drop at_ = c :: l) : takeX L fr at_ c = .ok (at_ + 1) := by unfold takeX; rw [h]; simp
theorem attributeX_le {L : List UInt8} {fr at_ o : Nat} {ap : Bool} {n v : List UInt8} {b : Nat} (h : attributeX L fr at_ o ap = .ok ((n, v), b)) : o ≠ 65 := by
  intro e
  subst e
  unfold attributeX at h
  split at h
  · cases h
  · rw [if_pos rfl] at h; cases h
theorem valueX_le {L : List UInt8} {fr at_ : Nat} {v : List UInt8} {b : Nat} (h : valueX L fr at_ = .ok (v, b)) : b ≤ L.length := by
  unfold valueX at h
  split at h
  · cases h
  · rename_i q l hl
    have h1 := drop_cons_len hl
    have h2 : l.length = L.length - (at_ + 1) := by have := congrArg List.length (drop_cons_next hl); simp at this; omega
    split at h
    · split at h
      · cases h
      · rename_i hu
        have := untilR_le hu
        split at h
        · cases h
        · split at h
          · cases h
          · simp only [Except.ok.injEq, Prod.mk.injEq] at h
            omega
    · cases h
theorem attributeX_at {L : List UInt8} {fr at_ o : Nat} {ap : Bool} {n v : List UInt8} {b : Nat} (h : attributeX L fr at_ o ap = .ok ((n, v), b)) : b ≤ L.length := by
  unfold attributeX at h
  split at h
  · cases h
  · split at h
    · cases h
    · split at h
      · cases h
      · split at h
        · cases h
        · split at h
          · cases h
          · rename_i hv
            simp only [Except.ok.injEq, Prod.mk.injEq] at h
            have := valueX_le hv
            omega
set_option maxHeartbeats 800000 in
set_option maxRecDepth 100000 in
theorem startTag_any (D : Nat) (s : ByteArray) (fr : Nat) (w0 : World) (h : DocW w0 D s fr fr) (hG : Gv w0) (hD : 11 ≤ D) (hat : fr + 1 ≤ s.size) (hs : s.size ≤ 1000000) :
    Calls Tryz.prog 98 #[.pointer (some ⟨D, 0, none⟩)] w0 fun e w' => StartPost D s fr w0 e w' := by
  have HN := Lib.hid fun w2 (hw : DocW w2 D s fr fr) => named_two D s ⟨#[60]⟩ fr fr w2 hw hat hs
  have HD := Lib.hid h
  have c1 := h.c1
  have HBK := Lib.hid fun a (ha : a ≤ s.size) w2 (hw : DocW w2 D s fr a) => blanks_any D s fr a w2 hw ha hs
  have HTK := Lib.hid fun a (ha : a ≤ s.size) w2 (hw : DocW w2 D s fr a) => take_any D s fr a 62 w2 hw ha hs
  have HNX := Lib.hid fun a (ha : a ≤ s.size) w2 (hw : DocW w2 D s fr a) => next_k D s fr a w2 hw ha
  have HAT := Lib.hid fun a o ap (ha : a ≤ s.size) (ho : o ≤ 1000000) w2 (hw : DocW w2 D s fr a) (hg : Gv w2) => attribute_two D s fr a o ap w2 hw hg hD ha hs ho
  have hDl := Lib.hid h.lt
  have hD1 : D ≠ w0.heap.size + 1 := by have := h.lt; omega
  clear h
  go_enter Tryz.func98, Tryz.ntmps98
  go_wp2
  refine wp_scope_ghost2 (TagJ D s fr w0) ?_ ?_
  · rintro l n a w ⟨x, r, HX, hJ⟩
    rcases hJ with ⟨rfl, T, ap, at_, f, acc, ⟨u1, u5, u6, u7, u8, u9, u10, u11, u12, u13, u14, u15, u16, u17, u18, u19, u20, u21, u22, u23, u24, u25, u26, u27, u28, u29, u30, u31, u32, u33, u34, u35, u36, u37, u38, u39, u40, u41, rfl⟩, rfl, hT, ha, hf, hf2, hr⟩ | ⟨rfl, T, ap, at_, acc, ⟨u1, u5, u6, u7, u8, u9, u10, u11, u12, u13, u14, u15, u16, u17, u18, u19, u20, u21, u22, u23, u24, u25, u26, u27, u28, u29, u30, u31, u32, u33, u34, u35, u36, u37, u38, u39, u40, u41, rfl⟩, rfl, hT, ha, hf2, hr⟩ | ⟨rfl, T, ap, at_, k, acc, ⟨u1, u5, u6, u7, u8, u9, u10, u11, u12, u13, u14, u15, u16, u17, u18, u19, u20, u21, u22, u23, u24, u25, u26, u27, u28, u29, u30, u31, u32, u33, u34, u35, u36, u37, u38, u39, u40, u41, rfl⟩, rfl, hT, ha, hf2, hr⟩ | ⟨rfl, T, ap, at_, f, acc, ⟨u1, u5, u6, u7, u8, u9, u10, u11, u12, u13, u14, u15, u16, u17, u18, u19, u20, u21, u22, u23, u24, u25, u26, u27, u28, u29, u30, u31, u32, u33, u34, u35, u36, u37, u38, u39, u40, u41, rfl⟩, rfl, hT, ha, hf, hf2, hr⟩
    · refine ⟨_, rfl, ?_⟩
      obtain ⟨f, rfl⟩ : ∃ f', f = f' + 1 := ⟨f - 1, by omega⟩
      have hbl := blankN_le s.data.toList at_ (by rw [lenL]; exact ha)
      rw [lenL] at hbl
      have hr' := Lib.hid ((attrsX_step s.data.toList fr f at_ acc).symm.trans hr.out)
      clear hr
      go_wp2_with fail
      refine (HBK.out at_ ha _ hT.out.doc).mono ?_
      rintro e w1 ⟨rfl, hk1, hd1⟩
      replace hT := Lib.hid (hT.out.step hk1 hd1 hDl.out)
      clear hk1 hd1
      go_wp2_with fail
      refine (HNX.out _ hbl _ hT.out.doc).mono ?_
      rintro e w2 ⟨he, hd2, hk2⟩
      replace hT := Lib.hid (hT.out.step hk2 hd2 hDl.out)
      clear hk2 hd2
      cases hl : s.data.toList.drop (at_ + blankN s.data.toList at_) with
      | nil =>
        obtain rfl := next_nil hl he
        have hr := hr'.out
        rw [hl] at hr
        exact ⟨rfl, HX.out.err hr.symm hT.out.keeps⟩
      | cons c q =>
        obtain rfl := next_cons hl he
        have hr := hr'.out
        rw [hl] at hr
        simp only at hr
        clear hr' he
        have hlt := drop_cons_len hl
        rw [lenL] at hlt
        by_cases h47 : c = 47
        · rw [if_pos h47] at hr
          subst h47
          have HR := Lib.hid hr
          clear hr hl
          go_wp2
          go_step3
          exact ⟨1, by omega, x, r, HX, .inr (.inl ⟨rfl, T, _, _, acc, ⟨_, _, _, _, _, _, _, _, _, _, _, _, _, _, _, _, _, _, _, _, _, _, _, _, _, _, _, _, _, _, _, _, _, _, _, _, _, _, rfl⟩, rfl, hT, hlt, hf2, HR⟩)⟩
        · rw [if_neg h47] at hr
          have n47 : ((c.toNat : Int) == 47) = false := by
            simp only [beq_eq_false_iff_ne, ne_eq]
            intro e
            exact h47 (UInt8.toNat_inj.1 (by simpa using (by omega : c.toNat = 47)))
          by_cases h62 : c = 62
          · rw [if_pos h62] at hr
            subst h62
            have HR := Lib.hid (show (match takeX s.data.toList fr (at_ + blankN s.data.toList at_) 62 with | .error e => .error e | .ok b => .ok ((1, acc), b) : Er ((Int × AL) × Nat)) = r by rw [takeX_at hl]; exact hr)
            clear hr hl h47 n47
            go_wp2
            go_step3
            exact ⟨0, by omega, x, r, HX, .inr (.inr (.inl ⟨rfl, T, _, _, 1, acc, ⟨_, _, _, _, _, _, _, _, _, _, _, _, _, _, _, _, _, _, _, _, _, _, _, _, _, _, _, _, _, _, _, _, _, _, _, _, _, _, rfl⟩, rfl, hT, Nat.le_of_lt hlt, hf2, HR⟩))⟩
          · rw [if_neg h62] at hr
            have n62 : ((c.toNat : Int) == 62) = false := by
              simp only [beq_eq_false_iff_ne, ne_eq]
              intro e
              exact h62 (UInt8.toNat_inj.1 (by simpa using (by omega : c.toNat = 62)))
            have HR := Lib.hid hr
            clear hr hl h47 h62
            go_wp2
            go_step3
            exact ⟨2 * f + 3, by omega, x, r, HX, .inr (.inr (.inr ⟨rfl, T, _, _, f, acc, ⟨_, _, _, _, _, _, _, _, _, _, _, _, _, _, _, _, _, _, _, _, _, _, _, _, _, _, _, _, _, _, _, _, _, _, _, _, _, _, rfl⟩, rfl, hT, Nat.le_of_lt hlt, by omega, hf2, HR⟩))⟩
    · refine ⟨_, rfl, ?_⟩
      obtain ⟨v, hv, hown⟩ := hT.out.ex
      have hd := hT.out.doc
      obtain ⟨q0, q1, q2, q3, q4, f0, f1, f2, f3, f4⟩ := five_cells hv
      have c2 := hd.c2
      have e2 := hd.f 2
      have hTD : T ≠ D := by have := hT.out.lt; have := hDl.out; omega
      clear hv hown hd q1 q2 q3 q4 f1 f2 f3 f4
      go_wp2
      go_step3
      have hT1 := hT.out.kind 3 hDl.out
      have hT2 := hT1.step ((Keeps.refl D _).setCell 2 (.int .i64 ((at_ : Int) + 1))) (hT1.doc.set2' (a := at_ + 1) rfl) hDl.out
      exact ⟨0, by omega, x, r, HX, .inr (.inr (.inl ⟨rfl, T, _, _, 3, acc, ⟨_, _, _, _, _, _, _, _, _, _, _, _, _, _, _, _, _, _, _, _, _, _, _, _, _, _, _, _, _, _, _, _, _, _, _, _, _, _, rfl⟩, rfl, Lib.hid hT2, ha, hf2, hr⟩))⟩
    · refine ⟨_, rfl, ?_⟩
      go_wp2_with fail
      refine (HTK.out _ ha _ hT.out.doc).mono ?_
      rintro e w1 ⟨hk1, he⟩
      cases hq : takeX s.data.toList fr at_ 62 with
      | error pe =>
        obtain ⟨p, c⟩ := pe
        have hr' := hr.out
        rw [hq] at hr' he
        obtain rfl := he
        exact ⟨rfl, HX.out.err hr'.symm (hT.out.keeps.trans hk1)⟩
      | ok b =>
        have hr' := hr.out
        rw [hq] at hr' he
        obtain ⟨rfl, hd1⟩ := he
        replace hT := Lib.hid (hT.out.step hk1 hd1 hDl.out)
        have HR := Lib.hid hr'
        clear hq hr' hr hk1 hd1
        obtain ⟨v, hv, hown⟩ := hT.out.ex
        rw [prs_len] at hown
        obtain ⟨q0, q1, q2, q3, q4, f0, f1, f2, f3, f4⟩ := five_cells hv
        obtain ⟨r0, r1, r2, r3, r4, g0, g1, g2, g3, g4⟩ := five_cells hT.out.rblk
        obtain ⟨A, cp, hsh⟩ := own_shape hown
        subst hsh
        have HOWN := Lib.hid hown
        clear hv hown f0 f1 f2 f3 f4
        go_wp2
        change bodyPost Tryz.prog Tryz.f98 (fun e w' => StartPost D s fr w0 e w') Exit.ret _ _
        refine bodyPost_ret (results_cell_row Tryz.results98 _ _ w0.heap.size 57 _ (0, 0) _ rfl (five_set hT.out.rblk _ _ _ _ _) Tryz.underlying57 rfl (by kernel_rfl)) rfl ?_
        have hRD : D ≠ w0.heap.size := by have := hDl.out; omega
        have hne := own_blk_ne HOWN.out hT.out.rblk (by decide)
        exact HX.out.ok HR.out.symm (((((hT.out.keeps.other (Nat.le_refl _) _ _).other (Nat.le_refl _) _ _).other (Nat.le_refl _) _ _).other (Nat.le_refl _) _ _).other (Nat.le_refl _) _ _) (Nat.le_refl _) (own_set (own_set (own_set (own_set (own_set HOWN.out hne _ _) hne _ _) hne _ _) hne _ _) hne _ _) hf2 (hT.out.doc.five hRD _ _ _ _ _)
    · refine ⟨_, rfl, ?_⟩
      obtain ⟨v, hv, hown⟩ := hT.out.ex
      rw [prs_len] at hown
      obtain ⟨A, cp, hsh⟩ := own_shape hown
      subst hsh
      obtain ⟨i0, hi, hz0, hz1, hz2⟩ := info_parts raw_info
      have c3 : w.cell? ⟨T, 3, none⟩ = some (.slice A acc.length cp) := blk_cell hv 3
      have f3 := blk_free hv 3
      have HV := Lib.hid hv
      have HO := Lib.hid hown
      have hGw := Lib.hid (hT.out.keeps.gv hG hD)
      have hTl := Lib.hid (blk_lt hv)
      have hTD : T ≠ D := by have := hT.out.lt; have := hDl.out; omega
      have HTD := Lib.hid hTD
      have hlw : w0.heap.size ≤ w.heap.size := hT.out.keeps.size
      clear hv hown hTD
      go_upto_region 7 with fail
      go_region_law (first
        | (have hq := HO1.out; clear hq; refine step_append_sl _ rfl (.tmp 21) (.tmp 28) _ rfl w0.heap.size 59 i0 _ 2 32 Tryz.underlying55 hi hz0 hz1 hz2 rfl (by omega) _ acc.length (cells2 (prs acc)) rfl (HO1.out.alloc _) (some ⟨w'.heap.size, 0, none⟩) 1 1 [.string x1, .string x2] rfl (Sl.lit w' 2 [.string x1, .string x2] _ 1 rfl) (cells2_one [(x1, x2)]) (by simp only [maxLen]; omega) (by omega) (by simp; omega) ?_; intro v4 w4 hown4 hg4 hat4; obtain ⟨A4, cp4, hsh4⟩ := own_shape hown4; subst hsh4; have HT4 := Lib.hid ((hT1.out).app2 hDl.out nn vv x1 x2 HX1.out HX2.out HV1.out HO1.out hown4 hg4); have c34 : w4.cell? ⟨T, 3, none⟩ = some (.slice A acc.length cp) := blk_cell (tag_grown HV1.out HO1.out hg4) 3; have f34 : w4.frozen? ⟨T, 3, none⟩ = false := blk_free (tag_grown HV1.out HO1.out hg4) 3; clear hown4 hg4 hat4)
        | (go_simp; go_at_call 138; refine (HAT.out at_ acc.length ap ha (by omega) _ hT.out.doc.drew hGw.out.drew).mono ?_; rintro e w' (⟨q, c, hn, rfl, hk⟩ | ⟨nn, vv, b, hn, rfl, hd, hk⟩) <;> replace hk := (Keeps.refl D w).drew.trans hk; (exact ⟨rfl, HX.out.err (hr.out.symm.trans (by rw [hn])) (hT.out.keeps.trans hk)⟩); have HO1 := Lib.hid (own_keeps HO.out hk hDl.out); have HV1 := Lib.hid ((hk.block T hTl.out HTD.out).trans HV.out); have c31 : w'.cell? ⟨T, 3, none⟩ = some (.slice A acc.length cp) := blk_cell HV1.out 3; have hT1 := Lib.hid (hT.out.step hk hd hDl.out); have hlw1 : w0.heap.size ≤ w'.heap.size := Nat.le_trans hlw hk.size; have HN1 := Lib.hid hn; clear hn hk hd; obtain ⟨x1, hx1⟩ : ∃ x1 : ByteArray, (⟨nn.toArray⟩ : ByteArray) = x1 := ⟨_, rfl⟩; obtain ⟨x2, hx2⟩ : ∃ x2 : ByteArray, (⟨vv.toArray⟩ : ByteArray) = x2 := ⟨_, rfl⟩; rw [hx1, hx2]; have HX1 := Lib.hid hx1; have HX2 := Lib.hid hx2; have c32 : (w'.alloc (.cells #[.string x1, .string x2] 59)).cell? ⟨T, 3, none⟩ = some (.slice A acc.length cp) := blk_cell ((Below.heap_alloc _ _ _ (blk_lt HV1.out)).trans HV1.out) 3; clear hx1 hx2))
      all_goals (
        clear c3 f3
        go_wp2_with fail
        go_step3
        refine ⟨2 * f + 2, by omega, x, r, HX, .inl ⟨rfl, T, _, b, f, acc ++ [(nn, vv)], ⟨_, _, _, _, _, _, _, _, _, _, _, _, _, _, _, _, _, _, _, _, _, _, _, _, _, _, _, _, _, _, _, _, _, _, _, _, _, _, rfl⟩, rfl, HT4, ?_, ?_, ?_, ?_⟩⟩
        · have := attributeX_at HN1.out
          rw [lenL] at this
          exact this
        · simp; omega
        · have := attributeX_le HN1.out
          simp; omega
        · refine Lib.hid ?_
          have h := hr.out
          rw [HN1.out] at h
          exact h)
  · intro here
    go_upto_region 1 with fail
    go_cut [3] (fun s3 wx => ∃ (T : Nat) (x : List UInt8) (a : Nat), s3 = .pointer (some ⟨T, 0, none⟩) ∧ w0.heap.size < T ∧ Hid (namedX s.data.toList fr (fr + 1) = .ok (x, a)) ∧ Hid (wx.heap[T]? = some (.cells (tokZ 1 fr ⟨x.toArray⟩ ⟨#[]⟩) 57 (0, 0))) ∧ Hid (wx.heap[w0.heap.size]? = some (.cells (tokZ 0 0 ⟨#[]⟩ ⟨#[]⟩) 57 (0, 0))) ∧ Hid (Keeps D w0 wx) ∧ Hid (DocW wx D s fr a))
    case first =>
      go_region_held2 (fun w' => w'.cell? ⟨D, 1, none⟩ = some (.int .i64 fr)) (with_reducible (first | exact HD.out.c1 | exact HD.out.drew.c1 | exact (HD.out.alloc _).c1 | exact ((HD.out.alloc _).drew).c1 | exact ((HD.out.alloc _).alloc _).drew.c1 | exact hd.c1 | exact (hd.alloc _).c1 | exact (hd.five hD1 _ _ _ _ _).c1))
        (first
          | (go_at_call 134; refine (HN.out (((w0.alloc _).alloc _).drew) ((HD.out.alloc _).alloc _).drew).mono ?_; rintro e w' (⟨q, c, hn, rfl, hk⟩ | ⟨x, a, hn, rfl, hd, hk⟩); (exact ⟨rfl, StartPost.bad hn ((((Keeps.refl D w0).alloc _).alloc _).drew.trans hk)⟩); obtain ⟨q0, q1, q2, q3, q4, f0, f1, f2, f3, f4⟩ := five_cells (hk.five (second_block w0 _ _) (by simp) (fun e => hD1 e.symm)))
          | (go_at_call 134; refine (HN.out _ (HD.out.alloc _).drew).mono ?_; rintro e w' (⟨q, c, hn, rfl, hk⟩ | ⟨x, a, hn, rfl, hd, hk⟩); (exact ⟨rfl, StartPost.bad hn (((Keeps.refl D w0).alloc _).drew.trans hk)⟩)))
      all_goals (go_wp2_with fail; go_meet)
      · have hl : w0.heap.size < w'.heap.size := Nat.lt_of_lt_of_le (by simp) hk.size
        have hr := hk.block w0.heap.size (by simp) (by have := hDl.out; omega)
        exact ⟨w'.heap.size, x, a, rfl, hl, Lib.hid hn, Lib.hid (first_block _ _), Lib.hid ((Below.heap_alloc _ _ _ hl).trans (hr.trans (first_block w0 _))), Lib.hid ((((Keeps.refl D w0).alloc _).drew.trans hk).alloc _), Lib.hid (hd.alloc _)⟩
      · have hr := hk.block w0.heap.size (by simp; omega) (by have := hDl.out; omega)
        refine ⟨w0.heap.size + 1, x, a, rfl, by omega, Lib.hid hn, Lib.hid (five_set (hk.five (second_block w0 _ _) (by simp) (fun e => hD1 e.symm)) _ _ _ _ _), Lib.hid ((five_other (by omega) _ _ _ _ _).trans (hr.trans (first_block2 w0 _ _))), Lib.hid ?_, Lib.hid (hd.five hD1 _ _ _ _ _)⟩
        exact ((((((((Keeps.refl D w0).alloc _).alloc _).drew.trans hk).other (by omega) _ _).other (by omega) _ _).other (by omega) _ _).other (by omega) _ _).other (by omega) _ _
    case rest =>
      obtain ⟨T, y, q, rfl, hT, h0, h1, h2, hk, hd⟩ := hcut
      have hq := namedX_le hat h0.out
      have HR : Hid (TagR s fr ⟨y.toArray⟩ (attrsX s.data.toList fr 67 q [])) := Lib.hid ⟨y, q, h0.out, rfl, rfl⟩
      have HT : Hid (TagW w0 D s fr q T 1 ⟨y.toArray⟩ (prs []) wc) := Lib.hid ⟨hk.out, hd.out, h2.out, hT, _, h1.out, World.ownsRow_nil _ _ _ _⟩
      clear h0 h1 h2 hk hd
      go_upto_region 3 with fail
      rename_i hK
      apply wp_label
      refine hK _ _ ?_
      have hJ := fun a (h : TagJ D s fr w0 0 (2 * 67 + 2) a wc) => here 0 _ a wc _ h rfl
      clear here
      exact hJ _ ⟨_, _, HR, .inl ⟨rfl, T, _, q, 67, [], ⟨_, _, _, _, _, _, _, _, _, _, _, _, _, _, _, _, _, _, _, _, _, _, _, _, _, _, _, _, _, _, _, _, _, _, _, _, _, _, rfl⟩, rfl, HT, hq, rfl, by simp, Lib.hid rfl⟩⟩
end Go.Proofs.YtjohfljkhlkjoaaGreatDoor

namespace Go.Proofs.YtjohfljkhlkjoaaGreatDoor
open Go.RowKit Wb
theorem hasp_any (s p : ByteArray) (l : List UInt8) (n : Nat) (hp : p.data.toList = l) (hn : l.length = n) (w : World) :
    Calls Tryz.prog 93 #[.string s, .string p] w fun e w' => e = .returned (.bool (decide (s.data.toList.take n = l))) ∧ w = w' := by
  subst hp hn
  refine (Tryz.strings_HasPrefix s p w).mono ?_
  rintro e w' ⟨rfl, rfl⟩
  exact ⟨by rw [show Lib.hasPrefix s.data.toList p.data.toList = p.data.toList.isPrefixOf s.data.toList from rfl, pre_take], rfl⟩
theorem upTo_two (D : Nat) (s p : ByteArray) (fr at_ : Nat) (w : World) (h : DocW w D s fr at_) (hG : Gv w) (hat : at_ ≤ s.size) (hs : s.size ≤ 1000000) (hp : p.data.toList ≠ []) (hps : p.size ≤ 1000) :
    Calls Tryz.prog 133 #[.pointer (some ⟨D, 0, none⟩), .string p] w fun e w' =>
      (upToX s.data.toList fr at_ p.data.toList = .error (fr, 2) ∧ e = .panicked [flt fr 2] ∧ Keeps D w w') ∨
      (∃ v a, upToX s.data.toList fr at_ p.data.toList = .ok (v, a) ∧ e = .returned (.string ⟨v.toArray⟩) ∧ DocW w' D s fr a ∧ Keeps D w w' ∧ a ≤ s.size ∧ v.length ≤ s.size) := by
  have hl : (s.data.toList.drop at_).length = s.size - at_ := by rw [List.length_drop, lenL]
  refine (upTo_any D s p fr at_ w h hG hat hs hp hps).mono ?_
  rintro e w' ⟨hk, he⟩
  rcases cut_until p.data.toList hp (s.data.toList.drop at_) with ⟨h1, _⟩ | ⟨n, v, h1, _, h3, h4⟩
  · have e1 : upToX s.data.toList fr at_ p.data.toList = .error (fr, 2) := by unfold upToX; rw [h1]
    rw [e1] at he
    exact .inl ⟨e1, he, hk⟩
  · have e1 : upToX s.data.toList fr at_ p.data.toList = .ok (v, at_ + n) := by unfold upToX; rw [h1]
    rw [e1] at he
    exact .inr ⟨v, at_ + n, e1, he.1, he.2, hk, by omega, by omega⟩
theorem comment_any (D : Nat) (s : ByteArray) (fr : Nat) (w : World) (h : DocW w D s fr fr) (hG : Gv w) (hD : 11 ≤ D) (hat : fr + 4 ≤ s.size) (hs : s.size ≤ 1000000) :
    Calls Tryz.prog 95 #[.pointer (some ⟨D, 0, none⟩)] w fun e w' => UnitOut D s fr (commentX s.data.toList fr) w e w' := by
  have HUP := Lib.hid fun w2 (hw : DocW w2 D s fr (fr + 4)) (hg : Gv w2) => upTo_two D s ⟨#[45, 45]⟩ fr (fr + 4) w2 hw hg hat hs (by simp) (by decide)
  have HK := Lib.hid ((Keeps.refl D w).setCell 2 (.int .i64 ((fr : Int) + 4)))
  have HD := Lib.hid (h.set2' (v := (fr : Int) + 4) (a := fr + 4) (by omega))
  have HG := Lib.hid (hG.setCell (a := ⟨D, 2, none⟩) hD (.int .i64 ((fr : Int) + 4)))
  have c2 := h.c2
  have f2 := h.f 2
  obtain ⟨r, hr⟩ : ∃ r, commentX s.data.toList fr = r := ⟨_, rfl⟩
  rw [hr]
  unfold commentX at hr
  have HR := Lib.hid hr
  clear h hr hG
  go_enter Tryz.func95, Tryz.ntmps95
  go_wp2_with fail
  refine (HUP.out _ HD.out HG.out).mono ?_
  rintro e w1 (⟨h1, rfl, hk1⟩ | ⟨v, a, h1, rfl, hd1, hk1, ha, hv⟩)
  · have hr := HR.out
    rw [h1] at hr
    exact ⟨rfl, HK.out.trans hk1, by rw [← hr]; exact rfl⟩
  · have hr := HR.out
    rw [h1] at hr
    simp only at hr
    have HR2 := Lib.hid hr
    replace HK := Lib.hid (HK.out.trans hk1)
    have hrs := rest_k D s fr a w1 hd1 ha
    have hex : (s.extract a s.size).data.toList = s.data.toList.drop a := by rw [extract_L, List.take_of_length_le (by simp)]
    generalize s.extract a s.size = z at hrs hex
    have HZ := Lib.hid hex
    clear hr h1 HR hk1 hd1 c2 f2 HD HG HUP hex
    go_wp2_with fail
    refine hrs.mono ?_
    rintro e w2 ⟨rfl, hd2, hk2⟩
    replace HK := Lib.hid (HK.out.trans hk2)
    have hph := hasp_any z ⟨#[62]⟩ [62] 1 rfl rfl w2
    rw [HZ.out] at hph
    have c1 := hd2.c1
    have c2 := hd2.c2
    have f2 := hd2.f 2
    have HD := Lib.hid hd2
    clear hk2 hd2 hrs
    by_cases h62 : (s.data.toList.drop a).take 1 = [62]
    · have hr := HR2.out
      rw [if_pos h62] at hr
      subst hr
      have hdl : a + 1 ≤ s.size := by
        have := congrArg List.length h62
        rw [List.length_take, List.length_drop, lenL] at this
        simp at this
        omega
      rw [decide_eq_true h62] at hph
      clear h62 HR2
      go_wp2_with fail
      refine hph.mono ?_
      rintro e w3 ⟨rfl, rfl⟩
      go_wp2
      go_end0
      exact ⟨HK.out.setCell 2 _, rfl, HD.out.set2' (by omega)⟩
    · have hr := HR2.out
      rw [if_neg h62] at hr
      subst hr
      rw [decide_eq_false h62] at hph
      clear h62 HR2
      go_wp2_with fail
      refine hph.mono ?_
      rintro e w3 ⟨rfl, rfl⟩
      go_wp2_with fail
      refine (fail_any fr 4 _).mono ?_
      rintro e w4 ⟨rfl, rfl⟩
      exact ⟨rfl, HK.out, rfl⟩
def SecPost (D : Nat) (s : ByteArray) (fr : Nat) (r : Er (Tk × Nat)) (w : World) (e : Ending) (w' : World) : Prop := Keeps D w w' ∧ match r with
      | .ok ((_, _, _, x), a) => e = .returned (.agg (tokZ 4 fr ⟨#[]⟩ ⟨x.toArray⟩)) ∧ DocW w' D s fr a
      | .error (p, c) => e = .panicked [flt p c]
set_option maxHeartbeats 1000000 in
theorem section_any (D : Nat) (s : ByteArray) (fr : Nat) (w : World) (h : DocW w D s fr fr) (hG : Gv w) (hD : 11 ≤ D) (hat : fr + 9 ≤ s.size) (hs : s.size ≤ 1000000) :
    Calls Tryz.prog 96 #[.pointer (some ⟨D, 0, none⟩)] w fun e w' => SecPost D s fr (sectionX s.data.toList fr) w e w' := by
  have HUP := Lib.hid fun w2 (hw : DocW w2 D s fr (fr + 9)) (hg : Gv w2) => upTo_two D s ⟨#[93, 93, 62]⟩ fr (fr + 9) w2 hw hg hat hs (by simp) (by decide)
  have HLN := Lib.hid fun (v : List UInt8) w2 (hg : Gv w2) (hv : v.length ≤ s.size) => lines_any ⟨v.toArray⟩ false w2 hg (by rw [Lib.size_eq]; show v.length ≤ _; omega)
  have HD := Lib.hid h
  have HG := Lib.hid hG
  have c2 : (w.alloc (.cells #[.int .i64 0, .int .i64 0, .string ⟨#[]⟩, .slice none 0 0, .string ⟨#[]⟩] 57)).cell? ⟨D, 2, none⟩ = some (.int .i64 fr) := (h.alloc _).c2
  have f2 : (w.alloc (.cells #[.int .i64 0, .int .i64 0, .string ⟨#[]⟩, .slice none 0 0, .string ⟨#[]⟩] 57)).frozen? ⟨D, 2, none⟩ = false := (h.alloc _).f 2
  have hDl := Lib.hid h.lt
  obtain ⟨r, hr⟩ : ∃ r, sectionX s.data.toList fr = r := ⟨_, rfl⟩
  rw [hr]
  unfold sectionX at hr
  have HR := Lib.hid hr
  have HZ := Lib.hid (show ((w.alloc (.cells #[.int .i64 0, .int .i64 0, .string ⟨#[]⟩, .slice none 0 0, .string ⟨#[]⟩] 57)).setCell ⟨D, 2, none⟩ (.int .i64 ((fr : Int) + 9))).heap[w.heap.size]? = some (.cells (tokZ 0 0 ⟨#[]⟩ ⟨#[]⟩) 57 (0, 0)) from (Below.heap_setCell _ _ _ _ (by have := h.lt; simp; omega)).trans (first_block w _))
  have HD2 := Lib.hid ((h.alloc (.cells #[.int .i64 0, .int .i64 0, .string ⟨#[]⟩, .slice none 0 0, .string ⟨#[]⟩] 57)).set2' (v := (fr : Int) + 9) (a := fr + 9) (by omega))
  have HK := Lib.hid (((Keeps.refl D w).alloc (.cells #[.int .i64 0, .int .i64 0, .string ⟨#[]⟩, .slice none 0 0, .string ⟨#[]⟩] 57)).setCell 2 (.int .i64 ((fr : Int) + 9)))
  have HZl : w.heap.size < ((w.alloc (.cells #[.int .i64 0, .int .i64 0, .string ⟨#[]⟩, .slice none 0 0, .string ⟨#[]⟩] 57)).setCell ⟨D, 2, none⟩ (.int .i64 ((fr : Int) + 9))).heap.size := blk_lt HZ.out
  clear h hr HD
  go_enter Tryz.func96, Tryz.ntmps96
  go_upto_region 2 with fail
  generalize World.setCell _ _ _ = wx at *
  have HG2 := Lib.hid (HK.out.gv hG hD)
  have HRD : w.heap.size ≠ D := by have := hDl.out; omega
  have HRD' := Lib.hid HRD
  have hDR : D ≠ w.heap.size := fun e => HRD e.symm
  have HZl' := Lib.hid HZl
  clear c2 f2 HG HRD HZl
  go_region_held2 (fun w' => w'.cell? ⟨D, 1, none⟩ = some (.int .i64 fr)) (with_reducible (first | exact HD2.out.c1 | exact HD2.out.drew.c1 | exact hd.c1 | exact hdl.c1 | exact (hdl.five hDR _ _ _ _ _).c1))
    (first
      | (go_at_call 133; refine (HUP.out _ HD2.out.drew HG2.out.drew).mono ?_; rintro e w' (⟨h1, rfl, hk⟩ | ⟨v, a, h1, rfl, hd, hk, ha, hv⟩); (exact ⟨rfl, HK.out.drew.trans hk, by have hr := HR.out; rw [h1] at hr; rw [← hr]; exact rfl⟩))
      | (go_at_call 63; refine (HLN.out v _ ((HK.out.drew.trans hk).gv hG hD) hv).mono ?_; rintro e wl ⟨rfl, hbl⟩; have hdl := hd.below hbl; have HZ3 := ((Keeps.of_below (D := D) hbl).block _ (Nat.lt_of_lt_of_le HZl'.out hk.size) HRD'.out).trans ((hk.block _ HZl'.out HRD'.out).trans HZ.out); obtain ⟨q0, q1, q2, q3, q4, f0, f1, f2, f3, f4⟩ := five_cells HZ3; have HZ4 := Lib.hid HZ3; clear HZ3))
  all_goals (
    go_wp2
    refine bodyPost_ret (results_cell_row Tryz.results96 _ _ w.heap.size 57 _ (0, 0) _ rfl (five_set HZ4.out _ _ _ _ _) Tryz.underlying57 rfl (by kernel_rfl)) rfl ?_
    refine ⟨(((((((HK.out.drew.trans hk).next hbl).other (Nat.le_refl _) _ _).other (Nat.le_refl _) _ _).other (Nat.le_refl _) _ _).other (Nat.le_refl _) _ _).other (Nat.le_refl _) _ _), ?_⟩
    have hr := HR.out
    rw [h1] at hr
    simp only at hr
    rw [← hr]
    exact ⟨rfl, hdl.five hDR _ _ _ _ _⟩)
end Go.Proofs.YtjohfljkhlkjoaaGreatDoor

namespace Go.Proofs.YtjohfljkhlkjoaaGreatDoor
open Go.RowKit Wb
theorem unescape_two (s : ByteArray) (attr : Bool) (at_ : Nat) (w : World) (hG : Gv w) (hs : s.size ≤ 100000000) (hat : at_ ≤ 100000000) :
    Calls Tryz.prog 31 #[.string s, .bool attr, .int .i64 at_] w fun e w' =>
      (∃ p, unL attr (s.size + 1) s.data.toList at_ = .error p ∧ e = .panicked [flt p 16] ∧ Below w.heap.size w w') ∨ (∃ x, unL attr (s.size + 1) s.data.toList at_ = .ok x ∧ e = .returned (.string ⟨x.toArray⟩) ∧ Below w.heap.size w w') := by
  refine (unescape_any s attr at_ w hG hs hat).mono ?_
  rintro e w' ⟨he, hb⟩
  cases hu : unL attr (s.size + 1) s.data.toList at_ with
  | error p => rw [hu] at he; exact .inl ⟨p, rfl, he, hb⟩
  | ok x => rw [hu] at he; exact .inr ⟨x, rfl, he, hb⟩
theorem until60 : ∀ l : List UInt8, (untilR [60] l = none → l.takeWhile (· != 60) = l) ∧ (∀ n v, untilR [60] l = some (n, v) → l.takeWhile (· != 60) = v)
  | [] => by
    constructor
    · intro _; rfl
    · intro n v h
      unfold untilR at h
      rw [if_neg (by simp)] at h
      cases h
  | c :: l => by
    obtain ⟨h1, h2⟩ := until60 l
    by_cases hc : c = 60
    · subst hc
      have e : untilR [60] (60 :: l) = some (1, []) := by unfold untilR; rw [if_pos (by rfl)]; rfl
      rw [e]
      refine ⟨fun h => (by cases h), fun n v h => ?_⟩
      simp only [Option.some.injEq, Prod.mk.injEq] at h
      rw [← h.2]
      simp
    · have e : untilR [60] (c :: l) = match untilR [60] l with | none => none | some (n, v) => some (n + 1, c :: v) := by
        conv => lhs; unfold untilR
        rw [if_neg (by simpa using hc)]
        cases untilR [60] l <;> rfl
      rw [e, List.takeWhile_cons_of_pos (by simpa using hc)]
      cases hu : untilR [60] l with
      | none => exact ⟨fun _ => by rw [h1 hu], fun n v h => by cases h⟩
      | some nv =>
        obtain ⟨n, v⟩ := nv
        refine ⟨fun h => (by cases h), fun n' v' h => ?_⟩
        simp only [Option.some.injEq, Prod.mk.injEq] at h
        rw [h2 n v hu, ← h.2]
theorem cut60 (l : List UInt8) : (Lib.cut l [60]).1 = l.takeWhile (· != 60) := by
  rcases cut_until [60] (by simp) l with ⟨h1, h2⟩ | ⟨n, v, h1, h2, _⟩
  · rw [h2, (until60 l).1 h1]
  · rw [h2, (until60 l).2 n v h1]
theorem index_cd : ∀ l : List UInt8, (Lib.index l [93, 93, 62] = -1 ∧ cdAt l = none) ∨ ∃ k : Nat, Lib.index l [93, 93, 62] = k ∧ cdAt l = some k ∧ k ≤ l.length
  | [] => .inl ⟨rfl, rfl⟩
  | c :: l => by
    by_cases h : (c :: l).take 3 = [93, 93, 62]
    · right
      refine ⟨0, ?_, ?_, by omega⟩
      · unfold Lib.index
        rw [if_pos (by rw [pre_take]; exact decide_eq_true h)]
        rfl
      · unfold cdAt
        rw [if_pos h]
    · have e : Lib.index (c :: l) [93, 93, 62] = if Lib.index l [93, 93, 62] == -1 then -1 else Lib.index l [93, 93, 62] + 1 := by
        conv => lhs; unfold Lib.index
        rw [if_neg (by rw [pre_take]; simpa using h)]
      rcases index_cd l with ⟨h1, h2⟩ | ⟨k, h1, h2, h3⟩
      · left
        refine ⟨by rw [e, h1]; rfl, ?_⟩
        unfold cdAt
        rw [if_neg h, h2]
        rfl
      · right
        refine ⟨k + 1, ?_, ?_, by simp; omega⟩
        · rw [e, h1, if_neg (by simp)]
          rfl
        · unfold cdAt
          rw [if_neg h, h2]
          rfl
set_option maxHeartbeats 1000000 in
theorem dtext_any (D : Nat) (s : ByteArray) (fr : Nat) (w : World) (h : DocW w D s fr fr) (hG : Gv w) (hD : 11 ≤ D) (hat : fr ≤ s.size) (hs : s.size ≤ 1000000) :
    Calls Tryz.prog 92 #[.pointer (some ⟨D, 0, none⟩)] w fun e w' => SecPost D s fr (textX s.data.toList fr) w e w' := by
  have hZ0 := first_block w (.cells (tokZ 0 0 ⟨#[]⟩ ⟨#[]⟩) 57)
  have HK := Lib.hid ((Keeps.refl D w).alloc (.cells (tokZ 0 0 ⟨#[]⟩ ⟨#[]⟩) 57))
  have HD := Lib.hid (h.alloc (.cells (tokZ 0 0 ⟨#[]⟩ ⟨#[]⟩) 57))
  have HG := Lib.hid (hG.alloc (.cells (tokZ 0 0 ⟨#[]⟩ ⟨#[]⟩) 57))
  have hrs := rest_k D s fr fr _ HD.out hat
  have hDl := Lib.hid h.lt
  have hex : (s.extract fr s.size).data.toList = s.data.toList.drop fr := by rw [extract_L, List.take_of_length_le (by simp)]
  have hzs : (s.extract fr s.size).size ≤ 1000000 := by simp; omega
  obtain ⟨z, hz⟩ : ∃ z, s.extract fr s.size = z := ⟨_, rfl⟩
  rw [hz] at hrs hex hzs
  obtain ⟨r, hr⟩ : ∃ r, textX s.data.toList fr = r := ⟨_, rfl⟩
  rw [hr]
  unfold textX at hr
  rw [← hex] at hr
  have HR := Lib.hid hr
  have HZ := Lib.hid hZ0
  clear h hr hz hex hZ0
  unfold tokZ at HK HD HG HZ hrs
  go_enter Tryz.func92, Tryz.ntmps92
  go_wp2_with fail
  refine hrs.mono ?_
  rintro e w1 ⟨rfl, hd1, hk1⟩
  have hG1 := hk1.gv HG.out hD
  have hct := scut_any z ⟨#[60]⟩ w1 hG1 (by omega)
  replace HK := Lib.hid (HK.out.trans hk1)
  have HZ1 := Lib.hid ((hk1.block _ (blk_lt HZ.out) (by have := hDl.out; omega)).trans HZ.out)
  have HG1 := Lib.hid hG1
  have HD1 := Lib.hid hd1
  obtain ⟨n, hn⟩ : ∃ n : ByteArray, (⟨(Lib.cut z.data.toList [60]).1.toArray⟩ : ByteArray) = n := ⟨_, rfl⟩
  obtain ⟨y, hy⟩ : ∃ y : ByteArray, (⟨(Lib.cut z.data.toList [60]).2.1.toArray⟩ : ByteArray) = y := ⟨_, rfl⟩
  obtain ⟨b, hb⟩ : ∃ b, (Lib.cut z.data.toList [60]).2.2 = b := ⟨_, rfl⟩
  have hnl : n.data.toList = z.data.toList.takeWhile (· != 60) := by rw [← hn, ← cut60]
  have hns : n.size ≤ z.size := by
    rw [Lib.size_eq n, Lib.size_eq z, hnl]
    exact tw_le _ _
  change Calls _ _ _ _ (fun e w' => e = .returned (.tuple #[.string ⟨(Lib.cut z.data.toList [60]).1.toArray⟩, .string ⟨(Lib.cut z.data.toList [60]).2.1.toArray⟩, .bool (Lib.cut z.data.toList [60]).2.2]) ∧ ∃ n, w' = w1.drewN n) at hct
  rw [hn, hy, hb] at hct
  have hr := HR.out
  rw [← hnl] at hr
  have HR2 := Lib.hid hr
  have HNL := Lib.hid hnl
  clear HD HZ hrs hk1 hG1 hd1 hn hy hb hnl hr HR HG
  go_wp2_with fail
  refine hct.mono ?_
  rintro e w2 ⟨rfl, m, rfl⟩
  have hix : Calls Tryz.prog 128 #[.string n, .string ⟨#[93, 93, 62]⟩] (w1.drewN m) fun e w' => e = .returned (.int .i64 (Lib.index n.data.toList [93, 93, 62])) ∧ w' = w1.drewN m := by
    obtain ⟨mm, hm⟩ := (HG1.out.drewN m).ml
    exact Tryz.strings_Index n ⟨#[93, 93, 62]⟩ mm (w1.drewN m) (by omega) hm
  replace HK := Lib.hid (HK.out.trans (Keeps.drewN D w1 m))
  replace HG1 := Lib.hid (HG1.out.drewN m)
  replace HD1 := Lib.hid (HD1.out.drewN m)
  replace HZ1 := Lib.hid (show (w1.drewN m).heap[w.heap.size]? = _ from HZ1.out)
  generalize w1.drewN m = w2 at *
  clear hct
  rcases index_cd n.data.toList with ⟨h1, h2⟩ | ⟨k, h1, h2, h3⟩
  · rw [h1] at hix
    have hr := HR2.out
    rw [h2] at hr
    simp only at hr
    have HR := Lib.hid hr
    clear h1 h2 hr HR2
    go_wp2_with fail
    refine hix.mono ?_
    rintro e w3 ⟨rfl, rfl⟩
    have c2 := HD1.out.c2
    have f2 := HD1.out.f 2
    have HD2 := Lib.hid (HD1.out.set2' (v := (fr : Int) + (n.size : Int)) (a := fr + n.size) (by omega))
    have HK2 := Lib.hid (HK.out.setCell 2 (.int .i64 ((fr : Int) + (n.size : Int))))
    have hDR : D ≠ w.heap.size := by have := hDl.out; omega
    have HZ2 := Lib.hid (show (w3.setCell ⟨D, 2, none⟩ (.int .i64 ((fr : Int) + (n.size : Int)))).heap[w.heap.size]? = _ from (Below.heap_setCell _ _ _ _ (by simp; omega)).trans HZ1.out)
    have b1 : (n.size : Int) ≤ 1000000 := by omega
    have b2 : (fr : Int) ≤ 1000000 := by omega
    clear HD1 HK HZ1 HG1
    go_upto_region 7 with fail
    generalize World.setCell _ _ _ = wx at *
    have HG2 := Lib.hid (HK2.out.gv hG hD)
    have HU := Lib.hid fun wu (hg : Gv wu) => unescape_two n false fr wu hg (by omega) (by omega)
    have HZl := Lib.hid (blk_lt HZ2.out)
    have HRD := Lib.hid (fun e => hDR e.symm : w.heap.size ≠ D)
    clear c2 f2
    go_region_held2 (fun w' => w'.cell? ⟨D, 1, none⟩ = some (.int .i64 fr)) (with_reducible (first | exact HD2.out.c1 | exact HD2.out.drew.c1 | exact hdl.c1 | exact (hdl.five hDR _ _ _ _ _).c1))
      (first | (go_at_call 31; refine (HU.out _ HG2.out.drew).mono ?_; rintro e wl (⟨q, hu, rfl, hbl⟩ | ⟨x, hu, rfl, hbl⟩); (exact ⟨rfl, HK2.out.drew.next hbl, by have hr := HR.out; rw [← Lib.size_eq, hu] at hr; rw [← hr]; exact rfl⟩); have hdl := HD2.out.drew.below hbl; have HZ3 := (hbl.block _ HZl.out).trans HZ2.out; obtain ⟨q0, q1, q2, q3, q4, f0, f1, f2, f3, f4⟩ := five_cells HZ3; have HZ4 := Lib.hid HZ3; clear HZ3))
    all_goals (
      go_wp2
      refine bodyPost_ret (results_cell_row Tryz.results92 _ _ w.heap.size 57 _ (0, 0) _ rfl (five_set HZ4.out _ _ _ _ _) Tryz.underlying57 rfl (by kernel_rfl)) rfl ?_
      refine ⟨(((((HK2.out.drew.next hbl).other (Nat.le_refl _) _ _).other (Nat.le_refl _) _ _).other (Nat.le_refl _) _ _).other (Nat.le_refl _) _ _).other (Nat.le_refl _) _ _, ?_⟩
      have hr := HR.out
      rw [← Lib.size_eq, hu] at hr
      simp only at hr
      rw [← hr]
      exact ⟨rfl, hdl.five hDR _ _ _ _ _⟩)
  · rw [h1] at hix
    have hr := HR2.out
    rw [h2] at hr
    simp only at hr
    have HR := Lib.hid hr
    clear h1 h2 hr HR2
    have c2 := HD1.out.c2
    rw [← Lib.size_eq] at h3
    have g0 : (0 : Int) ≤ (k : Int) := by omega
    have g1 : (k : Int) ≤ (n.size : Int) := by omega
    go_wp2_with fail
    refine hix.mono ?_
    rintro e w3 ⟨rfl, rfl⟩
    go_upto_region 4 with fail
    have hxs : (n.extract 0 k).size = k := by simp; omega
    have hxl : (n.extract 0 k).data.toList = n.data.toList.take k := by rw [extract_L]; rfl
    have HU := Lib.hid fun wu (hg : Gv wu) => unescape_two (n.extract 0 k) false fr wu hg (by omega) (by omega)
    rw [hxs, hxl] at HU
    have HKK := Lib.hid HK.out
    go_region_law (first
      | (go_simp; go_at_call 31; refine (HU.out _ HG1.out.drew).mono ?_; rintro e wl (⟨q, hu, rfl, hbl⟩ | ⟨x, hu, rfl, hbl⟩); (exact ⟨rfl, HK.out.drew.next hbl, by have hr := HR.out; rw [hu] at hr; rw [← hr]; exact rfl⟩); have c2l := (HD1.out.drew.below hbl).c2))
    all_goals (
      go_wp2_with fail
      refine (fail_any ((fr : Int) + (k : Int)) 11 _).mono ?_
      rintro e w4 ⟨rfl, rfl⟩
      refine ⟨rfl, HK.out.drew.next hbl, ?_⟩
      have hr := HR.out
      rw [hu] at hr
      simp only at hr
      rw [← hr]
      exact rfl)
end Go.Proofs.YtjohfljkhlkjoaaGreatDoor

namespace Wb
def decU (l : List UInt8) : Nat × Nat := if (dec l).2 = 0 then (65533, 1) else ((dec l).1.toNat, (dec l).2.toNat)
def decL (b0 : Nat) (l : List UInt8) : Nat × Nat :=
  let a (k : Nat) : Nat := (l[k]?.getD 0).toNat
  let cont (k : Nat) : Bool := decide (k < l.length) && a k / 64 == 2
  if b0 < 0x80 then (b0, 1)
  else if b0 / 32 == 6 && cont 0 then
    let c := (b0 % 32) * 64 + a 0 % 64
    if c ≥ 0x80 then (c, 2) else (65533, 1)
  else if b0 / 16 == 14 && cont 0 && cont 1 then
    let c := (b0 % 16) * 4096 + (a 0 % 64) * 64 + a 1 % 64
    if c ≥ 0x800 && Go.Utf8.valid c then (c, 3) else (65533, 1)
  else if b0 / 8 == 30 && cont 0 && cont 1 && cont 2 then
    let c := (b0 % 8) * 262144 + (a 0 % 64) * 4096 + (a 1 % 64) * 64 + a 2 % 64
    if c ≥ 0x10000 && Go.Utf8.valid c then (c, 4) else (65533, 1)
  else (65533, 1)
theorem get_bang (s : ByteArray) (j : Nat) : s.get! j = (s.data.toList[j]?).getD 0 := by
  show s.data[j]! = _
  rw [getElem!_def, ← Array.getElem?_toList]
  cases s.data.toList[j]? <;> rfl
theorem decode_L (s : ByteArray) (i : Nat) (c : UInt8) (l : List UInt8) (h : s.data.toList.drop i = c :: l) : Go.Utf8.decode s i = decL c.toNat l := by
  have hs : s.size = s.data.toList.length := by simp
  have hlen : i + (l.length + 1) = s.size := by
    have := congrArg List.length h
    rw [List.length_drop] at this
    simp only [List.length_cons] at this
    omega
  have ha : ∀ k, (s.get! (i + k)) = ((c :: l)[k]?).getD 0 := by
    intro k
    rw [get_bang, ← h, List.getElem?_drop]
  have h0 : (s.get! (i + 0)) = c := by rw [ha]; rfl
  have h1 : (s.get! (i + 1)) = (l[0]?).getD 0 := by rw [ha]; rfl
  have h2 : (s.get! (i + 2)) = (l[1]?).getD 0 := by rw [ha]; rfl
  have h3 : (s.get! (i + 3)) = (l[2]?).getD 0 := by rw [ha]; rfl
  have l1 : decide (i + 1 < s.size) = decide (0 < l.length) := decide_eq_decide.2 (by omega)
  have l2 : decide (i + 2 < s.size) = decide (1 < l.length) := decide_eq_decide.2 (by omega)
  have l3 : decide (i + 3 < s.size) = decide (2 < l.length) := decide_eq_decide.2 (by omega)
  unfold Go.Utf8.decode decL Go.Utf8.runeError
  simp only [h0, h1, h2, h3, l1, l2, l3]
theorem valid_sgn (r : Int) : Go.Utf8.valid r = sgn r := by
  unfold Go.Utf8.valid sgn
  rw [Bool.eq_iff_iff]
  simp only [Bool.or_eq_true, Bool.and_eq_true, decide_eq_true_eq]
  omega
theorem decU_zero {c : UInt8} {l : List UInt8} (h : fsz c.toNat = 0) : decU (c :: l) = (65533, 1) := by
  unfold decU dec
  simp only [h, if_pos]
theorem decU_none {c : UInt8} {l : List UInt8} {k : Nat} (h : fsz c.toNat = k) (hk : k ≠ 0) (hn : decN (fbt c.toNat) (k - 1) l = none) : decU (c :: l) = (65533, 1) := by
  have e : dec (c :: l) = (0, 0) := by
    unfold dec
    simp only [h, Int.toNat_natCast, hn]
    rw [if_neg (by omega)]
  unfold decU
  rw [e]
  rfl
theorem decU_some {c : UInt8} {l : List UInt8} {k : Nat} {r : Int} (h : fsz c.toNat = k) (hk : k ≠ 0) (hn : decN (fbt c.toNat) (k - 1) l = some r) : decU (c :: l) = if slen r = k then (r.toNat, k) else (65533, 1) := by
  have e : dec (c :: l) = if slen r = k then (r, (k : Int)) else (0, 0) := by
    unfold dec
    simp only [h, Int.toNat_natCast, hn]
    rw [if_neg (by omega)]
  unfold decU
  rw [e]
  by_cases hs : slen r = k
  · simp only [if_pos hs]
    rw [if_neg (by omega)]
    simp
  · simp only [if_neg hs]
    rfl
theorem decN_one (r : Int) (l : List UInt8) : decN r 1 l = if (decide (0 < l.length) && (l[0]?.getD 0).toNat / 64 == 2) = true then some (r * 64 + ((l[0]?.getD 0).toNat % 64 : Nat)) else none := by
  cases l with
  | nil => rfl
  | cons d l =>
    by_cases g : d.toNat / 64 = 2
    · simp [decN, g, show ((d.toNat : Int) / 64 = 2) from by omega]
    · simp [decN, g, show ¬ ((d.toNat : Int) / 64 = 2) from by omega]
theorem decN_more (r : Int) (k : Nat) (l : List UInt8) : decN r (k + 1) l = if (decide (0 < l.length) && (l[0]?.getD 0).toNat / 64 == 2) = true then decN (r * 64 + ((l[0]?.getD 0).toNat % 64 : Nat)) k (l.drop 1) else none := by
  cases l with
  | nil => rfl
  | cons d l =>
    by_cases g : d.toNat / 64 = 2
    · simp [decN, g, show ((d.toNat : Int) / 64 = 2) from by omega]
    · simp [decN, g, show ¬ ((d.toNat : Int) / 64 = 2) from by omega]
theorem drop1 (l : List UInt8) (k : Nat) : (l.drop 1)[k]? = l[k + 1]? := by rw [List.getElem?_drop, Nat.add_comm]
theorem dropl (l : List UInt8) (k : Nat) : decide (k < (l.drop 1).length) = decide (k + 1 < l.length) := decide_eq_decide.2 (by rw [List.length_drop]; omega)
theorem slen_is (v : Nat) : slen v = if sgn v = true then (if v < 128 then 1 else if v < 2048 then 2 else if v < 65536 then 3 else 4) else 0 := by
  have e1 : ((v : Int) < 128) = (v < 128) := propext (by omega)
  have e2 : ((v : Int) < 2048) = (v < 2048) := propext (by omega)
  have e3 : ((v : Int) < 65536) = (v < 65536) := propext (by omega)
  unfold slen
  simp only [e1, e2, e3]
theorem fin2 (v : Nat) (hv : v < 2048) : (if v ≥ 128 then (v, 2) else (65533, 1)) = if slen v = (2 : Nat) then ((v : Int).toNat, 2) else (65533, 1) := by
  have hs : sgn v = true := (sgn_iff _).2 (by omega)
  rw [slen_is, if_pos hs]
  by_cases h : v < 128
  · rw [if_pos h, if_neg (by omega), if_neg (by omega)]
  · have e : (if v < 128 then (1 : Int) else if v < 2048 then 2 else if v < 65536 then 3 else 4) = (2 : Nat) := by rw [if_neg h, if_pos hv]; rfl
    rw [if_pos e, if_pos (by omega)]
    rfl
theorem fin3 (v : Nat) (hv : v < 65536) : (if (decide (v ≥ 2048) && Go.Utf8.valid v) = true then (v, 3) else (65533, 1)) = if slen v = (3 : Nat) then ((v : Int).toNat, 3) else (65533, 1) := by
  rw [valid_sgn, slen_is]
  by_cases hs : sgn v = true
  · rw [if_pos hs, hs, Bool.and_true]
    by_cases h : v < 2048
    · rw [decide_eq_false (by omega), if_neg (by decide), if_neg]
      split
      · omega
      · omega
    · have e : (if v < 128 then (1 : Int) else if v < 2048 then 2 else if v < 65536 then 3 else 4) = (3 : Nat) := by rw [if_neg (by omega), if_neg h, if_pos hv]; rfl
      rw [decide_eq_true (by omega), if_pos rfl, if_pos e]
      rfl
  · rw [if_neg hs, Bool.eq_false_iff.2 hs, Bool.and_false, if_neg (by decide), if_neg (by omega)]
theorem fin4 (v : Nat) : (if (decide (v ≥ 65536) && Go.Utf8.valid v) = true then (v, 4) else (65533, 1)) = if slen v = (4 : Nat) then ((v : Int).toNat, 4) else (65533, 1) := by
  rw [valid_sgn, slen_is]
  by_cases hs : sgn v = true
  · rw [if_pos hs, hs, Bool.and_true]
    by_cases h : v < 65536
    · rw [decide_eq_false (by omega), if_neg (by decide), if_neg]
      split
      · omega
      · split <;> omega
    · have e : (if v < 128 then (1 : Int) else if v < 2048 then 2 else if v < 65536 then 3 else 4) = (4 : Nat) := by rw [if_neg (by omega), if_neg (by omega), if_neg h]; rfl
      rw [decide_eq_true (by omega), if_pos rfl, if_pos e]
      rfl
  · rw [if_neg hs, Bool.eq_false_iff.2 hs, Bool.and_false, if_neg (by decide), if_neg (by omega)]
theorem arith3 (a b c : Nat) : ((a : Int) * 64 + (b : Nat)) * 64 + (c : Nat) = ((a * 4096 + b * 64 + c : Nat) : Int) := by omega
theorem arith4 (a b c d : Nat) : (((a : Int) * 64 + (b : Nat)) * 64 + (c : Nat)) * 64 + (d : Nat) = ((a * 262144 + b * 4096 + c * 64 + d : Nat) : Int) := by omega
theorem decL_U (c : UInt8) (l : List UInt8) : decL c.toNat l = decU (c :: l) := by
  have hc := c.toNat_lt
  by_cases h1 : c.toNat < 128
  · have hf : fsz c.toNat = (1 : Nat) := by unfold fsz; rw [if_pos (by omega)]; rfl
    have hb : fbt c.toNat = c.toNat := by unfold fbt; rw [if_pos (by omega)]
    have hl : slen c.toNat = (1 : Nat) := by unfold slen; rw [if_pos ((sgn_iff _).2 (by omega)), if_pos (by omega)]; rfl
    rw [decU_some hf (by omega) (r := c.toNat) (by rw [hb]; rfl), if_pos hl]
    unfold decL
    simp [h1]
  · by_cases h2 : c.toNat / 32 = 6
    · have hf : fsz c.toNat = (2 : Nat) := by unfold fsz; rw [if_neg (by omega), if_pos (by omega)]; rfl
      have hb : fbt c.toNat = (c.toNat % 32 : Nat) := by unfold fbt; rw [if_neg (by omega), if_pos (by omega)]; omega
      unfold decL
      simp only [if_neg h1, h2, beq_self_eq_true, Bool.true_and]
      have hn := decN_one (c.toNat % 32 : Nat) l
      by_cases g1 : (decide (0 < l.length) && (l[0]?.getD 0).toNat / 64 == 2) = true
      · rw [if_pos g1] at hn ⊢
        rw [decU_some hf (by omega) (r := (c.toNat % 32 * 64 + (l[0]?.getD 0).toNat % 64 : Nat)) (by rw [hb, hn]; congr 1), fin2 _ (by omega)]
      · rw [if_neg g1] at hn ⊢
        rw [decU_none hf (by omega) (by rw [hb]; exact hn)]
        simp [show ¬ c.toNat / 16 = 14 from by omega, show ¬ c.toNat / 8 = 30 from by omega]
    · by_cases h3 : c.toNat / 16 = 14
      · have hf : fsz c.toNat = (3 : Nat) := by unfold fsz; rw [if_neg (by omega), if_neg (by omega), if_pos (by omega)]; rfl
        have hb : fbt c.toNat = (c.toNat % 16 : Nat) := by unfold fbt; rw [if_neg (by omega), if_neg (by omega), if_pos (by omega)]; omega
        unfold decL
        simp only [if_neg h1, h3, beq_self_eq_true, Bool.true_and]
        rw [if_neg (by simp [h2])]
        have hn := decN_more (c.toNat % 16 : Nat) 1 l
        rw [decN_one, drop1, dropl] at hn
        by_cases g1 : (decide (0 < l.length) && (l[0]?.getD 0).toNat / 64 == 2) = true
        · rw [if_pos g1] at hn
          rw [g1, Bool.true_and]
          by_cases g2 : (decide (0 + 1 < l.length) && (l[0 + 1]?.getD 0).toNat / 64 == 2) = true
          · rw [if_pos g2] at hn
            rw [if_pos g2, decU_some hf (by omega) (r := (c.toNat % 16 * 4096 + (l[0]?.getD 0).toNat % 64 * 64 + (l[1]?.getD 0).toNat % 64 : Nat)) (by rw [hb, hn]; exact congrArg some (arith3 _ _ _)), fin3 _ (by omega)]
          · rw [if_neg g2] at hn
            rw [if_neg g2, decU_none hf (by omega) (by rw [hb]; exact hn)]
            simp [show ¬ c.toNat / 8 = 30 from by omega]
        · rw [if_neg g1] at hn
          have g1' := Bool.eq_false_iff.2 g1
          rw [g1', decU_none hf (by omega) (by rw [hb]; exact hn)]
          simp
      · by_cases h4 : c.toNat / 8 = 30
        · have hf : fsz c.toNat = (4 : Nat) := by unfold fsz; rw [if_neg (by omega), if_neg (by omega), if_neg (by omega), if_pos (by omega)]; rfl
          have hb : fbt c.toNat = (c.toNat % 8 : Nat) := by unfold fbt; rw [if_neg (by omega), if_neg (by omega), if_neg (by omega), if_pos (by omega)]; omega
          unfold decL
          simp only [if_neg h1, h4, beq_self_eq_true, Bool.true_and]
          rw [if_neg (by simp [h2]), if_neg (by simp [h3])]
          have hn := decN_more (c.toNat % 8 : Nat) 2 l
          rw [decN_more _ 1 (l.drop 1), decN_one, drop1, drop1, drop1, dropl, dropl, dropl] at hn
          by_cases g1 : (decide (0 < l.length) && (l[0]?.getD 0).toNat / 64 == 2) = true
          · rw [if_pos g1] at hn
            rw [g1, Bool.true_and]
            by_cases g2 : (decide (0 + 1 < l.length) && (l[0 + 1]?.getD 0).toNat / 64 == 2) = true
            · rw [if_pos g2] at hn
              rw [show (decide (1 < l.length) && (l[1]?.getD (0 : UInt8)).toNat / 64 == 2) = true from g2, Bool.true_and]
              by_cases g3 : (decide (0 + 1 + 1 < l.length) && (l[0 + 1 + 1]?.getD 0).toNat / 64 == 2) = true
              · rw [if_pos g3] at hn
                rw [if_pos g3, decU_some hf (by omega) (r := (c.toNat % 8 * 262144 + (l[0]?.getD 0).toNat % 64 * 4096 + (l[1]?.getD 0).toNat % 64 * 64 + (l[2]?.getD 0).toNat % 64 : Nat)) (by rw [hb, hn]; exact congrArg some (arith4 _ _ _ _)), fin4]
              · rw [if_neg g3] at hn
                rw [if_neg g3, decU_none hf (by omega) (by rw [hb]; exact hn)]
            · rw [if_neg g2] at hn
              have g2' := Bool.eq_false_iff.2 g2
              rw [show (decide (1 < l.length) && (l[1]?.getD (0 : UInt8)).toNat / 64 == 2) = false from g2', decU_none hf (by omega) (by rw [hb]; exact hn)]
              simp
          · rw [if_neg g1] at hn
            have g1' := Bool.eq_false_iff.2 g1
            rw [g1', decU_none hf (by omega) (by rw [hb]; exact hn)]
            simp
        · have hf : fsz c.toNat = 0 := by unfold fsz; rw [if_neg (by omega), if_neg (by omega), if_neg (by omega), if_neg (by omega)]
          rw [decU_zero hf]
          unfold decL
          simp [h1, h2, h3, h4]
theorem decode_U (s : ByteArray) (i : Nat) (hi : i < s.size) : Go.Utf8.decode s i = decU (s.data.toList.drop i) := by
  have hs : s.size = s.data.toList.length := by simp
  cases hd : s.data.toList.drop i with
  | nil =>
    have := congrArg List.length hd
    rw [List.length_drop] at this
    simp at this
    omega
  | cons c l => rw [decode_L s i c l hd, decL_U]
end Wb

namespace Wb
open Go
def foldE (c d : Nat) : Bool := decide (c = d ∨ (65 ≤ c ∧ c ≤ 90 ∧ d = c + 32) ∨ (65 ≤ d ∧ d ≤ 90 ∧ c = d + 32))
def foldB : List UInt8 → List UInt8 → Bool
  | [], [] => true
  | c :: l, d :: m => decide (c.toNat < 128) && foldE c.toNat d.toNat && foldB l m
  | [], _ :: _ => false
  | _ :: _, [] => false
theorem wp_scope_inline {c rest : Code} {P : Program} {a : Act} {w : World} {Q : Exit → Act → World → Prop} (hf : findLabel c 0 = some (.seq .skip rest))
    (first : c.wp P (jumpsTo (fun l a' w' => l = 0 ∧ rest.wp P (jumpsTo (fun _ _ _ => False) Q) a' w') Q) a w) : (Code.scope c).wp P Q a w :=
  wp_scope_ghost2 (fun l n a w => l = 0 ∧ n = 0 ∧ rest.wp P (jumpsTo (fun _ _ _ => False) Q) a w)
    (fun l n a w h => by obtain ⟨rfl, rfl, h⟩ := h; exact ⟨rest, hf, jumpsTo_weaken (fun _ _ _ h => h.elim) h⟩)
    (fun _ => jumpsTo_weaken (fun l a w h => ⟨0, h.1, rfl, h.2⟩) first)
theorem foldB_end (l m : List UInt8) (h : l = [] ∨ m = []) : foldB l m = decide (l.length = m.length) := by
  rcases h with rfl | rfl
  · cases m <;> simp [foldB]
  · cases l <;> simp [foldB]
end Wb
namespace Go.Proofs.YtjohfljkhlkjoaaGreatDoor
open Go.RowKit Wb
theorem dri_any (y : ByteArray) (x : UInt8) (w : World) (h0 : y.data.toList[0]? = some x) (hx : x.toNat < 128) :
    Calls Tryz.prog 126 #[.string y] w fun e w' => e = .returned (.tuple #[.int .i32 (x.toNat : Int), .int .i64 1]) ∧ w = w' := by
  have hlen : 0 < y.size := by
    rw [Lib.size_eq]
    exact (List.getElem?_eq_some_iff.1 h0).1
  have e0 : y[0] = x := by
    have := Lib.data_getElem? y 0 hlen
    rw [h0] at this
    exact (Option.some.inj this).symm
  have hd : y.data.toList ≠ [] := by intro e; rw [e] at h0; cases h0
  have e1 : ¬ y.toList = [] := by rw [ByteArray.toList_eq]; exact hd
  have e2 : y.toList.isEmpty = false := by rw [ByteArray.toList_eq]; simpa using hd
  have g1 : (x.toNat : Int) < 128 := by omega
  clear h0 hd
  go_enter Tryz.func126, Tryz.ntmps126
  go_wp2
  go_ret2
  exact ⟨rfl, rfl⟩
set_option maxRecDepth 100000 in
theorem simple_any (d : Nat) (hd : d < 128) (w : World) (hG : Gv w) :
    Calls Tryz.prog 127 #[.int .i32 (d : Int)] w fun e w' => e = .returned (.int .i32 (foldZ.getD d 0)) ∧ w = w' := by
  have ha := hG.af d hd
  have hz : ∀ n : Fin 128, 0 ≤ foldZ.getD n.val 0 ∧ foldZ.getD n.val 0 < 10000 := by decide +kernel
  have hz' := hz ⟨d, hd⟩
  simp only at hz'
  generalize foldZ.getD d 0 = z at *
  have g0 : (0 : Int) ≤ (d : Int) := by omega
  have g1 : (d : Int) ≤ 1114111 := by omega
  have g2 : (d : Int) < 128 := by omega
  go_enter Tryz.func127, Tryz.ntmps127
  go_wp2
  go_ret
  exact ⟨rfl, rfl⟩
end Go.Proofs.YtjohfljkhlkjoaaGreatDoor

namespace Wb
open Go
def behindU : Nat → List UInt8 → List UInt8
  | 0, l => l
  | f + 1, l => if l = [] then [] else if partB (decU l).1 = true then behindU f (l.drop (decU l).2) else l
theorem decU_pos (l : List UInt8) : 1 ≤ (decU l).2 := by
  have hn := (dec_bd l).1
  unfold decU
  by_cases h : (dec l).2 = 0
  · simp [h]
  · simp only [h, if_false]
    omega
theorem behindU_drop : ∀ (f : Nat) (l : List UInt8), ∃ k, k ≤ l.length ∧ behindU f l = l.drop k
  | 0, l => ⟨0, Nat.zero_le _, rfl⟩
  | f + 1, l => by
    unfold behindU
    split
    · rename_i h; exact ⟨0, Nat.zero_le _, by rw [h]; rfl⟩
    · split
      · obtain ⟨k, hk, he⟩ := behindU_drop f (l.drop (decU l).2)
        rw [List.length_drop] at hk
        by_cases hd : (decU l).2 ≤ l.length
        · exact ⟨(decU l).2 + k, by omega, by rw [he, List.drop_drop]⟩
        · exact ⟨l.length, Nat.le_refl _, by rw [he, List.drop_drop, List.drop_eq_nil_of_le (by omega), List.drop_eq_nil_of_le (Nat.le_refl _)]⟩
      · exact ⟨0, Nat.zero_le _, rfl⟩
def instructionU (L : List UInt8) (fr : Nat) : Er Nat :=
  let r := L.drop (fr + 2)
  let b := behindU r.length r
  let name := r.take (r.length - b.length)
  if nameB name = false ∨ lowL name = sXml then .error (fr, 12)
  else if b ≠ [] ∧ (b.take 1).any blkB = false ∧ b.take 2 ≠ [63, 62] then .error (fr, 4)
  else match upToX L fr (fr + 2) [63, 62] with
    | .error e => .error e
    | .ok (_, a) => .ok a
def tokenU (L : List UInt8) (fr : Nat) : Er (Option Tk × Nat) :=
  let r := L.drop fr
  if r.take 1 ≠ [60] then someX (textX L fr)
  else if r.take 2 = [60, 63] then noneX (instructionU L fr)
  else if r.take 4 = [60, 33, 45, 45] then noneX (commentX L fr)
  else if r.take 9 = [60, 33, 91, 67, 68, 65, 84, 65, 91] then someX (sectionX L fr)
  else if r.take 3 = [60, 33, 68] then .error (fr, 17)
  else if r.take 2 = [60, 33] then .error (fr, 4)
  else if r.take 2 = [60, 47] then someX (endTagX L fr)
  else someX (startTagX L fr)
def tokLU (L : List UInt8) : Nat → Nat → Er (List (Nat × Tk))
  | 0, _ => .ok []
  | f + 1, at_ =>
    if L.length ≤ at_ then .ok []
    else match tokenU L at_ with
      | .error e => .error e
      | .ok (t, a) => match tokLU L f a with
        | .error e => .error e
        | .ok ts => .ok (consT at_ t ts)
def badU : Nat → List UInt8 → Nat → Option Nat
  | 0, _, _ => none
  | f + 1, l, b => if l = [] then none else if charB (decU l).1 = true then badU f (l.drop (decU l).2) (b + (decU l).2) else some b
def checkU (L : List UInt8) : Er Unit :=
  if 32768 < L.length then .error (0, 3)
  else if 0 ≤ chk L then .error ((chk L).toNat, 10)
  else match badU L.length L 0 with
    | some p => .error (p, 11)
    | none => .ok ()
def tokensU (L : List UInt8) : Er (List (Nat × Tk)) :=
  match checkU L with
  | .error e => .error e
  | .ok _ => match declX L with
    | .error e => .error e
    | .ok a => tokLU L (L.length + 1) a
end Wb

namespace Wb
open Go
theorem idx_behind (s : ByteArray) : ∀ (f pos : Nat), s.size ≤ pos + f →
    (Lib.idxFuncFrom (fun x => partB (x : Int)) false s f pos = -1 ∧ behindU f (s.data.toList.drop pos) = []) ∨
    ∃ k : Nat, Lib.idxFuncFrom (fun x => partB (x : Int)) false s f pos = (k : Int) ∧ k < s.size ∧ behindU f (s.data.toList.drop pos) = s.data.toList.drop k
  | 0, pos, h => .inl ⟨rfl, by
      show s.data.toList.drop pos = []
      exact List.drop_eq_nil_of_le (by have : s.size = s.data.toList.length := by simp
                                       omega)⟩
  | f + 1, pos, h => by
    have hs : s.size = s.data.toList.length := by simp
    unfold Lib.idxFuncFrom behindU
    by_cases hp : pos < s.size
    · have hne : s.data.toList.drop pos ≠ [] := by
        intro e
        have := congrArg List.length e
        rw [List.length_drop] at this
        simp at this
        omega
      rw [if_pos hp, if_neg hne, decode_U s pos hp]
      by_cases hq : partB ((decU (s.data.toList.drop pos)).1 : Int) = true
      · rw [if_neg (by rw [hq]; decide), if_pos hq, List.drop_drop]
        exact idx_behind s f _ (by have := decU_pos (s.data.toList.drop pos); omega)
      · rw [if_pos (Bool.eq_false_iff.2 hq), if_neg hq]
        exact .inr ⟨pos, rfl, hp, rfl⟩
    · have he : s.data.toList.drop pos = [] := List.drop_eq_nil_of_le (by omega)
      rw [if_neg hp, he, if_pos rfl]
      exact .inl ⟨rfl, rfl⟩
theorem trim_behind (s : ByteArray) : (Lib.trimLeftF (fun x => partB (x : Int)) s).data.toList = behindU s.size s.data.toList := by
  have hs : s.size = s.data.toList.length := by simp
  unfold Lib.trimLeftF Lib.idxFunc
  rcases idx_behind s s.size 0 (by omega) with ⟨h1, h2⟩ | ⟨k, h1, h2, h3⟩
  · rw [h1, if_pos rfl]
    rw [List.drop_zero] at h2
    rw [h2]
  · rw [h1, if_neg (by omega)]
    rw [List.drop_zero] at h3
    rw [h3]
    rw [Go.Proofs.YtjohfljkhlkjoaaGreatDoor.extract_L, Int.toNat_natCast, List.take_of_length_le (by rw [List.length_drop]; omega)]
theorem low_all : ∀ d ∈ [120, 109, 108, 117, 116, 102, 45, 56], ∀ c : Fin 256, (decide (c.val < 128) && foldE c.val (UInt8.toNat d)) = ((if 65 ≤ UInt8.ofNat c.val ∧ UInt8.ofNat c.val ≤ 90 then UInt8.ofNat c.val + 32 else UInt8.ofNat c.val) == d) := by decide +kernel
end Wb

namespace Go.Proofs.YtjohfljkhlkjoaaGreatDoor
open Go.RowKit Wb
theorem foldB_yes {x y : UInt8} {l m : List UInt8} (h : x.toNat < 128) (he : x.toNat = y.toNat ∨ (65 ≤ x.toNat ∧ x.toNat ≤ 90 ∧ y.toNat = x.toNat + 32) ∨ (65 ≤ y.toNat ∧ y.toNat ≤ 90 ∧ x.toNat = y.toNat + 32)) : foldB (x :: l) (y :: m) = foldB l m := by
  simp only [foldB, foldE]
  rw [decide_eq_true h, decide_eq_true he]
  rfl
theorem foldB_no {x y : UInt8} {l m : List UInt8} (he : ¬ (x.toNat = y.toNat ∨ (65 ≤ x.toNat ∧ x.toNat ≤ 90 ∧ y.toNat = x.toNat + 32) ∨ (65 ≤ y.toNat ∧ y.toNat ≤ 90 ∧ x.toNat = y.toNat + 32))) : foldB (x :: l) (y :: m) = false := by
  simp only [foldB, foldE]
  rw [decide_eq_false he]
  simp
theorem foldB_high {x y : UInt8} {l m : List UInt8} (h : ¬ x.toNat < 128) : foldB (x :: l) (y :: m) = false := by
  simp only [foldB]
  rw [decide_eq_false h]
  rfl
set_option maxHeartbeats 8000000 in
set_option maxRecDepth 1000000 in
theorem fold_any (s t : ByteArray) (w : World) (hG : Gv w) (hs : s.size ≤ 1000000) (ht : t.size ≤ 1000) (hta : ∀ (j : Nat) b, t.data.toList[j]? = some b → b.toNat < 128 ∧ b ≠ 75 ∧ b ≠ 83 ∧ b ≠ 107 ∧ b ≠ 115) :
    Calls Tryz.prog 90 #[.string s, .string t] w fun e w' => e = .returned (.bool (foldB s.data.toList t.data.toList)) ∧ Below w.heap.size w w' := by
  obtain ⟨r, hr⟩ : ∃ r, foldB s.data.toList t.data.toList = r := ⟨_, rfl⟩
  rw [hr]
  have HR := Lib.hid hr
  have HT := Lib.hid hta
  obtain ⟨M, hM⟩ : ∃ M : Nat, min (s.size : Int) (t.size : Int) = (M : Int) := ⟨min s.size t.size, by omega⟩
  have hMs : M ≤ s.size := by omega
  have hMt : M ≤ t.size := by omega
  have hMe : M = s.size ∨ M = t.size := by omega
  clear hr hta
  go_enter Tryz.func90, Tryz.ntmps90
  go_wp2
  refine wp_scope_inline rfl ?_
  go_wp2
  go_loopg [5] M (fun g s5 wx => w = wx ∧ ∃ i : Nat, i + g = M ∧ s5 = .int .i64 i ∧ Hid (foldB (s.data.toList.drop i) (t.data.toList.drop i) = r))
  case atStart => exact ⟨rfl, 0, by omega, rfl, HR⟩
  case round =>
    obtain ⟨rfl, i, hig, rfl, HI⟩ := hrel
    clear hM
    cases gk with
    | zero =>
      have hiM : ¬ ((i : Int) < (M : Int)) := by omega
      obtain rfl : i = M := by omega
      have hE : r = decide (s.size = t.size) := by
        rw [← HI.out, foldB_end _ _ (by
          rcases hMe with h | h
          · exact Or.inl (List.drop_eq_nil_of_le (by rw [← Lib.size_eq]; omega))
          · exact Or.inr (List.drop_eq_nil_of_le (by rw [← Lib.size_eq]; omega))), List.length_drop, List.length_drop, ← Lib.size_eq, ← Lib.size_eq]
        exact decide_eq_decide.2 (by omega)
      by_cases hst : s.size = t.size
      · have hb : ((s.size : Int) == (t.size : Int)) = true := beq_iff_eq.2 (by omega)
        go_wp2
        change bodyPost Tryz.prog Tryz.f90 (fun e w' => e = .returned (.bool r) ∧ Below w.heap.size w w') Exit.ret _ _
        go_ret
        exact ⟨by rw [hE]; simp [hst], Below.refl _ _⟩
      · have hb : ((s.size : Int) == (t.size : Int)) = false := beq_eq_false_iff_ne.2 (by omega)
        go_wp2
        change bodyPost Tryz.prog Tryz.f90 (fun e w' => e = .returned (.bool r) ∧ Below w.heap.size w w') Exit.ret _ _
        go_ret
        exact ⟨by rw [hE]; simp [hst], Below.refl _ _⟩
    | succ g =>
      have hiM : (i : Int) < (M : Int) := by omega
      have hisz : (i : Int) < (s.size : Int) := by omega
      have hitz : (i : Int) < (t.size : Int) := by omega
      obtain ⟨x, hx⟩ : ∃ x : UInt8, s[i]'(by omega) = x := ⟨_, rfl⟩
      obtain ⟨y, hy⟩ : ∃ y : UInt8, t[i]'(by omega) = y := ⟨_, rfl⟩
      have hxl : s.data.toList[i]? = some x := by rw [← hx]; exact Lib.data_getElem? s i (by omega)
      have hyl : t.data.toList[i]? = some y := by rw [← hy]; exact Lib.data_getElem? t i (by omega)
      obtain ⟨hy128, hyn⟩ := HT.out i y hyl
      have HY := Lib.hid hyn
      have hor : bits .or .u8 (x.toNat : Int) (y.toNat : Int) = ((x.toNat ||| y.toNat : Nat) : Int) := u8_or_nat _ _ x.toNat_lt (by omega)
      have Hx := Lib.hid (And.intro hxl hyl)
      clear hxl hyl hyn
      by_cases hx128 : x.toNat < 128
      · have hor128 : ¬ ((128 : Int) ≤ ((x.toNat ||| y.toNat : Nat) : Int)) := by have := Nat.or_lt_two_pow (n := 7) hx128 hy128; omega
        go_wp2
        all_goals (try simp only [beq_iff_eq, beq_eq_false_iff_ne, ne_eq] at *)
        all_goals first
          | (go_roundg g
             case measure => omega
             case rel => exact ⟨rfl, i + 1, by omega, by first | rfl | simp, Lib.hid (by rw [← HI.out, Lib.drop_at Hx.out.1, Lib.drop_at Hx.out.2, foldB_yes hx128 (by omega)])⟩)
          | (change bodyPost Tryz.prog Tryz.f90 (fun e w' => e = .returned (.bool r) ∧ Below w.heap.size w w') Exit.ret _ _
             go_ret
             refine ⟨?_, Below.refl _ _⟩
             rw [← HI.out, Lib.drop_at Hx.out.1, Lib.drop_at Hx.out.2, foldB_no (by omega)]
             rfl)
      · have hor128 : (128 : Int) ≤ ((x.toNat ||| y.toNat : Nat) : Int) := by have := Nat.left_le_or (n := x.toNat) (m := y.toNat); omega
        obtain rfl : r = false := by rw [← HI.out, Lib.drop_at Hx.out.1, Lib.drop_at Hx.out.2, foldB_high hx128]
        go_wp2
        go_step3
        refine ⟨rfl, ?_⟩
        have hsl : (s.extract i s.size).data.toList = s.data.toList.drop i := by rw [extract_L, List.take_of_length_le (by simp)]
        have htl : (t.extract i t.size).data.toList = t.data.toList.drop i := by rw [extract_L, List.take_of_length_le (by simp)]
        have hzs : 0 < (s.extract i s.size).size := by simp; omega
        have hys : 0 < (t.extract i t.size).size := by simp; omega
        have hyb : (t.extract i t.size).size ≤ 1000 := by simp; omega
        have hz0 : (s.extract i s.size)[0] = x := by
          have h := Lib.data_getElem? (s.extract i s.size) 0 hzs
          rw [hsl, Lib.drop_at Hx.out.1] at h
          exact (Option.some.inj h).symm
        have hy0 : (t.extract i t.size).data.toList[0]? = some y := by rw [htl, Lib.drop_at Hx.out.2]; rfl
        obtain ⟨z, hz⟩ : ∃ z, s.extract i s.size = z := ⟨_, rfl⟩
        obtain ⟨yy, hyy⟩ : ∃ z, t.extract i t.size = z := ⟨_, rfl⟩
        simp only [hz] at hzs hz0
        simp only [hyy] at hys hyb hy0
        have hdh := (decode_high z 0 hzs (by rw [hz0]; omega)).1
        have hnx0 := fun (ty : TypeId) => run_next_any (P := Tryz.prog) w z 0 ty hzs
        obtain ⟨R, hR⟩ : ∃ R, (Utf8.decode z 0).1 = R := ⟨_, rfl⟩
        rw [hR] at hdh hnx0
        have HNX := Lib.hid hnx0
        have hdri := dri_any yy y
        have g1 : (i : Int) ≤ (s.size : Int) := by omega
        have g2 : (i : Int) ≤ (t.size : Int) := by omega
        have hfz : ∀ n : Fin 128, n.val ≠ 75 → n.val ≠ 83 → n.val ≠ 107 → n.val ≠ 115 → ∃ m : Fin 128, foldZ.getD n.val 0 = (m.val : Int) ∧ foldZ.getD m.val 0 = (n.val : Int) := by decide +kernel
        obtain ⟨⟨m, hm⟩, hm1, hm2⟩ := hfz ⟨y.toNat, hy128⟩ (fun e => HY.out.1 (UInt8.toNat_inj.1 e)) (fun e => HY.out.2.1 (UInt8.toNat_inj.1 e)) (fun e => HY.out.2.2.1 (UInt8.toNat_inj.1 e)) (fun e => HY.out.2.2.2 (UInt8.toNat_inj.1 e))
        simp only at hm1 hm2
        have HS1 := Lib.hid fun w2 hg => simple_any y.toNat hy128 w2 hg
        have HS2 := Lib.hid fun w2 hg => simple_any m hm w2 hg
        rw [hm1] at HS1
        rw [hm2] at HS2
        have hGi : Gv (w.iter z 0) := hG.alloc _
        clear hfz HT HI Hx hsl htl hx hy hm1 hm2 hnx0 hR
        have n0 : ((yy.size : Int) == 0) = false := beq_eq_false_iff_ne.2 (by omega)
        have n1 : ((y.toNat : Int) == (R : Int)) = false := beq_eq_false_iff_ne.2 (by omega)
        have n2 : (y.toNat : Int) < (R : Int) := by omega
        have n3 : ¬ ((R : Int) < 128) := by omega
        have n4 : ((m : Int) == (R : Int)) = false := beq_eq_false_iff_ne.2 (by omega)
        have n5 : (m : Int) < (R : Int) := by omega
        have y1 : (1 : Int) ≤ (yy.size : Int) := by omega
        go_wp2
        go_loopw [1] (fun s1 wr => s1 = .string yy ∧ wr = w.iter z 0) (fun _ _ => 0)
        case atStart => exact ⟨rfl, rfl⟩
        case round =>
          obtain ⟨rfl, rfl⟩ := hrel
          have hnx := HNX.out
          go_wp2_with fail
          refine (hdri _ hy0 hy128).mono ?_
          rintro e w3 ⟨rfl, rfl⟩
          have hG3 : ∀ p, Gv (w.iter z p) := fun p => hG.alloc _
          clear hnx HNX
          go_wp2_with fail
          refine (HS1.out _ (hG3 _)).mono ?_
          rintro e w4 ⟨rfl, rfl⟩
          go_wp2
          go_loopw [13] (fun s13 wr => ∃ v : Nat, s13 = .int .i32 v ∧ wr = w.iter z (Utf8.decode z 0).2 ∧ (v = y.toNat ∨ v = m)) (fun s13 _ => (intOf s13 - (y.toNat : Int)).natAbs)
          case atStart => exact ⟨m, rfl, by first | rfl | simp, .inr rfl⟩
          case round =>
            obtain ⟨v, rfl, rfl, hv⟩ := hrel
            by_cases hvy : v = y.toNat
            · subst hvy
              have q1 : ((y.toNat : Int) != (y.toNat : Int)) = false := by simp
              go_wp2
              change bodyPost Tryz.prog Tryz.f90 (fun e w' => e = .returned (.bool false) ∧ Below w.heap.size w w') Exit.ret _ _
              go_ret
              exact ⟨rfl, (Below.refl _ w).alloc (Nat.le_refl _) _⟩
            · obtain rfl : v = m := by omega
              have q1 : ((v : Int) != (y.toNat : Int)) = true := by simp; omega
              go_wp2_with fail
              refine (HS2.out _ (hG3 _)).mono ?_
              rintro e w5 ⟨rfl, rfl⟩
              go_wp2
              go_roundw
              case rel => exact ⟨y.toNat, by first | rfl | simp, by first | rfl | simp, .inl rfl⟩
              case measure =>
                simp only [intOf]
                omega
end Go.Proofs.YtjohfljkhlkjoaaGreatDoor

namespace Go.Proofs.YtjohfljkhlkjoaaGreatDoor
open Go.RowKit Wb
theorem fold_low (p : List UInt8) (hp : ∀ d ∈ p, d ∈ [120, 109, 108, 117, 116, 102, 45, 56]) : ∀ l, foldB l p = decide (lowL l = p) := by
  induction p with
  | nil =>
    intro l
    cases l with
    | nil => rfl
    | cons c l => rfl
  | cons d p ih =>
    intro l
    cases l with
    | nil => rfl
    | cons c l =>
      have h := low_all d (hp d (by simp)) ⟨c.toNat, c.toNat_lt⟩
      simp only [UInt8.ofNat_toNat] at h
      have hi := ih (fun e he => hp e (by simp [he])) l
      simp only [foldB]
      rw [h, hi]
      show _ = decide ((if 65 ≤ c ∧ c ≤ 90 then c + 32 else c) :: lowL l = d :: p)
      generalize (if 65 ≤ c ∧ c ≤ 90 then c + 32 else c) = c'
      by_cases h1 : c' = d
      · by_cases h2 : lowL l = p <;> simp [h1, h2]
      · simp [h1]
theorem eqf_any (s p : ByteArray) (w : World) (hG : Gv w) (hs : s.size ≤ 1000000) (hps : p.size ≤ 1000) (hp : ∀ d ∈ p.data.toList, d ∈ [120, 109, 108, 117, 116, 102, 45, 56]) :
    Calls Tryz.prog 90 #[.string s, .string p] w fun e w' => e = .returned (.bool (decide (lowL s.data.toList = p.data.toList))) ∧ Below w.heap.size w w' := by
  rw [← fold_low p.data.toList hp]
  refine fold_any s p w hG hs hps ?_
  intro j b hb
  have hm := hp b (List.mem_of_getElem? hb)
  have : ∀ d ∈ [120, 109, 108, 117, 116, 102, 45, 56], UInt8.toNat d < 128 ∧ d ≠ 75 ∧ d ≠ 83 ∧ d ≠ 107 ∧ d ≠ 115 := by decide
  exact this b hm
set_option maxRecDepth 100000 in
theorem trimL_any (z : ByteArray) (w : World) :
    Calls Tryz.prog 130 #[.string z, .func (.func 131) #[] #[]] w fun e w' => e = .returned (.string (Lib.trimLeftF (fun x => partB (x : Int)) z)) ∧ Below w.heap.size w w' :=
  Tryz.strings_TrimLeftFunc_grows 131 #[] (fun _ _ => rfl) (fun x => partB (x : Int)) z w (fun W x _ _ => part_any x W)
theorem trimS_any (z y : ByteArray) (w : World) (k : Nat) (hy : y.data.toList = z.data.toList.drop k) (hz : z.size ≤ 1000000) :
    Calls Tryz.prog 132 #[.string z, .string y] w fun e w' => e = .returned (.string ⟨(z.data.toList.take (z.data.toList.length - y.data.toList.length)).toArray⟩) ∧ w' = w := by
  have h := Tryz.strings_TrimSuffix z y w (by omega)
  have e : Lib.trimSuffix z.data.toList y.data.toList = z.data.toList.take (z.data.toList.length - y.data.toList.length) := by
    unfold Lib.trimSuffix Lib.hasSuffix
    rw [if_pos (by rw [List.isSuffixOf_iff_suffix, hy]; exact List.drop_suffix _ _)]
  rw [e] at h
  exact h
set_option maxHeartbeats 1000000 in
set_option maxRecDepth 100000 in
theorem instruction_any (D : Nat) (s : ByteArray) (fr : Nat) (w : World) (h : DocW w D s fr fr) (hG : Gv w) (hD : 11 ≤ D) (hat : fr + 2 ≤ s.size) (hs : s.size ≤ 1000000) :
    Calls Tryz.prog 94 #[.pointer (some ⟨D, 0, none⟩)] w fun e w' => UnitOut D s fr (instructionU s.data.toList fr) w e w' := by
  have HUP := Lib.hid fun w2 (hw : DocW w2 D s fr (fr + 2)) (hg : Gv w2) => upTo_two D s ⟨#[63, 62]⟩ fr (fr + 2) w2 hw hg hat hs (by simp) (by decide)
  have HRS := Lib.hid fun w2 (hw : DocW w2 D s fr (fr + 2)) => rest_k D s fr (fr + 2) w2 hw hat
  have HK := Lib.hid ((Keeps.refl D w).setCell 2 (.int .i64 ((fr : Int) + 2)))
  have HD := Lib.hid (h.set2' (v := (fr : Int) + 2) (a := fr + 2) (by omega))
  have c2 := h.c2
  have f2 := h.f 2
  have hDl := Lib.hid h.lt
  have hex : (s.extract (fr + 2) s.size).data.toList = s.data.toList.drop (fr + 2) := by rw [extract_L, List.take_of_length_le (by simp)]
  have hzs : (s.extract (fr + 2) s.size).size ≤ 1000000 := by simp; omega
  obtain ⟨z, hz⟩ : ∃ z, s.extract (fr + 2) s.size = z := ⟨_, rfl⟩
  rw [hz] at hex hzs HRS
  obtain ⟨r, hr⟩ : ∃ r, instructionU s.data.toList fr = r := ⟨_, rfl⟩
  rw [hr]
  unfold instructionU at hr
  rw [← hex] at hr
  simp only at hr
  obtain ⟨y, hy⟩ : ∃ y, Lib.trimLeftF (fun x => partB (x : Int)) z = y := ⟨_, rfl⟩
  have hyl : y.data.toList = behindU z.data.toList.length z.data.toList := by rw [← hy, trim_behind, Lib.size_eq]
  obtain ⟨k, hk, hkd⟩ := behindU_drop z.data.toList.length z.data.toList
  rw [← hyl] at hr hkd
  obtain ⟨n, hn⟩ : ∃ n : ByteArray, (⟨(z.data.toList.take (z.data.toList.length - y.data.toList.length)).toArray⟩ : ByteArray) = n := ⟨_, rfl⟩
  have hnl : n.data.toList = z.data.toList.take (z.data.toList.length - y.data.toList.length) := by rw [← hn]
  rw [← hnl] at hr
  have HTL := Lib.hid fun w2 => trimL_any z w2
  rw [hy] at HTL
  have HTS := Lib.hid fun w2 => trimS_any z y w2 k hkd hzs
  rw [hn] at HTS
  have hns : n.size ≤ 1000000 := by
    rw [Lib.size_eq, hnl, List.length_take]
    rw [Lib.size_eq] at hzs
    omega
  have HR := Lib.hid hr
  have HY := Lib.hid hkd
  clear h hr hz hy hyl hk hkd hn hnl hex
  go_enter Tryz.func94, Tryz.ntmps94
  go_wp2_with fail
  refine (HRS.out _ HD.out).mono ?_
  rintro e w1 ⟨rfl, hd1, hk1⟩
  replace HK := Lib.hid (HK.out.trans hk1)
  clear c2 f2 HD hk1
  go_wp2_with fail
  refine (HTL.out _).mono ?_
  rintro e w2 ⟨rfl, hb2⟩
  have hd2 := hd1.below hb2
  replace HK := Lib.hid (HK.out.next hb2)
  clear hd1 hb2
  go_wp2_with fail
  refine (HRS.out _ hd2).mono ?_
  rintro e w3 ⟨rfl, hd3, hk3⟩
  replace HK := Lib.hid (HK.out.trans hk3)
  clear hd2 hk3
  go_wp2_with fail
  refine (HTS.out _).mono ?_
  rintro e w4 ⟨rfl, rfl⟩
  go_wp2_with fail
  refine (name_any n _ (by omega)).mono ?_
  rintro e w5 ⟨rfl, hb5⟩
  have hd5 := hd3.below hb5
  replace HK := Lib.hid (HK.out.next hb5)
  clear hd3 hb5
  have bad : ∀ (c : Nat), r = .error (fr, c) → ∀ w', Keeps D w w' → UnitOut D s fr r w (.panicked [flt fr c]) w' := fun c hc w' hk => by rw [hc]; exact ⟨hk, rfl⟩
  have HD5 := Lib.hid hd5
  have c1 := hd5.c1
  have hr := HR.out
  clear HR hd5
  cases hnb : nameB n.data.toList with
  | false =>
    rw [hnb, if_pos (.inl rfl)] at hr
    have HB := Lib.hid (bad 12 hr.symm)
    clear hr bad hnb
    go_wp2_with fail
    refine (fail_any fr 12 _).mono ?_
    rintro e w6 ⟨rfl, rfl⟩
    exact ⟨rfl, HB.out _ HK.out⟩
  | true =>
    rw [hnb] at hr
    have hef := eqf_any n ⟨#[120, 109, 108]⟩ w5 (HK.out.gv hG hD) hns (by decide) (by decide)
    rw [show (⟨#[120, 109, 108]⟩ : ByteArray).data.toList = sXml from rfl] at hef
    by_cases hx : lowL n.data.toList = sXml
    · rw [if_pos (.inr hx)] at hr
      rw [decide_eq_true hx] at hef
      have HB := Lib.hid (bad 12 hr.symm)
      clear hr bad hnb hx
      go_wp2_with fail
      refine hef.mono ?_
      rintro e w6 ⟨rfl, hb6⟩
      have c1 := (HD5.out.below hb6).c1
      replace HK := Lib.hid (HK.out.next hb6)
      clear hb6
      go_wp2_with fail
      refine (fail_any fr 12 _).mono ?_
      rintro e w7 ⟨rfl, rfl⟩
      exact ⟨rfl, HB.out _ HK.out⟩
    · rw [if_neg (by rintro (e | e); · cases e
                     · exact hx e)] at hr
      rw [decide_eq_false hx] at hef
      have HR := Lib.hid hr
      clear hr hnb hx
      go_wp2_with fail
      refine hef.mono ?_
      rintro e w6 ⟨rfl, hb6⟩
      replace HD5 := Lib.hid (HD5.out.below hb6)
      have c1 := HD5.out.c1
      replace HK := Lib.hid (HK.out.next hb6)
      clear hb6 hef
      cases hyd : y.data.toList with
      | nil =>
        have hr := HR.out
        rw [hyd, if_neg (by simp)] at hr
        have z0 : y.toList = [] := by rw [ByteArray.toList_eq]; exact hyd
        have z1 : y.toList.isEmpty = true := by rw [ByteArray.toList_eq, hyd]; rfl
        clear bad hyd HR
        have HGu := HK.out.gv hG hD
        go_wp2_with fail
        refine (HUP.out _ HD5.out HGu).mono ?_
        rintro e w9 (⟨h1, rfl, hk9⟩ | ⟨v, a, h1, rfl, hd9, hk9, ha, hv⟩)
        · rw [h1] at hr
          exact ⟨rfl, by rw [← hr]; exact ⟨HK.out.trans hk9, rfl⟩⟩
        · rw [h1] at hr
          go_wp2
          go_end0
          rw [← hr]
          exact ⟨HK.out.trans hk9, rfl, hd9⟩
      | cons c q =>
        have hys : 0 < y.size := by rw [Lib.size_eq, hyd]; simp
        have y0 : y[0] = c := by
          have h := Lib.data_getElem? y 0 hys
          rw [hyd] at h
          exact (Option.some.inj h).symm
        have z0 : ¬ y.toList = [] := by rw [ByteArray.toList_eq, hyd]; simp
        have z1 : y.toList.isEmpty = false := by rw [ByteArray.toList_eq, hyd]; rfl
        have hph := hasp_any y ⟨#[63, 62]⟩ [63, 62] 2 rfl rfl w6
        have hr := HR.out
        cases hbc : blkB c with
        | true =>
          rw [hyd, if_neg (by simp [hbc])] at hr
          clear bad HR hph hyd
          go_wp2_with fail
          refine (blankC c _).mono ?_
          rintro e w7 ⟨rfl, rfl⟩
          rw [hbc]
          clear hbc
          have HGu := HK.out.gv hG hD
          go_wp2_with fail
          refine (HUP.out _ HD5.out HGu).mono ?_
          rintro e w9 (⟨h1, rfl, hk9⟩ | ⟨v, a, h1, rfl, hd9, hk9, ha, hv⟩)
          · rw [h1] at hr
            exact ⟨rfl, by rw [← hr]; exact ⟨HK.out.trans hk9, rfl⟩⟩
          · rw [h1] at hr
            go_wp2
            go_end0
            rw [← hr]
            exact ⟨HK.out.trans hk9, rfl, hd9⟩
        | false =>
          by_cases hp : y.data.toList.take 2 = [63, 62]
          · rw [if_neg (fun h => h.2.2 hp)] at hr
            rw [decide_eq_true hp] at hph
            clear bad HR hp hyd
            go_wp2_with fail
            refine (blankC c _).mono ?_
            rintro e w7 ⟨rfl, rfl⟩
            rw [hbc]
            clear hbc
            go_wp2_with fail
            refine hph.mono ?_
            rintro e w8 ⟨rfl, rfl⟩
            have HGu := HK.out.gv hG hD
            go_wp2_with fail
            refine (HUP.out _ HD5.out HGu).mono ?_
            rintro e w9 (⟨h1, rfl, hk9⟩ | ⟨v, a, h1, rfl, hd9, hk9, ha, hv⟩)
            · rw [h1] at hr
              exact ⟨rfl, by rw [← hr]; exact ⟨HK.out.trans hk9, rfl⟩⟩
            · rw [h1] at hr
              go_wp2
              go_end0
              rw [← hr]
              exact ⟨HK.out.trans hk9, rfl, hd9⟩
          · rw [if_pos ⟨by rw [hyd]; simp, by rw [hyd]; simp [hbc], hp⟩] at hr
            rw [decide_eq_false hp] at hph
            have HB := Lib.hid (bad 4 hr.symm)
            clear bad HR hp hyd hr
            go_wp2_with fail
            refine (blankC c _).mono ?_
            rintro e w7 ⟨rfl, rfl⟩
            rw [hbc]
            clear hbc
            go_wp2_with fail
            refine hph.mono ?_
            rintro e w8 ⟨rfl, rfl⟩
            go_wp2_with fail
            refine (fail_any fr 4 _).mono ?_
            rintro e w9 ⟨rfl, rfl⟩
            exact ⟨rfl, HB.out _ HK.out⟩
end Go.Proofs.YtjohfljkhlkjoaaGreatDoor

