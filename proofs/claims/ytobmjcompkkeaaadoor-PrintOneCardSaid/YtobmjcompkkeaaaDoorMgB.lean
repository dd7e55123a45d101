
/- A start tag in memory, and its steps. -/
import Derived.Test.YtobmjcompkkeaaaDoorMgA
import Derived.Test.YtobmjcompkkeaaaDoorScope
import Derived.Deep.RegionLaw
import Derived.Test.YtobmjcompkkeaaaDoorLePlain
import GoSem.Claim
import Derived.Deep.LoopGhost
import Derived.Lib.Fold
import Derived.Laws.RangeAny
import Derived.Laws.BitsAllLaws
import Derived.Shelf.GgClosure.StringsTrimFunc
namespace Go.Proofs.YtobmjcompkkeaaaDoor
open Go.RowKit Wb

theorem own_keeps {D : Nat} {w w2 : World} {base sz n : Nat} {e : TypeId} {v : Value} {xs : List Value} (h : w.ownsRow base e sz v n xs) (hk : Keeps D w w2) (hD : D < base) : w2.ownsRow base e sz v n xs := by
  refine ⟨h.1, ?_⟩
  rcases h.2 with hn | ⟨g, cap, cur, rfl, hbg, hg, rest⟩
  · exact .inl hn
  · have hl : g < w.heap.size := by
      rcases Nat.lt_or_ge g w.heap.size with hl | hl
      · exact hl
      · rw [Array.getElem?_eq_none hl] at hg; cases hg
    exact .inr ⟨g, cap, cur, rfl, hbg, (hk.block g hl (by omega)).trans hg, rest⟩
theorem own_blk_ne {w : World} {base sz n g : Nat} {e t : TypeId} {v : Value} {xs : List Value} {cs : Array Value} {fr : Nat × Nat} (h : w.ownsRow base e sz v n xs) (hb : w.heap[g]? = some (.cells cs t fr)) (hne : t ≠ e) : v.ownBlock ≠ some g := by
  intro hv
  rcases h.2 with ⟨rfl, _⟩ | ⟨k, cap, cur, rfl, _, hk, _⟩
  · simp [Value.ownBlock] at hv
  · simp [Value.ownBlock] at hv
    subst hv
    rw [hb] at hk
    injection hk with hk
    injection hk with _ ht
    exact hne ht
theorem own_set {w : World} {base sz n g : Nat} {e : TypeId} {v : Value} {xs : List Value} (h : w.ownsRow base e sz v n xs) (hne : v.ownBlock ≠ some g) (o : Nat) (u : Value) : (w.setCell ⟨g, o, none⟩ u).ownsRow base e sz v n xs := by
  refine ⟨h.1, ?_⟩
  rcases h.2 with hn | ⟨k, cap, cur, rfl, hbg, hk, rest⟩
  · exact .inl hn
  · have : k ≠ g := by
      intro e
      subst e
      exact hne rfl
    exact .inr ⟨k, cap, cur, rfl, hbg, (Below.heap_setCell _ _ _ _ (by simpa using this)).trans hk, rest⟩

section
variable {w0 w w' : World} {D : Nat} {s : ByteArray} {fr at_ T : Nat} {k : Int} {x : ByteArray} {acc : List Pr}
theorem blk_lt {w : World} {g : Nat} {o : Obj} (h : w.heap[g]? = some o) : g < w.heap.size := by
  rcases Nat.lt_or_ge g w.heap.size with hl | hl
  · exact hl
  · rw [Array.getElem?_eq_none hl] at h; cases h
end
end Go.Proofs.YtobmjcompkkeaaaDoor

namespace Go.Proofs.YtobmjcompkkeaaaDoor
open Go.RowKit Wb

end Go.Proofs.YtobmjcompkkeaaaDoor
namespace Wb
open Go

theorem seq_skip {y : Code} {P : Program} {Q : Exit → Act → World → Prop} {a : Act} {w : World} (h : y.wp P Q a w) : (Code.seq .skip y).wp P Q a w := wp_seq (wp_skip h)

theorem wp_scope_ghost2 {c : Code} {P : Program} {a : Act} {w : World} {Q : Exit → Act → World → Prop} (J : Nat → Nat → Act → World → Prop)
    (pass : ∀ l n a w, J l n a w → ∃ rest, findLabel c l = some (.seq .skip rest) ∧ rest.wp P (jumpsTo (fun l' a' w' => ∃ n', n' < n ∧ J l' n' a' w') Q) a w)
    (first : (∀ l n a w rest, J l n a w → findLabel c l = some (.seq .skip rest) → rest.wp P (jumpsTo (fun l' a' w' => ∃ n', J l' n' a' w') Q) a w) → c.wp P (jumpsTo (fun l a' w' => ∃ n, J l n a' w') Q) a w) : (Code.scope c).wp P Q a w := by
  refine wp_scope_ghost J (first ?_) (fun l n a w hJ => (pass l n a w hJ).elim fun rest h => ⟨_, h.1, Wb.seq_skip h.2⟩)
  intro l n a w rest hJ hf
  obtain ⟨rest', hf', hp⟩ := pass l n a w hJ
  obtain rfl : rest' = rest := by have := Option.some.inj (hf'.symm.trans hf); injection this
  exact jumpsTo_weaken (fun l a w ⟨n', _, h⟩ => ⟨n', h⟩) hp
end Wb
namespace Go.Proofs.YtobmjcompkkeaaaDoor
open Go.RowKit Wb
abbrev AL := List (List UInt8 × List UInt8)
def prs (l : AL) : List Pr := l.map fun p => (⟨p.1.toArray⟩, ⟨p.2.toArray⟩)
theorem prs_len (l : AL) : (prs l).length = l.length := by simp [prs]

/-- The frame at a label. -/
def TagF (D : Nat) (w0 : World) (T : Nat) (ap : Bool) (a : Act) : Prop := ∃ (u1 u5 u6 u7 u8 u9 u10 u11 u12 u13 u14 u15 u16 u17 u18 u19 u20 u21 u22 u23 u24 u25 u26 u27 u28 u29 u30 u31 u32 u33 u34 u35 u36 u37 u38 u39 u40 u41 : Value), a = { tmps := #[.pointer (some ⟨D, 0, none⟩), u1, .pointer (some ⟨w0.heap.size, 0, none⟩), .pointer (some ⟨T, 0, none⟩), .bool ap, u5, u6, u7, u8, u9, u10, u11, u12, u13, u14, u15, u16, u17, u18, u19, u20, u21, u22, u23, u24, u25, u26, u27, u28, u29, u30, u31, u32, u33, u34, u35, u36, u37, u38, u39, u40, u41], defers := [] }
/-- The name, and what comes to the attributes. -/
def TagR (s : ByteArray) (fr : Nat) (x : ByteArray) (r : Er ((Int × AL) × Nat)) : Prop := ∃ y q, namedX s.data.toList fr (fr + 1) = .ok (y, q) ∧ (⟨y.toArray⟩ : ByteArray) = x ∧ attrsX s.data.toList fr 67 q [] = r
theorem own_fresh {w : World} {base sz n m c : Nat} {e : TypeId} {A : Option Addr} {xs : List Value} (h : w.ownsRow base e sz (.slice A n c) m xs) : ∀ ad, A = some ad → base ≤ ad.block := by
  intro ad ha
  subst ha
  rcases h.2 with ⟨hn, _⟩ | ⟨g, cap, cur, hv, hbg, _⟩
  · cases hn
  · injection hv with h1
    injection h1 with h1
    rw [h1]
    exact hbg
theorem attrsX_step (L : List UInt8) (fr f at_ : Nat) (acc : AL) : attrsX L fr (f + 1) at_ acc = match L.drop (at_ + blankN L at_) with
    | [] => .error (fr, 2)
    | c :: _ =>
      if c = 47 then match takeX L fr (at_ + blankN L at_ + 1) 62 with
        | .error e => .error e
        | .ok b => .ok ((3, acc), b)
      else if c = 62 then .ok ((1, acc), at_ + blankN L at_ + 1)
      else match attributeX L fr (at_ + blankN L at_) acc.length (decide (0 < blankN L at_)) with
        | .error e => .error e
        | .ok (a, b) => attrsX L fr f b (acc ++ [a]) := rfl
theorem takeX_at {L : List UInt8} {fr at_ : Nat} {c : UInt8} {l : List UInt8} (h : L.drop at_ = c :: l) : takeX L fr at_ c = .ok (at_ + 1) := by unfold takeX; rw [h]; simp
theorem attributeX_le {L : List UInt8} {fr at_ o : Nat} {ap : Bool} {n v : List UInt8} {b : Nat} (h : attributeX L fr at_ o ap = .ok ((n, v), b)) : o ≠ 65 := by
  intro e
  subst e
  unfold attributeX at h
  split at h
  · cases h
  · rw [if_pos rfl] at h; cases h
theorem valueX_le {L : List UInt8} {fr at_ : Nat} {v : List UInt8} {b : Nat} (h : valueX L fr at_ = .ok (v, b)) : b ≤ L.length := by
  unfold valueX at h
  split at h
  · cases h
  · rename_i q l hl
    have h1 := drop_cons_len hl
    have h2 : l.length = L.length - (at_ + 1) := by have := congrArg List.length (drop_cons_next hl); simp at this; omega
    split at h
    · split at h
      · cases h
      · rename_i hu
        have := untilR_le hu
        split at h
        · cases h
        · split at h
          · cases h
          · simp only [Except.ok.injEq, Prod.mk.injEq] at h
            omega
    · cases h
theorem attributeX_at {L : List UInt8} {fr at_ o : Nat} {ap : Bool} {n v : List UInt8} {b : Nat} (h : attributeX L fr at_ o ap = .ok ((n, v), b)) : b ≤ L.length := by
  unfold attributeX at h
  split at h
  · cases h
  · split at h
    · cases h
    · split at h
      · cases h
      · split at h
        · cases h
        · split at h
          · cases h
          · rename_i hv
            simp only [Except.ok.injEq, Prod.mk.injEq] at h
            have := valueX_le hv
            omega

end Go.Proofs.YtobmjcompkkeaaaDoor

namespace Go.Proofs.YtobmjcompkkeaaaDoor
open Go.RowKit Wb

end Go.Proofs.YtobmjcompkkeaaaDoor

namespace Go.Proofs.YtobmjcompkkeaaaDoor
open Go.RowKit Wb

theorem until60 : ∀ l : List UInt8, (untilR [60] l = none → l.takeWhile (· != 60) = l) ∧ (∀ n v, untilR [60] l = some (n, v) → l.takeWhile (· != 60) = v)
  | [] => by
    constructor
    · intro _; rfl
    · intro n v h
      unfold untilR at h
      rw [if_neg (by simp)] at h
      cases h
  | c :: l => by
    obtain ⟨h1, h2⟩ := until60 l
    by_cases hc : c = 60
    · subst hc
      have e : untilR [60] (60 :: l) = some (1, []) := by unfold untilR; rw [if_pos (by rfl)]; rfl
      rw [e]
      refine ⟨fun h => (by cases h), fun n v h => ?_⟩
      simp only [Option.some.injEq, Prod.mk.injEq] at h
      rw [← h.2]
      simp
    · have e : untilR [60] (c :: l) = match untilR [60] l with | none => none | some (n, v) => some (n + 1, c :: v) := by
        conv => lhs; unfold untilR
        rw [if_neg (by simpa using hc)]
        cases untilR [60] l <;> rfl
      rw [e, List.takeWhile_cons_of_pos (by simpa using hc)]
      cases hu : untilR [60] l with
      | none => exact ⟨fun _ => by rw [h1 hu], fun n v h => by cases h⟩
      | some nv =>
        obtain ⟨n, v⟩ := nv
        refine ⟨fun h => (by cases h), fun n' v' h => ?_⟩
        simp only [Option.some.injEq, Prod.mk.injEq] at h
        rw [h2 n v hu, ← h.2]
theorem cut60 (l : List UInt8) : (Lib.cut l [60]).1 = l.takeWhile (· != 60) := by
  rcases cut_until [60] (by simp) l with ⟨h1, h2⟩ | ⟨n, v, h1, h2, _⟩
  · rw [h2, (until60 l).1 h1]
  · rw [h2, (until60 l).2 n v h1]

theorem index_cd : ∀ l : List UInt8, (Lib.index l [93, 93, 62] = -1 ∧ cdAt l = none) ∨ ∃ k : Nat, Lib.index l [93, 93, 62] = k ∧ cdAt l = some k ∧ k ≤ l.length
  | [] => .inl ⟨rfl, rfl⟩
  | c :: l => by
    by_cases h : (c :: l).take 3 = [93, 93, 62]
    · right
      refine ⟨0, ?_, ?_, by omega⟩
      · unfold Lib.index
        rw [if_pos (by rw [pre_take]; exact decide_eq_true h)]
        rfl
      · unfold cdAt
        rw [if_pos h]
    · have e : Lib.index (c :: l) [93, 93, 62] = if Lib.index l [93, 93, 62] == -1 then -1 else Lib.index l [93, 93, 62] + 1 := by
        conv => lhs; unfold Lib.index
        rw [if_neg (by rw [pre_take]; simpa using h)]
      rcases index_cd l with ⟨h1, h2⟩ | ⟨k, h1, h2, h3⟩
      · left
        refine ⟨by rw [e, h1]; rfl, ?_⟩
        unfold cdAt
        rw [if_neg h, h2]
        rfl
      · right
        refine ⟨k + 1, ?_, ?_, by simp; omega⟩
        · rw [e, h1, if_neg (by simp)]
          rfl
        · unfold cdAt
          rw [if_neg h, h2]
          rfl

end Go.Proofs.YtobmjcompkkeaaaDoor

namespace Wb

/-- The sign at the head of a text, and its bytes, as a range over the text has them: where none begins, U+FFFD of one byte. -/
def decU (l : List UInt8) : Nat × Nat := if (dec l).2 = 0 then (65533, 1) else ((dec l).1.toNat, (dec l).2.toNat)

/-- The model's own, as a function of what stands at the place. -/
def decL (b0 : Nat) (l : List UInt8) : Nat × Nat :=
  let a (k : Nat) : Nat := (l[k]?.getD 0).toNat
  let cont (k : Nat) : Bool := decide (k < l.length) && a k / 64 == 2
  if b0 < 0x80 then (b0, 1)
  else if b0 / 32 == 6 && cont 0 then
    let c := (b0 % 32) * 64 + a 0 % 64
    if c ≥ 0x80 then (c, 2) else (65533, 1)
  else if b0 / 16 == 14 && cont 0 && cont 1 then
    let c := (b0 % 16) * 4096 + (a 0 % 64) * 64 + a 1 % 64
    if c ≥ 0x800 && Go.Utf8.valid c then (c, 3) else (65533, 1)
  else if b0 / 8 == 30 && cont 0 && cont 1 && cont 2 then
    let c := (b0 % 8) * 262144 + (a 0 % 64) * 4096 + (a 1 % 64) * 64 + a 2 % 64
    if c ≥ 0x10000 && Go.Utf8.valid c then (c, 4) else (65533, 1)
  else (65533, 1)

theorem get_bang (s : ByteArray) (j : Nat) : s.get! j = (s.data.toList[j]?).getD 0 := by
  show s.data[j]! = _
  rw [getElem!_def, ← Array.getElem?_toList]
  cases s.data.toList[j]? <;> rfl

theorem decode_L (s : ByteArray) (i : Nat) (c : UInt8) (l : List UInt8) (h : s.data.toList.drop i = c :: l) : Go.Utf8.decode s i = decL c.toNat l := by
  have hs : s.size = s.data.toList.length := by simp
  have hlen : i + (l.length + 1) = s.size := by
    have := congrArg List.length h
    rw [List.length_drop] at this
    simp only [List.length_cons] at this
    omega
  have ha : ∀ k, (s.get! (i + k)) = ((c :: l)[k]?).getD 0 := by
    intro k
    rw [get_bang, ← h, List.getElem?_drop]
  have h0 : (s.get! (i + 0)) = c := by rw [ha]; rfl
  have h1 : (s.get! (i + 1)) = (l[0]?).getD 0 := by rw [ha]; rfl
  have h2 : (s.get! (i + 2)) = (l[1]?).getD 0 := by rw [ha]; rfl
  have h3 : (s.get! (i + 3)) = (l[2]?).getD 0 := by rw [ha]; rfl
  have l1 : decide (i + 1 < s.size) = decide (0 < l.length) := decide_eq_decide.2 (by omega)
  have l2 : decide (i + 2 < s.size) = decide (1 < l.length) := decide_eq_decide.2 (by omega)
  have l3 : decide (i + 3 < s.size) = decide (2 < l.length) := decide_eq_decide.2 (by omega)
  unfold Go.Utf8.decode decL Go.Utf8.runeError
  simp only [h0, h1, h2, h3, l1, l2, l3]

theorem valid_sgn (r : Int) : Go.Utf8.valid r = sgn r := by
  unfold Go.Utf8.valid sgn
  rw [Bool.eq_iff_iff]
  simp only [Bool.or_eq_true, Bool.and_eq_true, decide_eq_true_eq]
  omega

theorem decU_zero {c : UInt8} {l : List UInt8} (h : fsz c.toNat = 0) : decU (c :: l) = (65533, 1) := by
  unfold decU dec
  simp only [h, if_pos]
theorem decU_none {c : UInt8} {l : List UInt8} {k : Nat} (h : fsz c.toNat = k) (hk : k ≠ 0) (hn : decN (fbt c.toNat) (k - 1) l = none) : decU (c :: l) = (65533, 1) := by
  have e : dec (c :: l) = (0, 0) := by
    unfold dec
    simp only [h, Int.toNat_natCast, hn]
    rw [if_neg (by omega)]
  unfold decU
  rw [e]
  rfl
theorem decU_some {c : UInt8} {l : List UInt8} {k : Nat} {r : Int} (h : fsz c.toNat = k) (hk : k ≠ 0) (hn : decN (fbt c.toNat) (k - 1) l = some r) : decU (c :: l) = if slen r = k then (r.toNat, k) else (65533, 1) := by
  have e : dec (c :: l) = if slen r = k then (r, (k : Int)) else (0, 0) := by
    unfold dec
    simp only [h, Int.toNat_natCast, hn]
    rw [if_neg (by omega)]
  unfold decU
  rw [e]
  by_cases hs : slen r = k
  · simp only [if_pos hs]
    rw [if_neg (by omega)]
    simp
  · simp only [if_neg hs]
    rfl

theorem decN_one (r : Int) (l : List UInt8) : decN r 1 l = if (decide (0 < l.length) && (l[0]?.getD 0).toNat / 64 == 2) = true then some (r * 64 + ((l[0]?.getD 0).toNat % 64 : Nat)) else none := by
  cases l with
  | nil => rfl
  | cons d l =>
    by_cases g : d.toNat / 64 = 2
    · simp [decN, g, show ((d.toNat : Int) / 64 = 2) from by omega]
    · simp [decN, g, show ¬ ((d.toNat : Int) / 64 = 2) from by omega]
theorem decN_more (r : Int) (k : Nat) (l : List UInt8) : decN r (k + 1) l = if (decide (0 < l.length) && (l[0]?.getD 0).toNat / 64 == 2) = true then decN (r * 64 + ((l[0]?.getD 0).toNat % 64 : Nat)) k (l.drop 1) else none := by
  cases l with
  | nil => rfl
  | cons d l =>
    by_cases g : d.toNat / 64 = 2
    · simp [decN, g, show ((d.toNat : Int) / 64 = 2) from by omega]
    · simp [decN, g, show ¬ ((d.toNat : Int) / 64 = 2) from by omega]
theorem drop1 (l : List UInt8) (k : Nat) : (l.drop 1)[k]? = l[k + 1]? := by rw [List.getElem?_drop, Nat.add_comm]
theorem dropl (l : List UInt8) (k : Nat) : decide (k < (l.drop 1).length) = decide (k + 1 < l.length) := decide_eq_decide.2 (by rw [List.length_drop]; omega)

theorem slen_is (v : Nat) : slen v = if sgn v = true then (if v < 128 then 1 else if v < 2048 then 2 else if v < 65536 then 3 else 4) else 0 := by
  have e1 : ((v : Int) < 128) = (v < 128) := propext (by omega)
  have e2 : ((v : Int) < 2048) = (v < 2048) := propext (by omega)
  have e3 : ((v : Int) < 65536) = (v < 65536) := propext (by omega)
  unfold slen
  simp only [e1, e2, e3]
theorem fin2 (v : Nat) (hv : v < 2048) : (if v ≥ 128 then (v, 2) else (65533, 1)) = if slen v = (2 : Nat) then ((v : Int).toNat, 2) else (65533, 1) := by
  have hs : sgn v = true := (sgn_iff _).2 (by omega)
  rw [slen_is, if_pos hs]
  by_cases h : v < 128
  · rw [if_pos h, if_neg (by omega), if_neg (by omega)]
  · have e : (if v < 128 then (1 : Int) else if v < 2048 then 2 else if v < 65536 then 3 else 4) = (2 : Nat) := by rw [if_neg h, if_pos hv]; rfl
    rw [if_pos e, if_pos (by omega)]
    rfl
theorem fin3 (v : Nat) (hv : v < 65536) : (if (decide (v ≥ 2048) && Go.Utf8.valid v) = true then (v, 3) else (65533, 1)) = if slen v = (3 : Nat) then ((v : Int).toNat, 3) else (65533, 1) := by
  rw [valid_sgn, slen_is]
  by_cases hs : sgn v = true
  · rw [if_pos hs, hs, Bool.and_true]
    by_cases h : v < 2048
    · rw [decide_eq_false (by omega), if_neg (by decide), if_neg]
      split
      · omega
      · omega
    · have e : (if v < 128 then (1 : Int) else if v < 2048 then 2 else if v < 65536 then 3 else 4) = (3 : Nat) := by rw [if_neg (by omega), if_neg h, if_pos hv]; rfl
      rw [decide_eq_true (by omega), if_pos rfl, if_pos e]
      rfl
  · rw [if_neg hs, Bool.eq_false_iff.2 hs, Bool.and_false, if_neg (by decide), if_neg (by omega)]
theorem fin4 (v : Nat) : (if (decide (v ≥ 65536) && Go.Utf8.valid v) = true then (v, 4) else (65533, 1)) = if slen v = (4 : Nat) then ((v : Int).toNat, 4) else (65533, 1) := by
  rw [valid_sgn, slen_is]
  by_cases hs : sgn v = true
  · rw [if_pos hs, hs, Bool.and_true]
    by_cases h : v < 65536
    · rw [decide_eq_false (by omega), if_neg (by decide), if_neg]
      split
      · omega
      · split <;> omega
    · have e : (if v < 128 then (1 : Int) else if v < 2048 then 2 else if v < 65536 then 3 else 4) = (4 : Nat) := by rw [if_neg (by omega), if_neg (by omega), if_neg h]; rfl
      rw [decide_eq_true (by omega), if_pos rfl, if_pos e]
      rfl
  · rw [if_neg hs, Bool.eq_false_iff.2 hs, Bool.and_false, if_neg (by decide), if_neg (by omega)]

theorem arith3 (a b c : Nat) : ((a : Int) * 64 + (b : Nat)) * 64 + (c : Nat) = ((a * 4096 + b * 64 + c : Nat) : Int) := by omega
theorem arith4 (a b c d : Nat) : (((a : Int) * 64 + (b : Nat)) * 64 + (c : Nat)) * 64 + (d : Nat) = ((a * 262144 + b * 4096 + c * 64 + d : Nat) : Int) := by omega

theorem decL_U (c : UInt8) (l : List UInt8) : decL c.toNat l = decU (c :: l) := by
  have hc := c.toNat_lt
  by_cases h1 : c.toNat < 128
  · have hf : fsz c.toNat = (1 : Nat) := by unfold fsz; rw [if_pos (by omega)]; rfl
    have hb : fbt c.toNat = c.toNat := by unfold fbt; rw [if_pos (by omega)]
    have hl : slen c.toNat = (1 : Nat) := by unfold slen; rw [if_pos ((sgn_iff _).2 (by omega)), if_pos (by omega)]; rfl
    rw [decU_some hf (by omega) (r := c.toNat) (by rw [hb]; rfl), if_pos hl]
    unfold decL
    simp [h1]
  · by_cases h2 : c.toNat / 32 = 6
    · have hf : fsz c.toNat = (2 : Nat) := by unfold fsz; rw [if_neg (by omega), if_pos (by omega)]; rfl
      have hb : fbt c.toNat = (c.toNat % 32 : Nat) := by unfold fbt; rw [if_neg (by omega), if_pos (by omega)]; omega
      unfold decL
      simp only [if_neg h1, h2, beq_self_eq_true, Bool.true_and]
      have hn := decN_one (c.toNat % 32 : Nat) l
      by_cases g1 : (decide (0 < l.length) && (l[0]?.getD 0).toNat / 64 == 2) = true
      · rw [if_pos g1] at hn ⊢
        rw [decU_some hf (by omega) (r := (c.toNat % 32 * 64 + (l[0]?.getD 0).toNat % 64 : Nat)) (by rw [hb, hn]; congr 1), fin2 _ (by omega)]
      · rw [if_neg g1] at hn ⊢
        rw [decU_none hf (by omega) (by rw [hb]; exact hn)]
        simp [show ¬ c.toNat / 16 = 14 from by omega, show ¬ c.toNat / 8 = 30 from by omega]
    · by_cases h3 : c.toNat / 16 = 14
      · have hf : fsz c.toNat = (3 : Nat) := by unfold fsz; rw [if_neg (by omega), if_neg (by omega), if_pos (by omega)]; rfl
        have hb : fbt c.toNat = (c.toNat % 16 : Nat) := by unfold fbt; rw [if_neg (by omega), if_neg (by omega), if_pos (by omega)]; omega
        unfold decL
        simp only [if_neg h1, h3, beq_self_eq_true, Bool.true_and]
        rw [if_neg (by simp [h2])]
        have hn := decN_more (c.toNat % 16 : Nat) 1 l
        rw [decN_one, drop1, dropl] at hn
        by_cases g1 : (decide (0 < l.length) && (l[0]?.getD 0).toNat / 64 == 2) = true
        · rw [if_pos g1] at hn
          rw [g1, Bool.true_and]
          by_cases g2 : (decide (0 + 1 < l.length) && (l[0 + 1]?.getD 0).toNat / 64 == 2) = true
          · rw [if_pos g2] at hn
            rw [if_pos g2, decU_some hf (by omega) (r := (c.toNat % 16 * 4096 + (l[0]?.getD 0).toNat % 64 * 64 + (l[1]?.getD 0).toNat % 64 : Nat)) (by rw [hb, hn]; exact congrArg some (arith3 _ _ _)), fin3 _ (by omega)]
          · rw [if_neg g2] at hn
            rw [if_neg g2, decU_none hf (by omega) (by rw [hb]; exact hn)]
            simp [show ¬ c.toNat / 8 = 30 from by omega]
        · rw [if_neg g1] at hn
          have g1' := Bool.eq_false_iff.2 g1
          rw [g1', decU_none hf (by omega) (by rw [hb]; exact hn)]
          simp
      · by_cases h4 : c.toNat / 8 = 30
        · have hf : fsz c.toNat = (4 : Nat) := by unfold fsz; rw [if_neg (by omega), if_neg (by omega), if_neg (by omega), if_pos (by omega)]; rfl
          have hb : fbt c.toNat = (c.toNat % 8 : Nat) := by unfold fbt; rw [if_neg (by omega), if_neg (by omega), if_neg (by omega), if_pos (by omega)]; omega
          unfold decL
          simp only [if_neg h1, h4, beq_self_eq_true, Bool.true_and]
          rw [if_neg (by simp [h2]), if_neg (by simp [h3])]
          have hn := decN_more (c.toNat % 8 : Nat) 2 l
          rw [decN_more _ 1 (l.drop 1), decN_one, drop1, drop1, drop1, dropl, dropl, dropl] at hn
          by_cases g1 : (decide (0 < l.length) && (l[0]?.getD 0).toNat / 64 == 2) = true
          · rw [if_pos g1] at hn
            rw [g1, Bool.true_and]
            by_cases g2 : (decide (0 + 1 < l.length) && (l[0 + 1]?.getD 0).toNat / 64 == 2) = true
            · rw [if_pos g2] at hn
              rw [show (decide (1 < l.length) && (l[1]?.getD (0 : UInt8)).toNat / 64 == 2) = true from g2, Bool.true_and]
              by_cases g3 : (decide (0 + 1 + 1 < l.length) && (l[0 + 1 + 1]?.getD 0).toNat / 64 == 2) = true
              · rw [if_pos g3] at hn
                rw [if_pos g3, decU_some hf (by omega) (r := (c.toNat % 8 * 262144 + (l[0]?.getD 0).toNat % 64 * 4096 + (l[1]?.getD 0).toNat % 64 * 64 + (l[2]?.getD 0).toNat % 64 : Nat)) (by rw [hb, hn]; exact congrArg some (arith4 _ _ _ _)), fin4]
              · rw [if_neg g3] at hn
                rw [if_neg g3, decU_none hf (by omega) (by rw [hb]; exact hn)]
            · rw [if_neg g2] at hn
              have g2' := Bool.eq_false_iff.2 g2
              rw [show (decide (1 < l.length) && (l[1]?.getD (0 : UInt8)).toNat / 64 == 2) = false from g2', decU_none hf (by omega) (by rw [hb]; exact hn)]
              simp
          · rw [if_neg g1] at hn
            have g1' := Bool.eq_false_iff.2 g1
            rw [g1', decU_none hf (by omega) (by rw [hb]; exact hn)]
            simp
        · have hf : fsz c.toNat = 0 := by unfold fsz; rw [if_neg (by omega), if_neg (by omega), if_neg (by omega), if_neg (by omega)]
          rw [decU_zero hf]
          unfold decL
          simp [h1, h2, h3, h4]

theorem decode_U (s : ByteArray) (i : Nat) (hi : i < s.size) : Go.Utf8.decode s i = decU (s.data.toList.drop i) := by
  have hs : s.size = s.data.toList.length := by simp
  cases hd : s.data.toList.drop i with
  | nil =>
    have := congrArg List.length hd
    rw [List.length_drop] at this
    simp at this
    omega
  | cons c l => rw [decode_L s i c l hd, decL_U]
end Wb

namespace Wb
open Go
def foldE (c d : Nat) : Bool := decide (c = d ∨ (65 ≤ c ∧ c ≤ 90 ∧ d = c + 32) ∨ (65 ≤ d ∧ d ≤ 90 ∧ c = d + 32))
def foldB : List UInt8 → List UInt8 → Bool
  | [], [] => true
  | c :: l, d :: m => decide (c.toNat < 128) && foldE c.toNat d.toNat && foldB l m
  | [], _ :: _ => false
  | _ :: _, [] => false
theorem wp_scope_inline {c rest : Code} {P : Program} {a : Act} {w : World} {Q : Exit → Act → World → Prop} (hf : findLabel c 0 = some (.seq .skip rest))
    (first : c.wp P (jumpsTo (fun l a' w' => l = 0 ∧ rest.wp P (jumpsTo (fun _ _ _ => False) Q) a' w') Q) a w) : (Code.scope c).wp P Q a w :=
  wp_scope_ghost2 (fun l n a w => l = 0 ∧ n = 0 ∧ rest.wp P (jumpsTo (fun _ _ _ => False) Q) a w)
    (fun l n a w h => by obtain ⟨rfl, rfl, h⟩ := h; exact ⟨rest, hf, jumpsTo_weaken (fun _ _ _ h => h.elim) h⟩)
    (fun _ => jumpsTo_weaken (fun l a w h => ⟨0, h.1, rfl, h.2⟩) first)
theorem foldB_end (l m : List UInt8) (h : l = [] ∨ m = []) : foldB l m = decide (l.length = m.length) := by
  rcases h with rfl | rfl
  · cases m <;> simp [foldB]
  · cases l <;> simp [foldB]
end Wb
namespace Go.Proofs.YtobmjcompkkeaaaDoor
open Go.RowKit Wb

end Go.Proofs.YtobmjcompkkeaaaDoor

namespace Wb
open Go

def behindU : Nat → List UInt8 → List UInt8
  | 0, l => l
  | f + 1, l => if l = [] then [] else if partB (decU l).1 = true then behindU f (l.drop (decU l).2) else l

theorem decU_pos (l : List UInt8) : 1 ≤ (decU l).2 := by
  have hn := (dec_bd l).1
  unfold decU
  by_cases h : (dec l).2 = 0
  · simp [h]
  · simp only [h, if_false]
    omega

theorem behindU_drop : ∀ (f : Nat) (l : List UInt8), ∃ k, k ≤ l.length ∧ behindU f l = l.drop k
  | 0, l => ⟨0, Nat.zero_le _, rfl⟩
  | f + 1, l => by
    unfold behindU
    split
    · rename_i h; exact ⟨0, Nat.zero_le _, by rw [h]; rfl⟩
    · split
      · obtain ⟨k, hk, he⟩ := behindU_drop f (l.drop (decU l).2)
        rw [List.length_drop] at hk
        by_cases hd : (decU l).2 ≤ l.length
        · exact ⟨(decU l).2 + k, by omega, by rw [he, List.drop_drop]⟩
        · exact ⟨l.length, Nat.le_refl _, by rw [he, List.drop_drop, List.drop_eq_nil_of_le (by omega), List.drop_eq_nil_of_le (Nat.le_refl _)]⟩
      · exact ⟨0, Nat.zero_le _, rfl⟩

def instructionU (L : List UInt8) (fr : Nat) : Er Nat :=
  let r := L.drop (fr + 2)
  let b := behindU r.length r
  let name := r.take (r.length - b.length)
  if nameB name = false ∨ lowL name = sXml then .error (fr, 12)
  else if b ≠ [] ∧ (b.take 1).any blkB = false ∧ b.take 2 ≠ [63, 62] then .error (fr, 4)
  else match upToX L fr (fr + 2) [63, 62] with
    | .error e => .error e
    | .ok (_, a) => .ok a

def tokenU (L : List UInt8) (fr : Nat) : Er (Option Tk × Nat) :=
  let r := L.drop fr
  if r.take 1 ≠ [60] then someX (textX L fr)
  else if r.take 2 = [60, 63] then noneX (instructionU L fr)
  else if r.take 4 = [60, 33, 45, 45] then noneX (commentX L fr)
  else if r.take 9 = [60, 33, 91, 67, 68, 65, 84, 65, 91] then someX (sectionX L fr)
  else if r.take 3 = [60, 33, 68] then .error (fr, 17)
  else if r.take 2 = [60, 33] then .error (fr, 4)
  else if r.take 2 = [60, 47] then someX (endTagX L fr)
  else someX (startTagX L fr)

def tokLU (L : List UInt8) : Nat → Nat → Er (List (Nat × Tk))
  | 0, _ => .ok []
  | f + 1, at_ =>
    if L.length ≤ at_ then .ok []
    else match tokenU L at_ with
      | .error e => .error e
      | .ok (t, a) => match tokLU L f a with
        | .error e => .error e
        | .ok ts => .ok (consT at_ t ts)

/-- The place of the first sign that is none of XML's. -/
def badU : Nat → List UInt8 → Nat → Option Nat
  | 0, _, _ => none
  | f + 1, l, b => if l = [] then none else if charB (decU l).1 = true then badU f (l.drop (decU l).2) (b + (decU l).2) else some b

def checkU (L : List UInt8) : Er Unit :=
  if 32768 < L.length then .error (0, 3)
  else if 0 ≤ chk L then .error ((chk L).toNat, 10)
  else match badU L.length L 0 with
    | some p => .error (p, 11)
    | none => .ok ()

def tokensU (L : List UInt8) : Er (List (Nat × Tk)) :=
  match checkU L with
  | .error e => .error e
  | .ok _ => match declX L with
    | .error e => .error e
    | .ok a => tokLU L (L.length + 1) a

end Wb

namespace Wb
open Go

theorem idx_behind (s : ByteArray) : ∀ (f pos : Nat), s.size ≤ pos + f →
    (Lib.idxFuncFrom (fun x => partB (x : Int)) false s f pos = -1 ∧ behindU f (s.data.toList.drop pos) = []) ∨
    ∃ k : Nat, Lib.idxFuncFrom (fun x => partB (x : Int)) false s f pos = (k : Int) ∧ k < s.size ∧ behindU f (s.data.toList.drop pos) = s.data.toList.drop k
  | 0, pos, h => .inl ⟨rfl, by
      show s.data.toList.drop pos = []
      exact List.drop_eq_nil_of_le (by have : s.size = s.data.toList.length := by simp
                                       omega)⟩
  | f + 1, pos, h => by
    have hs : s.size = s.data.toList.length := by simp
    unfold Lib.idxFuncFrom behindU
    by_cases hp : pos < s.size
    · have hne : s.data.toList.drop pos ≠ [] := by
        intro e
        have := congrArg List.length e
        rw [List.length_drop] at this
        simp at this
        omega
      rw [if_pos hp, if_neg hne, decode_U s pos hp]
      by_cases hq : partB ((decU (s.data.toList.drop pos)).1 : Int) = true
      · rw [if_neg (by rw [hq]; decide), if_pos hq, List.drop_drop]
        exact idx_behind s f _ (by have := decU_pos (s.data.toList.drop pos); omega)
      · rw [if_pos (Bool.eq_false_iff.2 hq), if_neg hq]
        exact .inr ⟨pos, rfl, hp, rfl⟩
    · have he : s.data.toList.drop pos = [] := List.drop_eq_nil_of_le (by omega)
      rw [if_neg hp, he, if_pos rfl]
      exact .inl ⟨rfl, rfl⟩
theorem trim_behind (s : ByteArray) : (Lib.trimLeftF (fun x => partB (x : Int)) s).data.toList = behindU s.size s.data.toList := by
  have hs : s.size = s.data.toList.length := by simp
  unfold Lib.trimLeftF Lib.idxFunc
  rcases idx_behind s s.size 0 (by omega) with ⟨h1, h2⟩ | ⟨k, h1, h2, h3⟩
  · rw [h1, if_pos rfl]
    rw [List.drop_zero] at h2
    rw [h2]
  · rw [h1, if_neg (by omega)]
    rw [List.drop_zero] at h3
    rw [h3]
    rw [Go.Proofs.YtobmjcompkkeaaaDoor.extract_L, Int.toNat_natCast, List.take_of_length_le (by rw [List.length_drop]; omega)]

theorem low_all : ∀ d ∈ [120, 109, 108, 117, 116, 102, 45, 56], ∀ c : Fin 256, (decide (c.val < 128) && foldE c.val (UInt8.toNat d)) = ((if 65 ≤ UInt8.ofNat c.val ∧ UInt8.ofNat c.val ≤ 90 then UInt8.ofNat c.val + 32 else UInt8.ofNat c.val) == d) := by decide +kernel
end Wb

namespace Go.Proofs.YtobmjcompkkeaaaDoor
open Go.RowKit Wb

theorem foldB_yes {x y : UInt8} {l m : List UInt8} (h : x.toNat < 128) (he : x.toNat = y.toNat ∨ (65 ≤ x.toNat ∧ x.toNat ≤ 90 ∧ y.toNat = x.toNat + 32) ∨ (65 ≤ y.toNat ∧ y.toNat ≤ 90 ∧ x.toNat = y.toNat + 32)) : foldB (x :: l) (y :: m) = foldB l m := by
  simp only [foldB, foldE]
  rw [decide_eq_true h, decide_eq_true he]
  rfl
theorem foldB_no {x y : UInt8} {l m : List UInt8} (he : ¬ (x.toNat = y.toNat ∨ (65 ≤ x.toNat ∧ x.toNat ≤ 90 ∧ y.toNat = x.toNat + 32) ∨ (65 ≤ y.toNat ∧ y.toNat ≤ 90 ∧ x.toNat = y.toNat + 32))) : foldB (x :: l) (y :: m) = false := by
  simp only [foldB, foldE]
  rw [decide_eq_false he]
  simp
theorem foldB_high {x y : UInt8} {l m : List UInt8} (h : ¬ x.toNat < 128) : foldB (x :: l) (y :: m) = false := by
  simp only [foldB]
  rw [decide_eq_false h]
  rfl

end Go.Proofs.YtobmjcompkkeaaaDoor

namespace Go.Proofs.YtobmjcompkkeaaaDoor
open Go.RowKit Wb

theorem fold_low (p : List UInt8) (hp : ∀ d ∈ p, d ∈ [120, 109, 108, 117, 116, 102, 45, 56]) : ∀ l, foldB l p = decide (lowL l = p) := by
  induction p with
  | nil =>
    intro l
    cases l with
    | nil => rfl
    | cons c l => rfl
  | cons d p ih =>
    intro l
    cases l with
    | nil => rfl
    | cons c l =>
      have h := low_all d (hp d (by simp)) ⟨c.toNat, c.toNat_lt⟩
      simp only [UInt8.ofNat_toNat] at h
      have hi := ih (fun e he => hp e (by simp [he])) l
      simp only [foldB]
      rw [h, hi]
      show _ = decide ((if 65 ≤ c ∧ c ≤ 90 then c + 32 else c) :: lowL l = d :: p)
      generalize (if 65 ≤ c ∧ c ≤ 90 then c + 32 else c) = c'
      by_cases h1 : c' = d
      · by_cases h2 : lowL l = p <;> simp [h1, h2]
      · simp [h1]

end Go.Proofs.YtobmjcompkkeaaaDoor

