import Derived.Test.YtjohfljkhlkjoaaGreatDoorMgS
import Derived.Deep.RegionWith
namespace Go.Proofs.YtjohfljkhlkjoaaGreatDoor
open Go.RowKit Wb
def CpS (base : Nat) (A : Option Addr) (kv : Value) : Nat → Prop := fun k => k < base ∨ kv.ownBlock = some k ∨ ∃ ad, A = some ad ∧ ad.block = k
def cpC (n : Nd) (A : Option Addr) (ca : Nat) (kv : Value) : List Value := [.int .i64 n.kind, .string n.name.1, .string n.name.2, .slice A n.attrs.length ca, kv, .string n.text]
structure CopyW (base : Nat) (n : Nd) (A : Option Addr) (kv : Value) (w : World) : Prop where
  ats : Sl3 w A n.attrs
  new : Fresh base A
  kids : KidsR 37 (CpS base A kv) w base kv n.kids
  apart : n.attrs ≠ [] → ∀ ad, A = some ad → kv.ownBlock ≠ some ad.block
  free : n.attrs ≠ [] → ∀ ad, A = some ad → ∃ (g : Nat) (cur : Array Value), ad = ⟨g, 0, none⟩ ∧ base ≤ g ∧ w.heap[g]? = some (.cells cur 42 (0, 0))
theorem CopyW.safe {base : Nat} {n : Nd} {A : Option Addr} {kv : Value} {ca : Nat} {w : World} {S : Nat → Prop} (h : CopyW base n A kv w) (hS : ∀ k, S k → k < base) : SafeP S w (fun v => nodeC v n (cpC n A ca kv)) := by
  obtain ⟨K, ck, rfl, hk⟩ := h.kids.sl (S' := S) (fun k hs => .inl (hS k hs)) (fun k hv hs => by
    obtain ⟨css, _, h2, _⟩ := h.kids
    have := (own_in h2 hv).1
    have := hS k hs
    omega)
  have ha : SafeP S w (fun v => Sl3 v A n.attrs) := Sl.safe h.ats (fun _ ad e hs => by have := h.new ad e; have := hS _ hs; omega)
  exact fun w2 h2 => (nodeC_V _ _ _).2 ⟨A, ca, K, ck, rfl, ha w2 h2, hk w2 h2⟩
theorem own_base {w : World} {base base' sz n : Nat} {e : TypeId} {v : Value} {xs : List Value} (h : w.ownsRow base e sz v n xs) (hb : base' ≤ base) : w.ownsRow base' e sz v n xs := by
  refine ⟨h.1, ?_⟩
  rcases h.2 with h2 | ⟨g, cap, cur, a, b, rest⟩
  · exact .inl h2
  · exact .inr ⟨g, cap, cur, a, Nat.le_trans hb b, rest⟩
theorem CopyW.mono {base base' : Nat} {n : Nd} {A : Option Addr} {kv : Value} {w w' : World} (h : CopyW base n A kv w) (hk : Keep (fun k => k < base) w w') (hb : base' ≤ base) : CopyW base' n A kv w' := by
  obtain ⟨css, h1, h2, h3⟩ := h.kids
  refine ⟨(Sl.safe (S := fun k => k < base) h.ats (fun _ ad e hh => by have := h.new ad e; omega)) w' hk, h.new.mono hb, ⟨css, h1, own_base (own_blk h2 fun k hv => hk.block k (own_in h2 hv).2 (by have := (own_in h2 hv).1; omega)) hb, fun i k cs a b => ?_⟩, h.apart, fun hal ad e => by
    obtain ⟨g, cur, e1, e2, e3⟩ := h.free hal ad e
    exact ⟨g, cur, e1, Nat.le_trans hb e2, (hk.block g (blk_in e3) (by omega)).trans e3⟩⟩
  exact (h3 i k cs a b).keep (hk.mono fun k _ h => .inl h) (fun k _ hh => hh.imp (fun h => Nat.lt_of_lt_of_le h hb) id)
structure CpW (W : World) (kd : Int) (sp lo tx : ByteArray) (al : List Tr) (A4 : Option Addr) (c4 : Nat) (kv : Value) (kids : List Nd) (w : World) : Prop where
  below : Below W.heap.size W w
  blk : w.heap[W.heap.size]? = some (.cells #[.int .i64 kd, .string sp, .string lo, .slice A4 al.length c4, kv, .string tx] 37 (0, 0))
  res : w.heap[W.heap.size + 1]? = some (.cells #[.int .i64 0, .string ⟨#[]⟩, .string ⟨#[]⟩, .slice none 0 0, .slice none 0 0, .string ⟨#[]⟩] 37 (0, 0))
  copy : CopyW (W.heap.size + 2) (.mk kd (sp, lo) al kids tx) A4 kv w
  lo4 : ∀ ad, A4 = some ad → ad.block < w.heap.size
end Go.Proofs.YtjohfljkhlkjoaaGreatDoor
namespace Wb
end Wb
namespace Go.Proofs.YtjohfljkhlkjoaaGreatDoor
open Go.RowKit Wb
end Go.Proofs.YtjohfljkhlkjoaaGreatDoor
namespace Wb
end Wb
namespace Go.Proofs.YtjohfljkhlkjoaaGreatDoor
open Go.RowKit Wb
end Go.Proofs.YtjohfljkhlkjoaaGreatDoor
namespace Go.Proofs.YtjohfljkhlkjoaaGreatDoor
open Go.RowKit Wb
theorem parse_right {s : ByteArray} {n : Nd} (h : parseX s = .ok n) : okN 1 n ∧ n.kind = 1 ∧ costN n ≤ 2000 ∧ 2 * costN n ≤ s.size := by
  unfold parseX at h
  rcases tokens_fit s.data.toList with ⟨ts, hd, ht⟩ | ⟨_, p, c, ht, _⟩
  · rw [ht] at h
    have h : treeX s.size (ts.map tkv) = .ok n := h
    rw [Lib.size_eq] at h ⊢
    exact doc_tree hd h
  · rw [ht] at h
    cases h
end Go.Proofs.YtjohfljkhlkjoaaGreatDoor
