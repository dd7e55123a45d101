import Derived.Test.YtobmjcompkkeaaaGreatDoorMgS
import Derived.Deep.RegionWith
namespace Go.Proofs.YtobmjcompkkeaaaGreatDoor
open Go.RowKit Wb
def CpS (base : Nat) (A : Option Addr) (kv : Value) : Nat → Prop := fun k => k < base ∨ kv.ownBlock = some k ∨ ∃ ad, A = some ad ∧ ad.block = k
def cpC (n : Nd) (A : Option Addr) (ca : Nat) (kv : Value) : List Value := [.int .i64 n.kind, .string n.name.1, .string n.name.2, .slice A n.attrs.length ca, kv, .string n.text]
structure CopyW (base : Nat) (n : Nd) (A : Option Addr) (kv : Value) (w : World) : Prop where
  ats : Sl3 w A n.attrs
  new : Fresh base A
  kids : KidsR 37 (CpS base A kv) w base kv n.kids
  apart : n.attrs ≠ [] → ∀ ad, A = some ad → kv.ownBlock ≠ some ad.block
  free : n.attrs ≠ [] → ∀ ad, A = some ad → ∃ (g : Nat) (cur : Array Value), ad = ⟨g, 0, none⟩ ∧ base ≤ g ∧ w.heap[g]? = some (.cells cur 42 (0, 0))
theorem CopyW.safe {base : Nat} {n : Nd} {A : Option Addr} {kv : Value} {ca : Nat} {w : World} {S : Nat → Prop} (h : CopyW base n A kv w) (hS : ∀ k, S k → k < base) : SafeP S w (fun v => nodeC v n (cpC n A ca kv)) := by
  obtain ⟨K, ck, rfl, hk⟩ := h.kids.sl (S' := S) (fun k hs => .inl (hS k hs)) (fun k hv hs => by
    obtain ⟨css, _, h2, _⟩ := h.kids
    have := (own_in h2 hv).1
    have := hS k hs
    omega)
  have ha : SafeP S w (fun v => Sl3 v A n.attrs) := Sl.safe h.ats (fun _ ad e hs => by have := h.new ad e; have := hS _ hs; omega)
  exact fun w2 h2 => (nodeC_V _ _ _).2 ⟨A, ca, K, ck, rfl, ha w2 h2, hk w2 h2⟩
theorem own_base {w : World} {base base' sz n : Nat} {e : TypeId} {v : Value} {xs : List Value} (h : w.ownsRow base e sz v n xs) (hb : base' ≤ base) : w.ownsRow base' e sz v n xs := by
  refine ⟨h.1, ?_⟩
  rcases h.2 with h2 | ⟨g, cap, cur, a, b, rest⟩
  · exact .inl h2
  · exact .inr ⟨g, cap, cur, a, Nat.le_trans hb b, rest⟩
theorem CopyW.mono {base base' : Nat} {n : Nd} {A : Option Addr} {kv : Value} {w w' : World} (h : CopyW base n A kv w) (hk : Keep (fun k => k < base) w w') (hb : base' ≤ base) : CopyW base' n A kv w' := by
  obtain ⟨css, h1, h2, h3⟩ := h.kids
  refine ⟨(Sl.safe (S := fun k => k < base) h.ats (fun _ ad e hh => by have := h.new ad e; omega)) w' hk, h.new.mono hb, ⟨css, h1, own_base (own_blk h2 fun k hv => hk.block k (own_in h2 hv).2 (by have := (own_in h2 hv).1; omega)) hb, fun i k cs a b => ?_⟩, h.apart, fun hal ad e => by
    obtain ⟨g, cur, e1, e2, e3⟩ := h.free hal ad e
    exact ⟨g, cur, e1, Nat.le_trans hb e2, (hk.block g (blk_in e3) (by omega)).trans e3⟩⟩
  exact (h3 i k cs a b).keep (hk.mono fun k _ h => .inl h) (fun k _ hh => hh.imp (fun h => Nat.lt_of_lt_of_le h hb) id)
structure CpW (W : World) (kd : Int) (sp lo tx : ByteArray) (al : List Tr) (A4 : Option Addr) (c4 : Nat) (kv : Value) (kids : List Nd) (w : World) : Prop where
  below : Below W.heap.size W w
  blk : w.heap[W.heap.size]? = some (.cells #[.int .i64 kd, .string sp, .string lo, .slice A4 al.length c4, kv, .string tx] 37 (0, 0))
  res : w.heap[W.heap.size + 1]? = some (.cells #[.int .i64 0, .string ⟨#[]⟩, .string ⟨#[]⟩, .slice none 0 0, .slice none 0 0, .string ⟨#[]⟩] 37 (0, 0))
  copy : CopyW (W.heap.size + 2) (.mk kd (sp, lo) al kids tx) A4 kv w
  lo4 : ∀ ad, A4 = some ad → ad.block < w.heap.size
theorem CpS.lt {W : World} {kd : Int} {sp lo tx : ByteArray} {al : List Tr} {A4 : Option Addr} {c4 : Nat} {kv : Value} {kids : List Nd} {w : World} (h : CpW W kd sp lo tx al A4 c4 kv kids w) {k : Nat} (hk : CpS (W.heap.size + 2) A4 kv k) : k < w.heap.size := by
  have hr := blk_in h.res
  rcases hk with hk | hk | ⟨ad, e, rfl⟩
  · omega
  · obtain ⟨css, _, h2, _⟩ := h.copy.kids
    exact (own_in h2 hk).2
  · exact h.lo4 ad e
theorem CpW.other {W : World} {kd : Int} {sp lo tx : ByteArray} {al : List Tr} {A4 : Option Addr} {c4 : Nat} {kv : Value} {kids : List Nd} {w w' : World} (h : CpW W kd sp lo tx al A4 c4 kv kids w) (hb : Below w.heap.size w w') : CpW W kd sp lo tx al A4 c4 kv kids w' :=
  ⟨h.below.trans (hb.mono h.below.size), still_block h.blk hb, still_block h.res hb, ⟨h.copy.ats.below hb, h.copy.new, h.copy.kids.keep (Keep.of_below _ hb) (fun _ _ h => h) (fun k hv => hb.block k (by
    obtain ⟨css, _, h2, _⟩ := h.copy.kids
    exact (own_in h2 hv).2)), h.copy.apart, fun hal ad e => by
    obtain ⟨g, cur, e1, e2, e3⟩ := h.copy.free hal ad e
    exact ⟨g, cur, e1, e2, still_block e3 hb⟩⟩, fun ad e => Nat.lt_of_lt_of_le (h.lo4 ad e) hb.size⟩
theorem CpW.app {W : World} {kd : Int} {sp lo tx : ByteArray} {al : List Tr} {A4 : Option Addr} {c4 : Nat} {kv v5 : Value} {kids : List Nd} {wk w4 wl w5 : World} {x : Nd} {A1 : Option Addr} {ca1 : Nat} {kv1 : Value} {css : List (List Value)}
    (h : CpW W kd sp lo tx al A4 c4 kv kids wk) (hb : Below wk.heap.size wk w4) (hc : CopyW wk.heap.size x A1 kv1 w4) (hwl : Below w4.heap.size w4 wl) (hcl : css.length = kids.length)
    (hsf : ∀ (i : Nat) (k : Nd) (cs : List Value), kids[i]? = some k → css[i]? = some cs → SafeP (CpS (W.heap.size + 2) A4 kv) wk (fun v => nodeC v k cs))
    (hkv : ∀ k, kv.ownBlock = some k → W.heap.size + 2 ≤ k ∧ k < wk.heap.size)
    (h5 : w5.ownsRow (W.heap.size + 2) 37 6 v5 (kids.length + 1) (css.flatten ++ cpC x A1 ca1 kv1)) (hg : wl.grownBy w5 kv.ownBlock) (hat : v5.ownBlock = kv.ownBlock ∨ v5.ownBlock = some wl.heap.size) :
    CpW W kd sp lo tx al A4 c4 v5 (kids ++ [x]) (w5.setCell ⟨W.heap.size, 4, none⟩ v5) := by
  have hkl : Below wk.heap.size wk wl := hb.trans (hwl.mono hb.size)
  have hl := h.other hkl
  have hr := blk_in h.res
  have hlt : ∀ k, CpS (W.heap.size + 2) A4 kv k → k < wk.heap.size := fun k hk => CpS.lt h hk
  have hws : wk.heap.size ≤ wl.heap.size := hkl.size
  have hv5 : ∀ k, v5.ownBlock = some k → W.heap.size + 2 ≤ k := fun k hk => (own_in h5 hk).1
  have hK : Keep (CpS (W.heap.size + 2) A4 kv) wl (w5.setCell ⟨W.heap.size, 4, none⟩ v5) :=
    ((Keep.refl _ wl).grown hg (fun k hk => .inr (.inl hk))).setCell (p := ⟨W.heap.size, 4, none⟩) (.inl (by simp)) _
  have hs : ∀ k, k < wl.heap.size → CpS (W.heap.size + 2) A4 v5 k → CpS (W.heap.size + 2) A4 kv k := by
    rintro k hkl (hk | hk | hk)
    · exact .inl hk
    · rcases hat with e | e
      · exact .inr (.inl (e ▸ hk))
      · rw [e] at hk; injection hk with hk; omega
    · exact .inr (.inr hk)
  have ne : ∀ k, k < wl.heap.size → k ≠ W.heap.size → kv.ownBlock ≠ some k → (w5.setCell ⟨W.heap.size, 4, none⟩ v5).heap[k]? = wl.heap[k]? := fun k h1 h2 h3 =>
    (Below.heap_setCell _ _ _ _ (by simpa using h2)).trans (hg.block k h1 (fun e => h3 e.symm))
  have kvN : ∀ k, kv.ownBlock = some k → W.heap.size + 2 ≤ k := fun k hk => (hkv k hk).1
  refine ⟨(hl.below.grown hg hl.below.size (fun k hk => by have := kvN k hk; omega)).setCell (p := ⟨W.heap.size, 4, none⟩) (Nat.le_refl _) _, ?_, ?_, ⟨?_, h.copy.new, ?_, ?_, ?_⟩, fun ad e => Nat.lt_of_lt_of_le (h.lo4 ad e) (Nat.le_trans hws (by have := hg.size; simpa [World.setCell] using this))⟩
  · have := blk_set ((hg.block _ (blk_in hl.blk) (fun e => by have := kvN _ e.symm; omega)).trans hl.blk) 4 v5
    simpa using this
  · exact (ne _ (blk_in hl.res) (by omega) (fun e => by have := kvN _ e; omega)).trans hl.res
  · have hsl : SafeP (fun k => k < W.heap.size + 2 ∨ kv.ownBlock = some k) wl (fun v => Sl3 v A4 al) := by
      by_cases hal : al = []
      · subst hal; exact fun _ _ => Sl3.nil _ _
      · refine Sl.safe hl.copy.ats (fun _ ad e hh => ?_)
        rcases hh with hh | hh
        · have := h.copy.new ad e; omega
        · exact h.copy.apart hal ad e hh
    exact hsl _ (((Keep.refl _ wl).grown hg (fun k hk => .inr hk)).setCell (p := ⟨W.heap.size, 4, none⟩) (.inl (by simp)) _)
  · refine ⟨css ++ [cpC x A1 ca1 kv1], by simp [hcl, Nd.kids], ?_, fun i k cs hk1 hc1 => ?_⟩
    · simp only [Nd.kids]
      rw [List.length_append, List.flatten_append, show [cpC x A1 ca1 kv1].flatten = cpC x A1 ca1 kv1 from by simp]
      exact own_blk h5 fun k hv => Below.heap_setCell _ _ _ _ (fun e => by have := hv5 k hv; simp at e; omega)
    · simp only [Nd.kids] at hk1
      by_cases hi : i < kids.length
      · rw [List.getElem?_append_left hi] at hk1
        rw [List.getElem?_append_left (by omega)] at hc1
        exact (((hsf i k cs hk1 hc1).keep (Keep.of_below _ hkl) (fun _ _ h => h))).keep hK hs
      · rw [List.getElem?_append_right (by omega)] at hk1 hc1
        rw [hcl] at hc1
        have hj : i - kids.length = 0 := by have := (List.getElem?_eq_some_iff.1 hk1).1; simp at this; omega
        rw [hj] at hk1 hc1
        simp only [List.getElem?_cons_zero, Option.some.injEq] at hk1 hc1
        subst hk1 hc1
        exact ((hc.safe (S := CpS (W.heap.size + 2) A4 kv) (fun k hk => hlt k hk)).keep (Keep.of_below _ hwl) (fun _ _ h => h)).keep hK hs
  · intro hal ad e hv
    rcases hat with e' | e'
    · exact h.copy.apart hal ad e (e' ▸ hv)
    · obtain ⟨ad', e'', hlt2, _⟩ := hl.copy.ats.2 (List.length_pos_iff.2 hal)
      rw [e] at e''
      injection e'' with e''
      subst e''
      rw [e'] at hv
      injection hv with hv
      omega
  · intro hal ad e
    obtain ⟨g, cur, e1, e2, e3⟩ := hl.copy.free hal ad e
    refine ⟨g, cur, e1, e2, (ne g (blk_in e3) (by omega) (fun hv => h.copy.apart hal ad e (by rw [hv, e1]))).trans e3⟩
end Go.Proofs.YtobmjcompkkeaaaGreatDoor
namespace Wb
end Wb
namespace Go.Proofs.YtobmjcompkkeaaaGreatDoor
open Go.RowKit Wb
end Go.Proofs.YtobmjcompkkeaaaGreatDoor
namespace Wb
end Wb
namespace Go.Proofs.YtobmjcompkkeaaaGreatDoor
open Go.RowKit Wb
end Go.Proofs.YtobmjcompkkeaaaGreatDoor
namespace Go.Proofs.YtobmjcompkkeaaaGreatDoor
open Go.RowKit Wb
theorem parse_right {s : ByteArray} {n : Nd} (h : parseX s = .ok n) : okN 1 n ∧ n.kind = 1 ∧ costN n ≤ 2000 ∧ 2 * costN n ≤ s.size := by
  unfold parseX at h
  rcases tokens_fit s.data.toList with ⟨ts, hd, ht⟩ | ⟨_, p, c, ht, _⟩
  · rw [ht] at h
    have h : treeX s.size (ts.map tkv) = .ok n := h
    rw [Lib.size_eq] at h ⊢
    exact doc_tree hd h
  · rw [ht] at h
    cases h
end Go.Proofs.YtobmjcompkkeaaaGreatDoor
