/- TrYa. -/
import Derived.Deep.RegionWith
import Derived.Test.YtlcjepnaljfpkaaGreatDoorQp33
namespace Go.Proofs.YtlcjepnaljfpkaaGreatDoor
open Go.RowKit Wb
def CpS (base : Nat) (A : Option Addr) (kv : Value) : Nat → Prop := fun k => k < base ∨ kv.ownBlock = some k ∨ ∃ ad, A = some ad ∧ ad.block = k
def cpC (n : Nd) (A : Option Addr) (ca : Nat) (kv : Value) : List Value := [.int .i64 n.kind, .string n.name.1, .string n.name.2, .slice A n.attrs.length ca, kv, .string n.text]
structure CopyW (base : Nat) (n : Nd) (A : Option Addr) (kv : Value) (w : World) : Prop where
  ats : Sl3 w A n.attrs
  new : Fresh base A
  kids : KidsR 37 (CpS base A kv) w base kv n.kids
  apart : n.attrs ≠ [] → ∀ ad, A = some ad → kv.ownBlock ≠ some ad.block
  free : n.attrs ≠ [] → ∀ ad, A = some ad → ∃ (g : Nat) (cur : Array Value), ad = ⟨g, 0, none⟩ ∧ base ≤ g ∧ w.heap[g]? = some (.cells cur 66 (0, 0))
def CopyOut (n : Nd) (w : World) (e : Ending) (w' : World) : Prop :=
  Below w.heap.size w w' ∧ ∃ A ca kv, e = .returned (.agg (cpC n A ca kv).toArray) ∧ CopyW w.heap.size n A kv w'
theorem CopyW.safe {base : Nat} {n : Nd} {A : Option Addr} {kv : Value} {ca : Nat} {w : World} {S : Nat → Prop} (h : CopyW base n A kv w) (hS : ∀ k, S k → k < base) : SafeP S w (fun v => nodeC v n (cpC n A ca kv)) := by
  obtain ⟨K, ck, rfl, hk⟩ := h.kids.sl (S' := S) (fun k hs => .inl (hS k hs)) (fun k hv hs => by
    obtain ⟨css, _, h2, _⟩ := h.kids
    have := (own_in h2 hv).1
    have := hS k hs
    omega)
  have ha : SafeP S w (fun v => Sl3 v A n.attrs) := Sl.safe h.ats (fun _ ad e hs => by have := h.new ad e; have := hS _ hs; omega)
  exact fun w2 h2 => (nodeC_V _ _ _).2 ⟨A, ca, K, ck, rfl, ha w2 h2, hk w2 h2⟩
theorem own_base {w : World} {base base' sz n : Nat} {e : TypeId} {v : Value} {xs : List Value} (h : w.ownsRow base e sz v n xs) (hb : base' ≤ base) : w.ownsRow base' e sz v n xs := by
  refine ⟨h.1, ?_⟩
  rcases h.2 with h2 | ⟨g, cap, cur, a, b, rest⟩
  · exact .inl h2
  · exact .inr ⟨g, cap, cur, a, Nat.le_trans hb b, rest⟩
theorem CopyW.mono {base base' : Nat} {n : Nd} {A : Option Addr} {kv : Value} {w w' : World} (h : CopyW base n A kv w) (hk : Keep (fun k => k < base) w w') (hb : base' ≤ base) : CopyW base' n A kv w' := by
  obtain ⟨css, h1, h2, h3⟩ := h.kids
  refine ⟨(Sl.safe (S := fun k => k < base) h.ats (fun _ ad e hh => by have := h.new ad e; omega)) w' hk, h.new.mono hb, ⟨css, h1, own_base (own_blk h2 fun k hv => hk.block k (own_in h2 hv).2 (by have := (own_in h2 hv).1; omega)) hb, fun i k cs a b => ?_⟩, h.apart, fun hal ad e => by
    obtain ⟨g, cur, e1, e2, e3⟩ := h.free hal ad e
    exact ⟨g, cur, e1, Nat.le_trans hb e2, (hk.block g (blk_in e3) (by omega)).trans e3⟩⟩
  exact (h3 i k cs a b).keep (hk.mono fun k _ h => .inl h) (fun k _ hh => hh.imp (fun h => Nat.lt_of_lt_of_le h hb) id)
structure CpW (W : World) (kd : Int) (sp lo tx : ByteArray) (al : List Tr) (A4 : Option Addr) (c4 : Nat) (kv : Value) (kids : List Nd) (w : World) : Prop where
  below : Below W.heap.size W w
  blk : w.heap[W.heap.size]? = some (.cells #[.int .i64 kd, .string sp, .string lo, .slice A4 al.length c4, kv, .string tx] 37 (0, 0))
  res : w.heap[W.heap.size + 1]? = some (.cells #[.int .i64 0, .string ⟨#[]⟩, .string ⟨#[]⟩, .slice none 0 0, .slice none 0 0, .string ⟨#[]⟩] 37 (0, 0))
  copy : CopyW (W.heap.size + 2) (.mk kd (sp, lo) al kids tx) A4 kv w
  lo4 : ∀ ad, A4 = some ad → ad.block < w.heap.size
theorem CpS.lt {W : World} {kd : Int} {sp lo tx : ByteArray} {al : List Tr} {A4 : Option Addr} {c4 : Nat} {kv : Value} {kids : List Nd} {w : World} (h : CpW W kd sp lo tx al A4 c4 kv kids w) {k : Nat} (hk : CpS (W.heap.size + 2) A4 kv k) : k < w.heap.size := by
  have hr := blk_in h.res
  rcases hk with hk | hk | ⟨ad, e, rfl⟩
  · omega
  · obtain ⟨css, _, h2, _⟩ := h.copy.kids
    exact (own_in h2 hk).2
  · exact h.lo4 ad e
theorem CpW.other {W : World} {kd : Int} {sp lo tx : ByteArray} {al : List Tr} {A4 : Option Addr} {c4 : Nat} {kv : Value} {kids : List Nd} {w w' : World} (h : CpW W kd sp lo tx al A4 c4 kv kids w) (hb : Below w.heap.size w w') : CpW W kd sp lo tx al A4 c4 kv kids w' :=
  ⟨h.below.trans (hb.mono h.below.size), still_block h.blk hb, still_block h.res hb, ⟨h.copy.ats.below hb, h.copy.new, h.copy.kids.keep (Keep.of_below _ hb) (fun _ _ h => h) (fun k hv => hb.block k (by
    obtain ⟨css, _, h2, _⟩ := h.copy.kids
    exact (own_in h2 hv).2)), h.copy.apart, fun hal ad e => by
    obtain ⟨g, cur, e1, e2, e3⟩ := h.copy.free hal ad e
    exact ⟨g, cur, e1, e2, still_block e3 hb⟩⟩, fun ad e => Nat.lt_of_lt_of_le (h.lo4 ad e) hb.size⟩
theorem CpW.app {W : World} {kd : Int} {sp lo tx : ByteArray} {al : List Tr} {A4 : Option Addr} {c4 : Nat} {kv v5 : Value} {kids : List Nd} {wk w4 wl w5 : World} {x : Nd} {A1 : Option Addr} {ca1 : Nat} {kv1 : Value} {css : List (List Value)}
    (h : CpW W kd sp lo tx al A4 c4 kv kids wk) (hb : Below wk.heap.size wk w4) (hc : CopyW wk.heap.size x A1 kv1 w4) (hwl : Below w4.heap.size w4 wl) (hcl : css.length = kids.length)
    (hsf : ∀ (i : Nat) (k : Nd) (cs : List Value), kids[i]? = some k → css[i]? = some cs → SafeP (CpS (W.heap.size + 2) A4 kv) wk (fun v => nodeC v k cs))
    (hkv : ∀ k, kv.ownBlock = some k → W.heap.size + 2 ≤ k ∧ k < wk.heap.size)
    (h5 : w5.ownsRow (W.heap.size + 2) 37 6 v5 (kids.length + 1) (css.flatten ++ cpC x A1 ca1 kv1)) (hg : wl.grownBy w5 kv.ownBlock) (hat : v5.ownBlock = kv.ownBlock ∨ v5.ownBlock = some wl.heap.size) :
    CpW W kd sp lo tx al A4 c4 v5 (kids ++ [x]) (w5.setCell ⟨W.heap.size, 4, none⟩ v5) := by
  have hkl : Below wk.heap.size wk wl := hb.trans (hwl.mono hb.size)
  have hl := h.other hkl
  have hr := blk_in h.res
  have hlt : ∀ k, CpS (W.heap.size + 2) A4 kv k → k < wk.heap.size := fun k hk => CpS.lt h hk
  have hws : wk.heap.size ≤ wl.heap.size := hkl.size
  have hv5 : ∀ k, v5.ownBlock = some k → W.heap.size + 2 ≤ k := fun k hk => (own_in h5 hk).1
  have hK : Keep (CpS (W.heap.size + 2) A4 kv) wl (w5.setCell ⟨W.heap.size, 4, none⟩ v5) :=
    ((Keep.refl _ wl).grown hg (fun k hk => .inr (.inl hk))).setCell (p := ⟨W.heap.size, 4, none⟩) (.inl (by simp)) _
  have hs : ∀ k, k < wl.heap.size → CpS (W.heap.size + 2) A4 v5 k → CpS (W.heap.size + 2) A4 kv k := by
    rintro k hkl (hk | hk | hk)
    · exact .inl hk
    · rcases hat with e | e
      · exact .inr (.inl (e ▸ hk))
      · rw [e] at hk; injection hk with hk; omega
    · exact .inr (.inr hk)
  have ne : ∀ k, k < wl.heap.size → k ≠ W.heap.size → kv.ownBlock ≠ some k → (w5.setCell ⟨W.heap.size, 4, none⟩ v5).heap[k]? = wl.heap[k]? := fun k h1 h2 h3 =>
    (Below.heap_setCell _ _ _ _ (by simpa using h2)).trans (hg.block k h1 (fun e => h3 e.symm))
  have kvN : ∀ k, kv.ownBlock = some k → W.heap.size + 2 ≤ k := fun k hk => (hkv k hk).1
  refine ⟨(hl.below.grown hg hl.below.size (fun k hk => by have := kvN k hk; omega)).setCell (p := ⟨W.heap.size, 4, none⟩) (Nat.le_refl _) _, ?_, ?_, ⟨?_, h.copy.new, ?_, ?_, ?_⟩, fun ad e => Nat.lt_of_lt_of_le (h.lo4 ad e) (Nat.le_trans hws (by have := hg.size; simpa [World.setCell] using this))⟩
  · have := blk_set ((hg.block _ (blk_in hl.blk) (fun e => by have := kvN _ e.symm; omega)).trans hl.blk) 4 v5
    simpa using this
  · exact (ne _ (blk_in hl.res) (by omega) (fun e => by have := kvN _ e; omega)).trans hl.res
  · have hsl : SafeP (fun k => k < W.heap.size + 2 ∨ kv.ownBlock = some k) wl (fun v => Sl3 v A4 al) := by
      by_cases hal : al = []
      · subst hal; exact fun _ _ => Sl3.nil _ _
      · refine Sl.safe hl.copy.ats (fun _ ad e hh => ?_)
        rcases hh with hh | hh
        · have := h.copy.new ad e; omega
        · exact h.copy.apart hal ad e hh
    exact hsl _ (((Keep.refl _ wl).grown hg (fun k hk => .inr hk)).setCell (p := ⟨W.heap.size, 4, none⟩) (.inl (by simp)) _)
  · refine ⟨css ++ [cpC x A1 ca1 kv1], by simp [hcl, Nd.kids], ?_, fun i k cs hk1 hc1 => ?_⟩
    · simp only [Nd.kids]
      rw [List.length_append, List.flatten_append, show [cpC x A1 ca1 kv1].flatten = cpC x A1 ca1 kv1 from by simp]
      exact own_blk h5 fun k hv => Below.heap_setCell _ _ _ _ (fun e => by have := hv5 k hv; simp at e; omega)
    · simp only [Nd.kids] at hk1
      by_cases hi : i < kids.length
      · rw [List.getElem?_append_left hi] at hk1
        rw [List.getElem?_append_left (by omega)] at hc1
        exact (((hsf i k cs hk1 hc1).keep (Keep.of_below _ hkl) (fun _ _ h => h))).keep hK hs
      · rw [List.getElem?_append_right (by omega)] at hk1 hc1
        rw [hcl] at hc1
        have hj : i - kids.length = 0 := by have := (List.getElem?_eq_some_iff.1 hk1).1; simp at this; omega
        rw [hj] at hk1 hc1
        simp only [List.getElem?_cons_zero, Option.some.injEq] at hk1 hc1
        subst hk1 hc1
        exact ((hc.safe (S := CpS (W.heap.size + 2) A4 kv) (fun k hk => hlt k hk)).keep (Keep.of_below _ hwl) (fun _ _ h => h)).keep hK hs
  · intro hal ad e hv
    rcases hat with e' | e'
    · exact h.copy.apart hal ad e (e' ▸ hv)
    · obtain ⟨ad', e'', hlt2, _⟩ := hl.copy.ats.2 (List.length_pos_iff.2 hal)
      rw [e] at e''
      injection e'' with e''
      subst e''
      rw [e'] at hv
      injection hv with hv
      omega
  · intro hal ad e
    obtain ⟨g, cur, e1, e2, e3⟩ := hl.copy.free hal ad e
    refine ⟨g, cur, e1, e2, (ne g (blk_in e3) (by omega) (fun hv => h.copy.apart hal ad e (by rw [hv, e1]))).trans e3⟩
set_option maxRecDepth 100000 in
set_option maxHeartbeats 4000000 in
theorem copy_any (n : Nd) : ∀ (A K : Option Addr) (ca ck : Nat) (w : World), NodeV w n A K → smallN n →
    Calls Tryz.prog 13 #[ndV n A ca K ck] w (CopyOut n w) := by
  induction n using Nd.induct with
  | h n ih =>
    intro A K ca ck w hV hsm
    obtain ⟨s1, s2, s3⟩ := (smallN_is n).1 hsm
    obtain ⟨kd, ⟨sp, lo⟩, al, ks, tx⟩ := n
    simp only [Nd.attrs, Nd.kids] at s1 s2 s3
    have IH := Lib.hid ih
    have HV := Lib.hid hV
    have HSM := Lib.hid s3
    unfold ndV ndCells
    simp only [Nd.kind, Nd.name, Nd.attrs, Nd.kids, Nd.text]
    obtain ⟨i0, hi, hz0, hz1, hz2⟩ := info_parts attr_info
    have hA2 : Sl3 _ A al := (hV.1.alloc (.cells #[.int .i64 kd, .string sp, .string lo, .slice A al.length ca, .slice K ks.length ck, .string tx] 37)).alloc (.cells #[.int .i64 0, .string ⟨#[]⟩, .string ⟨#[]⟩, .slice none 0 0, .slice none 0 0, .string ⟨#[]⟩] 37)
    have hn2 : ((w.alloc (.cells #[.int .i64 kd, .string sp, .string lo, .slice A al.length ca, .slice K ks.length ck, .string tx] 37)).alloc (.cells #[.int .i64 0, .string ⟨#[]⟩, .string ⟨#[]⟩, .slice none 0 0, .slice none 0 0, .string ⟨#[]⟩] 37)).heap[w.heap.size]? = _ := (Below.heap_alloc (w.alloc (.cells #[.int .i64 kd, .string sp, .string lo, .slice A al.length ca, .slice K ks.length ck, .string tx] 37)) (.cells #[.int .i64 0, .string ⟨#[]⟩, .string ⟨#[]⟩, .slice none 0 0, .slice none 0 0, .string ⟨#[]⟩] 37) _ (by simp)).trans (heap_alloc_new w (.cells #[.int .i64 kd, .string sp, .string lo, .slice A al.length ca, .slice K ks.length ck, .string tx] 37))
    have hr2 : ((w.alloc (.cells #[.int .i64 kd, .string sp, .string lo, .slice A al.length ca, .slice K ks.length ck, .string tx] 37)).alloc (.cells #[.int .i64 0, .string ⟨#[]⟩, .string ⟨#[]⟩, .slice none 0 0, .slice none 0 0, .string ⟨#[]⟩] 37)).heap[w.heap.size + 1]? = some (.cells #[.int .i64 0, .string ⟨#[]⟩, .string ⟨#[]⟩, .slice none 0 0, .slice none 0 0, .string ⟨#[]⟩] 37 (0, 0)) := by
      have := heap_alloc_new (w.alloc (.cells #[.int .i64 kd, .string sp, .string lo, .slice A al.length ca, .slice K ks.length ck, .string tx] 37)) (.cells #[.int .i64 0, .string ⟨#[]⟩, .string ⟨#[]⟩, .slice none 0 0, .slice none 0 0, .string ⟨#[]⟩] 37)
      simpa using this
    have hb2 : Below w.heap.size w ((w.alloc (.cells #[.int .i64 kd, .string sp, .string lo, .slice A al.length ca, .slice K ks.length ck, .string tx] 37)).alloc (.cells #[.int .i64 0, .string ⟨#[]⟩, .string ⟨#[]⟩, .slice none 0 0, .slice none 0 0, .string ⟨#[]⟩] 37)) := ((Below.refl _ w).alloc (Nat.le_refl _) _).alloc (by simp) _
    have hs2 : ((w.alloc (.cells #[.int .i64 kd, .string sp, .string lo, .slice A al.length ca, .slice K ks.length ck, .string tx] 37)).alloc (.cells #[.int .i64 0, .string ⟨#[]⟩, .string ⟨#[]⟩, .slice none 0 0, .slice none 0 0, .string ⟨#[]⟩] 37)).heap.size = w.heap.size + 2 := by simp
    have HA2 := Lib.hid hA2
    have HN2 := Lib.hid hn2
    have HR2 := Lib.hid hr2
    have HB2 := Lib.hid hb2
    have HS2 := Lib.hid hs2
    clear ih hV s3 hsm hA2 hn2 hr2 hb2 hs2
    go_enter Tryz.func13, Tryz.ntmps13
    go_upto_region 1 with fail
    revert HS2; revert HB2; revert HR2; revert HN2; revert HA2
    generalize ((w.alloc (.cells #[.int .i64 kd, .string sp, .string lo, .slice A al.length ca, .slice K ks.length ck, .string tx] 37)).alloc (.cells #[.int .i64 0, .string ⟨#[]⟩, .string ⟨#[]⟩, .slice none 0 0, .slice none 0 0, .string ⟨#[]⟩] 37)) = wa
    intro HA2 HN2 HR2 HB2 HS2
    have c3 : wa.cell? ⟨w.heap.size, 3, none⟩ = some (.slice A al.length ca) := blk_cell HN2.out 3
    have hsz := HS2.out
    go_upto_region 2 with (
      at_builtin
      refine wpList_append_sl _ rfl _ _ _ rfl (w.heap.size + 2) 66 i0 _ 3 48 Tryz.underlying34 hi hz0 hz1 hz2 rfl (by omega) _ 0 [] rfl (World.ownsRow_nil _ _ _ _) A al.length ca (cells3 al) rfl HA2.out (cells3_one al) (by simp only [maxLen]; omega) (by omega) (by omega) ?_
      intro v4 w4 hown4 hg4 hat4
      obtain ⟨A4, c4, hsh⟩ := own_shape hown4
      subst hsh
      have hN4 := grown_block HN2.out hg4 (fun e => Option.some_ne_none _ e)
      have hR4 := grown_block HR2.out hg4 (fun e => Option.some_ne_none _ e)
      have e3 := blk_cell hN4 3
      have f3 := blk_free hN4 3
      simp only [List.getElem?_toArray, List.getElem?_cons_zero, List.getElem?_cons_succ] at e3
      have HN4 := Lib.hid hN4
      have HR4 := Lib.hid hR4
      have HO4 := Lib.hid hown4
      have HG4 := Lib.hid hg4
      clear hN4 hR4 hown4 hg4 hat4)
    have HB5 : Hid (Below w.heap.size w (w4.setCell ⟨w.heap.size, 3, none⟩ (.slice A4 al.length c4))) := Lib.hid ((HB2.out.grown HG4.out HB2.out.size (fun k e => by cases e)).setCell (p := ⟨w.heap.size, 3, none⟩) (Nat.le_refl _) _)
    have HN5 : Hid ((w4.setCell ⟨w.heap.size, 3, none⟩ (.slice A4 al.length c4)).heap[w.heap.size]? = some (.cells #[.int .i64 kd, .string sp, .string lo, .slice A4 al.length c4, .slice K ks.length ck, .string tx] 37 (0, 0))) := Lib.hid (by
      have := blk_set HN4.out 3 (.slice A4 al.length c4)
      simpa using this)
    have HR5 : Hid ((w4.setCell ⟨w.heap.size, 3, none⟩ (.slice A4 al.length c4)).heap[w.heap.size + 1]? = _) := Lib.hid ((Below.heap_setCell _ _ _ _ (by simp)).trans HR4.out)
    have HO5 : Hid ((w4.setCell ⟨w.heap.size, 3, none⟩ (.slice A4 al.length c4)).ownsRow (w.heap.size + 2) 66 3 (.slice A4 al.length c4) al.length (cells3 al)) := Lib.hid (by
      have h := HO4.out
      rw [Nat.zero_add, List.nil_append] at h
      exact own_blk h fun k hv => Below.heap_setCell _ _ _ _ (fun e => by have := (own_in h hv).1; simp at e; omega))
    clear HO4 HN4 HR4 HG4 e3 f3 HN2 HR2 HB2 HA2 HS2 c3 hsz hi hz0 hz1 hz2
    revert HO5; revert HR5; revert HN5; revert HB5
    generalize (w4.setCell ⟨w.heap.size, 3, none⟩ (.slice A4 al.length c4)) = w5
    intro HB5 HN5 HR5 HO5
    have e4 : w5.cell? ⟨w.heap.size, 4, none⟩ = some (.slice K ks.length ck) := blk_cell HN5.out 4
    have f4 : w5.frozen? ⟨w.heap.size, 4, none⟩ = false := blk_free HN5.out 4
    go_upto_region 4 with fail
    have HC6 : Hid (CpW w kd sp lo tx al A4 c4 (.slice none 0 0) [] (w5.setCell ⟨w.heap.size, 4, none⟩ (.slice none 0 0))) := Lib.hid (by
      have hb := blk_set HN5.out 4 (.slice none 0 0)
      have ho := own_blk (w' := w5.setCell ⟨w.heap.size, 4, none⟩ (.slice none 0 0)) HO5.out (fun k hv => Below.heap_setCell _ _ _ _ (fun e => by have := (own_in HO5.out hv).1; simp at e; omega))
      refine ⟨HB5.out.setCell (p := ⟨w.heap.size, 4, none⟩) (Nat.le_refl _) _, by simpa using hb, (Below.heap_setCell _ _ _ _ (by simp)).trans HR5.out, ⟨Sl3.of_own ho, fun ad e => ?_, KidsR.nil _ _ _ _, fun _ ad _ => by simp [Value.ownBlock], fun _ ad e => by
        rcases ho.2 with ⟨e1, _⟩ | ⟨g, cap, cur, e1, e2, e3, _⟩
        · rw [e] at e1; cases e1
        · rw [e] at e1; injection e1 with e1; injection e1 with e1; exact ⟨g, cur, e1, e2, e3⟩⟩, fun ad e => ?_⟩
      · subst e; exact (own_in ho rfl).1
      · subst e; exact (own_in ho rfl).2)
    clear HB5 HN5 HR5 HO5 e4 f4
    revert HC6
    generalize (w5.setCell ⟨w.heap.size, 4, none⟩ (.slice none 0 0)) = w6
    intro HC6
    go_wp2
    go_loopw [15] (fun vi wr => ∃ (i : Nat) (kv : Value), i ≤ ks.length ∧ vi = .int .i64 i ∧ Hid (CpW w kd sp lo tx al A4 c4 kv (ks.take i) wr)) (fun vi _ => ((ks.length : Int) - intOf vi).toNat)
    case atStart => exact ⟨0, _, by omega, rfl, HC6⟩
    case round =>
      obtain ⟨i, kv, hi, rfl, HC⟩ := hrel
      by_cases h0 : i < ks.length
      · obtain ⟨x, he⟩ : ∃ x, ks[i]? = some x := ⟨ks[i], List.getElem?_eq_getElem h0⟩
        obtain ⟨ad, A1, ca1, K1, ck1, rfl, had, d0, d1, d2, d3, d4, d5, hA1, hK1⟩ := (HV.out.2.below HC.out.below).at_ he
        have hmem := List.mem_of_getElem? he
        have htk : ks.take (i + 1) = ks.take i ++ [x] := by rw [List.take_add_one, he]; rfl
        have HTK := Lib.hid htk
        have hNl := blk_in HC.out.blk
        have hwk : Below wr.heap.size wr (wr.alloc (.cells #[.int .i64 x.kind, .string x.name.1, .string x.name.2, .slice A1 x.attrs.length ca1, .slice K1 x.kids.length ck1, .string x.text] 37)) := (Below.refl _ wr).alloc (Nat.le_refl _) _
        have HCK := Lib.hid (HC.out.other hwk)
        have HKN := Lib.hid (heap_alloc_new wr (.cells #[.int .i64 x.kind, .string x.name.1, .string x.name.2, .slice A1 x.attrs.length ca1, .slice K1 x.kids.length ck1, .string x.text] 37))
        have hVk : NodeV (wr.alloc (.cells #[.int .i64 x.kind, .string x.name.1, .string x.name.2, .slice A1 x.attrs.length ca1, .slice K1 x.kids.length ck1, .string x.text] 37)) x A1 K1 := NodeV.below ⟨hA1, hK1⟩ hwk
        have hcp := fun w2 (h : Below (wr.alloc (.cells #[.int .i64 x.kind, .string x.name.1, .string x.name.2, .slice A1 x.attrs.length ca1, .slice K1 x.kids.length ck1, .string x.text] 37)).heap.size (wr.alloc (.cells #[.int .i64 x.kind, .string x.name.1, .string x.name.2, .slice A1 x.attrs.length ca1, .slice K1 x.kids.length ck1, .string x.text] 37)) w2) => IH.out x hmem A1 K1 ca1 ck1 w2 (hVk.below h) (HSM.out x hmem)
        have HCP := Lib.hid hcp
        clear htk hmem hVk hcp hwk
        go_upto_region 7 with fail
        clear d0 d1 d2 d3 d4 d5 hA1 hK1 had he
        revert HCP; revert HKN; revert HCK
        generalize (wr.alloc (.cells #[.int .i64 x.kind, .string x.name.1, .string x.name.2, .slice A1 x.attrs.length ca1, .slice K1 x.kids.length ck1, .string x.text] 37)) = wk
        intro HCK HKN HCP
        generalize wr.heap.size = T at *
        have hcp := HCP.out wk.drew ((Below.refl _ wk).drew)
        obtain ⟨css, hcl, hown, hsf⟩ := HCK.out.copy.kids
        have hkvb : ∀ k, kv.ownBlock = some k → w.heap.size + 2 ≤ k ∧ k < wk.heap.size := fun k hk => own_in hown hk
        have hli : (Nd.mk kd (sp, lo) al (ks.take i) tx).kids.length = i := by
          show (ks.take i).length = i
          rw [List.length_take]; omega
        rw [hli] at hown hcl
        obtain ⟨Kv, cv, hkv⟩ := own_shape hown
        subst hkv
        have e4 : wk.drew.cell? ⟨w.heap.size, 4, none⟩ = some (.slice Kv i cv) := blk_cell HCK.out.blk 4
        have t0 : wk.drew.cell? ⟨T, 0, none⟩ = _ := blk_cell HKN.out 0
        have t1 : wk.drew.cell? ⟨T, 1, none⟩ = _ := blk_cell HKN.out 1
        have t2 : wk.drew.cell? ⟨T, 2, none⟩ = _ := blk_cell HKN.out 2
        have t3 : wk.drew.cell? ⟨T, 3, none⟩ = _ := blk_cell HKN.out 3
        have t4 : wk.drew.cell? ⟨T, 4, none⟩ = _ := blk_cell HKN.out 4
        have t5 : wk.drew.cell? ⟨T, 5, none⟩ = _ := blk_cell HKN.out 5
        simp only [List.getElem?_toArray, List.getElem?_cons_zero, List.getElem?_cons_succ] at e4 t0 t1 t2 t3 t4 t5
        obtain ⟨j0, hj, hy0, hy1, hy2⟩ := info_parts node_info
        unfold ndV ndCells at hcp
        have HLI := Lib.hid hli
        have HOWN := Lib.hid hown
        have HCL := Lib.hid hcl
        have HSF := Lib.hid hsf
        have HKVB := Lib.hid hkvb
        have HNk := Lib.hid HCK.out.blk
        have hii : (0 : Int) ≤ (i : Int) := by omega
        clear hown hcl hsf hkvb hli
        go_region_law (first
          | (refine step_append_sl _ rfl (.tmp 20) (.tmp 23) _ rfl (w.heap.size + 2) 37 j0 _ 6 104 Tryz.underlying35 hj hy0 hy1 hy2 rfl (by omega) _ i css.flatten rfl HOWN4.out (some ⟨w4.heap.size, 0, none⟩) 1 1 [.int .i64 x.kind, .string x.name.1, .string x.name.2, .slice A9 x.attrs.length c9, .slice K9 x.kids.length q9, .string x.text] rfl HLIT.out HONE.out (by simp only [maxLen]; omega) (by omega) (by simp; omega) ?_
             intro v5 w5 hown5 hg5 hat5
             obtain ⟨g5, cap5, rfl, hbg5, hgl5⟩ := hown5.form (by omega)
             have hN5 := grown_block HN4a.out hg5 (fun e => by have := (HKVB.out _ e.symm).1; omega)
             have e45 := blk_cell hN5 4
             have f45 := blk_free hN5 4
             simp only [List.getElem?_toArray, List.getElem?_cons_zero, List.getElem?_cons_succ] at e45
             have HFIN := Lib.hid (HAPP.out _ _ hown5 hg5 hat5)
             clear hN5 hown5 hg5 hat5)
          | (go_simp
             go_at_call 13
             refine hcp.mono ?_
             rintro e w4 ⟨hb4, A9, c9, kv9, rfl, hc9⟩
             obtain ⟨css9, hcl9, hown9, hsf9⟩ := hc9.kids
             obtain ⟨K9, q9, hk9⟩ := own_shape hown9
             subst hk9
             have hN4 := still_block (w := wk.drew) HNk.out hb4
             have hb4' : Below wk.heap.size wk w4 := of_drew hb4
             have e44 := blk_cell hN4 4
             have f44 := blk_free hN4 4
             simp only [List.getElem?_toArray, List.getElem?_cons_zero, List.getElem?_cons_succ] at e44
             have hNl4 := blk_in hN4
             have HN4a : Hid ((w4.alloc (.cells #[.int .i64 x.kind, .string x.name.1, .string x.name.2, .slice A9 x.attrs.length c9, .slice K9 x.kids.length q9, .string x.text] 37)).heap[w.heap.size]? = _) := Lib.hid ((Below.heap_alloc w4 _ _ hNl4).trans hN4)
             have a44 : ∀ o, (w4.alloc o).cell? ⟨w.heap.size, 4, none⟩ = _ := fun o => (World.cell?_of_block (w := w4) (Below.heap_alloc w4 o _ hNl4)).trans e44
             have HOWN4 := Lib.hid ((own_below HOWN.out hb4').alloc (.cells #[.int .i64 x.kind, .string x.name.1, .string x.name.2, .slice A9 x.attrs.length c9, .slice K9 x.kids.length q9, .string x.text] 37))
             have HLIT := Lib.hid (Sl.lit w4 6 [.int .i64 x.kind, .string x.name.1, .string x.name.2, .slice A9 x.attrs.length c9, .slice K9 x.kids.length q9, .string x.text] 37 1 rfl)
             have HONE := Lib.hid (show ∀ u ∈ [Value.int .i64 x.kind, .string x.name.1, .string x.name.2, .slice A9 x.attrs.length c9, .slice K9 x.kids.length q9, .string x.text], u.oneCell' = true from fun u hu => by
               simp only [List.mem_cons, List.mem_nil_iff, or_false] at hu
               rcases hu with rfl | rfl | rfl | rfl | rfl | rfl <;> rfl)
             have hbs4 : w.heap.size + 2 ≤ w4.heap.size := by have := hb4'.size; have := blk_in HCK.out.res; omega
             have HAPP := Lib.hid (fun (v5 : Value) (w5 : World) (h5 : w5.ownsRow (w.heap.size + 2) 37 6 v5 (i + 1) (css.flatten ++ [.int .i64 x.kind, .string x.name.1, .string x.name.2, .slice A9 x.attrs.length c9, .slice K9 x.kids.length q9, .string x.text])) (hg : ((w4.alloc (.cells #[.int .i64 x.kind, .string x.name.1, .string x.name.2, .slice A9 x.attrs.length c9, .slice K9 x.kids.length q9, .string x.text] 37))).grownBy w5 (Value.slice Kv i cv).ownBlock) (hat : v5.ownBlock = (Value.slice Kv i cv).ownBlock ∨ v5.ownBlock = some ((w4.alloc (.cells #[.int .i64 x.kind, .string x.name.1, .string x.name.2, .slice A9 x.attrs.length c9, .slice K9 x.kids.length q9, .string x.text] 37))).heap.size) =>
               CpW.app (ca1 := c9) HCK.out hb4' hc9 (wl := w4.alloc (.cells #[.int .i64 x.kind, .string x.name.1, .string x.name.2, .slice A9 x.attrs.length c9, .slice K9 x.kids.length q9, .string x.text] 37)) ((Below.refl _ w4).alloc (Nat.le_refl _) _) (HCL.out.trans HLI.out.symm) HSF.out HKVB.out (by rw [show (ks.take i).length = i from HLI.out]; exact h5) hg hat)
             unfold cpC
             clear hc9 hcl9 hown9 hsf9 hN4 hb4 hb4' hNl4 hcp))
        all_goals (
          have HF2 := Lib.hid (HTK.out ▸ HFIN.out : CpW w kd sp lo tx al A4 c4 _ (ks.take (i + 1)) _)
          clear HFIN HAPP HLIT HONE HOWN4 HN4a HKVB HSF HCL HOWN HCK HCP HKN HC e45 f45 e44 f44 a44 e4 t0 t1 t2 t3 t4 t5
          go_wp2
          go_roundw
          case rel => exact ⟨i + 1, _, by omega, by go_num, HF2⟩
          case measure => simp [intOf]; omega)
      · have : i = ks.length := by omega
        subst this
        rw [List.take_length] at HC
        obtain ⟨css, hcl, hown, hsf⟩ := HC.out.copy.kids
        obtain ⟨Kv, cv, hkv⟩ := own_shape hown
        subst hkv
        have HR := Lib.hid HC.out.res
        have n0 := blk_cell HC.out.blk 0
        have n1 := blk_cell HC.out.blk 1
        have n2 := blk_cell HC.out.blk 2
        have n3 := blk_cell HC.out.blk 3
        have n4 := blk_cell HC.out.blk 4
        have n5 := blk_cell HC.out.blk 5
        have z0 := blk_cell HC.out.res 0
        have z1 := blk_cell HC.out.res 1
        have z2 := blk_cell HC.out.res 2
        have z3 := blk_cell HC.out.res 3
        have z4 := blk_cell HC.out.res 4
        have z5 := blk_cell HC.out.res 5
        simp only [List.getElem?_toArray, List.getElem?_cons_zero, List.getElem?_cons_succ] at n0 n1 n2 n3 n4 n5 z0 z1 z2 z3 z4 z5
        have y0 := blk_free HC.out.res 0
        have y1 := blk_free HC.out.res 1
        have y2 := blk_free HC.out.res 2
        have y3 := blk_free HC.out.res 3
        have y4 := blk_free HC.out.res 4
        have y5 := blk_free HC.out.res 5
        simp only [Nd.kids] at n4
        clear hcl hown hsf HSM IH HV
        go_wp2
        refine bodyPost_ret (results_cell_row rfl _ _ (w.heap.size + 1) _ _ (0, 0) _ rfl (six_blk HR.out _ _ _ _ _ _) Tryz.underlying37 rfl node_info2) rfl ?_
        refine ⟨six_below HC.out.below (by omega) _ _ _ _ _ _, A4, c4, .slice Kv ks.length cv, rfl, ?_⟩
        exact HC.out.copy.mono ((six_keep wr (w.heap.size + 1) _ _ _ _ _ _).mono (fun k _ e => by omega)) (by omega)
end Go.Proofs.YtlcjepnaljfpkaaGreatDoor
