/- PaA PaI Take PaB TrYb PaV. -/
import Derived.Deep.RegionHeld2
import Derived.Test.YtlcjepnaljfpkaaQb1
import Derived.Test.YtlcjepnaljfpkaaQb3
import Derived.Test.YtlcjepnaljfpkaaQb4
namespace Go.Proofs.Ytlcjepnaljfpkaa
open Go.RowKit Wb
abbrev ownT (w : World) (n : Nd) (cs : List Value) (lo hi : Nat) : Prop := ownC 29 27 w n cs lo hi
def CopO (n : Nd) (w : World) (e : Ending) (w' : World) : Prop :=
  Below w.heap.size w w' ∧ ∃ av kv, e = .returned (.agg (ndC n av kv).toArray) ∧ ownT w' n (ndC n av kv) w.heap.size w'.heap.size
structure CoW (W : World) (kd : Int) (sp lo tx : ByteArray) (al : List Tr) (av kv : Value) (kids : List Nd) (w : World) : Prop where
  below : Below W.heap.size W w
  blk : w.heap[W.heap.size]? = some (.cells #[.int .i64 kd, .string sp, .string lo, av, kv, .string tx] 27 (0, 0))
  res : w.heap[W.heap.size + 1]? = some (.cells #[.int .i64 0, .string ⟨#[]⟩, .string ⟨#[]⟩, .slice none 0 0, .slice none 0 0, .string ⟨#[]⟩] 27 (0, 0))
  ats : w.ownsRow (W.heap.size + 2) 29 3 av al.length (cells3 al)
  apart : ∀ b, av.ownBlock = some b → kv.ownBlock ≠ some b
  row : ∃ css, css.length = kids.length ∧ w.ownsRow (W.heap.size + 2) 27 6 kv kids.length css.flatten ∧
    kidsO 29 27 w (fun b => av.ownBlock = some b ∨ kv.ownBlock = some b) kids css (W.heap.size + 2) w.heap.size
section
variable {W : World} {kd : Int} {sp lo tx : ByteArray} {al : List Tr} {av kv : Value} {kids : List Nd} {w w' : World}
theorem CoW.other (h : CoW W kd sp lo tx al av kv kids w) (hb : Below w.heap.size w w') : CoW W kd sp lo tx al av kv kids w' := by
  obtain ⟨css, h1, h2, h3⟩ := h.row
  exact ⟨h.below.trans (hb.mono h.below.size), still_block h.blk hb, still_block h.res hb, own_below h.ats hb, h.apart, css, h1, own_below h2 hb,
    kidsO_mono _ _ _ _ _ _ (Nat.le_refl _) hb.size (fun _ _ _ h => h) (kidsO_keep _ _ _ _ (fun b _ hh _ => hb.block b hh) h3)⟩
theorem CoW.app {v5 : Value} {w4 wl w5 : World} {x : Nd} {cs : List Value} {css : List (List Value)}
    (h : CoW W kd sp lo tx al av kv kids w) (hb : Below w.heap.size w w4) (hc : ownT w4 x cs w.heap.size w4.heap.size) (hwl : Below w4.heap.size w4 wl) (hcl : css.length = kids.length)
    (hown : w.ownsRow (W.heap.size + 2) 27 6 kv kids.length css.flatten)
    (hko : kidsO 29 27 w (fun b => av.ownBlock = some b ∨ kv.ownBlock = some b) kids css (W.heap.size + 2) w.heap.size)
    (h5 : w5.ownsRow (W.heap.size + 2) 27 6 v5 (kids.length + 1) (css.flatten ++ cs)) (hg : wl.grownBy w5 kv.ownBlock) (hat : v5.ownBlock = kv.ownBlock ∨ v5.ownBlock = some wl.heap.size) :
    CoW W kd sp lo tx al av v5 (kids ++ [x]) (w5.setCell ⟨W.heap.size, 4, none⟩ v5) := by
  have hkl : Below w.heap.size w wl := hb.trans (hwl.mono hb.size)
  have hl := h.other hkl
  have hr := blk_in h.res
  have hkv : ∀ k, kv.ownBlock = some k → W.heap.size + 2 ≤ k ∧ k < w.heap.size := fun k hk => own_in hown hk
  have hav : ∀ k, av.ownBlock = some k → W.heap.size + 2 ≤ k ∧ k < w.heap.size := fun k hk => own_in h.ats hk
  have hv5 : ∀ k, v5.ownBlock = some k → W.heap.size + 2 ≤ k := fun k hk => (own_in h5 hk).1
  have s1 := hb.size
  have s2 := hwl.size
  have hsz : wl.heap.size ≤ (w5.setCell ⟨W.heap.size, 4, none⟩ v5).heap.size := by have := hg.size; simpa [World.setCell] using this
  have ne : ∀ k, k < wl.heap.size → k ≠ W.heap.size → kv.ownBlock ≠ some k → (w5.setCell ⟨W.heap.size, 4, none⟩ v5).heap[k]? = wl.heap[k]? := fun k h1 h2 h3 =>
    (Below.heap_setCell _ _ _ _ (by simpa using h2)).trans (hg.block k h1 (fun e => h3 e.symm))
  refine ⟨(hl.below.grown hg hl.below.size (fun k hk => by have := (hkv k hk).1; omega)).setCell (p := ⟨W.heap.size, 4, none⟩) (Nat.le_refl _) _, ?_, ?_, ?_, ?_, css ++ [cs], by simp [hcl], ?_, ?_⟩
  · have := blk_set ((hg.block _ (blk_in hl.blk) (fun e => by have := (hkv _ e.symm).1; omega)).trans hl.blk) 4 v5
    simpa using this
  · exact (ne _ (blk_in hl.res) (by omega) (fun e => by have := (hkv _ e).1; omega)).trans hl.res
  · exact own_blk hl.ats fun k hk => ne k (by have := (hav k hk).2; omega) (by have := (hav k hk).1; omega) (h.apart k hk)
  · intro b hb1 hb2
    rcases hat with e | e
    · exact h.apart b hb1 (e ▸ hb2)
    · rw [e] at hb2; injection hb2 with hb2; have := (hav b hb1).2; omega
  · rw [List.length_append, List.flatten_append, show [cs].flatten = cs from by simp]
    exact own_blk h5 fun k hv => Below.heap_setCell _ _ _ _ (fun e => by have := hv5 k hv; simp at e; omega)
  · refine kidsO_mono _ _ _ _ _ _ (Nat.le_refl _) (Nat.le_trans s2 hsz) (fun _ _ _ h => h) (kidsO_app (l := w.heap.size) ?_ ?_ s1 kids css _ w.heap.size (by omega) (Nat.le_refl _) ?_)
    · exact ownC_keep _ _ _ _ (fun b p q => (ne b (by omega) (by omega) (fun e => by have := (hkv b e).2; omega)).trans (hwl.block b q)) hc
    · rintro b p q (e | e)
      · have := (hav b e).2; omega
      · rcases hat with e' | e'
        · have := (hkv b (e' ▸ e)).2; omega
        · rw [e'] at e; injection e with e; omega
    · refine kidsO_mono (X := fun b => av.ownBlock = some b ∨ kv.ownBlock = some b) _ _ _ _ _ _ (Nat.le_refl _) (Nat.le_refl _) ?_ (kidsO_keep _ _ _ _ (fun b p q r => (ne b (by omega) (by omega) (fun e => r (.inr e))).trans (hkl.block b q)) hko)
      rintro b p q (e | e)
      · exact .inl e
      · rcases hat with e' | e'
        · exact .inr (e' ▸ e)
        · rw [e'] at e; injection e with e; omega
end
set_option maxRecDepth 100000 in
set_option maxHeartbeats 4000000 in
theorem copyO_any (n : Nd) : ∀ (A K : Option Addr) (ca ck : Nat) (w : World), NodeV w n A K → smallN n →
    Calls Try.prog 28 #[ndV n A ca K ck] w (CopO n w) := by
  induction n using Nd.induct with
  | h n ih =>
    intro A K ca ck w hV hsm
    obtain ⟨s1, s2, s3⟩ := (smallN_is n).1 hsm
    obtain ⟨kd, ⟨sp, lo⟩, al, ks, tx⟩ := n
    simp only [Nd.attrs, Nd.kids] at s1 s2 s3
    have IH := Lib.hid ih
    have HV := Lib.hid hV
    have HSM := Lib.hid s3
    unfold ndV ndCells
    simp only [Nd.kind, Nd.name, Nd.attrs, Nd.kids, Nd.text]
    obtain ⟨i0, hi, hz0, hz1, hz2⟩ := info_parts attr_info
    have hA2 : Sl3 _ A al := (hV.1.alloc (.cells #[.int .i64 kd, .string sp, .string lo, .slice A al.length ca, .slice K ks.length ck, .string tx] 27)).alloc (.cells #[.int .i64 0, .string ⟨#[]⟩, .string ⟨#[]⟩, .slice none 0 0, .slice none 0 0, .string ⟨#[]⟩] 27)
    have hn2 : ((w.alloc (.cells #[.int .i64 kd, .string sp, .string lo, .slice A al.length ca, .slice K ks.length ck, .string tx] 27)).alloc (.cells #[.int .i64 0, .string ⟨#[]⟩, .string ⟨#[]⟩, .slice none 0 0, .slice none 0 0, .string ⟨#[]⟩] 27)).heap[w.heap.size]? = _ := (Below.heap_alloc (w.alloc (.cells #[.int .i64 kd, .string sp, .string lo, .slice A al.length ca, .slice K ks.length ck, .string tx] 27)) (.cells #[.int .i64 0, .string ⟨#[]⟩, .string ⟨#[]⟩, .slice none 0 0, .slice none 0 0, .string ⟨#[]⟩] 27) _ (by simp)).trans (heap_alloc_new w (.cells #[.int .i64 kd, .string sp, .string lo, .slice A al.length ca, .slice K ks.length ck, .string tx] 27))
    have hr2 : ((w.alloc (.cells #[.int .i64 kd, .string sp, .string lo, .slice A al.length ca, .slice K ks.length ck, .string tx] 27)).alloc (.cells #[.int .i64 0, .string ⟨#[]⟩, .string ⟨#[]⟩, .slice none 0 0, .slice none 0 0, .string ⟨#[]⟩] 27)).heap[w.heap.size + 1]? = some (.cells #[.int .i64 0, .string ⟨#[]⟩, .string ⟨#[]⟩, .slice none 0 0, .slice none 0 0, .string ⟨#[]⟩] 27 (0, 0)) := by
      have := heap_alloc_new (w.alloc (.cells #[.int .i64 kd, .string sp, .string lo, .slice A al.length ca, .slice K ks.length ck, .string tx] 27)) (.cells #[.int .i64 0, .string ⟨#[]⟩, .string ⟨#[]⟩, .slice none 0 0, .slice none 0 0, .string ⟨#[]⟩] 27)
      simpa using this
    have hb2 : Below w.heap.size w ((w.alloc (.cells #[.int .i64 kd, .string sp, .string lo, .slice A al.length ca, .slice K ks.length ck, .string tx] 27)).alloc (.cells #[.int .i64 0, .string ⟨#[]⟩, .string ⟨#[]⟩, .slice none 0 0, .slice none 0 0, .string ⟨#[]⟩] 27)) := ((Below.refl _ w).alloc (Nat.le_refl _) _).alloc (by simp) _
    have hs2 : ((w.alloc (.cells #[.int .i64 kd, .string sp, .string lo, .slice A al.length ca, .slice K ks.length ck, .string tx] 27)).alloc (.cells #[.int .i64 0, .string ⟨#[]⟩, .string ⟨#[]⟩, .slice none 0 0, .slice none 0 0, .string ⟨#[]⟩] 27)).heap.size = w.heap.size + 2 := by simp
    have HA2 := Lib.hid hA2
    have HN2 := Lib.hid hn2
    have HR2 := Lib.hid hr2
    have HB2 := Lib.hid hb2
    have HS2 := Lib.hid hs2
    clear ih hV s3 hsm hA2 hn2 hr2 hb2 hs2
    go_enter Try.func28, Try.ntmps28
    go_upto_region 1 with fail
    revert HS2; revert HB2; revert HR2; revert HN2; revert HA2
    generalize ((w.alloc (.cells #[.int .i64 kd, .string sp, .string lo, .slice A al.length ca, .slice K ks.length ck, .string tx] 27)).alloc (.cells #[.int .i64 0, .string ⟨#[]⟩, .string ⟨#[]⟩, .slice none 0 0, .slice none 0 0, .string ⟨#[]⟩] 27)) = wa
    intro HA2 HN2 HR2 HB2 HS2
    have c3 : wa.cell? ⟨w.heap.size, 3, none⟩ = some (.slice A al.length ca) := blk_cell HN2.out 3
    have hsz := HS2.out
    go_upto_region 2 with (
      at_builtin
      refine wpList_append_sl _ rfl _ _ _ rfl (w.heap.size + 2) 29 i0 _ 3 48 Try.underlying24 hi hz0 hz1 hz2 rfl (by omega) _ 0 [] rfl (World.ownsRow_nil _ _ _ _) A al.length ca (cells3 al) rfl HA2.out (cells3_one al) (by simp only [maxLen]; omega) (by omega) (by omega) ?_
      intro v4 w4 hown4 hg4 hat4
      obtain ⟨A4, c4, hsh⟩ := own_shape hown4
      subst hsh
      have hN4 := grown_block HN2.out hg4 (fun e => Option.some_ne_none _ e)
      have hR4 := grown_block HR2.out hg4 (fun e => Option.some_ne_none _ e)
      have e3 := blk_cell hN4 3
      have f3 := blk_free hN4 3
      simp only [List.getElem?_toArray, List.getElem?_cons_zero, List.getElem?_cons_succ] at e3
      have HN4 := Lib.hid hN4
      have HR4 := Lib.hid hR4
      have HO4 := Lib.hid hown4
      have HG4 := Lib.hid hg4
      clear hN4 hR4 hown4 hg4 hat4)
    have HB5 : Hid (Below w.heap.size w (w4.setCell ⟨w.heap.size, 3, none⟩ (.slice A4 al.length c4))) := Lib.hid ((HB2.out.grown HG4.out HB2.out.size (fun k e => by cases e)).setCell (p := ⟨w.heap.size, 3, none⟩) (Nat.le_refl _) _)
    have HN5 : Hid ((w4.setCell ⟨w.heap.size, 3, none⟩ (.slice A4 al.length c4)).heap[w.heap.size]? = some (.cells #[.int .i64 kd, .string sp, .string lo, .slice A4 al.length c4, .slice K ks.length ck, .string tx] 27 (0, 0))) := Lib.hid (by
      have := blk_set HN4.out 3 (.slice A4 al.length c4)
      simpa using this)
    have HR5 : Hid ((w4.setCell ⟨w.heap.size, 3, none⟩ (.slice A4 al.length c4)).heap[w.heap.size + 1]? = _) := Lib.hid ((Below.heap_setCell _ _ _ _ (by simp)).trans HR4.out)
    have HO5 : Hid ((w4.setCell ⟨w.heap.size, 3, none⟩ (.slice A4 al.length c4)).ownsRow (w.heap.size + 2) 29 3 (.slice A4 al.length c4) al.length (cells3 al)) := Lib.hid (by
      have h := HO4.out
      rw [Nat.zero_add, List.nil_append] at h
      exact own_blk h fun k hv => Below.heap_setCell _ _ _ _ (fun e => by have := (own_in h hv).1; simp at e; omega))
    clear HO4 HN4 HR4 HG4 e3 f3 HN2 HR2 HB2 HA2 HS2 c3 hsz hi hz0 hz1 hz2
    revert HO5; revert HR5; revert HN5; revert HB5
    generalize (w4.setCell ⟨w.heap.size, 3, none⟩ (.slice A4 al.length c4)) = w5
    intro HB5 HN5 HR5 HO5
    have e4 : w5.cell? ⟨w.heap.size, 4, none⟩ = some (.slice K ks.length ck) := blk_cell HN5.out 4
    have f4 : w5.frozen? ⟨w.heap.size, 4, none⟩ = false := blk_free HN5.out 4
    go_upto_region 4 with fail
    have HC6 : Hid (CoW w kd sp lo tx al (.slice A4 al.length c4) (.slice none 0 0) [] (w5.setCell ⟨w.heap.size, 4, none⟩ (.slice none 0 0))) := Lib.hid (by
      have hb := blk_set HN5.out 4 (.slice none 0 0)
      have ho := own_blk (w' := w5.setCell ⟨w.heap.size, 4, none⟩ (.slice none 0 0)) HO5.out (fun k hv => Below.heap_setCell _ _ _ _ (fun e => by have := (own_in HO5.out hv).1; simp at e; omega))
      exact ⟨HB5.out.setCell (p := ⟨w.heap.size, 4, none⟩) (Nat.le_refl _) _, by simpa using hb, (Below.heap_setCell _ _ _ _ (by simp)).trans HR5.out, ho, fun b _ e => by simp [Value.ownBlock] at e, [], rfl, World.ownsRow_nil _ _ _ _, by rw [kidsO]⟩)
    clear HB5 HN5 HR5 HO5 e4 f4
    revert HC6
    generalize (w5.setCell ⟨w.heap.size, 4, none⟩ (.slice none 0 0)) = w6
    intro HC6
    go_wp2
    go_loopw [15] (fun vi wr => ∃ (i : Nat) (kv : Value), i ≤ ks.length ∧ vi = .int .i64 i ∧ Hid (CoW w kd sp lo tx al (.slice A4 al.length c4) kv (ks.take i) wr)) (fun vi _ => ((ks.length : Int) - intOf vi).toNat)
    case atStart => exact ⟨0, _, by omega, rfl, HC6⟩
    case round =>
      obtain ⟨i, kv, hi, rfl, HC⟩ := hrel
      by_cases h0 : i < ks.length
      · obtain ⟨x, he⟩ : ∃ x, ks[i]? = some x := ⟨ks[i], List.getElem?_eq_getElem h0⟩
        obtain ⟨ad, A1, ca1, K1, ck1, rfl, had, d0, d1, d2, d3, d4, d5, hA1, hK1⟩ := (HV.out.2.below HC.out.below).at_ he
        have hmem := List.mem_of_getElem? he
        have htk : ks.take (i + 1) = ks.take i ++ [x] := by rw [List.take_add_one, he]; rfl
        have HTK := Lib.hid htk
        have hNl := blk_in HC.out.blk
        have hwk : Below wr.heap.size wr (wr.alloc (.cells #[.int .i64 x.kind, .string x.name.1, .string x.name.2, .slice A1 x.attrs.length ca1, .slice K1 x.kids.length ck1, .string x.text] 27)) := (Below.refl _ wr).alloc (Nat.le_refl _) _
        have HCK := Lib.hid (HC.out.other hwk)
        have HKN := Lib.hid (heap_alloc_new wr (.cells #[.int .i64 x.kind, .string x.name.1, .string x.name.2, .slice A1 x.attrs.length ca1, .slice K1 x.kids.length ck1, .string x.text] 27))
        have hVk : NodeV (wr.alloc (.cells #[.int .i64 x.kind, .string x.name.1, .string x.name.2, .slice A1 x.attrs.length ca1, .slice K1 x.kids.length ck1, .string x.text] 27)) x A1 K1 := NodeV.below ⟨hA1, hK1⟩ hwk
        have hcp := fun w2 (h : Below (wr.alloc (.cells #[.int .i64 x.kind, .string x.name.1, .string x.name.2, .slice A1 x.attrs.length ca1, .slice K1 x.kids.length ck1, .string x.text] 27)).heap.size (wr.alloc (.cells #[.int .i64 x.kind, .string x.name.1, .string x.name.2, .slice A1 x.attrs.length ca1, .slice K1 x.kids.length ck1, .string x.text] 27)) w2) => IH.out x hmem A1 K1 ca1 ck1 w2 (hVk.below h) (HSM.out x hmem)
        have HCP := Lib.hid hcp
        clear htk hmem hVk hcp hwk
        go_upto_region 7 with fail
        clear d0 d1 d2 d3 d4 d5 hA1 hK1 had he
        revert HCP; revert HKN; revert HCK
        generalize (wr.alloc (.cells #[.int .i64 x.kind, .string x.name.1, .string x.name.2, .slice A1 x.attrs.length ca1, .slice K1 x.kids.length ck1, .string x.text] 27)) = wk
        intro HCK HKN HCP
        generalize wr.heap.size = T at *
        have hcp := HCP.out wk.drew ((Below.refl _ wk).drew)
        obtain ⟨css, hcl, hown, hsf⟩ := HCK.out.row
        have hkvb : ∀ k, kv.ownBlock = some k → w.heap.size + 2 ≤ k ∧ k < wk.heap.size := fun k hk => own_in hown hk
        have hli : (ks.take i).length = i := by
          rw [List.length_take]; omega
        have hown0 := hown
        rw [hli] at hown hcl
        obtain ⟨Kv, cv, hkv⟩ := own_shape hown
        subst hkv
        have e4 : wk.drew.cell? ⟨w.heap.size, 4, none⟩ = some (.slice Kv i cv) := blk_cell HCK.out.blk 4
        have t0 : wk.drew.cell? ⟨T, 0, none⟩ = _ := blk_cell HKN.out 0
        have t1 : wk.drew.cell? ⟨T, 1, none⟩ = _ := blk_cell HKN.out 1
        have t2 : wk.drew.cell? ⟨T, 2, none⟩ = _ := blk_cell HKN.out 2
        have t3 : wk.drew.cell? ⟨T, 3, none⟩ = _ := blk_cell HKN.out 3
        have t4 : wk.drew.cell? ⟨T, 4, none⟩ = _ := blk_cell HKN.out 4
        have t5 : wk.drew.cell? ⟨T, 5, none⟩ = _ := blk_cell HKN.out 5
        simp only [List.getElem?_toArray, List.getElem?_cons_zero, List.getElem?_cons_succ] at e4 t0 t1 t2 t3 t4 t5
        obtain ⟨j0, hj, hy0, hy1, hy2⟩ := info_parts node_info
        unfold ndV ndCells at hcp
        have HLI := Lib.hid hli
        have HOWN := Lib.hid hown
        have HOWN0 := Lib.hid hown0
        have HCL := Lib.hid hcl
        have HSF := Lib.hid hsf
        have HKVB := Lib.hid hkvb
        have HNk := Lib.hid HCK.out.blk
        have hii : (0 : Int) ≤ (i : Int) := by omega
        clear hown hown0 hcl hsf hkvb hli
        go_region_law (first
          | (refine step_append_sl _ rfl (.tmp 20) (.tmp 23) _ rfl (w.heap.size + 2) 27 j0 _ 6 104 Try.underlying25 hj hy0 hy1 hy2 rfl (by omega) _ i css.flatten rfl HOWN4.out (some ⟨w4.heap.size, 0, none⟩) 1 1 [.int .i64 x.kind, .string x.name.1, .string x.name.2, .slice A9 x.attrs.length c9, .slice K9 x.kids.length q9, .string x.text] rfl HLIT.out HONE.out (by simp only [maxLen]; omega) (by omega) (by simp; omega) ?_
             intro v5 w5 hown5 hg5 hat5
             obtain ⟨g5, cap5, rfl, hbg5, hgl5⟩ := hown5.form (by omega)
             have hN5 := grown_block HN4a.out hg5 (fun e => by have := (HKVB.out _ e.symm).1; omega)
             have e45 := blk_cell hN5 4
             have f45 := blk_free hN5 4
             simp only [List.getElem?_toArray, List.getElem?_cons_zero, List.getElem?_cons_succ] at e45
             have HFIN := Lib.hid (HAPP.out _ _ hown5 hg5 hat5)
             clear hN5 hown5 hg5 hat5)
          | (go_simp
             go_at_call 28
             refine hcp.mono ?_
             rintro e w4 ⟨hb4, av9, kv9, rfl, hc9⟩
             obtain ⟨av, kv, css9, e9, o1, o2, _⟩ := (ownC_iff _ _ _ _).1 hc9
             obtain ⟨A9, c9, ha9⟩ := own_shape o1
             obtain ⟨K9, q9, hk9⟩ := own_shape o2
             simp only [ndC, List.cons.injEq, true_and] at e9
             obtain ⟨e91, e92, _⟩ := e9
             subst e91 e92 ha9 hk9
             have hN4 := still_block (w := wk.drew) HNk.out hb4
             have hb4' : Below wk.heap.size wk w4 := of_drew hb4
             have e44 := blk_cell hN4 4
             have f44 := blk_free hN4 4
             simp only [List.getElem?_toArray, List.getElem?_cons_zero, List.getElem?_cons_succ] at e44
             have hNl4 := blk_in hN4
             have HN4a : Hid ((w4.alloc (.cells #[.int .i64 x.kind, .string x.name.1, .string x.name.2, .slice A9 x.attrs.length c9, .slice K9 x.kids.length q9, .string x.text] 27)).heap[w.heap.size]? = _) := Lib.hid ((Below.heap_alloc w4 _ _ hNl4).trans hN4)
             have a44 : ∀ o, (w4.alloc o).cell? ⟨w.heap.size, 4, none⟩ = _ := fun o => (World.cell?_of_block (w := w4) (Below.heap_alloc w4 o _ hNl4)).trans e44
             have HOWN4 := Lib.hid ((own_below HOWN.out hb4').alloc (.cells #[.int .i64 x.kind, .string x.name.1, .string x.name.2, .slice A9 x.attrs.length c9, .slice K9 x.kids.length q9, .string x.text] 27))
             have HLIT := Lib.hid (Sl.lit w4 6 [.int .i64 x.kind, .string x.name.1, .string x.name.2, .slice A9 x.attrs.length c9, .slice K9 x.kids.length q9, .string x.text] 27 1 rfl)
             have HONE := Lib.hid (show ∀ u ∈ [Value.int .i64 x.kind, .string x.name.1, .string x.name.2, .slice A9 x.attrs.length c9, .slice K9 x.kids.length q9, .string x.text], u.oneCell' = true from fun u hu => by
               simp only [List.mem_cons, List.mem_nil_iff, or_false] at hu
               rcases hu with rfl | rfl | rfl | rfl | rfl | rfl <;> rfl)
             have hbs4 : w.heap.size + 2 ≤ w4.heap.size := by have := hb4'.size; have := blk_in HCK.out.res; omega
             have HAPP := Lib.hid (fun (v5 : Value) (w5 : World) (h5 : w5.ownsRow (w.heap.size + 2) 27 6 v5 (i + 1) (css.flatten ++ [.int .i64 x.kind, .string x.name.1, .string x.name.2, .slice A9 x.attrs.length c9, .slice K9 x.kids.length q9, .string x.text])) (hg : ((w4.alloc (.cells #[.int .i64 x.kind, .string x.name.1, .string x.name.2, .slice A9 x.attrs.length c9, .slice K9 x.kids.length q9, .string x.text] 27))).grownBy w5 (Value.slice Kv i cv).ownBlock) (hat : v5.ownBlock = (Value.slice Kv i cv).ownBlock ∨ v5.ownBlock = some ((w4.alloc (.cells #[.int .i64 x.kind, .string x.name.1, .string x.name.2, .slice A9 x.attrs.length c9, .slice K9 x.kids.length q9, .string x.text] 27))).heap.size) =>
               CoW.app HCK.out hb4' hc9 (wl := w4.alloc (.cells #[.int .i64 x.kind, .string x.name.1, .string x.name.2, .slice A9 x.attrs.length c9, .slice K9 x.kids.length q9, .string x.text] 27)) ((Below.refl _ w4).alloc (Nat.le_refl _) _) (HCL.out.trans HLI.out.symm) HOWN0.out HSF.out (by rw [HLI.out]; exact h5) hg hat)
             unfold ndC
             clear hc9 o1 o2 hN4 hb4 hb4' hNl4 hcp))
        all_goals (
          have HF2 := Lib.hid (HTK.out ▸ HFIN.out : CoW w kd sp lo tx al (.slice A4 al.length c4) _ (ks.take (i + 1)) _)
          clear HFIN HAPP HLIT HONE HOWN4 HN4a HKVB HSF HCL HOWN HOWN0 HCK HCP HKN HC e45 f45 e44 f44 a44 e4 t0 t1 t2 t3 t4 t5
          go_wp2
          go_roundw
          case rel => exact ⟨i + 1, _, by omega, by go_num, HF2⟩
          case measure => simp [intOf]; omega)
      · have : i = ks.length := by omega
        subst this
        rw [List.take_length] at HC
        obtain ⟨css, hcl, hown, hsf⟩ := HC.out.row
        obtain ⟨Kv, cv, hkv⟩ := own_shape hown
        subst hkv
        have HR := Lib.hid HC.out.res
        have n0 := blk_cell HC.out.blk 0
        have n1 := blk_cell HC.out.blk 1
        have n2 := blk_cell HC.out.blk 2
        have n3 := blk_cell HC.out.blk 3
        have n4 := blk_cell HC.out.blk 4
        have n5 := blk_cell HC.out.blk 5
        have z0 := blk_cell HC.out.res 0
        have z1 := blk_cell HC.out.res 1
        have z2 := blk_cell HC.out.res 2
        have z3 := blk_cell HC.out.res 3
        have z4 := blk_cell HC.out.res 4
        have z5 := blk_cell HC.out.res 5
        simp only [List.getElem?_toArray, List.getElem?_cons_zero, List.getElem?_cons_succ] at n0 n1 n2 n3 n4 n5 z0 z1 z2 z3 z4 z5
        have y0 := blk_free HC.out.res 0
        have y1 := blk_free HC.out.res 1
        have y2 := blk_free HC.out.res 2
        have y3 := blk_free HC.out.res 3
        have y4 := blk_free HC.out.res 4
        have y5 := blk_free HC.out.res 5
        clear hcl hown hsf HSM IH HV
        go_wp2
        refine bodyPost_ret (results_cell_row rfl _ _ (w.heap.size + 1) _ _ (0, 0) _ rfl (six_blk HR.out _ _ _ _ _ _) Try.underlying27 rfl node_info2) rfl ?_
        refine ⟨six_below HC.out.below (by omega) _ _ _ _ _ _, .slice A4 al.length c4, .slice Kv ks.length cv, rfl, ?_⟩
        obtain ⟨css, hcl, hown, hsf⟩ := HC.out.row
        have hr := blk_in HC.out.res
        have hk := six_keep wr (w.heap.size + 1) (.int .i64 kd) (.string sp) (.string lo) (.slice A4 al.length c4) (.slice Kv ks.length cv) (.string tx)
        have h1 : ownT wr (.mk kd (sp, lo) al ks tx) (ndC (.mk kd (sp, lo) al ks tx) (.slice A4 al.length c4) (.slice Kv ks.length cv)) (w.heap.size + 2) wr.heap.size :=
          (ownC_iff _ _ _ _).2 ⟨_, _, css, rfl, HC.out.ats, hown, hcl, fun b hb => ⟨(own_in HC.out.ats hb).2, HC.out.apart b hb⟩, fun b hb => (own_in hown hb).2, hsf⟩
        exact ownC_lohi (ownC_keep _ _ _ _ (fun b p q => hk.block b q (by omega)) h1) (by omega) hk.size
end Go.Proofs.Ytlcjepnaljfpkaa
namespace Wb
open Go Go.RowKit
def cellsI (l : List Int) : List Value := l.map fun x => .int .i64 x
theorem cellsI_len (l : List Int) : (cellsI l).length = l.length := by simp [cellsI]
theorem cellsI_one (l : List Int) : ∀ u ∈ cellsI l, u.oneCell' = true := by
  intro u hu
  obtain ⟨x, _, rfl⟩ := List.mem_map.1 hu
  rfl
def SlI (w : World) (A : Option Addr) (l : List Int) : Prop := Sl w 1 A l.length (cellsI l)
theorem SlI.nil (w : World) (A : Option Addr) : SlI w A [] := Sl.nil w 1 A
theorem SlI.below {w w' : World} {A : Option Addr} {l : List Int} (h : SlI w A l) (hb : Below w.heap.size w w') : SlI w' A l := Sl.below h hb
theorem SlI.at_ {w : World} {A : Option Addr} {l : List Int} (h : SlI w A l) {k : Nat} {x : Int} (hx : l[k]? = some x) : ∃ ad, A = some ad ∧ ad.block < w.heap.size ∧ w.cell? (ad.add k) = some (.int .i64 x) := by
  have hk : k < l.length := (List.getElem?_eq_some_iff.1 hx).1
  obtain ⟨ad, e, hb, hc⟩ := h.2 (by omega)
  refine ⟨ad, e, hb, hc k _ ?_⟩
  unfold cellsI
  rw [List.getElem?_map, hx]; rfl
theorem SlI.of_own {w : World} {base c : Nat} {e : TypeId} {A : Option Addr} {l : List Int} (h : w.ownsRow base e 1 (.slice A l.length c) l.length (cellsI l)) : SlI w A l := Sl.of_own h
theorem addI_add (a : Addr) (i j : Nat) : (a.add i).add j = a.add (i + j) := by
  unfold Addr.add
  by_cases h1 : i = 0
  · subst h1; simp
  · by_cases h2 : j = 0
    · subst h2; simp [h1]
    · have h3 : i + j ≠ 0 := by omega
      simp [h1, h2, Nat.add_assoc]
theorem SlI.tail {w : World} {A : Option Addr} {x : Int} {l : List Int} (h : SlI w A (x :: l)) (c : Nat) : SlI w (if c = 1 then A else A.map (·.add 1)) l ∨ (c = 1 ∧ l ≠ []) := by
  by_cases hl : l = []
  · subst hl; exact .inl (SlI.nil _ _)
  by_cases hc : c = 1
  · exact .inr ⟨hc, hl⟩
  refine .inl ?_
  rw [if_neg hc]
  obtain ⟨ad, e, hb, hcell⟩ := h.2 (by simp)
  subst e
  refine ⟨by rw [cellsI_len]; simp, fun _ => ⟨ad.add 1, rfl, by rw [add_block]; exact hb, fun j u hu => ?_⟩⟩
  rw [addI_add, show 1 + j = j + 1 from by omega]
  exact hcell (j + 1) u (by simpa [cellsI] using hu)
end Wb
namespace Wb
open Go Go.RowKit
theorem op_at {ops : Array Oper} {i : Nat} {oi : Oper} {rest : List Oper} (h : ops.toList.drop i = oi :: rest) : ops[i]? = some oi := by
  have h2 : (ops.toList.drop i)[0]? = some oi := by rw [h]; rfl
  rw [List.getElem?_drop] at h2
  simpa using h2
theorem takeW {P : Program} {md : Region.Mode} {ops : Array Oper} {Q : Exit → Act → World → Prop} {S : World → Prop} {oi : Oper} {rest : List Oper} {v : Value} {fuel : Nat} {listed : Array Bool} {a : Act} {w : World} (i : Nat)
    (h : wpAnyH P md ops Q S fuel (listed.setIfInBounds i true) (a.put oi.dst v) w) (hi : ops.toList.drop i = oi :: rest := by rfl)
    (hy : ∀ w, S w → (execOp a.eval oi).run P w = .ok (.value v) w := by (intro w' hSw; (try dsimp only at hSw); go_simp; (try with_reducible rfl)))
    (hs : Region.noSelect ops = true := by kernel_rfl) (hf : Region.free md ops listed i = true := by kernel_rfl) (hr : (Region.ready md ops listed).contains i = true := by kernel_rfl)
    (hQ : ∀ c a w, Q (.panic c) (a.put oi.dst v) w → Q (.panic c) a w := by exact fun _ _ _ h => h) (hw : Region.wanted oi (yielded ops a.tmps) = true := by rfl) (hS : S w := by assumption) : wpAnyH P md ops Q S (fuel + 1) listed a w :=
  wpAnyH_take (op_at hi) hs hf hr hQ (.inl ⟨hw, hy⟩) hS h
theorem takeU {P : Program} {md : Region.Mode} {ops : Array Oper} {Q : Exit → Act → World → Prop} {S : World → Prop} {oi : Oper} {rest : List Oper} {fuel : Nat} {listed : Array Bool} {a : Act} {w : World} (i : Nat)
    (h : wpAnyH P md ops Q S fuel (listed.setIfInBounds i true) (a.put oi.dst undef) w)
    (hi : ops.toList.drop i = oi :: rest := by rfl) (hs : Region.noSelect ops = true := by kernel_rfl) (hf : Region.free md ops listed i = true := by kernel_rfl) (hr : (Region.ready md ops listed).contains i = true := by kernel_rfl)
    (hQ : ∀ c a w, Q (.panic c) (a.put oi.dst undef) w → Q (.panic c) a w := by exact fun _ _ _ h => h) (hw : Region.wanted oi (yielded ops a.tmps) = false := by rfl) (hS : S w := by assumption) : wpAnyH P md ops Q S (fuel + 1) listed a w :=
  wpAnyH_take (op_at hi) hs hf hr hQ (.inr ⟨hw, rfl⟩) hS h
end Wb
namespace Go.Proofs.Ytlcjepnaljfpkaa
open Go.RowKit Wb
theorem has_any (k : Int) (s1 s2 t : ByteArray) (A K : Option Addr) (la ca m ck : Nat) (p : Int) (w : World) :
    Calls Try.prog 25 #[.agg #[.int .i64 k, .string s1, .string s2, .slice A la ca, .slice K m ck, .string t], .int .i64 p] w fun e w' => e = .returned (.bool (decide (0 ≤ p ∧ p < (m : Int)))) ∧ Below w.heap.size w w' := by
  have hb1 : Below w.heap.size w (w.alloc (.cells #[.int .i64 k, .string s1, .string s2, .slice A la ca, .slice K m ck, .string t] 27)) := (Below.refl _ w).alloc (Nat.le_refl _) _
  have HB := Lib.hid hb1
  have HN := Lib.hid (heap_alloc_new w (.cells #[.int .i64 k, .string s1, .string s2, .slice A la ca, .slice K m ck, .string t] 27))
  by_cases h0 : 0 ≤ p
  · by_cases h1 : p < (m : Int)
    · rw [decide_eq_true (And.intro h0 h1)]
      clear hb1
      go_enter Try.func25, Try.ntmps25
      go_wp2
      go_ret
      exact ⟨rfl, HB.out⟩
    · rw [decide_eq_false (fun h => h1 h.2)]
      clear hb1
      go_enter Try.func25, Try.ntmps25
      go_wp2
      go_ret
      exact ⟨rfl, HB.out⟩
  · rw [decide_eq_false (fun h => h0 h.1)]
    clear hb1
    go_enter Try.func25, Try.ntmps25
    go_wp2
    go_ret
    exact ⟨rfl, HB.out⟩
theorem textsEnd_any (K : Option Addr) (ks : List Nd) (ck p : Nat) (w : World) (h : SlN w K ks) (hl : ks.length ≤ 1000000) (hp : p ≤ ks.length) :
    Calls Try.prog 47 #[.slice K ks.length ck, .int .i64 (p : Int)] w fun e w' => e = .returned (.int .i64 (txEnd ks p : Int)) ∧ w' = w := by
  obtain ⟨r, hr⟩ : ∃ r, txEnd ks p = r := ⟨_, rfl⟩
  rw [hr]
  have HR := Lib.hid hr
  have HS := Lib.hid h
  clear hr h
  go_enter Try.func47, Try.ntmps47
  go_wp2
  go_loopw [1] (fun vi wr => ∃ i : Nat, i ≤ ks.length ∧ vi = .int .i64 i ∧ Hid (txEnd ks i = r) ∧ Hid (wr = w)) (fun vi _ => ((ks.length : Int) - intOf vi).toNat)
  case atStart => exact ⟨p, hp, rfl, HR, Lib.hid rfl⟩
  case round =>
    obtain ⟨i, hi, rfl, HT, HW⟩ := hrel
    have hw := HW.out
    subst hw
    by_cases h0 : i < ks.length
    · obtain ⟨x, hx⟩ : ∃ x, ks[i]? = some x := ⟨ks[i], List.getElem?_eq_getElem h0⟩
      obtain ⟨ad, A1, ca1, Q1, cq1, rfl, had, d0, d1, d2, d3, d4, d5, _, _⟩ := HS.out.at_ hx
      have ht := HT.out
      rw [txEnd_go hx] at ht
      by_cases hk : x.kind = 2
      · rw [if_pos hk] at ht
        rw [hk] at d0
        have HT2 := Lib.hid ht
        clear hk ht hx d1 d2 d3 d4 d5
        go_wp2
        go_roundw
        case rel => exact ⟨i + 1, by omega, by go_num, HT2, Lib.hid trivial⟩
        case measure => simp [intOf]; omega
      · rw [if_neg hk] at ht
        have hkf : (x.kind == 2) = false := by simpa using hk
        generalize x.kind = kd at *
        have HT2 := Lib.hid ht
        clear hk ht hx d1 d2 d3 d4 d5
        go_wp2
        go_ret
        exact ⟨by rw [HT2.out]; rfl, rfl⟩
    · have hi2 : i = ks.length := by omega
      subst hi2
      have ht := HT.out
      rw [txEnd_end (Nat.le_refl _)] at ht
      have HT2 := Lib.hid ht
      clear ht
      go_wp2
      go_ret
      exact ⟨by rw [HT2.out]; rfl, rfl⟩
end Go.Proofs.Ytlcjepnaljfpkaa
namespace Wb
def valL : List Nd → List UInt8
  | [] => []
  | k :: ks => (if k.kind = 2 then k.text.data.toList else []) ++ valL ks
theorem valL_take {ks : List Nd} {i : Nat} {x : Nd} (h : ks[i]? = some x) : valL (ks.take (i + 1)) = valL (ks.take i) ++ (if x.kind = 2 then x.text.data.toList else []) := by
  have app : ∀ a b : List Nd, valL (a ++ b) = valL a ++ valL b := fun a b => by
    induction a with
    | nil => rfl
    | cons k a ih => rw [List.cons_append, valL, ih, valL, List.append_assoc]
  rw [List.take_add_one, h]
  show valL (ks.take i ++ [x]) = _
  rw [app]
  simp [valL]
theorem valL_le (ks : List Nd) (i : Nat) : (valL (ks.take i)).length ≤ (valL ks).length := by
  have app : ∀ a b : List Nd, valL (a ++ b) = valL a ++ valL b := fun a b => by
    induction a with
    | nil => rfl
    | cons k a ih => rw [List.cons_append, valL, ih, valL, List.append_assoc]
  conv => rhs; rw [← List.take_append_drop i ks, app, List.length_append]
  omega
end Wb
namespace Go.Proofs.Ytlcjepnaljfpkaa
open Go.RowKit Wb
end Go.Proofs.Ytlcjepnaljfpkaa
namespace Go.Proofs.Ytlcjepnaljfpkaa
open Go.RowKit Wb
theorem pw_lies : liesAt Try.prog Try.prog.depth 89 (2 / Try.prog.cellsOf 89) 0 89 1 = true := by kernel_rfl
theorem pw_size : (Try.prog.info? 89).map (·.size) = some 2 := by kernel_rfl
theorem pw_byte : (Try.prog.info? 5).map (fun i => (i.zero, i.size, i.bytes)) = some (some (.int .u8 0), 1, 1) := by kernel_rfl
theorem pw_esc (x : Value) (w : World) : (callFunc 71 #[x]).run Try.prog w = .ok (.value x) w := by
  rw [run_callFunc_extern (P := Try.prog) (f := 71) (fn := Try.f71) (e := Extern.AbiNoEscape.same) (by kernel_rfl) (by kernel_rfl) (by kernel_rfl) (by kernel_rfl) (by kernel_rfl), Lib.run_noEscape]
  rfl
set_option maxHeartbeats 1000000 in
set_option maxRecDepth 100000 in
theorem pw_check {B b : Nat} {bs : List Value} {w : World} (h : Lib.IsBuilder 89 5 B b bs w) :
    Calls Try.prog 66 #[.pointer (some ⟨b, 0, none⟩)] w fun e w' => e = .returned (.tuple #[]) ∧ Lib.BuilderAt 89 5 B b (.pointer (some ⟨b, 0, none⟩)) bs w' ∧ Below B w w' := by
  obtain ⟨j, hj, hjs⟩ := Option.map_eq_some_iff.1 pw_size
  rcases h with ⟨h1, v, h2, h3, h4⟩ | ⟨h1, v, h2, h3, h4⟩
  · have h0 : w.cell? ⟨b, 0, none⟩ = some (.pointer none) := blk_cell h2 0
    have hfz := blk_free h2 0
    have hsh : w.shape? b = some (89, 2) := by simp [World.shape?, h2]
    have e1 : (convert 86 109 (.pointer (some ⟨b, 0, none⟩))).run Try.prog w = .ok (.pointer (some ⟨b, 0, none⟩)) w := Lib.run_to_unsafe w ⟨b, 0, none⟩ Try.underlying86 Try.underlying109 hj (by rw [hjs]; decide) hsh (by show 0 < 2; omega)
    have e2 : (convert 109 86 (.pointer (some ⟨b, 0, none⟩))).run Try.prog w = .ok (.pointer (some ⟨b, 0, none⟩)) w := Lib.run_from_unsafe w ⟨b, 0, none⟩ Try.underlying109 Try.underlying86 hj hsh pw_lies
    have e3 := pw_esc
    have hfin : Lib.BuilderAt 89 5 B b (.pointer (some ⟨b, 0, none⟩)) bs (w.setCell ⟨b, 0, none⟩ (.pointer (some ⟨b, 0, none⟩))) ∧ Below B w (w.setCell ⟨b, 0, none⟩ (.pointer (some ⟨b, 0, none⟩))) := by
      refine ⟨⟨h1, v, by simpa using blk_set h2 0 (.pointer (some ⟨b, 0, none⟩)), own_blk h3 fun k hv => Below.heap_setCell _ _ _ _ (fun e => h4 (by rw [hv]; simpa using e)), h4⟩, (Below.refl B w).setCell (p := ⟨b, 0, none⟩) h1 _⟩
    have HF := Lib.hid hfin
    clear hfin h3 h4 hsh hj hjs h2
    go_enter Try.func66, Try.ntmps66
    go_wp2
    go_end0
    exact ⟨rfl, HF.out⟩
  · have h0 : w.cell? ⟨b, 0, none⟩ = some (.pointer (some ⟨b, 0, none⟩)) := blk_cell h2 0
    have hfin : Lib.BuilderAt 89 5 B b (.pointer (some ⟨b, 0, none⟩)) bs w ∧ Below B w w := ⟨⟨h1, v, h2, h3, h4⟩, Below.refl _ _⟩
    have HF := Lib.hid hfin
    have hpe := fun (v : World) => Lib.run_neq_ptr_same (P := Try.prog) v ⟨b, 0, none⟩ Try.underlying86 hj
    clear hfin h3 h4 hj hjs h2
    go_enter Try.func66, Try.ntmps66
    go_wp2
    go_end0
    exact ⟨rfl, HF.out⟩
set_option maxHeartbeats 2000000 in
set_option maxRecDepth 100000 in
theorem pwrite_any (B b : Nat) (bs : List Value) (s : ByteArray) (w : World) (h : Lib.IsBuilder 89 5 B b bs w) (hlen : bs.length + s.size ≤ 140737488355328) (_hBw : B ≤ w.heap.size) :
    Calls Try.prog 58 #[.pointer (some ⟨b, 0, none⟩), .string s] w fun e w' => (∃ v, e = .returned v) ∧ Lib.IsBuilder 89 5 B b (bs ++ Lib.strCells s) w' ∧ Below B w w' := by
  obtain ⟨i0, hi, hz0, hz1, hz2⟩ := info_parts pw_byte
  have hc := pw_check h
  clear h
  go_enter Try.func58, Try.ntmps58
  go_wp2_with fail
  refine hc.mono ?_
  rintro e w1 ⟨rfl, ⟨a1, v, a2, a3, a4⟩, hk1⟩
  have c0 : w1.cell? ⟨b, 0, none⟩ = some (.pointer (some ⟨b, 0, none⟩)) := blk_cell a2 0
  have c1 : w1.cell? ⟨b, 1, none⟩ = some v := blk_cell a2 1
  have hb1 := blk_in a2
  have A2 := Lib.hid a2
  have A4 := Lib.hid a4
  have K1 := Lib.hid hk1
  have hm : bs.length + s.size ≤ maxLen := by unfold maxLen; omega
  have hbw : B ≤ w1.heap.size := by omega
  clear hc hk1 a2 a4
  go_wp2_with (at_builtin; refine Lib.wpList_append_own_string _ rfl _ _ 87 9 rfl B 5 i0 Try.underlying87 Try.underlying9 hi hz0 hz1 hz2 _ _ _ rfl a3 s rfl hm hlen hbw ?_)
  intro v' w2 hown' hgrow _
  obtain ⟨A, c, rfl⟩ := own_shape hown'
  have hne : some b ≠ v.ownBlock := fun e => A4.out e.symm
  have hb2 := grown_block A2.out hgrow hne
  have d0 : w2.cell? ⟨b, 0, none⟩ = some (.pointer (some ⟨b, 0, none⟩)) := blk_cell hb2 0
  have d1 : w2.cell? ⟨b, 1, none⟩ = some v := blk_cell hb2 1
  have f1 := blk_free hb2 1
  have hk2 : Below B w1 (w2.setCell ⟨b, 1, none⟩ (.slice A (bs.length + s.size) c)) :=
    ((Below.refl B w1).grown hgrow hbw (fun k hv => (own_in a3 hv).1)).setCell (p := ⟨b, 1, none⟩) a1 _
  have hne2 : (Value.slice A (bs.length + s.size) c).ownBlock ≠ some b := by
    intro e
    rcases hown'.2 with ⟨h0, _⟩ | ⟨g, cap, cur, hv, _, hg, _⟩
    · rw [h0] at e; simp [Value.ownBlock] at e
    · rw [hv] at e
      simp only [Value.ownBlock, Option.some.injEq] at e
      subst e
      rw [hb2] at hg
      injection hg with hg
      injection hg with _ hg
      exact absurd hg (by decide)
  have hfin : Lib.IsBuilder 89 5 B b (bs ++ Lib.strCells s) (w2.setCell ⟨b, 1, none⟩ (.slice A (bs.length + s.size) c)) := by
    refine .inr ⟨a1, _, by simpa using blk_set hb2 1 (.slice A (bs.length + s.size) c), ?_, hne2⟩
    have := own_blk (w' := w2.setCell ⟨b, 1, none⟩ (.slice A (bs.length + s.size) c)) hown' fun k hv => Below.heap_setCell _ _ _ _ (fun e => hne2 (by rw [hv]; simpa using e))
    rw [List.length_append, show (Lib.strCells s).length = s.size from by rw [Lib.strCells_eq, Lib.byteCells_length, ← Lib.size_eq]]
    exact this
  have HF := Lib.hid hfin
  have K2 := Lib.hid (K1.out.trans hk2)
  clear hfin hk2 hown' hgrow hb2 hne2 a3 hne
  go_wp2
  go_ret2
  exact ⟨⟨_, rfl⟩, HF.out, K2.out⟩
set_option maxRecDepth 100000 in
set_option maxHeartbeats 2000000 in
theorem pvalue_el (n : Nd) (A K : Option Addr) (ca ck : Nat) (w : World) (hV : NodeV w n A K) (hk : n.kind = 1) (hl : n.kids.length ≤ 1000000) (hz : (valL n.kids).length ≤ 1000000000) :
    Calls Try.prog 48 #[ndV n A ca K ck] w fun e w' => e = .returned (.string ⟨(valL n.kids).toArray⟩) ∧ Below w.heap.size w w' := by
  obtain ⟨kd, ⟨sp, lo⟩, al, ks, tx⟩ := n
  simp only [Nd.kind, Nd.kids] at hk hl hz ⊢
  subst hk
  unfold ndV ndCells
  simp only [Nd.kind, Nd.name, Nd.attrs, Nd.kids, Nd.text]
  have HK := Lib.hid hV.2
  have hN := heap_alloc_new w (.cells #[.int .i64 1, .string sp, .string lo, .slice A al.length ca, .slice K ks.length ck, .string tx] 27)
  have HB1 := Lib.hid ((Below.refl w.heap.size w).alloc (Nat.le_refl _) (.cells #[.int .i64 1, .string sp, .string lo, .slice A al.length ca, .slice K ks.length ck, .string tx] 27))
  have HF := Lib.hid (Lib.fresh_isBuilder 89 5 (w.alloc (.cells #[.int .i64 1, .string sp, .string lo, .slice A al.length ca, .slice K ks.length ck, .string tx] 27)))
  clear hV hN
  go_enter Try.func48, Try.ntmps48
  go_wp2
  go_loopw [14] (fun vi wr => ∃ i : Nat, i ≤ ks.length ∧ vi = .int .i64 i ∧ Hid (Lib.IsBuilder 89 5 (w.heap.size + 1) (w.heap.size + 1) (Lib.byteCells (valL (ks.take i))) wr) ∧ Hid (Below w.heap.size w wr) ∧ w.heap.size + 1 ≤ wr.heap.size) (fun vi _ => ((ks.length : Int) - intOf vi).toNat)
  case atStart =>
    refine ⟨0, by omega, rfl, Lib.hid ?_, Lib.hid (HB1.out.alloc (by simp) _), by simp⟩
    have h := HF.out
    rw [show valL (ks.take 0) = [] from by rw [List.take_zero]; rfl, show Lib.byteCells [] = [] from rfl]
    simpa using h
  case round =>
    obtain ⟨i, hi, rfl, HB, HW, hws⟩ := hrel
    by_cases h0 : i < ks.length
    · obtain ⟨x, he⟩ : ∃ x, ks[i]? = some x := ⟨ks[i], List.getElem?_eq_getElem h0⟩
      obtain ⟨ad, A1, ca1, K1, ck1, rfl, had, d0, d1, d2, d3, d4, d5, hA1, hK1⟩ := (HK.out.below HW.out).at_ he
      have hvt := valL_take he
      have hle := valL_le ks (i + 1)
      have hba := (Below.refl wr.heap.size wr).alloc (Nat.le_refl _) (.cells #[.int .i64 x.kind, .string x.name.1, .string x.name.2, .slice A1 x.attrs.length ca1, .slice K1 x.kids.length ck1, .string x.text] 27)
      have HBA := Lib.hid (isb_below HB.out hba)
      have HWA := Lib.hid (HW.out.trans (hba.mono HW.out.size))
      clear hba had hA1 hK1 he
      by_cases h2 : x.kind = 2
      · rw [if_pos h2] at hvt
        have hsz : x.text.size ≤ 1000000000 := by
          rw [hvt, List.length_append, ← Lib.size_eq] at hle; omega
        have HVT := Lib.hid hvt
        have hwr := pwrite_any (w.heap.size + 1) (w.heap.size + 1) _ x.text _ HBA.out (by
          rw [Lib.byteCells_length]
          rw [HVT.out, List.length_append, ← Lib.size_eq] at hle
          omega) (by simp; omega)
        have h2' : (x.kind == 2) = true := by simp [h2]
        clear hvt hle h2
        go_wp2_with fail
        refine hwr.mono ?_
        rintro e w2 ⟨⟨v, rfl⟩, hB2, hb2⟩
        rw [Lib.strCells_eq, ← Lib.byteCells_append, ← HVT.out] at hB2
        have HB2 := Lib.hid hB2
        have HW2 := Lib.hid (HWA.out.trans (hb2.mono (by omega)))
        have hws2 : w.heap.size + 1 ≤ w2.heap.size := by have := hb2.size; simp at this; omega
        clear hB2 hb2 hwr
        go_wp2
        go_roundw
        case rel => exact ⟨i + 1, by omega, by go_num, HB2, HW2, hws2⟩
        case measure => simp [intOf]; omega
      · rw [if_neg h2, List.append_nil] at hvt
        have h2' : (x.kind == 2) = false := by simpa using h2
        have HBA2 := HBA.out
        rw [← hvt] at HBA2
        have HB2 := Lib.hid HBA2
        clear hvt hle HBA HBA2
        go_wp2
        go_roundw
        case rel => exact ⟨i + 1, by omega, by go_num, HB2, HWA, by simp; omega⟩
        case measure => simp [intOf]; omega
    · have : i = ks.length := by omega
      subst this
      rw [List.take_length] at HB
      go_wp2_with fail
      refine (Try.Builder_String_any (w.heap.size + 1) (w.heap.size + 1) _ wr HB.out hws).mono ?_
      rintro e w3 ⟨rfl, hb3⟩
      have HW3 := Lib.hid (HW.out.trans (hb3.mono (by omega)))
      clear hb3
      go_wp2
      go_ret
      exact ⟨rfl, HW3.out⟩
end Go.Proofs.Ytlcjepnaljfpkaa
