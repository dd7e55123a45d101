/- PaC. -/
import Derived.Deep.Cut
import Derived.Deep.RegionWith
import Derived.Deep.RegionLaw
import Derived.Test.YtlcjepnaljfpkaaQb5
namespace Wb
open Go Go.RowKit
theorem valL_app (a b : List Nd) : valL (a ++ b) = valL a ++ valL b := by
  induction a with
  | nil => rfl
  | cons k a ih => rw [List.cons_append, valL, ih, valL, List.append_assoc]
theorem valL_texts : ∀ l : List Nd, (∀ x ∈ l, x.kind = 2) → valL l = textsL l
  | [], _ => rfl
  | x :: l, h => by
    rw [valL, textsL, if_pos (h x (by simp)), valL_texts l (fun y hy => h y (by simp [hy]))]
theorem valL_part (ks : List Nd) (i m : Nat) : (valL ((ks.drop i).take m)).length ≤ (valL ks).length := by
  have h1 := valL_le (ks.drop i) m
  have h2 : valL ks = valL (ks.take i) ++ valL (ks.drop i) := by rw [← valL_app, List.take_append_drop]
  rw [h2, List.length_append]
  omega
theorem tkw_all (p : Nd → Bool) : ∀ (l : List Nd) (y : Nd), y ∈ l.takeWhile p → p y = true
  | [], _, h => by simp at h
  | x :: l, y, h => by
    rw [List.takeWhile_cons] at h
    split at h
    · rename_i hx
      rcases List.mem_cons.1 h with rfl | h
      · exact hx
      · exact tkw_all p l y h
    · cases h
theorem run_is {ks : List Nd} {i : Nat} {x : Nd} (h : ks[i]? = some x) (hk : x.kind = 2) : (ks.drop i).take (txEnd ks i - i) = x :: (ks.drop (i + 1)).takeWhile (fun y => decide (y.kind = 2)) ∧ ks.drop (txEnd ks i) = (ks.drop (i + 1)).dropWhile (fun y => decide (y.kind = 2)) := by
  obtain ⟨hi, e⟩ := List.getElem?_eq_some_iff.1 h
  have hd : ks.drop i = x :: ks.drop (i + 1) := by rw [List.drop_eq_getElem_cons hi, e]
  have ht : txEnd ks i = i + 1 + ((ks.drop (i + 1)).takeWhile (fun y => decide (y.kind = 2))).length := by rw [txEnd_go h, if_pos hk]; rfl
  have hw := List.takeWhile_append_dropWhile (p := fun y : Nd => decide (y.kind = 2)) (l := ks.drop (i + 1))
  obtain ⟨T, hT⟩ : ∃ T, (ks.drop (i + 1)).takeWhile (fun y => decide (y.kind = 2)) = T := ⟨_, rfl⟩
  obtain ⟨D, hD⟩ : ∃ D, (ks.drop (i + 1)).dropWhile (fun y => decide (y.kind = 2)) = D := ⟨_, rfl⟩
  rw [hT, hD] at hw
  rw [hT] at ht
  rw [hT, hD]
  constructor
  · rw [hd, ht, show i + 1 + T.length - i = T.length + 1 from by omega, List.take_succ_cons, ← hw, List.take_left]
  · rw [ht, ← List.drop_drop, ← hw, List.drop_left]
theorem joinK_text {ks : List Nd} {i : Nat} {x : Nd} (h : ks[i]? = some x) (hk : x.kind = 2) :
    joinK (ks.drop i) = .mk x.kind x.name x.attrs x.kids ⟨(valL ((ks.drop i).take (txEnd ks i - i))).toArray⟩ :: joinK (ks.drop (txEnd ks i)) := by
  obtain ⟨h1, h2⟩ := run_is h hk
  obtain ⟨hi, e⟩ := List.getElem?_eq_some_iff.1 h
  rw [h1, h2, List.drop_eq_getElem_cons hi, e, joinK, if_pos hk, valL, if_pos hk, valL_texts _ (fun y hy => by simpa using tkw_all _ _ y hy)]
theorem joinK_else {ks : List Nd} {i : Nat} {x : Nd} (h : ks[i]? = some x) (hk : ¬ x.kind = 2) : joinK (ks.drop i) = x :: joinK (ks.drop (i + 1)) := by
  obtain ⟨hi, e⟩ := List.getElem?_eq_some_iff.1 h
  rw [List.drop_eq_getElem_cons hi, e, joinK, if_neg hk]
theorem SlN.piece {w : World} {ad : Addr} {ks : List Nd} (h : SlN w (some ad) ks) (i m : Nat) : SlN w (some (ad.add (i * 6))) ((ks.drop i).take m) := by
  rcases h with h | ⟨a, e, hb, hk⟩
  · exact .inl (by rw [h]; simp)
  · injection e with e
    subst e
    refine .inr ⟨_, rfl, by rw [add_block]; exact hb, (kidsC_iff w _ _ 0).2 fun k n hn => ?_⟩
    rw [List.getElem?_take] at hn
    split at hn
    · rw [List.getElem?_drop] at hn
      obtain ⟨cs, h1, h2⟩ := (kidsC_iff w ad ks 0).1 hk (i + k) n hn
      refine ⟨cs, fun j u hu => ?_, h2⟩
      have := h1 j u hu
      rw [Addr.add_add, show i * 6 + ((0 + k) * 6 + j) = (0 + (i + k)) * 6 + j from by rw [Nat.zero_add, Nat.zero_add, Nat.add_mul]; omega]
      exact this
    · cases hn
theorem SlN.of_row {w w' : World} {M : Nat → Prop} {base c : Nat} {e : TypeId} {K : Option Addr} {D : List Nd} {css : List (List Value)} (hl : css.length = D.length) (hn : ∀ (i : Nat) (x : Nd) (cs : List Value), D[i]? = some x → css[i]? = some cs → SafeM M w (fun v => nodeC v x cs))
    (hb : Below w.heap.size w w') (hM : ∀ b, base ≤ b → M b) (ho : w'.ownsRow base e 6 (.slice K D.length c) D.length css.flatten) : SafeM M w' (fun v => SlN v K D) := by
  intro w2 h1 h2
  have ho2 : w2.ownsRow base e 6 (.slice K D.length c) D.length css.flatten := own_blk ho fun k hk => h1 k (hM k (own_in ho hk).1) (own_in ho hk).2
  have hn2 : ∀ (i : Nat) (x : Nd) (cs : List Value), D[i]? = some x → css[i]? = some cs → nodeC w2 x cs := fun i x cs a b => (hn i x cs a b).below hb w2 h1 h2
  by_cases h0 : D = []
  · exact .inl h0
  · obtain ⟨g, cap, hv, _, hlt⟩ := ho2.form (List.length_pos_iff.2 h0)
    injection hv with hA
    subst hA
    have h6 : ∀ cs ∈ css, cs.length = 6 := fun cs hc => by
      obtain ⟨i, hi⟩ := List.getElem?_of_mem hc
      have hlt := (List.getElem?_eq_some_iff.1 hi).1
      obtain ⟨x, hx⟩ : ∃ x, D[i]? = some x := ⟨D[i]'(by omega), List.getElem?_eq_getElem (by omega)⟩
      exact nodeC_len (hn2 i x cs hx hi)
    refine .inr ⟨_, rfl, hlt, (kidsC_iff w2 _ _ 0).2 fun k x hx => ?_⟩
    have hk := (List.getElem?_eq_some_iff.1 hx).1
    obtain ⟨cs, hc⟩ : ∃ cs, css[k]? = some cs := ⟨css[k]'(by omega), List.getElem?_eq_getElem (by omega)⟩
    refine ⟨cs, fun j u hu => ?_, hn2 k x cs hx hc⟩
    rw [Nat.zero_add]
    have hj : j < 6 := by have := (List.getElem?_eq_some_iff.1 hu).1; rw [h6 cs (List.mem_of_getElem? hc)] at this; exact this
    exact ho2.cells (g := g) rfl _ _ ((flat_at h6 k cs hc j hj).trans hu)
theorem kid_safe {M : Nat → Prop} {w : World} {ad : Addr} {ks : List Nd} {i : Nat} {x : Nd} {A Q : Option Addr} {ca cq : Nat} (h : SafeM M w (fun v => SlN v (some ad) ks)) (hx : ks[i]? = some x)
    (d0 : w.cell? (ad.add (i * 6)) = some (.int .i64 x.kind)) (d3 : w.cell? ⟨(ad.add (i * 6)).block, (ad.add (i * 6)).off + 3, none⟩ = some (.slice A x.attrs.length ca))
    (d4 : w.cell? ⟨(ad.add (i * 6)).block, (ad.add (i * 6)).off + 4, none⟩ = some (.slice Q x.kids.length cq)) (t : ByteArray) :
    SafeM M w (fun v => nodeC v (.mk x.kind x.name x.attrs x.kids t) [.int .i64 x.kind, .string x.name.1, .string x.name.2, .slice A x.attrs.length ca, .slice Q x.kids.length cq, .string t]) := by
  have hB : M ad.block := by
    refine Classical.byContradiction fun hn => ?_
    have h2 := h (w.setCell (ad.add (i * 6)) (.bool true)) (fun b p _ => Below.heap_setCell _ _ _ _ (fun e => by rw [add_block] at e; exact hn (e ▸ p))) (by simp [World.setCell])
    obtain ⟨ad2, A2, ca2, Q2, cq2, e, _, c0, _⟩ := SlN.at_ h2 hx
    injection e with e
    subst e
    rw [World.cell?_setCell_same' _ _ _ (by rw [d0]; rfl)] at c0
    simp at c0
  have hb : (ad.add (i * 6)).block < w.heap.size := by
    obtain ⟨ad2, A2, ca2, Q2, cq2, e, hb, _⟩ := SlN.at_ h.here hx
    injection e with e
    rw [add_block, e]; exact hb
  intro w2 h1 h2
  have hk := h1 (ad.add (i * 6)).block (by rw [add_block]; exact hB) hb
  have kc : ∀ o, w2.cell? ⟨(ad.add (i * 6)).block, o, none⟩ = w.cell? ⟨(ad.add (i * 6)).block, o, none⟩ := fun o => World.cell?_of_block hk
  obtain ⟨ad2, A2, ca2, Q2, cq2, e, _, _, _, _, c3, c4, _, hA, hQ⟩ := SlN.at_ (h w2 h1 h2) hx
  injection e with e
  subst e
  rw [kc, d3] at c3
  rw [kc, d4] at c4
  simp only [Option.some.injEq, Value.slice.injEq, true_and] at c3 c4
  obtain ⟨rfl, rfl⟩ := c3
  obtain ⟨rfl, rfl⟩ := c4
  exact (nodeC_V w2 _ _).2 ⟨A, ca, Q, cq, rfl, hA, hQ⟩
theorem joined_more {w : World} {M : Nat → Prop} {D : List Nd} {css : List (List Value)} {y : Nd} {cy : List Value} (hl : css.length = D.length) (hn : ∀ (k : Nat) (x : Nd) (cs : List Value), D[k]? = some x → css[k]? = some cs → SafeM M w (fun v => nodeC v x cs)) (hy : SafeM M w (fun v => nodeC v y cy)) :
    ∀ (k : Nat) (x : Nd) (cs : List Value), (D ++ [y])[k]? = some x → (css ++ [cy])[k]? = some cs → SafeM M w (fun v => nodeC v x cs) := by
  intro k x cs h1 h2
  by_cases hk : k < D.length
  · rw [List.getElem?_append_left hk] at h1
    rw [List.getElem?_append_left (by omega)] at h2
    exact hn k x cs h1 h2
  · rw [List.getElem?_append_right (by omega)] at h1 h2
    rw [hl] at h2
    have hj : k - D.length = 0 := by have := (List.getElem?_eq_some_iff.1 h1).1; simp at this; omega
    rw [hj] at h1 h2
    simp only [List.getElem?_cons_zero, Option.some.injEq] at h1 h2
    subst h1 h2
    exact hy
end Wb
namespace Go.Proofs.Ytlcjepnaljfpkaa
open Go.RowKit Wb
theorem run_max (P : Program) (a m : Nat) (ts : Array TypeId) (t : TypeId) (w : World) : (Builtin.max_ ts t #[.int .i64 (a : Int), .int .i64 (m : Int)]).run P w = .ok (.int .i64 ((max a m : Nat) : Int)) w := by
  by_cases h : (a : Int) < m
  · have : max a m = m := by omega
    rw [this]
    simp [Builtin.max_, Builtin.max2, h]
  · have : max a m = a := by omega
    rw [this]
    simp [Builtin.max_, Builtin.max2, h]
set_option maxRecDepth 100000 in
set_option maxHeartbeats 4000000 in
theorem joined_any (K : Option Addr) (ks : List Nd) (ck : Nat) (M : Nat → Prop) (w : World) (hM : ∀ b, w.heap.size ≤ b → M b) (h : SafeM M w (fun v => SlN v K ks)) (hl : ks.length ≤ 1000000) (hc : ks.length ≤ ck) (hz : (valL ks).length ≤ 1000000000) :
    Calls Try.prog 26 #[.slice K ks.length ck] w fun e w' => ∃ K' c', e = .returned (.slice K' (joinK ks).length c') ∧ SafeM M w' (fun v => SlN v K' (joinK ks)) ∧ Below w.heap.size w w' := by
  obtain ⟨j0, hj, hy0, hy1, hy2⟩ := info_parts node_info
  obtain ⟨J, hJ⟩ : ∃ J, joinK ks = J := ⟨_, rfl⟩
  rw [hJ]
  have HJ := Lib.hid hJ
  have HS := Lib.hid h.here
  have HSB := Lib.hid h
  have HZ := Lib.hid hz
  have HC := Lib.hid hc
  clear hJ h hz hc
  go_enter Try.func26, Try.ntmps26
  go_wp2
  go_loopw [3, 4] (fun vl vi wr => ∃ (i : Nat) (D : List Nd) (css : List (List Value)), i ≤ ks.length ∧ D.length ≤ i ∧ vi = .int .i64 i ∧ Hid (D ++ joinK (ks.drop i) = J) ∧ Hid (css.length = D.length) ∧
    Hid (∀ (k : Nat) (x : Nd) (cs : List Value), D[k]? = some x → css[k]? = some cs → SafeM M w (fun v => nodeC v x cs)) ∧ Hid (wr.ownsRow w.heap.size 27 6 vl D.length css.flatten) ∧ Hid (Below w.heap.size w wr)) (fun _ vi _ => ((ks.length : Int) - intOf vi).toNat)
  case atStart => exact ⟨0, [], [], by omega, by simp, rfl, Lib.hid (by simpa using HJ.out), Lib.hid rfl, Lib.hid (fun k x cs h => by simp at h), Lib.hid (World.ownsRow_nil _ _ _ _), Lib.hid (Below.refl _ _)⟩
  case round =>
    obtain ⟨i, D, css, hi, hdi, rfl, HD, HL, HN, HO, HB⟩ := hrel
    by_cases h0 : i < ks.length
    · obtain ⟨x, hx⟩ : ∃ x, ks[i]? = some x := ⟨ks[i], List.getElem?_eq_getElem h0⟩
      have hte := fun (v : World) (hv : Below wr.heap.size wr v) => textsEnd_any K ks ck i v ((HS.out.below HB.out).below hv) hl hi
      obtain ⟨ad, A1, ca1, Q1, cq1, rfl, had, d0, d1, d2, d3, d4, d5, hA1, hQ1⟩ := HS.out.at_ hx
      have hbw := HB.out
      have d0' := d0; have d3' := d3; have d4' := d4
      have hbk : (ad.add (i * 6)).block < w.heap.size := by rw [add_block]; exact had
      have d0 := (hbw.cell hbk).trans d0
      have d1 := (hbw.cell (p := ⟨(ad.add (i * 6)).block, (ad.add (i * 6)).off + 1, none⟩) hbk).trans d1
      have d2 := (hbw.cell (p := ⟨(ad.add (i * 6)).block, (ad.add (i * 6)).off + 2, none⟩) hbk).trans d2
      have d3 := (hbw.cell (p := ⟨(ad.add (i * 6)).block, (ad.add (i * 6)).off + 3, none⟩) hbk).trans d3
      have d4 := (hbw.cell (p := ⟨(ad.add (i * 6)).block, (ad.add (i * 6)).off + 4, none⟩) hbk).trans d4
      have d5 := (hbw.cell (p := ⟨(ad.add (i * 6)).block, (ad.add (i * 6)).off + 5, none⟩) hbk).trans d5
      have hbk2 := Nat.lt_of_lt_of_le hbk hbw.size
      have a0 : ∀ o, (wr.alloc o).cell? (ad.add (i * 6)) = _ := fun o => (World.cell?_of_block (w := wr) (a := (ad.add (i * 6))) (Below.heap_alloc wr o _ hbk2)).trans d0
      have a1 : ∀ o, (wr.alloc o).cell? ⟨(ad.add (i * 6)).block, (ad.add (i * 6)).off + 1, none⟩ = _ := fun o => (World.cell?_of_block (w := wr) (a := ⟨(ad.add (i * 6)).block, (ad.add (i * 6)).off + 1, none⟩) (Below.heap_alloc wr o _ hbk2)).trans d1
      have a2 : ∀ o, (wr.alloc o).cell? ⟨(ad.add (i * 6)).block, (ad.add (i * 6)).off + 2, none⟩ = _ := fun o => (World.cell?_of_block (w := wr) (a := ⟨(ad.add (i * 6)).block, (ad.add (i * 6)).off + 2, none⟩) (Below.heap_alloc wr o _ hbk2)).trans d2
      have a3 : ∀ o, (wr.alloc o).cell? ⟨(ad.add (i * 6)).block, (ad.add (i * 6)).off + 3, none⟩ = _ := fun o => (World.cell?_of_block (w := wr) (a := ⟨(ad.add (i * 6)).block, (ad.add (i * 6)).off + 3, none⟩) (Below.heap_alloc wr o _ hbk2)).trans d3
      have a4 : ∀ o, (wr.alloc o).cell? ⟨(ad.add (i * 6)).block, (ad.add (i * 6)).off + 4, none⟩ = _ := fun o => (World.cell?_of_block (w := wr) (a := ⟨(ad.add (i * 6)).block, (ad.add (i * 6)).off + 4, none⟩) (Below.heap_alloc wr o _ hbk2)).trans d4
      have a5 : ∀ o, (wr.alloc o).cell? ⟨(ad.add (i * 6)).block, (ad.add (i * 6)).off + 5, none⟩ = _ := fun o => (World.cell?_of_block (w := wr) (a := ⟨(ad.add (i * 6)).block, (ad.add (i * 6)).off + 5, none⟩) (Below.heap_alloc wr o _ hbk2)).trans d5
      clear hbw had hbk hbk2
      go_wp2_with fail
      go_region_law (go_simp; go_at_call 47; refine (hte _ (by first | exact (Below.refl _ wr).drew | exact ((Below.refl _ wr).alloc (Nat.le_refl _) _).drew)).mono ?_; rintro e w2 ⟨rfl, rfl⟩)
      all_goals
        have HNX : Hid (∀ t : ByteArray, SafeM M w (fun v => nodeC v (.mk x.kind x.name x.attrs x.kids t) [.int .i64 x.kind, .string x.name.1, .string x.name.2, .slice A1 x.attrs.length ca1, .slice Q1 x.kids.length cq1, .string t])) := Lib.hid (fun t => kid_safe HSB.out hx d0' d3' d4' t)
        clear hte d0 d1 d2 d3 d4 d5 d0' d3' d4' a0 a1 a2 a3 a4 a5 hA1 hQ1
        have hb1 : Below wr.heap.size wr (wr.alloc (.cells #[.int .i64 x.kind, .string x.name.1, .string x.name.2, .slice A1 x.attrs.length ca1, .slice Q1 x.kids.length cq1, .string x.text] 27)).drew := ((Below.refl _ wr).alloc (Nat.le_refl _) _).drew
        have HO1 := Lib.hid (own_below HO.out hb1)
        have HB1 := Lib.hid (HB.out.trans (hb1.mono HB.out.size))
        have HT : Hid ((wr.alloc (.cells #[.int .i64 x.kind, .string x.name.1, .string x.name.2, .slice A1 x.attrs.length ca1, .slice Q1 x.kids.length cq1, .string x.text] 27)).drew.heap[wr.heap.size]? = _) := Lib.hid (heap_alloc_new wr (.cells #[.int .i64 x.kind, .string x.name.1, .string x.name.2, .slice A1 x.attrs.length ca1, .slice Q1 x.kids.length cq1, .string x.text] 27))
        have hwT := HB.out.size
        have HUB := Lib.hid (fun b (hb : u3.ownBlock = some b) => (own_in HO.out hb).2)
        clear hb1 HB HO
        revert HO1 HB1 HT
        generalize (wr.alloc (.cells #[.int .i64 x.kind, .string x.name.1, .string x.name.2, .slice A1 x.attrs.length ca1, .slice Q1 x.kids.length cq1, .string x.text] 27)).drew = wk
        intro HO1 HB1 HT
        generalize wr.heap.size = T at *
        have hTb : ∀ b, u3.ownBlock = some b → b < T := HUB.out
        have hte := txEnd_le (ks := ks) (p := i) hi
        by_cases hk : x.kind = 2
        · have hj := joinK_text hx hk
          have hgt : i < txEnd ks i := by
            rw [txEnd_go hx, if_pos hk]
            have := (txEnd_le (ks := ks) (p := i + 1) (by omega)).1
            omega
          generalize txEnd ks i = e at *
          have hsl : ((ks.drop i).take (e - i)).length = e - i := by rw [List.length_take, List.length_drop]; omega
          have hval := pvalue_el (.mk 1 (⟨#[]⟩, ⟨#[]⟩) [] ((ks.drop i).take (e - i)) ⟨#[]⟩) none (some (ad.add (i * 6))) 0 (ck - i) wk ⟨Sl3.nil _ _, (HS.out.below HB1.out).piece i (e - i)⟩ rfl (by simp only [Nd.kids]; omega) (by
            simp only [Nd.kids]
            exact Nat.le_trans (valL_part ks i (e - i)) HZ.out)
          unfold ndV ndCells at hval
          simp only [Nd.kind, Nd.name, Nd.attrs, Nd.kids, Nd.text, hsl, List.length_nil] at hval
          have hcap := HC.out
          have f0 : (0 : Int) ≤ (i : Int) := by omega
          have f1 : (i : Int) ≤ (e : Int) := by omega
          have f2 : (e : Int) ≤ (ck : Int) := by omega
          have f3 : ¬ ck = i := by omega
          clear hk
          go_wp2_with fail
          refine hval.mono ?_
          rintro e' w3 ⟨rfl, hb3⟩
          have HT3 := still_block HT.out hb3
          have HO3 := own_below HO1.out hb3
          have HB3 := HB1.out.trans (hb3.mono HB1.out.size)
          have t53 := blk_free HT3 5
          have c53 := blk_cell HT3 5
          simp only [List.getElem?_toArray, List.getElem?_cons_zero, List.getElem?_cons_succ] at c53
          have hTs := blk_in HT3
          obtain ⟨V, hV⟩ : ∃ V : ByteArray, ByteArray.mk (valL ((ks.drop i).take (e - i))).toArray = V := ⟨_, rfl⟩
          rw [hV] at hj
          rw [hV]
          have HJO := Lib.hid hj
          have HXN := Lib.hid (HNX.out V)
          have HTa : Hid ((w3.setCell ⟨T, 5, none⟩ (.string V)).heap[T]? = some (.cells #[.int .i64 x.kind, .string x.name.1, .string x.name.2, .slice A1 x.attrs.length ca1, .slice Q1 x.kids.length cq1, .string V] 27 (0, 0))) := Lib.hid (by
            have := blk_set HT3 5 (.string V)
            simpa using this)
          have HOa := Lib.hid (own_blk (w' := w3.setCell ⟨T, 5, none⟩ (.string V)) HO3 (fun b hb => Below.heap_setCell _ _ _ _ (fun h => by have := hTb b hb; simp at h; omega)))
          have HBa := Lib.hid (HB3.setCell (p := ⟨T, 5, none⟩) hwT (.string V))
          have hM : max e (i + 1) = e := by omega
          clear hval hj hV HNX f0 f1 f2 f3 hsl hcap
          go_upto_region 7 with fail
          revert HTa HOa HBa
          generalize (w3.setCell ⟨T, 5, none⟩ (.string V)) = wa
          intro HTa HOa HBa
          clear t53 c53 HT3 HO3 HB3 hb3 hTs HT HO1 HB1
          have k0 := blk_cell HTa.out 0
          have k1 := blk_cell HTa.out 1
          have k2 := blk_cell HTa.out 2
          have k3 := blk_cell HTa.out 3
          have k4 := blk_cell HTa.out 4
          have k5 := blk_cell HTa.out 5
          simp only [List.getElem?_toArray, List.getElem?_cons_zero, List.getElem?_cons_succ] at k0 k1 k2 k3 k4 k5
          have HOW := Lib.hid (HOa.out.alloc (.cells #[.int .i64 x.kind, .string x.name.1, .string x.name.2, .slice A1 x.attrs.length ca1, .slice Q1 x.kids.length cq1, .string V] 27))
          have HLIT := Lib.hid (Sl.lit wa 6 [.int .i64 x.kind, .string x.name.1, .string x.name.2, .slice A1 x.attrs.length ca1, .slice Q1 x.kids.length cq1, .string V] 27 1 rfl)
          have HONE := Lib.hid (show ∀ u ∈ [Value.int .i64 x.kind, .string x.name.1, .string x.name.2, .slice A1 x.attrs.length ca1, .slice Q1 x.kids.length cq1, .string V], u.oneCell' = true from fun u hu => by
            simp only [List.mem_cons, List.mem_nil_iff, or_false] at hu
            rcases hu with rfl | rfl | rfl | rfl | rfl | rfl <;> rfl)
          have hbs := HBa.out.size
          go_upto_region 8 with (
            at_builtin
            refine wpList_append_sl _ rfl _ _ _ rfl w.heap.size 27 j0 _ 6 104 Try.underlying25 hj hy0 hy1 hy2 rfl (by omega) _ D.length css.flatten rfl HOW.out (some ⟨wa.heap.size, 0, none⟩) 1 1 [.int .i64 x.kind, .string x.name.1, .string x.name.2, .slice A1 x.attrs.length ca1, .slice Q1 x.kids.length cq1, .string V] rfl HLIT.out HONE.out (by simp only [maxLen]; omega) (by omega) (by simp; omega) ?_
            intro v5 w5 hown5 hg5 _)
          have hmx : ∀ (ts : Array TypeId) (t : TypeId) (v : World), (Builtin.max_ ts t #[.int .i64 (e : Int), .int .i64 ((i : Int) + 1)]).run Try.prog v = .ok (.int .i64 (e : Int)) v := fun ts t v => by
            have := run_max Try.prog e (i + 1) ts t v
            rw [show max e (i + 1) = e from hM] at this
            rwa [show ((i + 1 : Nat) : Int) = (i : Int) + 1 from by omega] at this
          have HR1 : Hid ((D ++ [Nd.mk x.kind x.name x.attrs x.kids V]) ++ joinK (ks.drop e) = J) := Lib.hid (by
            rw [← HD.out, HJO.out, List.append_assoc]; rfl)
          have HR2 : Hid ((css ++ [[Value.int .i64 x.kind, .string x.name.1, .string x.name.2, .slice A1 x.attrs.length ca1, .slice Q1 x.kids.length cq1, .string V]]).length = (D ++ [Nd.mk x.kind x.name x.attrs x.kids V]).length) := Lib.hid (by
            rw [List.length_append, List.length_append, HL.out]; rfl)
          have HR3 := Lib.hid (joined_more HL.out HN.out HXN.out)
          have HR4 : Hid (w5.ownsRow w.heap.size 27 6 v5 (D ++ [Nd.mk x.kind x.name x.attrs x.kids V]).length (css ++ [[Value.int .i64 x.kind, .string x.name.1, .string x.name.2, .slice A1 x.attrs.length ca1, .slice Q1 x.kids.length cq1, .string V]]).flatten) := Lib.hid (by
            rw [List.length_append, List.flatten_append]
            simpa using hown5)
          have HR5 : Hid (Below w.heap.size w w5) := Lib.hid ((HBa.out.alloc (by omega) _).grown hg5 (by simp; omega) (fun b hb => (own_in HOa.out hb).1))
          clear hown5 hg5 HOW HLIT HONE k0 k1 k2 k3 k4 k5 HTa HOa HBa hbs HJO HXN
          go_wp2
          go_roundw
          case rel => exact ⟨e, _, _, hte.2, by simp; omega, by go_num, HR1, HR2, HR3, HR4, HR5⟩
          case measure => simp [intOf]; omega
        · have hj := joinK_else hx hk
          have he : txEnd ks i = i := by rw [txEnd_go hx, if_neg hk]
          rw [he]
          have HJO := Lib.hid hj
          have HXN : Hid (SafeM M w (fun v => nodeC v x _)) := Lib.hid (by have := HNX.out x.text; rw [Nd.eta] at this; exact this)
          clear hj hk he hte HNX
          have k0 := blk_cell HT.out 0
          have k1 := blk_cell HT.out 1
          have k2 := blk_cell HT.out 2
          have k3 := blk_cell HT.out 3
          have k4 := blk_cell HT.out 4
          have k5 := blk_cell HT.out 5
          simp only [List.getElem?_toArray, List.getElem?_cons_zero, List.getElem?_cons_succ] at k0 k1 k2 k3 k4 k5
          have HOW := Lib.hid (HO1.out.alloc (.cells #[.int .i64 x.kind, .string x.name.1, .string x.name.2, .slice A1 x.attrs.length ca1, .slice Q1 x.kids.length cq1, .string x.text] 27))
          have HLIT := Lib.hid (Sl.lit wk 6 [.int .i64 x.kind, .string x.name.1, .string x.name.2, .slice A1 x.attrs.length ca1, .slice Q1 x.kids.length cq1, .string x.text] 27 1 rfl)
          have HONE := Lib.hid (show ∀ u ∈ [Value.int .i64 x.kind, .string x.name.1, .string x.name.2, .slice A1 x.attrs.length ca1, .slice Q1 x.kids.length cq1, .string x.text], u.oneCell' = true from fun u hu => by
            simp only [List.mem_cons, List.mem_nil_iff, or_false] at hu
            rcases hu with rfl | rfl | rfl | rfl | rfl | rfl <;> rfl)
          have hbs := HB1.out.size
          go_upto_region 8 with (
            at_builtin
            refine wpList_append_sl _ rfl _ _ _ rfl w.heap.size 27 j0 _ 6 104 Try.underlying25 hj hy0 hy1 hy2 rfl (by omega) _ D.length css.flatten rfl HOW.out (some ⟨wk.heap.size, 0, none⟩) 1 1 [.int .i64 x.kind, .string x.name.1, .string x.name.2, .slice A1 x.attrs.length ca1, .slice Q1 x.kids.length cq1, .string x.text] rfl HLIT.out HONE.out (by simp only [maxLen]; omega) (by omega) (by simp; omega) ?_
            intro v5 w5 hown5 hg5 _)
          have hmx : ∀ (ts : Array TypeId) (t : TypeId) (v : World), (Builtin.max_ ts t #[.int .i64 (i : Int), .int .i64 ((i : Int) + 1)]).run Try.prog v = .ok (.int .i64 ((i : Int) + 1)) v := fun ts t v => by
            have := run_max Try.prog i (i + 1) ts t v
            rw [show max i (i + 1) = i + 1 from by omega] at this
            rwa [show ((i + 1 : Nat) : Int) = (i : Int) + 1 from by omega] at this
          have HR1 : Hid ((D ++ [x]) ++ joinK (ks.drop (i + 1)) = J) := Lib.hid (by
            rw [← HD.out, HJO.out, List.append_assoc]; rfl)
          have HR2 : Hid ((css ++ [[Value.int .i64 x.kind, .string x.name.1, .string x.name.2, .slice A1 x.attrs.length ca1, .slice Q1 x.kids.length cq1, .string x.text]]).length = (D ++ [x]).length) := Lib.hid (by
            rw [List.length_append, List.length_append, HL.out]; rfl)
          have HR3 := Lib.hid (joined_more HL.out HN.out HXN.out)
          have HR4 : Hid (w5.ownsRow w.heap.size 27 6 v5 (D ++ [x]).length (css ++ [[Value.int .i64 x.kind, .string x.name.1, .string x.name.2, .slice A1 x.attrs.length ca1, .slice Q1 x.kids.length cq1, .string x.text]]).flatten) := Lib.hid (by
            rw [List.length_append, List.flatten_append]
            simpa using hown5)
          have HR5 : Hid (Below w.heap.size w w5) := Lib.hid ((HB1.out.alloc (by omega) _).grown hg5 (by simp; omega) (fun b hb => (own_in HO1.out hb).1))
          clear hown5 hg5 HOW HLIT HONE k0 k1 k2 k3 k4 k5 HT HO1 HB1 hbs HJO HXN
          go_wp2
          go_roundw
          case rel => exact ⟨i + 1, _, _, by omega, by simp; omega, by go_num, HR1, HR2, HR3, HR4, HR5⟩
          case measure => simp [intOf]; omega
    · have hi2 : i = ks.length := by omega
      subst hi2
      have hd := HD.out
      rw [List.drop_length, joinK, List.append_nil] at hd
      subst hd
      have ho := HO.out
      obtain ⟨K', c', hv⟩ := own_shape ho
      subst hv
      have HF := Lib.hid (SlN.of_row HL.out HN.out HB.out hM ho)
      clear ho HJ HS HSB HZ HC
      go_wp2
      go_ret
      exact ⟨K', c', rfl, HF.out, HB.out⟩
end Go.Proofs.Ytlcjepnaljfpkaa
