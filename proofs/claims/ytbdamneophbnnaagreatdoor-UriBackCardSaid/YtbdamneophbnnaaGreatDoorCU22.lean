/- UdA QdI BldF QdJ. -/
import Derived.Deep.WholeRow
import Derived.Deep.MidRow
import Derived.Lib.ConvBytes
import Derived.Lib.SmallJoins
import Derived.Laws.CopyOwn
import Derived.Deep.Cut
import Derived.Test.YtbdamneophbnnaaGreatDoorCU11
import Derived.Test.YtbdamneophbnnaaGreatDoorCU12
import Derived.Test.YtbdamneophbnnaaGreatDoorCU21
namespace Wb
open Go
def nmU (l : List UInt8) : Bool := !decide (l = []) && (decide (l.length ≤ 64) && !decide (l = tt11))
def docK (s : List UInt8) : (List UInt8 × List UInt8 × List UInt8 × Bool) × Bool :=
  if (Lib.cut (Lib.cut (Lib.cut s [47]).2.1 [47]).2.1 [47]).1 = sUsers then
    (((Lib.cut (Lib.cut s [47]).2.1 [47]).1, (Lib.cut (Lib.cut (Lib.cut (Lib.cut s [47]).2.1 [47]).2.1 [47]).2.1 [47]).1, (Lib.cut (Lib.cut (Lib.cut (Lib.cut (Lib.cut s [47]).2.1 [47]).2.1 [47]).2.1 [47]).2.1 [47]).1, true),
      (Lib.cut (Lib.cut (Lib.cut (Lib.cut s [47]).2.1 [47]).2.1 [47]).2.1 [47]).2.2 && (!(Lib.cut (Lib.cut (Lib.cut (Lib.cut (Lib.cut s [47]).2.1 [47]).2.1 [47]).2.1 [47]).2.1 [47]).2.2 && decide ((Lib.cut s [47]).1 = [])))
  else
    (((Lib.cut (Lib.cut s [47]).2.1 [47]).1, [], (Lib.cut (Lib.cut (Lib.cut (Lib.cut s [47]).2.1 [47]).2.1 [47]).2.1 [47]).1, false),
      (Lib.cut (Lib.cut (Lib.cut s [47]).2.1 [47]).2.1 [47]).2.2 && (!(Lib.cut (Lib.cut (Lib.cut (Lib.cut s [47]).2.1 [47]).2.1 [47]).2.1 [47]).2.2 && (decide ((Lib.cut s [47]).1 = []) && decide ((Lib.cut (Lib.cut (Lib.cut s [47]).2.1 [47]).2.1 [47]).1 = sGlob))))
theorem cut_nil : Lib.cut [] [47] = ([], [], false) := by kernel_rfl
theorem cut_one {x : List UInt8} (h : ∀ c ∈ x, c ≠ 47) : Lib.cut (joinB 47 [x]) [47] = (x, [], false) := by
  rw [joinB]
  exact cut_none1 (cutC_none h)
theorem cut_two {x y : List UInt8} {r : List (List UInt8)} (h : ∀ c ∈ x, c ≠ 47) : Lib.cut (joinB 47 (x :: y :: r)) [47] = (x, joinB 47 (y :: r), true) := by
  rw [joinB]
  exact cut_some1 (cutC_at _ h)
theorem docK_join : ∀ (l : List (List UInt8)), l ≠ [] → (∀ x ∈ l, ∀ c ∈ x, c ≠ 47) →
    frm11 l = if (docK (joinB 47 l)).2 = true then some ((docK (joinB 47 l)).1.1, if (docK (joinB 47 l)).1.2.2.2 = true then some (docK (joinB 47 l)).1.2.1 else none, (docK (joinB 47 l)).1.2.2.1) else none
  | [], h, _ => absurd rfl h
  | [a], _, h => by
    have h1 := cut_one (h a (by simp))
    have e : ([] : List UInt8) ≠ sUsers := by decide
    unfold docK
    simp only [h1, cut_nil]
    rw [if_neg e]
    cases a <;> rfl
  | [a, b], _, h => by
    have h1 := cut_two (y := b) (r := []) (h a (by simp))
    have h2 := cut_one (h b (by simp))
    have e : ([] : List UInt8) ≠ sUsers := by decide
    unfold docK
    simp only [h1, h2, cut_nil]
    rw [if_neg e]
    cases a <;> rfl
  | [a, b, c], _, h => by
    have h1 := cut_two (y := b) (r := [c]) (h a (by simp))
    have h2 := cut_two (y := c) (r := []) (h b (by simp))
    have h3 := cut_one (h c (by simp))
    unfold docK
    simp only [h1, h2, h3, cut_nil]
    by_cases e : c = sUsers
    · rw [if_pos e]
      cases a <;> rfl
    · rw [if_neg e]
      cases a <;> rfl
  | [a, b, c, d], _, h => by
    have h1 := cut_two (y := b) (r := [c, d]) (h a (by simp))
    have h2 := cut_two (y := c) (r := [d]) (h b (by simp))
    have h3 := cut_two (y := d) (r := []) (h c (by simp))
    have h4 := cut_one (h d (by simp))
    unfold docK
    simp only [h1, h2, h3, h4, cut_nil]
    by_cases e : c = sUsers
    · have e2 : ¬ sUsers = sGlob := by decide
      subst e
      rw [if_pos rfl]
      cases a with
      | nil => simp [frm11, e2]
      | cons x a => simp [frm11]
    · rw [if_neg e]
      cases a with
      | nil => simp [frm11]
      | cons x a => simp [frm11]
  | [a, b, c, d, f], _, h => by
    have h1 := cut_two (y := b) (r := [c, d, f]) (h a (by simp))
    have h2 := cut_two (y := c) (r := [d, f]) (h b (by simp))
    have h3 := cut_two (y := d) (r := [f]) (h c (by simp))
    have h4 := cut_two (y := f) (r := []) (h d (by simp))
    have h5 := cut_one (h f (by simp))
    unfold docK
    simp only [h1, h2, h3, h4, h5]
    by_cases e : c = sUsers
    · subst e
      rw [if_pos rfl]
      cases a with
      | nil => simp [frm11]
      | cons x a => simp [frm11]
    · rw [if_neg e]
      cases a with
      | nil => simp [frm11, e]
      | cons x a => simp [frm11]
  | a :: b :: c :: d :: f :: g :: r, _, h => by
    have h1 := cut_two (y := b) (r := c :: d :: f :: g :: r) (h a (by simp))
    have h2 := cut_two (y := c) (r := d :: f :: g :: r) (h b (by simp))
    have h3 := cut_two (y := d) (r := f :: g :: r) (h c (by simp))
    have h4 := cut_two (y := f) (r := g :: r) (h d (by simp))
    have h5 := cut_two (y := g) (r := r) (h f (by simp))
    unfold docK
    simp only [h1, h2, h3, h4, h5]
    by_cases e : c = sUsers
    · rw [if_pos e]
      cases a with
      | nil => simp [frm11]
      | cons x a => simp [frm11]
    · rw [if_neg e]
      cases a with
      | nil => simp [frm11]
      | cons x a => simp [frm11]
theorem docK_frm (s : List UInt8) : frm11 (pieceF 47 s) = if (docK s).2 = true then some ((docK s).1.1, if (docK s).1.2.2.2 = true then some (docK s).1.2.1 else none, (docK s).1.2.2.1) else none := by
  have hj : joinB 47 (pieceF 47 s) = s := by
    show joinB 47 (pieceA 47 [] s) = s
    simpa using piece_join 47 [] s
  have hf : ∀ x ∈ pieceF 47 s, ∀ c ∈ x, c ≠ 47 := fun x hx c hc e => by
    subst e
    exact piece_free 47 [] s (by simp) x hx hc
  have := docK_join (pieceF 47 s) (pieceA_ne _ _ _) hf
  rw [hj] at this
  exact this
theorem docK_user {s : List UInt8} (h : (docK s).1.2.2.2 = false) : (docK s).1.2.1 = [] := by
  unfold docK at h ⊢
  split
  · rename_i e
    rw [if_pos e] at h
    cases h
  · rfl
theorem que_cut (s : List UInt8) : que11 s = ((Lib.cut s [63]).1, if (Lib.cut s [63]).2.2 = true then some (Lib.cut s [63]).2.1 else none) := by
  unfold que11
  cases h : cutC 63 s with
  | none => rw [cut_none1 h]; rfl
  | some x =>
    obtain ⟨a, b⟩ := x
    rw [cut_some1 h]
    rfl
theorem sel_cut (s : List UInt8) : sel11 s = ((Lib.cut s ssl11).1, if (Lib.cut s ssl11).2.2 = true then some (Lib.cut s ssl11).2.1 else none) := by
  unfold sel11 Lib.cut
  by_cases h : 0 ≤ Lib.index s ssl11
  · rw [if_pos h, if_pos h]
    rfl
  · rw [if_neg h, if_neg h]
    rfl
theorem cut_no {s p : List UInt8} (h : (Lib.cut s p).2.2 = false) : (Lib.cut s p).2.1 = [] := by
  unfold Lib.cut at h ⊢
  split
  · rename_i e
    rw [if_pos e] at h
    cases h
  · rfl
theorem nm_ok {x : Option (List UInt8)} {us d : List UInt8} (hx : x = none → us = []) : ok11 x us d = !(x.isSome && !nmU us || !nmU d) := by
  have h1 : tt11 ≠ [] := by decide
  have h2 : (1 ≤ d.length) ↔ d ≠ [] := by rw [← List.length_pos_iff]; omega
  unfold ok11 nmU
  cases x with
  | none =>
    rw [hx rfl]
    by_cases a : d = []
    · simp [a]
    · by_cases b : d = tt11
      · simp [b, h1.symm]
      · have := h2.2 a
        simp [a, b, h1.symm, this]
  | some y =>
    by_cases a : d = []
    · simp [a]
    · have := h2.2 a
      by_cases b : d = tt11 <;> by_cases c : us = [] <;> by_cases e : us = tt11 <;> simp [a, b, c, e, this, h1, h1.symm] <;> (try simp [tt11]) <;> (try exact Bool.and_comm _ _)
theorem uri_let {s h q doc sel u x d : List UInt8} {asked node ow ok : Bool} (h1 : Lib.cut s [63] = (h, q, asked)) (h2 : Lib.cut h ssl11 = (doc, sel, node)) (h3 : docK doc = ((u, x, d, ow), ok)) :
    uri11 s = if 512 < s.length then .error 3
      else if (ok && (node || !asked)) = false then .error 4
      else if u ∉ usg11 then .error 34
      else if (decP x).2 ≠ 0 then .error (decP x).2
      else if (decP d).2 ≠ 0 then .error (decP d).2
      else if (ow && !nmU (decP x).1 || !nmU (decP d).1) = true then .error 4
      else if node = false then .ok ⟨mkT u, mkT (decP x).1, mkT (decP d).1, false, [], sE, []⟩
      else if (bindsP q).2 ≠ 0 then .error (bindsP q).2
      else match parseS sel ⟨(spc11 u).toArray⟩ (bindsP q).1 with
        | .error e => .error e
        | .ok l => .ok ⟨mkT u, mkT (decP x).1, mkT (decP d).1, true, l, mkT sel, (bindsP q).1⟩ := by
  have hq := que_cut s
  have hs := sel_cut h
  have hf := docK_frm doc
  have hu := docK_user (s := doc)
  have hq0 := cut_no (s := s) (p := [63])
  rw [h1] at hq hq0
  rw [h2] at hs
  rw [h3] at hf hu
  simp only at hq hs hf hu hq0
  unfold uri11
  rw [hq]
  simp only
  rw [hs]
  simp only
  rw [hf]
  by_cases hl : 512 < s.length
  · rw [if_pos hl, if_pos hl]
  · rw [if_neg hl, if_neg hl]
    cases ok with
    | false => rfl
    | true =>
      simp only [if_true, Bool.true_and]
      have hd0 : decP [] = ([], 0) := by kernel_rfl
      have huo : usr11 (if ow = true then some x else none) = decP x := by
        cases ow with
        | true => rfl
        | false => rw [hu rfl, hd0]; rfl
      have hso : (if ow = true then some x else none).isSome = ow := by cases ow <;> rfl
      have hnm : ok11 (if ow = true then some x else none) (decP x).1 (decP d).1 = !(ow && !nmU (decP x).1 || !nmU (decP d).1) := by
        rw [nm_ok, hso]
        intro e
        cases ow with
        | true => cases e
        | false => rw [hu rfl, hd0]
      rw [huo, hnm]
      generalize (ow && !nmU (decP x).1 || !nmU (decP d).1) = B
      cases node with
      | false =>
        cases asked with
        | true => simp
        | false => cases B <;> simp [mkT]
      | true =>
        have hg : (if asked = true then some q else none).getD [] = q := by
          cases asked with
          | true => rfl
          | false => rw [hq0 rfl]; rfl
        rw [hg]
        cases B <;> simp [mkT] <;> (cases parseS sel ⟨(spc11 u).toArray⟩ (bindsP q).1 <;> rfl)
end Wb
namespace Go.Proofs.YtbdamneophbnnaaGreatDoor
open Go.RowKit Wb
theorem arr256_info : (Tryz.prog.info? 85).map (fun i => (i.zero, i.size)) = some (some (.agg (Array.replicate 256 (.bool false))), 256) := by kernel_rfl
set_option maxRecDepth 100000 in
set_option maxHeartbeats 8000000 in
theorem keeping_any (keep : ByteArray) (w : World) (hk : keep.size ≤ 1000000) :
    Calls Tryz.prog 48 #[.string keep] w fun e w' => e = .returned (.agg (arrB (fA keep.data.toList))) ∧ Below w.heap.size w w' := by
  have hz := (zero_of_info arr256_info).1
  have hi256 := (zero_of_info arr256_info).2
  obtain ⟨ka, hka⟩ : ∃ ka, arrB (fA keep.data.toList) = ka := ⟨_, rfl⟩
  rw [hka]
  have HKA := Lib.hid hka
  clear hka
  have HB0 := Lib.hid (((Below.refl w.heap.size w).alloc (Nat.le_refl _) (.cells (Array.replicate 256 (.bool false)) 85)).alloc (by simp) (.cells (Array.replicate 256 (.bool false)) 85))
  have HR0 := Lib.hid (heap_alloc2_old w (.cells (Array.replicate 256 (.bool false)) 85) (.cells (Array.replicate 256 (.bool false)) 85))
  have HK0 := Lib.hid (heap_alloc2_new w (.cells (Array.replicate 256 (.bool false)) 85) (.cells (Array.replicate 256 (.bool false)) 85))
  go_enter Tryz.func48, Tryz.ntmps48
  go_wp2
  go_loopw [7] (fun v7 wr => ∃ i : Nat, i ≤ 256 ∧ v7 = .int .i64 i ∧ Hid (wr.heap[w.heap.size + 1]? = some (.cells (arrB (fP i)) 85 (0, 0))) ∧ Hid (wr.heap[w.heap.size]? = some (.cells (Array.replicate 256 (.bool false)) 85 (0, 0))) ∧ Hid (Below w.heap.size w wr)) (fun v7 _ => (256 - intOf v7).toNat)
  case atStart => exact ⟨0, by omega, rfl, Lib.hid (by rw [fP_zero]; exact HK0.out), HR0, HB0⟩
  case round =>
    obtain ⟨i, hi, rfl, HK, HR, HB⟩ := hrel
    by_cases h0 : i < 256
    · have hp := pplain_any (UInt8.ofNat i) wr
      have e1 : ((UInt8.ofNat i).toNat : Int) = (i : Int) := by rw [UInt8.toNat_ofNat']; omega
      have e2 : IntKind.u8.wrap (i : Int) = (i : Int) := by rw [IntKind.wrap_u8]; omega
      rw [e1] at hp
      have c1 : wr.cell? ⟨w.heap.size + 1, i, none⟩ = some (.bool (fP i i)) := by rw [blk_cell HK.out, arrB_at _ h0]
      have f1 := blk_free HK.out i
      have HK2 := Lib.hid (blk_set HK.out i (.bool (plC (UInt8.ofNat i))))
      have HR2 : Hid ((wr.setCell ⟨w.heap.size + 1, i, none⟩ (.bool (plC (UInt8.ofNat i)))).heap[w.heap.size]? = some (.cells (Array.replicate 256 (.bool false)) 85 (0, 0))) := Lib.hid (by
        rw [heap_setCell_other _ _ _ _ (by show w.heap.size ≠ w.heap.size + 1; omega)]
        exact HR.out)
      have HB2 := Lib.hid (HB.out.setCell (p := ⟨w.heap.size + 1, i, none⟩) (by show w.heap.size ≤ w.heap.size + 1; omega) (.bool (plC (UInt8.ofNat i))))
      have HS := Lib.hid (fP_step h0)
      generalize plC (UInt8.ofNat i) = pl at *
      generalize fP i i = p0 at *
      have h0i : (i : Int) < 256 := by omega
      clear e1 HK HR HB
      go_wp2_with fail
      refine hp.mono ?_
      rintro e w2 ⟨rfl, rfl⟩
      clear hp
      go_wp2
      go_roundw
      case rel => exact ⟨i + 1, by omega, by go_num, Lib.hid (by rw [← HS.out]; exact HK2.out), HR2, HB2⟩
      case measure => simp [intOf]; omega
    · obtain rfl : i = 256 := by omega
      clear hi h0 HB0 HR0 HK0
      have hlt := (Array.getElem?_eq_some_iff.1 HK.out).1
      have hcv := Lib.run_convert_string_bytes (P := Tryz.prog) wr 9 74 5 keep (u := .string) Tryz.underlying9 Tryz.underlying74 Tryz.underlying5
      have hb1 := Go.Joins.below_bytesWorld wr.heap.size wr 5 keep (Nat.le_refl _)
      have HCL := Lib.hid (fun (i : Nat) (c : UInt8) (h : keep.data.toList[i]? = some c) => (show (Lib.bytesWorld wr 5 keep).cell? ⟨wr.heap.size, i, none⟩ = some (.int .u8 (c.toNat : Int)) from by
        have hi := (List.getElem?_eq_some_iff.1 h).1
        rw [Lib.bytesWorld_cell wr 5 keep i (by simpa using hi), List.getD, h]
        rfl))
      have HK1 := Lib.hid (still_block HK.out hb1)
      have HR1 := Lib.hid (still_block HR.out hb1)
      have HB1 := Lib.hid (HB.out.trans (hb1.mono HB.out.size))
      rw [fP_end keep.data.toList] at HK1
      generalize Lib.bytesWorld wr 5 keep = w1 at *
      generalize grownCap wr keep.size 0 5 = cp at *
      clear hb1 HK HR HB
      go_wp2
      generalize wr.heap.size = bk at *
      go_loopw [19] (fun v19 wq => ∃ i : Nat, i ≤ keep.size ∧ v19 = .int .i64 i ∧ Hid (wq.heap[w.heap.size + 1]? = some (.cells (arrB (fK keep.data.toList i)) 85 (0, 0))) ∧ Hid (wq.heap[w.heap.size]? = some (.cells (Array.replicate 256 (.bool false)) 85 (0, 0))) ∧ Hid (Below w.heap.size w wq) ∧ Hid (∀ (i : Nat) (c : UInt8), keep.data.toList[i]? = some c → wq.cell? ⟨bk, i, none⟩ = some (.int .u8 (c.toNat : Int)))) (fun v19 _ => ((keep.size : Int) - intOf v19).toNat)
      case atStart => exact ⟨0, by omega, rfl, HK1, HR1, HB1, HCL⟩
      case round =>
        clear HK1 HR1 HB1 HCL
        obtain ⟨i, hi, rfl, HK, HR, HB, HC⟩ := hrel
        by_cases h0 : i < keep.size
        · obtain ⟨c, hc⟩ : ∃ c, keep.data.toList[i]? = some c := ⟨keep.data.toList[i]'(by simpa using h0), List.getElem?_eq_getElem _⟩
          have hcl := HC.out i c hc
          have c1 : wr.cell? ⟨w.heap.size + 1, c.toNat, none⟩ = some (.bool (fK keep.data.toList i c.toNat)) := by rw [blk_cell HK.out, arrB_at _ c.toNat_lt]
          have f1 := blk_free HK.out c.toNat
          have HK2 := Lib.hid (blk_set HK.out c.toNat (.bool true))
          have HS := Lib.hid (fK_step hc)
          have HR2 : Hid ((wr.setCell ⟨w.heap.size + 1, c.toNat, none⟩ (.bool true)).heap[w.heap.size]? = some (.cells (Array.replicate 256 (.bool false)) 85 (0, 0))) := Lib.hid (by
            rw [heap_setCell_other _ _ _ _ (by show w.heap.size ≠ w.heap.size + 1; omega)]
            exact HR.out)
          have HB2 := Lib.hid (HB.out.setCell (p := ⟨w.heap.size + 1, c.toNat, none⟩) (by show w.heap.size ≤ w.heap.size + 1; omega) (.bool true))
          have HC2 : Hid (∀ (k : Nat) (x : UInt8), keep.data.toList[k]? = some x → (wr.setCell ⟨w.heap.size + 1, c.toNat, none⟩ (.bool true)).cell? ⟨bk, k, none⟩ = some (.int .u8 (x.toNat : Int))) := Lib.hid (fun k x hx => by
            have hh := heap_setCell_other wr ⟨w.heap.size + 1, c.toNat, none⟩ bk (.bool true) (by show bk ≠ w.heap.size + 1; omega)
            rw [← HC.out k x hx]
            simp [World.cell?, hh])
          have hc256 : (c.toNat : Int) < 256 := by have := c.toNat_lt; omega
          generalize fK keep.data.toList i c.toNat = b0 at *
          clear hc HK HR HB HC
          go_wp2
          go_roundw
          case rel => exact ⟨i + 1, by omega, by go_num, Lib.hid (by rw [← HS.out]; exact HK2.out), HR2, HB2, HC2⟩
          case measure => simp [intOf]; omega
        · obtain rfl : i = keep.size := by omega
          clear hi h0
          rw [show keep.size = keep.data.toList.length by simp] at HK
          have c1 : wr.cell? ⟨w.heap.size + 1, 37, none⟩ = some (.bool (fK keep.data.toList keep.data.toList.length 37)) := by rw [blk_cell HK.out, arrB_at _ (by omega)]
          have f1 := blk_free HK.out 37
          have hk2 := blk_set HK.out 37 (.bool false)
          rw [fA_step] at hk2
          have HK2 := Lib.hid hk2
          have HR2 : Hid ((wr.setCell ⟨w.heap.size + 1, 37, none⟩ (.bool false)).heap[w.heap.size]? = some (.cells (Array.replicate 256 (.bool false)) 85 (0, 0))) := Lib.hid (by
            rw [heap_setCell_other _ _ _ _ (by show w.heap.size ≠ w.heap.size + 1; omega)]
            exact HR.out)
          have HB2 := Lib.hid (HB.out.setCell (p := ⟨w.heap.size + 1, 37, none⟩) (by show w.heap.size ≤ w.heap.size + 1; omega) (.bool false))
          generalize fK keep.data.toList keep.data.toList.length 37 = b0 at *
          clear hk2 HK HR HB HC
          have hsz := arrB_size (fA keep.data.toList)
          have hon := arrB_one (fA keep.data.toList)
          rw [HKA.out] at HK2 hsz hon
          go_upto_region 13 with fail
          generalize wr.setCell ⟨w.heap.size + 1, 37, none⟩ (.bool false) = wz at *
          refine wp_region_list ?_
          refine wpList_load_row rfl 85 (.tmp 3) rfl (w.heap.size + 1) rfl 85 ka (0, 0) _ HK2.out Tryz.underlying85 rfl (by rw [hsz]; exact hi256) ?_
          refine wpList_store_row rfl 85 (.tmp 2) (.tmp 27) rfl w.heap.size ka rfl rfl 85 _ HR2.out (by rw [hsz]; exact hi256) (by rw [hsz]; simp) hon ?_
          have HF := Lib.hid (setRow_heap wz w.heap.size _ ka _ _ HR2.out)
          have HB3 := Lib.hid (Go.below_setRow HB2.out (Nat.le_refl _) ka)
          generalize wz.setRow w.heap.size ka = wy at *
          clear HR2 HB2 HK2 c1 f1
          simp only [wpList, Act.put]
          go_wp2
          refine bodyPost_ret (results_cell_row rfl _ _ w.heap.size 85 ka (0, 0) _ rfl HF.out Tryz.underlying85 rfl (by rw [hsz]; exact hi256)) rfl ?_
          exact ⟨rfl, HB3.out⟩
end Go.Proofs.YtbdamneophbnnaaGreatDoor
namespace Go.Proofs.YtbdamneophbnnaaGreatDoor
open Go.RowKit Wb
def KeepF (w w' : World) : Prop := ∀ (k : Nat) (cs : Array Value) (t : TypeId) (fr : Nat × Nat), fr ≠ (0, 0) → w.heap[k]? = some (Obj.cells cs t fr) → w'.heap[k]? = w.heap[k]?
theorem KeepF.refl (w : World) : KeepF w w := fun _ _ _ _ _ _ => rfl
theorem KeepF.trans {w w' w2 : World} (h : KeepF w w') (k : KeepF w' w2) : KeepF w w2 := fun i cs t fr h1 h3 => by
  have e := h i cs t fr h1 h3
  exact (k i cs t fr h1 (e.trans h3)).trans e
theorem KeepF.of_below {w w' : World} (h : Below w.heap.size w w') : KeepF w w' := fun _ _ _ _ _ h3 => h.block _ (Array.getElem?_eq_some_iff.1 h3).1
theorem KeepF.set {w : World} {b : Nat} {cs : Array Value} {t : TypeId} (h : w.heap[b]? = some (.cells cs t (0, 0))) (i : Nat) (u : Value) : KeepF w (w.setCell ⟨b, i, none⟩ u) := fun k cs' t fr h2 h3 => by
  refine Below.heap_setCell _ _ _ _ (fun e => ?_)
  subst e
  rw [h] at h3
  injection h3 with h3
  injection h3 with _ _ h4
  exact h2 h4.symm
theorem KeepF.grown {w w2 : World} {base n sz : Nat} {e : TypeId} {v : Value} {xs : List Value} (h : w.ownsRow base e sz v n xs) (hg : w.grownBy w2 v.ownBlock) : KeepF w w2 := fun k cs' t fr h1 h3 => by
  refine hg.block k (Array.getElem?_eq_some_iff.1 h3).1 (fun e => ?_)
  rcases h.2 with ⟨rfl, _⟩ | ⟨g, cap, cur, rfl, _, hb, _⟩
  · simp [Value.ownBlock] at e
  · simp only [Value.ownBlock, Option.some.injEq] at e
    subst e
    rw [hb] at h3
    injection h3 with h3
    injection h3 with _ _ h4
    exact h1 h4.symm
def Marked (w : World) (k : Nat) (s : ByteArray) : Prop := ∃ cs fr, w.heap[k]? = some (Obj.cells cs 5 fr) ∧ fr ≠ (0, 0) ∧ ∀ (i : Nat) (c : UInt8), s.data.toList[i]? = some c → cs[i]? = some (.int .u8 (c.toNat : Int))
theorem Marked.new (w : World) (s : ByteArray) : Marked (Lib.bytesWorld w 5 s) w.heap.size s := by
  refine ⟨_, _, Lib.bytesWorld_at_new w 5 s, by simp, fun i c h => ?_⟩
  have hi := (List.getElem?_eq_some_iff.1 h).1
  have := Lib.bytesWorld_cell w 5 s i (by simpa using hi)
  rw [List.getD, h] at this
  unfold World.cell? at this
  rw [Lib.bytesWorld_at_new w 5 s] at this
  simpa using this
theorem Marked.keep {w w' : World} {k : Nat} {s : ByteArray} (h : Marked w k s) (hk : KeepF w w') : Marked w' k s := by
  obtain ⟨cs, fr, h1, h2, h3⟩ := h
  exact ⟨cs, fr, (hk k cs _ fr h2 h1).trans h1, h2, h3⟩
theorem Marked.cell {w : World} {k : Nat} {s : ByteArray} (h : Marked w k s) {i : Nat} {c : UInt8} (hc : s.data.toList[i]? = some c) : w.cell? ⟨k, i, none⟩ = some (.int .u8 (c.toNat : Int)) := by
  obtain ⟨cs, fr, h1, h2, h3⟩ := h
  rw [cell_of_row w k i cs _ fr h1]
  exact h3 i c hc
set_option maxHeartbeats 1000000 in
set_option maxRecDepth 100000 in
theorem qf_check {B b : Nat} {bs : List Value} {w : World} (h : Lib.IsBuilder 89 5 B b bs w) :
    Calls Tryz.prog 75 #[.pointer (some ⟨b, 0, none⟩)] w fun e w' => e = .returned (.tuple #[]) ∧ Lib.BuilderAt 89 5 B b (.pointer (some ⟨b, 0, none⟩)) bs w' ∧ Below B w w' ∧ KeepF w w' := by
  obtain ⟨j, hj, hjs⟩ := Option.map_eq_some_iff.1 qw_size
  rcases h with ⟨h1, v, h2, h3, h4⟩ | ⟨h1, v, h2, h3, h4⟩
  · have h0 : w.cell? ⟨b, 0, none⟩ = some (.pointer none) := blk_cell h2 0
    have hfz := blk_free h2 0
    have hsh : w.shape? b = some (89, 2) := by simp [World.shape?, h2]
    have e1 : (convert 87 140 (.pointer (some ⟨b, 0, none⟩))).run Tryz.prog w = .ok (.pointer (some ⟨b, 0, none⟩)) w := Lib.run_to_unsafe w ⟨b, 0, none⟩ Tryz.underlying87 Tryz.underlying140 hj (by rw [hjs]; decide) hsh (by show 0 < 2; omega)
    have e2 : (convert 140 87 (.pointer (some ⟨b, 0, none⟩))).run Tryz.prog w = .ok (.pointer (some ⟨b, 0, none⟩)) w := Lib.run_from_unsafe w ⟨b, 0, none⟩ Tryz.underlying140 Tryz.underlying87 hj hsh qw_lies
    have e3 := qw_esc
    have hfin : Lib.BuilderAt 89 5 B b (.pointer (some ⟨b, 0, none⟩)) bs (w.setCell ⟨b, 0, none⟩ (.pointer (some ⟨b, 0, none⟩))) ∧ Below B w (w.setCell ⟨b, 0, none⟩ (.pointer (some ⟨b, 0, none⟩))) ∧ KeepF w (w.setCell ⟨b, 0, none⟩ (.pointer (some ⟨b, 0, none⟩))) := by
      refine ⟨⟨h1, v, by simpa using blk_set h2 0 (.pointer (some ⟨b, 0, none⟩)), own_blk' h3 fun k hv => Below.heap_setCell _ _ _ _ (fun e => h4 (by rw [hv]; simpa using e)), h4⟩, (Below.refl B w).setCell (p := ⟨b, 0, none⟩) h1 _, KeepF.set h2 0 _⟩
    have HF := Lib.hid hfin
    clear hfin h3 h4 hsh hj hjs h2
    go_enter Tryz.func75, Tryz.ntmps75
    go_wp2
    go_end0
    exact ⟨rfl, HF.out⟩
  · have h0 : w.cell? ⟨b, 0, none⟩ = some (.pointer (some ⟨b, 0, none⟩)) := blk_cell h2 0
    have hfin : Lib.BuilderAt 89 5 B b (.pointer (some ⟨b, 0, none⟩)) bs w ∧ Below B w w ∧ KeepF w w := ⟨⟨h1, v, h2, h3, h4⟩, Below.refl _ _, KeepF.refl w⟩
    have HF := Lib.hid hfin
    have hpe := fun (v : World) => Lib.run_neq_ptr_same (P := Tryz.prog) v ⟨b, 0, none⟩ Tryz.underlying87 hj
    clear hfin h3 h4 hj hjs h2
    go_enter Tryz.func75, Tryz.ntmps75
    go_wp2
    go_end0
    exact ⟨rfl, HF.out⟩
set_option maxHeartbeats 2000000 in
set_option maxRecDepth 100000 in
theorem qfbyte_any (B b : Nat) (bs : List Value) (c : Int) (w : World) (h : Lib.IsBuilder 89 5 B b bs w) (hlen : bs.length + 1 ≤ 140737488355328) (_hBw : B ≤ w.heap.size) :
    Calls Tryz.prog 49 #[.pointer (some ⟨b, 0, none⟩), .int .u8 c] w fun e w' => (∃ v, e = .returned v) ∧ Lib.IsBuilder 89 5 B b (bs ++ [.int .u8 c]) w' ∧ Below B w w' ∧ KeepF w w' := by
  obtain ⟨i0, hi, hz0, hz1, hz2⟩ := info_parts qw_byte
  have hc := qf_check h
  clear h
  go_enter Tryz.func49, Tryz.ntmps49
  go_wp2_with fail
  refine hc.mono ?_
  rintro e w1 ⟨rfl, ⟨hB, v, hbk, hown, hne⟩, hb1, ht1⟩
  have c0 : w1.cell? ⟨b, 0, none⟩ = some (.pointer (some ⟨b, 0, none⟩)) := blk_cell hbk 0
  have c1 : w1.cell? ⟨b, 1, none⟩ = some v := blk_cell hbk 1
  have hlt := blk_in' hbk
  have hbw : B ≤ w1.heap.size := by omega
  go_wp2_with (at_builtin; refine wpList_append_own _ rfl _ _ 74 rfl B 5 i0 (.int .u8 0) 1 1 Tryz.underlying74 hi hz0 hz1 hz2 rfl (by decide) _ _ _ rfl (hown.alloc _) ⟨w1.heap.size, 0, none⟩ 1 1 [.int .u8 c] rfl rfl ?c1 ?c2 ?c3 ?c4 ?c5 ?_)
  case c1 =>
    intro j u hj
    match j, hj with
    | 0, hj => simp at hj; subst hj; simp [Addr.add]
  case c2 => intro u hu; simp at hu; subst hu; rfl
  case c3 => unfold maxLen; omega
  case c4 => omega
  case c5 => simp; omega
  intro v' w2 hown' hgrow _
  have hb2 : w2.heap[b]? = some (.cells #[.pointer (some ⟨b, 0, none⟩), v] 89 (0, 0)) := by
    rw [hgrow.block b (by simp; omega) (fun e => hne e.symm), Lib.alloc_old w1 _ b hlt]
    exact hbk
  have d0 : w2.cell? ⟨b, 0, none⟩ = some (.pointer (some ⟨b, 0, none⟩)) := blk_cell hb2 0
  have d1 : w2.cell? ⟨b, 1, none⟩ = some v := blk_cell hb2 1
  have f1 := blk_free hb2 1
  obtain ⟨g, cap, rfl⟩ : ∃ g cap, v' = .slice (some ⟨g, 0, none⟩) (bs.length + 1) cap := by
    rcases hown'.2 with ⟨_, h0⟩ | ⟨g, cap, cur, hv, _⟩
    · omega
    · exact ⟨g, cap, hv⟩
  have hfin : Lib.IsBuilder 89 5 B b (bs ++ [.int .u8 c]) (w2.setCell ⟨b, 1, none⟩ (.slice (some ⟨g, 0, none⟩) (bs.length + 1) cap)) :=
    .inr (Lib.BuilderAt.put (T := 89) (e := 5) hB hb2 (bs' := bs ++ [.int .u8 c]) (by simpa using hown') (by decide))
  have HF := Lib.hid hfin
  have HT := Lib.hid (ht1.trans (((KeepF.of_below ((Below.refl w1.heap.size w1).alloc (Nat.le_refl _) (.cells #[.int .u8 c] 5))).trans (KeepF.grown (hown.alloc _) hgrow)).trans (KeepF.set hb2 1 (.slice (some ⟨g, 0, none⟩) (bs.length + 1) cap))))
  have HK := Lib.hid (((hb1.alloc (by omega) _).grown hgrow (by simp; omega) (fun k hk => (hown.lt k hk).1)).setCell (p := ⟨b, 1, none⟩) hB (.slice (some ⟨g, 0, none⟩) (bs.length + 1) cap))
  clear hfin hown' hgrow hown hc ht1
  go_wp2
  go_ret
  exact ⟨⟨_, rfl⟩, HF.out, HK.out, HT.out⟩
end Go.Proofs.YtbdamneophbnnaaGreatDoor
namespace Wb
theorem u8_shr4 (c : UInt8) : ((c.toNat : Int) / 16) = ((c.toNat / 16 : Nat) : Int) := by omega
theorem u8_and4 (c : UInt8) : Go.bits .and .u8 (c.toNat : Int) 15 = ((c.toNat % 16 : Nat) : Int) := by
  have := c.toNat_lt
  rw [u8_and15 _ (by omega) (by omega)]
  omega
end Wb
namespace Go.Proofs.YtbdamneophbnnaaGreatDoor
open Go.RowKit Wb
set_option maxRecDepth 100000 in
set_option maxHeartbeats 8000000 in
theorem encode_any (s keep : ByteArray) (w : World) (hs : s.size ≤ 1000000) (hkp : keep.size ≤ 1000000) :
    Calls Tryz.prog 28 #[.string s, .string keep] w fun e w' => e = .returned (.string ⟨(pctE keep.data.toList s.data.toList).toArray⟩) ∧ Below w.heap.size w w' := by
  have hz := (zero_of_info arr256_info).1
  have hi256 := (zero_of_info arr256_info).2
  have hkc := fun v => keeping_any keep v hkp
  obtain ⟨ka, hka⟩ : ∃ ka, arrB (fA keep.data.toList) = ka := ⟨_, rfl⟩
  rw [hka] at hkc
  have hsz := arrB_size (fA keep.data.toList)
  have hon := arrB_one (fA keep.data.toList)
  have HAT := Lib.hid (fun c : UInt8 => (show ka[c.toNat]? = some (.bool ((plC c || keep.data.toList.contains c) && c != 37)) from by rw [← hka, arrB_at _ c.toNat_lt, fA_at]))
  rw [hka] at hsz hon
  have hsc := fun v : World => run_storeCells_new (P := Tryz.prog) v 85 (Array.replicate 256 (.bool false)) ka (by rw [hsz]; exact hi256) (by rw [hsz]; simp) hon
  clear hka
  go_enter Tryz.func28, Tryz.ntmps28
  go_wp2_with fail
  refine (hkc _).mono ?_
  rintro e w1 ⟨rfl, hb1⟩
  clear hkc
  go_upto_region 2 with fail
  have hk2 := heap_alloc_new w1 (.cells ka 85)
  have hb2 := hb1.alloc hb1.size (.cells ka 85)
  have hs2 : (w1.alloc (.cells ka 85)).heap.size = w1.heap.size + 1 := by simp
  generalize w1.alloc (.cells ka 85) = w2 at *
  generalize w1.heap.size = gk at *
  have hf3 := Lib.fresh_isBuilder 89 5 w2
  have hb3 := (Below.refl w2.heap.size w2).alloc (Nat.le_refl _) (.cells #[.pointer none, .slice none 0 0] 89)
  go_upto_region 3 with fail
  have hs3 : (w2.alloc (.cells #[.pointer none, .slice none 0 0] 89)).heap.size = w2.heap.size + 1 := by simp
  have HK3 := Lib.hid (still_block hk2 hb3)
  have HB3 := Lib.hid (hb2.trans (hb3.mono hb2.size))
  have hwB : w.heap.size ≤ w2.heap.size := hb2.size
  have hgk : gk < w2.heap.size := by omega
  generalize w2.alloc (.cells #[.pointer none, .slice none 0 0] 89) = w3 at *
  generalize w2.heap.size = B at *
  subst hs2
  clear hk2 hb1 hb2 hb3
  have hb4 := Go.Joins.below_bytesWorld w3.heap.size w3 5 s (Nat.le_refl _)
  have hcv := Lib.run_convert_string_bytes (P := Tryz.prog) w3 9 74 5 s (u := .string) Tryz.underlying9 Tryz.underlying74 Tryz.underlying5
  have HM4 := Lib.hid (Marked.new w3 s)
  have HF4 := Lib.hid (isb_below' hf3 hb4)
  have HK4 := Lib.hid (still_block HK3.out hb4)
  have HB4 := Lib.hid (HB3.out.trans (hb4.mono HB3.out.size))
  have hB4 : gk + 1 ≤ (Lib.bytesWorld w3 5 s).heap.size := by have := hb4.size; omega
  generalize Lib.bytesWorld w3 5 s = w4 at *
  generalize grownCap w3 s.size 0 5 = cp at *
  clear hf3 hb4 HK3 HB3 hs3
  go_wp2
  generalize w3.heap.size = bk at *
  clear hcv hsc hz hi256 hsz hon
  go_loopw [14] (fun v14 wr => ∃ i : Nat, i ≤ s.size ∧ v14 = .int .i64 i ∧ Hid (Lib.IsBuilder 89 5 (gk + 1) (gk + 1) (Lib.byteCells (pctE keep.data.toList (s.data.toList.take i))) wr) ∧ Hid (wr.heap[gk]? = some (.cells ka 85 (0, 0))) ∧ Hid (Marked wr bk s) ∧ Hid (Below w.heap.size w wr) ∧ gk + 1 ≤ wr.heap.size) (fun v14 _ => ((s.size : Int) - intOf v14).toNat)
  case atStart => exact ⟨0, by omega, rfl, Lib.hid (by rw [List.take_zero]; exact HF4.out), HK4, HM4, HB4, hB4⟩
  case round =>
    clear HF4 HK4 HM4 HB4 hB4
    obtain ⟨i, hi, rfl, HF, HK, HM, HB, hBw⟩ := hrel
    by_cases h0 : i < s.size
    · have hil : i < s.data.toList.length := by simpa using h0
      obtain ⟨c, hc⟩ : ∃ c, s.data.toList[i]? = some c := ⟨s.data.toList[i], List.getElem?_eq_getElem hil⟩
      have hcl := HM.out.cell hc
      have hst := enc_step keep.data.toList s.data.toList i hil
      rw [(List.getElem?_eq_some_iff.1 hc).2] at hst
      have hln : (pctE keep.data.toList (s.data.toList.take i)).length ≤ 3 * i := by
        have := pctE_len keep.data.toList (s.data.toList.take i)
        rw [List.length_take] at this
        omega
      have hkc : wr.cell? ⟨gk, c.toNat, none⟩ = some (.bool ((plC c || keep.data.toList.contains c) && c != 37)) := by rw [blk_cell HK.out, HAT.out]
      have hc256 : (c.toNat : Int) < 256 := by have := c.toNat_lt; omega
      unfold pctC at hst
      generalize pctE keep.data.toList (s.data.toList.take i) = acc at *
      have keep1 : ∀ (v v' : World), Hid (Marked v bk s) → Hid (v.heap[gk]? = some (.cells ka 85 (0, 0))) → Hid (Below w.heap.size w v) → Below (gk + 1) v v' → KeepF v v' → Hid (Marked v' bk s) ∧ Hid (v'.heap[gk]? = some (.cells ka 85 (0, 0))) ∧ Hid (Below w.heap.size w v') := fun v v' h1 h2 h3 h4 h5 => ⟨Lib.hid (h1.out.keep h5), Lib.hid ((h4.block gk (by omega)).trans h2.out), Lib.hid (h3.out.trans (h4.mono hwB))⟩
      have KEEP := Lib.hid keep1
      clear keep1 hc hil
      cases hq : ((plC c || keep.data.toList.contains c) && c != 37) with
      | true =>
        rw [hq, if_pos rfl] at hst
        rw [hq] at hkc
        have HST := Lib.hid hst
        have k1 := qfbyte_any (gk + 1) (gk + 1) (Lib.byteCells acc) (c.toNat : Int) wr HF.out (by rw [Lib.byteCells_length]; omega) hBw
        clear hst hq HF
        go_wp2_with fail
        refine k1.mono ?_
        rintro e w5 ⟨⟨v, rfl⟩, hF5, hb5, ht5⟩
        obtain ⟨HM5, HK5, HB5⟩ := KEEP.out _ _ HM HK HB hb5 ht5
        have hBw5 : gk + 1 ≤ w5.heap.size := Nat.le_trans hBw hb5.size
        have HF5 : Hid (Lib.IsBuilder 89 5 (gk + 1) (gk + 1) (Lib.byteCells (acc ++ [c])) w5) := Lib.hid (by rw [Lib.byteCells_append]; exact hF5)
        clear k1 hF5 hb5 ht5 HM HK HB hkc hcl
        go_wp2
        go_roundw
        case rel => exact ⟨i + 1, by omega, by go_num, Lib.hid (by rw [HST.out]; exact HF5.out), HK5, HM5, HB5, hBw5⟩
        case measure => simp [intOf]; omega
      | false =>
        rw [hq, if_neg (by decide)] at hst
        rw [hq] at hkc
        have HST := Lib.hid hst
        have e1 := u8_shr4 c
        have e2 := u8_and4 c
        have hpl : c.toNat / 16 < 16 := by have := c.toNat_lt; omega
        have hql : c.toNat % 16 < 16 := by omega
        generalize c.toNat / 16 = pn at *
        generalize c.toNat % 16 = qn at *
        have x1 := hex_tab pn hpl
        have x2 := hex_tab qn hql
        have l1 : (pn : Int) < 16 := by omega
        have l2 : (qn : Int) < 16 := by omega
        generalize hexG pn = hp at *
        generalize hexG qn = hq' at *
        have k1 := qfbyte_any (gk + 1) (gk + 1) (Lib.byteCells acc) 37 wr HF.out (by rw [Lib.byteCells_length]; omega) hBw
        clear hst hq HF
        go_wp2_with fail
        refine k1.mono ?_
        rintro e w5 ⟨⟨v, rfl⟩, hF5, hb5, ht5⟩
        obtain ⟨HM5, HK5, HB5⟩ := KEEP.out _ _ HM HK HB hb5 ht5
        have hBw5 : gk + 1 ≤ w5.heap.size := Nat.le_trans hBw hb5.size
        have k2 := qfbyte_any (gk + 1) (gk + 1) _ (hp.toNat : Int) w5 hF5 (by rw [List.length_append, Lib.byteCells_length]; simp; omega) hBw5
        clear k1 hF5 hb5 ht5 HM HK HB hkc hcl
        go_wp2_with fail
        refine k2.mono ?_
        rintro e w6 ⟨⟨v6, rfl⟩, hF6, hb6, ht6⟩
        obtain ⟨HM6, HK6, HB6⟩ := KEEP.out _ _ HM5 HK5 HB5 hb6 ht6
        have hBw6 : gk + 1 ≤ w6.heap.size := Nat.le_trans hBw5 hb6.size
        have k3 := qfbyte_any (gk + 1) (gk + 1) _ (hq'.toNat : Int) w6 hF6 (by simp only [List.length_append, Lib.byteCells_length]; simp; omega) hBw6
        clear k2 hF6 hb6 ht6 HM5 HK5 HB5
        go_wp2_with fail
        refine k3.mono ?_
        rintro e w7 ⟨⟨v7, rfl⟩, hF7, hb7, ht7⟩
        obtain ⟨HM7, HK7, HB7⟩ := KEEP.out _ _ HM6 HK6 HB6 hb7 ht7
        have hBw7 : gk + 1 ≤ w7.heap.size := Nat.le_trans hBw6 hb7.size
        have HF7 : Hid (Lib.IsBuilder 89 5 (gk + 1) (gk + 1) (Lib.byteCells (acc ++ [37, hp, hq'])) w7) := Lib.hid (by
          rw [Lib.byteCells_append]
          rw [List.append_assoc, List.append_assoc] at hF7
          exact hF7)
        clear k3 hF7 hb7 ht7 HM6 HK6 HB6
        go_wp2
        go_roundw
        case rel => exact ⟨i + 1, by omega, by go_num, Lib.hid (by rw [HST.out]; exact HF7.out), HK7, HM7, HB7, hBw7⟩
        case measure => simp [intOf]; omega
    · have hF := HF.out
      rw [List.take_of_length_le (by simp; omega)] at hF
      have k1 := Tryz.Builder_String_any (gk + 1) (gk + 1) _ wr hF hBw
      clear hF HF
      go_wp2_with fail
      refine k1.mono ?_
      rintro e w5 ⟨rfl, hb5⟩
      have HB5 := Lib.hid (HB.out.trans (hb5.mono hwB))
      clear k1 hb5
      go_wp2
      go_ret
      exact ⟨rfl, HB5.out⟩
end Go.Proofs.YtbdamneophbnnaaGreatDoor
