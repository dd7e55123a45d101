/- PaL TrTp SoR PaZ PeA PaR. -/
import Derived.Laws.CopyRow
import Derived.Laws.IdiomCopy
import Derived.Lib.AppendZerosOnto
import Derived.Deep.RegionLaw
import Derived.Test.YtlcjepnaljfpkaaQe4
import Derived.Test.YtlcjepnaljfpkaaQe5
import Derived.Test.YtlcjepnaljfpkaaQe8
namespace Wb
open Go Go.RowKit
theorem two_allocs (w : World) (a b : Obj) : Below w.heap.size w ((w.alloc a).alloc b) ∧ ((w.alloc a).alloc b).heap[w.heap.size]? = some a ∧ ((w.alloc a).alloc b).heap[w.heap.size + 1]? = some b ∧ ((w.alloc a).alloc b).heap.size = w.heap.size + 2 := by
  have s1 : (w.alloc a).heap.size = w.heap.size + 1 := by simp
  have h1 := heap_alloc_new (w.alloc a) b
  rw [s1] at h1
  exact ⟨((Below.refl _ w).alloc (Nat.le_refl _) a).alloc (by omega) b, (Below.heap_alloc (w.alloc a) b _ (by omega)).trans (heap_alloc_new w a), h1, by simp⟩
theorem atP_drop {n : Nd} {l : List Int} {i : Nat} {p : Int} (h : l[i]? = some p) : atP n (l.drop i) = if p < 0 then none else match n.kids[p.toNat]? with | some k => atP k (l.drop (i + 1)) | none => none := by
  obtain ⟨hi, e⟩ := List.getElem?_eq_some_iff.1 h
  rw [List.drop_eq_getElem_cons hi, e, atP_cons]
  rfl
end Wb
namespace Go.Proofs.Ytlcjepnaljfpkaa
open Go.RowKit Wb
set_option maxRecDepth 100000 in
set_option maxHeartbeats 4000000 in
theorem At_any (n : Nd) (A K : Option Addr) (ca ck : Nat) (l : List Int) (PA : Option Addr) (cp : Nat) (w : World) (hV : NodeV w n A K) (hsm : smallN n) (hP : SlI w PA l) (hl : l.length ≤ 1000000) :
    Calls Try.prog 9 #[ndV n A ca K ck, .slice PA l.length cp] w (NdOut (atP n l) w) := by
  obtain ⟨r, hr⟩ : ∃ r, atP n l = r := ⟨_, rfl⟩
  rw [hr]
  obtain ⟨hb2, h0, h1, hs2⟩ := two_allocs w (.cells #[.int .i64 n.kind, .string n.name.1, .string n.name.2, .slice A n.attrs.length ca, .slice K n.kids.length ck, .string n.text] 27) (.cells #[.int .i64 0, .string ⟨#[]⟩, .string ⟨#[]⟩, .slice none 0 0, .slice none 0 0, .string ⟨#[]⟩] 27)
  have HB := Lib.hid hb2
  have H0 := Lib.hid h0
  have H1 := Lib.hid h1
  have HS := Lib.hid hs2
  have HV := Lib.hid hV
  have HP := Lib.hid hP
  have HSM := Lib.hid hsm
  have HR := Lib.hid hr
  clear hb2 h0 h1 hs2 hV hP hsm hr
  unfold ndV ndCells
  go_enter Try.func9, Try.ntmps9
  go_upto_region 1 with fail
  revert HB H0 H1 HS
  generalize (w.alloc (.cells #[.int .i64 n.kind, .string n.name.1, .string n.name.2, .slice A n.attrs.length ca, .slice K n.kids.length ck, .string n.text] 27)).alloc (.cells #[.int .i64 0, .string ⟨#[]⟩, .string ⟨#[]⟩, .slice none 0 0, .slice none 0 0, .string ⟨#[]⟩] 27) = w1
  intro HB H0 H1 HS
  go_wp2
  go_loopw [10] (fun vi wr => ∃ (i : Nat) (m : Nd) (Am Km : Option Addr) (cam ckm : Nat), i ≤ l.length ∧ vi = .int .i64 i ∧ Hid (wr.heap[w.heap.size]? = some (.cells #[.int .i64 m.kind, .string m.name.1, .string m.name.2, .slice Am m.attrs.length cam, .slice Km m.kids.length ckm, .string m.text] 27 (0, 0))) ∧
    Hid (NodeV w m Am Km) ∧ Hid (smallN m) ∧ Hid (atP m (l.drop i) = r) ∧ Hid (Below w.heap.size w wr) ∧ Hid (wr.heap[w.heap.size + 1]? = some (.cells #[.int .i64 0, .string ⟨#[]⟩, .string ⟨#[]⟩, .slice none 0 0, .slice none 0 0, .string ⟨#[]⟩] 27 (0, 0)))) (fun vi _ => ((l.length : Int) - intOf vi).toNat)
  case atStart => exact ⟨0, n, A, K, ca, ck, by omega, rfl, H0, HV, HSM, HR, HB, H1⟩
  case round =>
    obtain ⟨i, m, Am, Km, cam, ckm, hi, rfl, HM, HVM, HSMm, HRM, HBr, HZ⟩ := hrel
    obtain ⟨n0, n1, n2, n3, n4, n5⟩ := cells_of_nd HM.out
    have z0 := blk_free HZ.out 0
    have z1 := blk_free HZ.out 1
    have z2 := blk_free HZ.out 2
    have z3 := blk_free HZ.out 3
    have z4 := blk_free HZ.out 4
    have z5 := blk_free HZ.out 5
    obtain ⟨y0, y1, y2, y3, y4, y5⟩ := cells_of_nd HZ.out
    have hwr := blk_in HZ.out
    by_cases h0 : i < l.length
    · obtain ⟨p, hp⟩ : ∃ p, l[i]? = some p := ⟨l[i], List.getElem?_eq_getElem h0⟩
      obtain ⟨pa, rfl, hpb, hpc⟩ := (HP.out.below HBr.out).at_ hp
      have hd := HRM.out
      rw [atP_drop hp] at hd
      have hhas := has_any m.kind m.name.1 m.name.2 m.text Am Km m.attrs.length cam m.kids.length ckm p wr
      by_cases hin : 0 ≤ p ∧ p < (m.kids.length : Int)
      · rw [decide_eq_true hin] at hhas
        obtain ⟨j, rfl⟩ : ∃ j : Nat, p = (j : Int) := ⟨p.toNat, by omega⟩
        obtain ⟨k, hk⟩ : ∃ k, m.kids[j]? = some k := ⟨m.kids[j]'(by omega), List.getElem?_eq_getElem (by omega)⟩
        rw [if_neg (by omega), show ((j : Int)).toNat = j from by omega, hk] at hd
        obtain ⟨ad, A1, ca1, Q1, cq1, rfl, had, d0, d1, d2, d3, d4, d5, hA1, hQ1⟩ := HVM.out.2.at_ hk
        have HKV : Hid (NodeV w k A1 Q1) := Lib.hid ⟨hA1, hQ1⟩
        have HSK := Lib.hid (((smallN_is m).1 HSMm.out).2.2 k (List.mem_of_getElem? hk))
        have HRD := Lib.hid hd
        have hbk : (ad.add (j * 6)).block < w.heap.size := by rw [add_block]; exact had
        have hj0 : (0 : Int) ≤ (j : Int) := by omega
        have hj1 : (j : Int) < (m.kids.length : Int) := by omega
        have D0 := Lib.hid d0
        have D1 := Lib.hid d1
        have D2 := Lib.hid d2
        have D3 := Lib.hid d3
        have D4 := Lib.hid d4
        have D5 := Lib.hid d5
        clear hd hA1 hQ1 hin hk hp d0 d1 d2 d3 d4 d5
        go_wp2_with fail
        refine hhas.mono ?_
        rintro e w2 ⟨rfl, hb2⟩
        have HB2 := Lib.hid (HBr.out.trans (hb2.mono HBr.out.size))
        have HM2 := Lib.hid (still_block HM.out hb2)
        have HZ2 := Lib.hid (still_block HZ.out hb2)
        clear hhas hb2 hpc n0 n1 n2 n3 n4 n5 z0 z1 z2 z3 z4 z5 y0 y1 y2 y3 y4 y5
        obtain ⟨n0, n1, n2, n3, n4, n5⟩ := cells_of_nd HM2.out
        have d0 := (HB2.out.cell hbk).trans D0.out
        have d1 := (HB2.out.cell (p := ⟨(ad.add (j * 6)).block, (ad.add (j * 6)).off + 1, none⟩) hbk).trans D1.out
        have d2 := (HB2.out.cell (p := ⟨(ad.add (j * 6)).block, (ad.add (j * 6)).off + 2, none⟩) hbk).trans D2.out
        have d3 := (HB2.out.cell (p := ⟨(ad.add (j * 6)).block, (ad.add (j * 6)).off + 3, none⟩) hbk).trans D3.out
        have d4 := (HB2.out.cell (p := ⟨(ad.add (j * 6)).block, (ad.add (j * 6)).off + 4, none⟩) hbk).trans D4.out
        have d5 := (HB2.out.cell (p := ⟨(ad.add (j * 6)).block, (ad.add (j * 6)).off + 5, none⟩) hbk).trans D5.out
        have f0 := blk_free HM2.out 0
        have f1 := blk_free HM2.out 1
        have f2 := blk_free HM2.out 2
        have f3 := blk_free HM2.out 3
        have f4 := blk_free HM2.out 4
        have f5 := blk_free HM2.out 5
        go_upto_region 7 with fail
        have HM3 := Lib.hid (six_blk HM2.out (.int .i64 k.kind) (.string k.name.1) (.string k.name.2) (.slice A1 k.attrs.length ca1) (.slice Q1 k.kids.length cq1) (.string k.text))
        have hk6 := six_keep w2 w.heap.size (.int .i64 k.kind) (.string k.name.1) (.string k.name.2) (.slice A1 k.attrs.length ca1) (.slice Q1 k.kids.length cq1) (.string k.text)
        have HZ3 := Lib.hid ((hk6.block _ (blk_in HZ2.out) (by omega)).trans HZ2.out)
        have HB3 := Lib.hid (six_below HB2.out (Nat.le_refl _) (.int .i64 k.kind) (.string k.name.1) (.string k.name.2) (.slice A1 k.attrs.length ca1) (.slice Q1 k.kids.length cq1) (.string k.text))
        clear hk6 n0 n1 n2 n3 n4 n5 d0 d1 d2 d3 d4 d5 f0 f1 f2 f3 f4 f5 HZ2 HB2 HM2 D0 D1 D2 D3 D4 D5
        revert HM3 HZ3 HB3
        generalize ((((((w2.setCell ⟨w.heap.size, 0, none⟩ (.int .i64 k.kind)).setCell ⟨w.heap.size, 1, none⟩ (.string k.name.1)).setCell ⟨w.heap.size, 2, none⟩ (.string k.name.2)).setCell ⟨w.heap.size, 3, none⟩ (.slice A1 k.attrs.length ca1)).setCell ⟨w.heap.size, 4, none⟩ (.slice Q1 k.kids.length cq1)).setCell ⟨w.heap.size, 5, none⟩ (.string k.text)) = w3
        intro HM3 HZ3 HB3
        go_wp2
        go_roundw
        case rel => exact ⟨i + 1, k, A1, Q1, ca1, cq1, by omega, by go_num, HM3, HKV, HSK, HRD, HB3, HZ3⟩
        case measure => simp [intOf]; omega
      · rw [decide_eq_false hin] at hhas
        have hr : r = none := by
          rw [← hd]
          by_cases h0 : p < 0
          · rw [if_pos h0]
          · rw [if_neg h0, List.getElem?_eq_none (by omega)]
        subst hr
        clear hd hin hp
        go_wp2_with fail
        refine hhas.mono ?_
        rintro e w2 ⟨rfl, hb2⟩
        have HB2 := Lib.hid (HBr.out.trans (hb2.mono HBr.out.size))
        have HZ2 := Lib.hid (still_block HZ.out hb2)
        clear hhas hb2 hpc n0 n1 n2 n3 n4 n5 z0 z1 z2 z3 z4 z5 y0 y1 y2 y3 y4 y5
        have z0 := blk_free HZ2.out 0
        have z1 := blk_free HZ2.out 1
        have z2 := blk_free HZ2.out 2
        have z3 := blk_free HZ2.out 3
        have z4 := blk_free HZ2.out 4
        have z5 := blk_free HZ2.out 5
        obtain ⟨y0, y1, y2, y3, y4, y5⟩ := cells_of_nd HZ2.out
        go_wp2
        refine bodyPost_ret (results_cell2 rfl _ _ (w.heap.size + 1) _ _ _ rfl (six_blk HZ2.out _ _ _ _ _ _) Try.underlying27 rfl node_info2) rfl ?_
        exact ⟨six_below HB2.out (by omega) _ _ _ _ _ _, rfl⟩
    · have hil : i = l.length := by omega
      subst hil
      have hd := HRM.out
      rw [List.drop_length] at hd
      simp only [atP] at hd
      subst hd
      have hcp := copyO_any m Am Km cam ckm wr (HVM.out.below HBr.out) HSMm.out
      unfold ndV ndCells at hcp
      go_wp2_with fail
      refine hcp.mono ?_
      rintro e w2 ⟨hb2, av, kv, rfl, hown⟩
      obtain ⟨A2, ca2, K2, ck2, rfl, rfl⟩ := own_slices hown
      have HZ2 := Lib.hid (still_block HZ.out hb2)
      have HB2 := Lib.hid (HBr.out.trans (hb2.mono HBr.out.size))
      have HO := Lib.hid (copy_safe hown)
      clear hcp hb2 hown n0 n1 n2 n3 n4 n5 z0 z1 z2 z3 z4 z5 y0 y1 y2 y3 y4 y5
      have z0 := blk_free HZ2.out 0
      have z1 := blk_free HZ2.out 1
      have z2 := blk_free HZ2.out 2
      have z3 := blk_free HZ2.out 3
      have z4 := blk_free HZ2.out 4
      have z5 := blk_free HZ2.out 5
      obtain ⟨y0, y1, y2, y3, y4, y5⟩ := cells_of_nd HZ2.out
      unfold ndC
      go_wp2
      refine bodyPost_ret (results_cell2 rfl _ _ (w.heap.size + 1) _ _ _ rfl (six_blk HZ2.out _ _ _ _ _ _) Try.underlying27 rfl node_info2) rfl ?_
      refine ⟨six_below HB2.out (by omega) _ _ _ _ _ _, A2, ca2, K2, ck2, rfl, ?_⟩
      have hk := six_keep w2 (w.heap.size + 1) (.int .i64 m.kind) (.string m.name.1) (.string m.name.2) (.slice A2 m.attrs.length ca2) (.slice K2 m.kids.length ck2) (.string m.text)
      exact SafeM.mono (SafeM.later HO.out (fun b p q => hk.block b q (fun z => by
        have p : wr.heap.size ≤ b := p
        omega)) hk.size) (fun b p => by
        have p : wr.heap.size ≤ b := p
        omega)
end Go.Proofs.Ytlcjepnaljfpkaa
namespace Go.Proofs.Ytlcjepnaljfpkaa
open Go.RowKit Wb
theorem txt_none {s : List UInt8} (hc : chk s = -1) (hb : badU s.length s 0 = none) : TxtOK s := by
  obtain ⟨ns, r, h1, h2, h3⟩ := form _ s (Nat.le_refl _)
  have hf := chk_form ns r h1 h3
  rw [← h2] at hf
  by_cases hr : r = []
  · subst hr
    rw [List.append_nil] at h2
    refine ⟨ns, (badU_flat ns h1 s.length 0 (by rw [← h2]; exact Nat.le_refl _)).1 ?_, h2⟩
    rw [← h2]; exact hb
  · rw [if_neg hr] at hf
    omega
end Go.Proofs.Ytlcjepnaljfpkaa
namespace Wb
open Go.Proofs.Ytlcjepnaljfpkaa
def sgB (s : ByteArray) : Bool := (chk s.data.toList == -1) && (badU s.size s.data.toList 0).isNone
theorem sgB_iff (s : ByteArray) : sgB s = true ↔ TxtB s := by
  unfold sgB TxtB
  rw [Bool.and_eq_true, beq_iff_eq, Option.isNone_iff_eq_none, Go.Lib.size_eq]
  constructor
  · rintro ⟨h1, h2⟩
    exact txt_none h1 h2
  · intro h
    refine ⟨?_, txt_bad h _ 0 (Nat.le_refl _)⟩
    obtain ⟨ns, hn, e⟩ := h
    have := chk_form ns [] (fun n hm => char_sgn n (hn n hm)) rfl
    rw [e]
    simpa using this
def nmB (n : Pr) : Bool := nameB n.2.data.toList && (sgB n.1 && !(eqT n.1 sXMLNS))
theorem nmB_iff (n : Pr) : nmB n = true ↔ nameOK n := by
  unfold nmB nameOK
  rw [Bool.and_eq_true, Bool.and_eq_true, sgB_iff, eqT_dec]
  simp
def atB (seen : List Pr) (a : Tr) : Bool := !(seen.any (fun y => eqP y a.1)) && (!(eqP a.1 (sE, sXmlns)) && (nmB a.1 && sgB a.2))
def atsB : List Pr → List Tr → Bool
  | _, [] => true
  | seen, a :: l => atB seen a && atsB (seen ++ [a.1]) l
theorem eqP_false (a b : Pr) : eqP a b = false ↔ a ≠ b := by
  rw [← Bool.not_eq_true, eqP_iff]
theorem atB_iff (seen : List Pr) (a : Tr) : atB seen a = true ↔ (∀ y ∈ seen, y ≠ a.1) ∧ nameOK a.1 ∧ a.1 ≠ (sE, sXmlns) ∧ TxtB a.2 := by
  unfold atB
  rw [Bool.and_eq_true, Bool.and_eq_true, Bool.and_eq_true, Bool.not_eq_true', Bool.not_eq_true', eqP_false, nmB_iff, sgB_iff, List.any_eq_false]
  constructor
  · rintro ⟨h1, h2, h3, h4⟩
    exact ⟨fun y hy e => h1 y hy ((eqP_iff _ _).2 e), h3, h2, h4⟩
  · rintro ⟨h1, h3, h2, h4⟩
    exact ⟨fun y hy e => h1 y hy ((eqP_iff _ _).1 e), h2, h3, h4⟩
theorem atsB_iff : ∀ (l : List Tr) (seen : List Pr), atsB seen l = true ↔ (l.map (·.1)).Pairwise (· ≠ ·) ∧ (∀ a ∈ l, ∀ y ∈ seen, y ≠ a.1) ∧ ∀ a ∈ l, nameOK a.1 ∧ a.1 ≠ (sE, sXmlns) ∧ TxtB a.2
  | [], seen => by simp [atsB]
  | a :: l, seen => by
    unfold atsB
    rw [Bool.and_eq_true, atB_iff, atsB_iff l, List.map_cons, List.pairwise_cons]
    constructor
    · rintro ⟨⟨h1, h2⟩, h3, h4, h5⟩
      refine ⟨⟨fun y hy e => ?_, h3⟩, fun b hb y hy => ?_, fun b hb => ?_⟩
      · obtain ⟨z, hz, rfl⟩ := List.mem_map.1 hy
        exact h4 z hz a.1 (by simp) e
      · rcases List.mem_cons.1 hb with rfl | hb
        · exact h1 y hy
        · exact h4 b hb y (by simp [hy])
      · rcases List.mem_cons.1 hb with rfl | hb
        · exact h2
        · exact h5 b hb
    · rintro ⟨⟨h1, h2⟩, h3, h4⟩
      refine ⟨⟨fun y hy => h3 a (by simp) y hy, h4 a (by simp)⟩, h2, fun b hb y hy => ?_, fun b hb => h4 b (by simp [hb])⟩
      rcases List.mem_append.1 hy with hy | hy
      · exact h3 b (by simp [hb]) y hy
      · rw [List.mem_singleton.1 hy]
        exact h1 b.1 (List.mem_map_of_mem hb)
def attrsB (l : List Tr) : Bool := decide (l.length ≤ 32) && atsB [] l
theorem attrsB_iff (l : List Tr) : attrsB l = true ↔ attrsOK l := by
  unfold attrsB attrsOK
  rw [Bool.and_eq_true, decide_eq_true_iff, atsB_iff]
  simp
def txB (n : Nd) : Bool := decide (n.kind = 2) && (!(eqT n.text sE) && (sgB n.text && (eqP n.name (sE, sE) && (n.attrs.isEmpty && n.kids.isEmpty))))
theorem txB_iff (n : Nd) (d : Nat) (hk : n.kind ≠ 1) : txB n = true ↔ okN d n := by
  obtain ⟨k, nm, al, ks, t⟩ := n
  simp only [Nd.kind] at hk
  have htx : txB (.mk k nm al ks t) = (decide (k = 2) && (!(eqT t sE) && (sgB t && (eqP nm (sE, sE) && (al.isEmpty && ks.isEmpty))))) := rfl
  rw [htx]
  unfold okN
  rw [Bool.and_eq_true, Bool.and_eq_true, Bool.and_eq_true, Bool.and_eq_true, Bool.and_eq_true, decide_eq_true_iff, sgB_iff, eqP_iff, eqT_dec, List.isEmpty_iff, List.isEmpty_iff]
  constructor
  · rintro ⟨h1, h2, h3, h4, h5, h6⟩
    exact .inr ⟨h1, by simpa using h2, h3, h4, h5, h6⟩
  · rintro (⟨h, _⟩ | ⟨h1, h2, h3, h4, h5, h6⟩)
    · exact absurd h hk
    · exact ⟨h1, by simpa using h2, h3, h4, h5, h6⟩
def elB (nm : Pr) (al : List Tr) (t : ByteArray) (d : Nat) : Bool := decide (d ≤ 24) && (eqT t sE && (nmB nm && attrsB al))
theorem elB_iff (nm : Pr) (al : List Tr) (t : ByteArray) (d : Nat) : elB nm al t d = true ↔ d ≤ 24 ∧ t = sE ∧ nameOK nm ∧ attrsOK al := by
  unfold elB
  rw [Bool.and_eq_true, Bool.and_eq_true, Bool.and_eq_true, decide_eq_true_iff, eqT_iff, nmB_iff, attrsB_iff]
mutual
/-- Is a node al it must be that stands so deep, where so many were met? And how many were, behind it. -/
def rgN : Nd → Nat → Nat → Bool × Nat
  | .mk k nm al ks t, d, c => if 2000 < c + 1 then (false, c + 1) else if k ≠ 1 then (txB (.mk k nm al ks t), c + 1) else if elB nm al t d = false then (false, c + 1) else rgKs ks 0 (d + 1) (c + 1)
def rgKs : List Nd → Int → Nat → Nat → Bool × Nat
  | [], _, _, c => (true, c)
  | k :: ks, a, d, c => if a = 2 ∧ k.kind = 2 then (false, c) else if (rgN k d c).1 = true then rgKs ks k.kind d (rgN k d c).2 else (false, (rgN k d c).2)
end
theorem rgN_is (n : Nd) (d c : Nat) : rgN n d c = if 2000 < c + 1 then (false, c + 1) else if n.kind ≠ 1 then (txB n, c + 1) else if elB n.name n.attrs n.text d = false then (false, c + 1) else rgKs n.kids 0 (d + 1) (c + 1) := by
  cases n; rfl
theorem rgKs_cons (k : Nd) (ks : List Nd) (a : Int) (d c : Nat) : rgKs (k :: ks) a d c = if a = 2 ∧ k.kind = 2 then (false, c) else if (rgN k d c).1 = true then rgKs ks k.kind d (rgN k d c).2 else (false, (rgN k d c).2) := by
  rw [rgKs]
theorem rg_iff (n : Nd) : ∀ d c, ((rgN n d c).1 = true ↔ okN d n ∧ c + costN n ≤ 2000) ∧ ((rgN n d c).1 = true → (rgN n d c).2 = c + costN n) := by
  induction n using Nd.induct with
  | h n ih =>
    intro d c
    have key : ∀ (ks : List Nd), (∀ k ∈ ks, ∀ d c, ((rgN k d c).1 = true ↔ okN d k ∧ c + costN k ≤ 2000) ∧ ((rgN k d c).1 = true → (rgN k d c).2 = c + costN k)) → ∀ (a : Int) (d c : Nat), c ≤ 2000 →
        ((rgKs ks a d c).1 = true ↔ okKs d a ks ∧ c + costNs ks ≤ 2000) ∧ ((rgKs ks a d c).1 = true → (rgKs ks a d c).2 = c + costNs ks) := by
      intro ks
      induction ks with
      | nil => intro _ a d c hc; simp [rgKs, okKs, costNs, hc]
      | cons k ks ihk =>
        intro hk a d c hc
        rw [rgKs_cons]
        simp only [okKs, costNs]
        by_cases h1 : a = 2 ∧ k.kind = 2
        · rw [if_pos h1]
          exact ⟨⟨fun h => (by cases h), fun h => absurd h1 h.1.1⟩, fun h => (by cases h)⟩
        · rw [if_neg h1]
          obtain ⟨g1, g2⟩ := hk k (by simp) d c
          by_cases h2 : (rgN k d c).1 = true
          · rw [if_pos h2]
            obtain ⟨o1, o2⟩ := g1.1 h2
            have e := g2 h2
            obtain ⟨q1, q2⟩ := ihk (fun x hx => hk x (by simp [hx])) k.kind d (rgN k d c).2 (by omega)
            rw [e] at q1 q2 ⊢
            refine ⟨q1.trans ⟨fun h => ⟨⟨h1, o1, h.1⟩, by omega⟩, fun h => ⟨h.1.2.2, by omega⟩⟩, fun h => by rw [q2 h]; omega⟩
          · rw [if_neg h2]
            refine ⟨⟨fun h => (by cases h), fun h => absurd (g1.2 ⟨h.1.2.1, by have := h.2; omega⟩) h2⟩, fun h => (by cases h)⟩
    rw [rgN_is, costN_is]
    have hcn := costN_is n
    by_cases h1 : 2000 < c + 1
    · rw [if_pos h1]
      exact ⟨⟨fun h => (by cases h), fun h => absurd h.2 (by omega)⟩, fun h => (by cases h)⟩
    · rw [if_neg h1]
      by_cases h2 : n.kind ≠ 1
      · rw [if_pos h2]
        have h3 := txB_iff n d h2
        have hks : okN d n → n.kids = [] := by
          obtain ⟨k, nm, al, ks, t⟩ := n
          unfold okN
          rintro (⟨h, _⟩ | ⟨_, _, _, _, _, h⟩)
          · exact absurd h h2
          · exact h
        refine ⟨⟨fun h => ?_, fun h => h3.2 h.1⟩, fun h => ?_⟩
        · have ho := h3.1 h
          refine ⟨ho, ?_⟩
          rw [hks ho]
          simp only [costNs]
          omega
        · have ho := h3.1 h
          rw [hks ho]
          simp [costNs]
      · rw [if_neg h2]
        have hk1 : n.kind = 1 := Decidable.not_not.1 h2
        have hel := elB_iff n.name n.attrs n.text d
        have hok : okN d n ↔ d ≤ 24 ∧ n.text = sE ∧ nameOK n.name ∧ attrsOK n.attrs ∧ okKs (d + 1) 0 n.kids := by
          obtain ⟨k, nm, al, ks, t⟩ := n
          simp only [Nd.kind] at hk1
          subst hk1
          show ((1 : Int) = 1 ∧ d ≤ 24 ∧ t = sE ∧ nameOK nm ∧ attrsOK al ∧ okKs (d + 1) 0 ks ∨ (1 : Int) = 2 ∧ t ≠ sE ∧ TxtB t ∧ nm = (sE, sE) ∧ al = [] ∧ ks = []) ↔ _
          constructor
          · rintro (⟨_, h⟩ | ⟨h, _⟩)
            · exact h
            · exact absurd h (by decide)
          · exact fun h => .inl ⟨rfl, h⟩
        by_cases h3 : elB n.name n.attrs n.text d = false
        · rw [if_pos h3]
          refine ⟨⟨fun h => (by cases h), fun h => ?_⟩, fun h => (by cases h)⟩
          obtain ⟨a1, a2, a3, a4, _⟩ := hok.1 h.1
          rw [hel.2 ⟨a1, a2, a3, a4⟩] at h3
          cases h3
        · rw [if_neg h3]
          have h4 : elB n.name n.attrs n.text d = true := by simpa using h3
          obtain ⟨a1, a2, a3, a4⟩ := hel.1 h4
          obtain ⟨q1, q2⟩ := key n.kids ih 0 (d + 1) (c + 1) (by omega)
          refine ⟨q1.trans ⟨fun h => ⟨hok.2 ⟨a1, a2, a3, a4, h.1⟩, by omega⟩, fun h => ⟨(hok.1 h.1).2.2.2.2, by omega⟩⟩, fun h => by rw [q2 h]; omega⟩
def rightB (n : Nd) : Bool := decide (n.kind = 1) && (rgN n 1 0).1
theorem rightB_iff (n : Nd) : rightB n = true ↔ n.kind = 1 ∧ okN 1 n ∧ costN n ≤ 2000 := by
  unfold rightB
  rw [Bool.and_eq_true, decide_eq_true_iff, (rg_iff n 1 0).1, Nat.zero_add]
end Wb
namespace Wb
mutual
/-- How many nodes a tree is, asz far asz a number. -/
def nodesR : Nd → Nat → Nat
  | .mk _ _ _ ks _, m => nodesRs ks m 1
def nodesRs : List Nd → Nat → Nat → Nat
  | [], _, k => k
  | x :: ks, m, k => if k ≤ m then nodesRs ks m (k + nodesR x (m - k)) else k
end
theorem nodesR_is (n : Nd) (m : Nat) : nodesR n m = nodesRs n.kids m 1 := by cases n; rfl
mutual
/-- How deep elements stand in one another, asz far asz a number (0: it is below 0). -/
def deepR : Nd → Nat → Nat
  | .mk k _ _ ks _, m => if k = 1 ∧ 0 < m then deepRs ks (m - 1) 0 + 1 else 0
def deepRs : List Nd → Nat → Nat → Nat
  | [], _, d => d
  | x :: ks, m, d => deepRs ks m (if d < deepR x m then deepR x m else d)
end
theorem deepR_is (n : Nd) (m : Nat) : deepR n m = if n.kind = 1 ∧ 0 < m then deepRs n.kids (m - 1) 0 + 1 else 0 := by cases n; rfl
theorem deepRs_cons (x : Nd) (ks : List Nd) (m d : Nat) : deepRs (x :: ks) m d = deepRs ks m (if d < deepR x m then deepR x m else d) := by rw [deepRs]
theorem deepRs_le : ∀ (ks : List Nd) (m d b : Nat), deepRs ks m d ≤ b ↔ d ≤ b ∧ ∀ k ∈ ks, deepR k m ≤ b
  | [], m, d, b => by simp [deepRs]
  | x :: ks, m, d, b => by
    rw [deepRs_cons, deepRs_le ks]
    constructor
    · rintro ⟨h1, h2⟩
      split at h1
      · refine ⟨by omega, fun k hk => ?_⟩
        rcases List.mem_cons.1 hk with rfl | hk
        · exact h1
        · exact h2 k hk
      · refine ⟨h1, fun k hk => ?_⟩
        rcases List.mem_cons.1 hk with rfl | hk
        · omega
        · exact h2 k hk
    · rintro ⟨h1, h2⟩
      have := h2 x (by simp)
      exact ⟨by split <;> omega, fun k hk => h2 k (by simp [hk])⟩
theorem deepR_most (n : Nd) : ∀ m, deepR n m ≤ m := by
  induction n using Nd.induct with
  | h n ih =>
    intro m
    rw [deepR_is]
    split
    · have := (deepRs_le n.kids (m - 1) 0 (m - 1)).2 ⟨by omega, fun k hk => ih k hk _⟩
      omega
    · omega
mutual
/-- Is each node right by itself, and beside its neighbours? -/
def shapeB : Nd → Bool
  | .mk k nm al ks t => if k = 2 then !(eqT t sE) && (sgB t && (eqP nm (sE, sE) && (al.isEmpty && ks.isEmpty))) else decide (k = 1) && (eqT t sE && (nmB nm && (decide (al.length ≤ 32) && (atsB [] al && shapeKs 0 ks))))
def shapeKs : Int → List Nd → Bool
  | _, [] => true
  | a, x :: ks => shapeB x && (!(decide (a = 2) && decide (x.kind = 2)) && shapeKs x.kind ks)
end
theorem shapeB_is (n : Nd) : shapeB n = if n.kind = 2 then !(eqT n.text sE) && (sgB n.text && (eqP n.name (sE, sE) && (n.attrs.isEmpty && n.kids.isEmpty))) else decide (n.kind = 1) && (eqT n.text sE && (nmB n.name && (decide (n.attrs.length ≤ 32) && (atsB [] n.attrs && shapeKs 0 n.kids)))) := by
  cases n; rfl
theorem shapeB_mk (k : Int) (nm : Pr) (al : List Tr) (ks : List Nd) (t : ByteArray) : shapeB (.mk k nm al ks t) = if k = 2 then !(eqT t sE) && (sgB t && (eqP nm (sE, sE) && (al.isEmpty && ks.isEmpty))) else decide (k = 1) && (eqT t sE && (nmB nm && (decide (al.length ≤ 32) && (atsB [] al && shapeKs 0 ks)))) := by rw [shapeB]
theorem deepR_mk (k : Int) (nm : Pr) (al : List Tr) (ks : List Nd) (t : ByteArray) (m : Nat) : deepR (.mk k nm al ks t) m = if k = 1 ∧ 0 < m then deepRs ks (m - 1) 0 + 1 else 0 := by rw [deepR]
theorem txB_mk (k : Int) (nm : Pr) (al : List Tr) (ks : List Nd) (t : ByteArray) : txB (.mk k nm al ks t) = (decide (k = 2) && (!(eqT t sE) && (sgB t && (eqP nm (sE, sE) && (al.isEmpty && ks.isEmpty))))) := rfl
theorem shapeKs_cons (a : Int) (x : Nd) (ks : List Nd) : shapeKs a (x :: ks) = (shapeB x && (!(decide (a = 2) && decide (x.kind = 2)) && shapeKs x.kind ks)) := by rw [shapeKs]
theorem shape_ok (n : Nd) : ∀ d m, d + m = 32 → 1 ≤ d → d ≤ 25 → (okN d n ↔ shapeB n = true ∧ d + deepR n m ≤ 25) := by
  induction n using Nd.induct with
  | h n ih =>
    intro d m hdm h1 h25
    obtain ⟨kd, nm, al, ks, t⟩ := n
    simp only [Nd.kids] at ih
    by_cases hk2 : kd = 2
    · subst hk2
      have h := txB_iff (.mk 2 nm al ks t) d (by show (2 : Int) ≠ 1; decide)
      rw [← h, shapeB_mk, deepR_mk, txB_mk, if_pos rfl, if_neg (by rintro ⟨h, _⟩; exact absurd h (by decide))]
      constructor
      · intro h; exact ⟨by simpa using h, by omega⟩
      · rintro ⟨h, _⟩; simpa using h
    · by_cases hk1 : kd = 1
      · subst hk1
        have key : ∀ (ks : List Nd), (∀ k ∈ ks, ∀ d m, d + m = 32 → 1 ≤ d → d ≤ 25 → (okN d k ↔ shapeB k = true ∧ d + deepR k m ≤ 25)) → ∀ (a : Int) (d m : Nat), d + m = 32 → 1 ≤ d → d ≤ 25 → (okKs d a ks ↔ shapeKs a ks = true ∧ ∀ k ∈ ks, d + deepR k m ≤ 25) := by
          intro ks
          induction ks with
          | nil => intro _ a d m _ _ _; simp [okKs, shapeKs]
          | cons x ks ihk =>
            intro hx a d m e1 e2 e3
            rw [shapeKs_cons]
            simp only [okKs]
            rw [ihk (fun y hy => hx y (by simp [hy])) x.kind d m e1 e2 e3, hx x (by simp) d m e1 e2 e3, Bool.and_eq_true, Bool.and_eq_true, Bool.not_eq_true', Bool.and_eq_false_iff, decide_eq_false_iff_not, decide_eq_false_iff_not]
            constructor
            · rintro ⟨h1, ⟨h2, h3⟩, h4, h5⟩
              refine ⟨⟨h2, ?_, h4⟩, fun k hk => ?_⟩
              · by_cases ha : a = 2
                · exact .inr fun h => h1 ⟨ha, h⟩
                · exact .inl ha
              · rcases List.mem_cons.1 hk with rfl | hk
                · exact h3
                · exact h5 k hk
            · rintro ⟨⟨h2, h1, h4⟩, h5⟩
              exact ⟨fun h => h1.elim (fun g => g h.1) (fun g => g h.2), ⟨h2, h5 x (by simp)⟩, h4, fun k hk => h5 k (by simp [hk])⟩
        rw [shapeB_mk, deepR_mk, if_neg hk2, if_pos ⟨rfl, by omega⟩]
        unfold okN
        have hat : attrsOK al ↔ al.length ≤ 32 ∧ atsB [] al = true := by
          rw [← attrsB_iff]; unfold attrsB; rw [Bool.and_eq_true, decide_eq_true_iff]
        rw [hat, ← nmB_iff]
        simp only [Bool.and_eq_true, decide_eq_true_iff, eqT_iff, true_and]
        by_cases h24 : d ≤ 24
        · rw [key ks ih 0 (d + 1) (m - 1) (by omega) (by omega) (by omega)]
          have hd := deepRs_le ks (m - 1) 0 (24 - d)
          constructor
          · rintro (⟨_, a1, a2, ⟨a3, a4⟩, a5, a6⟩ | ⟨h, _⟩)
            · refine ⟨⟨a1, a2, a3, a4, a5⟩, ?_⟩
              have := hd.2 ⟨by omega, fun k hk => by have := a6 k hk; omega⟩
              omega
            · exact absurd h (by decide)
          · rintro ⟨⟨a1, a2, a3, a4, a5⟩, a6⟩
            have := (hd.1 (by omega)).2
            exact .inl ⟨h24, a1, a2, ⟨a3, a4⟩, a5, fun k hk => by have := this k hk; omega⟩
        · constructor
          · rintro (⟨h, _⟩ | ⟨h, _⟩)
            · exact absurd h h24
            · exact absurd h (by decide)
          · rintro ⟨_, a6⟩; omega
      · rw [shapeB_mk, if_neg hk2]
        unfold okN
        constructor
        · rintro (⟨h, _⟩ | ⟨h, _⟩)
          · exact absurd h hk1
          · exact absurd h hk2
        · rintro ⟨h, _⟩
          rw [decide_eq_false hk1] at h
          simp at h
end Wb
namespace Wb
theorem szN_of (n : Nd) : szN n ↔ n.name.1.size ≤ 1000000000 ∧ n.name.2.size ≤ 1000000000 ∧ (∀ a ∈ n.attrs, a.1.1.size ≤ 1000000000 ∧ a.1.2.size ≤ 1000000000 ∧ a.2.size ≤ 1000000000) ∧ n.text.size ≤ 1000000000 ∧ ∀ k ∈ n.kids, szN k := by
  cases n with
  | mk k nm al ks t => simp only [szN, szKs_iff, Nd.name, Nd.attrs, Nd.text, Nd.kids]
theorem setP_sz : ∀ (l : List Int) (n x : Nd), szN n → szN x → szN (setP n l x)
  | [], n, x, _, hx => hx
  | p :: ps, n, x, hn, hx => by
    rw [setP_cons]
    cases hk : n.kids[p.toNat]? with
    | none => exact hn
    | some k =>
      simp only
      obtain ⟨h1, h2, h3, h4, h5⟩ := (szN_of n).1 hn
      refine (szN_of _).2 ⟨h1, h2, h3, h4, fun y hy => ?_⟩
      rw [Nd.kids_with] at hy
      rcases List.mem_or_eq_of_mem_set hy with hy | rfl
      · exact h5 y hy
      · exact setP_sz ps k x (h5 k (List.mem_of_getElem? hk)) hx
theorem deepR_mono (n : Nd) : ∀ (a b : Nat), a ≤ b → deepR n a ≤ deepR n b := by
  induction n using Nd.induct with
  | h n ih =>
    intro a b hab
    rw [deepR_is, deepR_is]
    by_cases h : n.kind = 1 ∧ 0 < a
    · rw [if_pos h, if_pos ⟨h.1, by omega⟩]
      have h2 := (deepRs_le n.kids (b - 1) 0 (deepRs n.kids (b - 1) 0)).1 (Nat.le_refl _)
      have := (deepRs_le n.kids (a - 1) 0 (deepRs n.kids (b - 1) 0)).2 ⟨by omega, fun k hk => Nat.le_trans (ih k hk _ _ (by omega)) (h2.2 k hk)⟩
      omega
    · rw [if_neg h]; omega
theorem right_put {n old x : Nd} {l : List Int} (hn : rightB n = true) (hx : rightB x = true) (hat : atP n l = some old) (hk : old.kind = 1) (hl : l.length ≤ 3) (hd : deepR x 31 ≤ 20) (hc : costN (setP n l x) ≤ 2000) : rightB (setP n l x) = true := by
  obtain ⟨n1, n2, n3⟩ := (rightB_iff n).1 hn
  obtain ⟨x1, x2, x3⟩ := (rightB_iff x).1 hx
  have hkk : old.kind = x.kind := by rw [hk, x1]
  have hs := ((shape_ok x 1 31 rfl (by omega) (by omega)).1 x2).1
  have hd2 := deepR_mono x (31 - l.length) 31 (by omega)
  have hx2 : okN (1 + l.length) x := (shape_ok x (1 + l.length) (31 - l.length) (by omega) (by omega) (by omega)).2 ⟨hs, by omega⟩
  exact (rightB_iff _).2 ⟨by rw [setP_kind l n old x hat hkk, n1], setP_ok l 1 n old x n2 hat hkk hx2, hc⟩
end Wb
namespace Wb
open Go Go.RowKit
theorem replP_set {n x m old : Nd} {l : List Int} (hn : okN 1 n) (hx : x.kind = 1) (hm : replP n x l = some m) (hat : atP n l = some old) : m = setP n l x := by
  rcases last_cases l with rfl | ⟨init, p, rfl⟩
  · rw [replP_nil] at hm
    injection hm with hm
    exact hm.symm
  · rw [replP_app] at hm
    obtain ⟨e, e', a1, a2, a3, a4⟩ := chP_some _ _ _ hm
    unfold kidF at a3
    by_cases hp : 0 ≤ p ∧ p < (e.kids.length : Int)
    · rw [if_pos hp] at a3
      injection a3 with a3
      have hlt : p.toNat < e.kids.length := by omega
      have h6 := (okN_el (atP_ok init 1 n e hn a1) (List.getElem?_eq_getElem hlt)).2.2.2.2.2
      rw [a4, ← a3, joinK_same _ 0 (noAdj_set hx _ (okKs_adj h6)), setP_app init n p e x a1 hlt]
    · rw [if_neg hp] at a3; cases a3
theorem order_2000 {c : Nat} (h : c < 2 ^ 53) : (FloatKind.f64.format.order (dbl c) 4656510908468559872 == some .lt || FloatKind.f64.format.order (dbl c) 4656510908468559872 == some .eq) = decide (c ≤ 2000) := by
  have h1 : FloatKind.f64.format.order (dbl c) (dbl 2000) = some (compare (c : Int) ((2000 : Nat) : Int)) := order_dbl h (by omega)
  rw [show (4656510908468559872 : Nat) = dbl 2000 from by decide +kernel, h1]
  rcases Nat.lt_trichotomy c 2000 with hc | hc | hc
  · rw [show compare (c : Int) ((2000 : Nat) : Int) = .lt from Int.compare_eq_lt.2 (by omega), decide_eq_true (show c ≤ 2000 by omega)]; rfl
  · rw [show compare (c : Int) ((2000 : Nat) : Int) = .eq from Int.compare_eq_eq.2 (by omega), decide_eq_true (show c ≤ 2000 by omega)]; rfl
  · rw [show compare (c : Int) ((2000 : Nat) : Int) = .gt from Int.compare_eq_gt.2 (by omega), decide_eq_false (show ¬ c ≤ 2000 by omega)]; rfl
def zNd : Nd := .mk 0 (⟨#[]⟩, ⟨#[]⟩) [] [] ⟨#[]⟩
def atZ (n : Nd) (l : List Int) : Nd := (atP n l).getD zNd
theorem atP_lenN (B : Nat) : ∀ (l : List Int) (n e : Nd), lenN B n → atP n l = some e → lenN B e
  | [], n, e, hn, he => by cases he; exact hn
  | p :: ps, n, e, hn, he => by
    rw [atP_cons] at he
    split at he
    · cases he
    · cases hk : n.kids[p.toNat]? with
      | none => rw [hk] at he; cases he
      | some k =>
        rw [hk] at he
        exact atP_lenN B ps k e (((lenN_is B n).1 hn).2.2 k (List.mem_of_getElem? hk)) he
theorem zNd_small : smallN zNd := (lenN_is _ _).2 ⟨by simp [zNd, Nd.attrs], by simp [zNd, Nd.kids], fun k hk => by simp [zNd, Nd.kids] at hk⟩
theorem atZ_small {n : Nd} {l : List Int} (h : smallN n) : smallN (atZ n l) := by
  unfold atZ
  cases he : atP n l with
  | none => exact zNd_small
  | some e => exact atP_lenN _ l n e h he
theorem atZ_one {n : Nd} {l : List Int} (h : (atZ n l).kind = 1) : ∃ e, atP n l = some e ∧ e.kind = 1 := by
  unfold atZ at h
  cases he : atP n l with
  | none => rw [he] at h; exact absurd h (by simp [zNd, Nd.kind])
  | some e => rw [he] at h; exact ⟨e, rfl, h⟩
end Wb
namespace Go.Proofs.Ytlcjepnaljfpkaa
open Go.RowKit Wb
theorem At_z (n : Nd) (A K : Option Addr) (ca ck : Nat) (l : List Int) (PA : Option Addr) (cp : Nat) (w : World) (hV : NodeV w n A K) (hsm : smallN n) (hP : SlI w PA l) (hl : l.length ≤ 1000000) :
    Calls Try.prog 9 #[ndV n A ca K ck, .slice PA l.length cp] w fun e w' => ∃ A' ca' K' ck', e = .returned (.tuple #[ndV (atZ n l) A' ca' K' ck', .bool (atP n l).isSome]) ∧ NodeV w' (atZ n l) A' K' ∧ Below w.heap.size w w' := by
  refine (At_any n A K ca ck l PA cp w hV hsm hP hl).mono ?_
  rintro e w' ⟨hb, ho⟩
  unfold atZ
  cases he : atP n l with
  | none =>
    rw [he] at ho
    exact ⟨none, 0, none, 0, ho, ⟨Sl3.nil _ _, .inl rfl⟩, hb⟩
  | some m =>
    rw [he] at ho
    obtain ⟨A', ca', K', ck', e1, h1⟩ := ho
    exact ⟨A', ca', K', ck', e1, h1.here, hb⟩
theorem ints_take (PA : Option Addr) (k n c : Nat) (hk : k ≤ n) (hn : n ≤ c) : ∃ (PA1 : Option Addr), (∀ w, (Instr.slice 30 (.slice PA n c) none (some (.int .i64 (k : Int))) none).run Try.prog w = .ok (.slice PA1 k c) w) ∧
    ∀ (v : World) (l : List Int), SlI v PA l → l.length = n → SlI v PA1 (l.take k) := by
  refine ⟨if c = 0 then PA else PA.map (·.add (0 * 1)), fun w => ?_, fun v l h hl => ?_⟩
  · have h0 : (0 : Int) ≤ (k : Int) := by omega
    have h2 : (k : Int) ≤ (c : Int) := by omega
    have hu := Try.underlying30
    have hz := Try.sizeOf3
    go_simp
  · refine ⟨by rw [cellsI_len]; simp, fun hp => ?_⟩
    have hp2 : 0 < l.length := by
      rw [List.length_take] at hp
      omega
    obtain ⟨ad, rfl, hb, hcell⟩ := h.2 hp2
    refine ⟨ad, ?_, hb, fun j u hu => hcell j u ?_⟩
    · have : ¬ c = 0 := by omega
      rw [if_neg this]
      simp [Addr.add]
    · unfold cellsI at hu ⊢
      rw [List.map_take, List.getElem?_take] at hu
      split at hu
      · exact hu
      · cases hu
end Go.Proofs.Ytlcjepnaljfpkaa
namespace Wb
open Go Go.RowKit
section
variable {P : Program} (w : World)
theorem setCells_row (P : Program) {w : World} {g o : Nat} {t : TypeId} {vs : List Value} {cur : Array Value} (hg : w.heap[g]? = some (.cells cur t (0, 0))) (hf : o + vs.length ≤ cur.size) (h1 : ∀ v ∈ vs, v.oneCell' = true) :
    w.setCells g o vs = w.setRow g (cur.toList.take o ++ vs ++ cur.toList.drop (o + vs.length)).toArray := by
  have a := run_storeCells_at P g o t vs 0 cur w hg (by simpa using hf) h1
  have b := run_storeCells_cells (P := P) g o vs 0 w (fun j hj => by
    have : o + j < cur.size := by omega
    simp [World.cell?, hg, this]) (fun j _ => by simp [World.frozen?, hg]) h1
  simp only [Nat.add_zero] at a b
  rw [a] at b
  injection b with _ b
  exact b.symm
theorem run_copy_rowz (dT sT ty elem : TypeId) (size g o dLen dCap : Nat) (a : Addr) (sLen sCap : Nat) (cur : Array Value) (t : TypeId) (cs : List Value)
    (hu : P.underlying dT = some (.slice elem)) (hs : (P.info? elem).map (·.size) = some size) (hg : w.heap[g]? = some (.cells cur t (0, 0))) (hn : cs.length = Nat.min sLen dLen * size)
    (hsrc : ∀ j v, cs[j]? = some v → w.cell? (a.add j) = some v) (hfit : o + cs.length ≤ cur.size) (h1 : ∀ v ∈ cs, v.oneCell' = true) :
    (Builtin.copy_ #[dT, sT] ty #[.slice (some ⟨g, o, none⟩) dLen dCap, .slice (some a) sLen sCap]).run P w = .ok (goInt (Nat.min sLen dLen)) (w.setRow g (cur.toList.take o ++ cs ++ cur.toList.drop (o + cs.length)).toArray) := by
  have hl := run_loadCells_list (P := P) w a cs hsrc
  have hst := run_storeCells_at P g o t cs 0 cur w hg (by simpa using hfit) h1
  simp only [Nat.add_zero] at hst
  cases hq : P.info? elem with
  | none => simp [hq] at hs
  | some i =>
    have hi : i.size = size := by simpa [hq] using hs
    simp [Builtin.copy_, run_underlying hu, Builtin.lenOf, Builtin.firstCells, Go.sizeOf, typeInfo, hq, hi, ← hn, hl, hst]
theorem run_clear_rowz (t e ty : TypeId) (z : Value) (ht : P.underlying t = some (.slice e)) (hv : ∀ w, (zeroValue e).run P w = .ok z w) (h1 : ∀ u ∈ (Builtin.zeroCells z.cells 1).toList, u.oneCell' = true) (g o c : Nat) (cur : Array Value) (te : TypeId)
    (hg : w.heap[g]? = some (.cells cur te (0, 0))) (hfit : o + (Builtin.zeroCells z.cells 1).toList.length ≤ cur.size) :
    (Builtin.clear_ #[t] ty #[.slice (some ⟨g, o, none⟩) 1 c]).run P w = .ok (.tuple #[]) (w.setRow g (cur.toList.take o ++ (Builtin.zeroCells z.cells 1).toList ++ cur.toList.drop (o + (Builtin.zeroCells z.cells 1).toList.length)).toArray) := by
  have hst := run_storeCells_at P g o te (Builtin.zeroCells z.cells 1).toList 0 cur w hg (by simpa using hfit) h1
  simp only [Nat.add_zero] at hst
  simp [Builtin.clear_, run_underlying ht, hv, hst]
theorem step_copy_r {ops : Array Oper} {o : Oper} {a : Act} {K : Act → World → Prop} {Q : Exit → Act → World → Prop} {E : Prop}
    (hg : o.guard = none) (d x : Operand) (dT sT : TypeId) (hop : o.op = Op.call { callee := Callee.builtin Builtin.copy, args := #[d, x], argTypes := #[dT, sT] })
    (v u : Value) (hd : a.eval d = v) (hx : a.eval x = u) {v' : Value} {w' : World} (hr : (Builtin.copy_ #[dT, sT] o.type #[v, u]).run P w = .ok v' w') (hK : K (a.put o.dst v') w') :
    if Region.wanted o (yielded ops a.tmps) = true then Oper.wp P o a w K Q else E := by
  rw [if_pos (by simp [Region.wanted, hg])]
  unfold Oper.wp
  simp [execOp, hop, resolve, invoke, builtin, hd, hx, hr, Result.andThen]
  exact hK
theorem wpList_app_r {ops : Array Oper} {rest : List Oper} {o : Oper} {a : Act} {Q : Exit → Act → World → Prop} (hgd : o.guard = none) (d s : Operand) (t t' : TypeId)
    (ho : o.op = .call { callee := .builtin .append, args := #[d, s], argTypes := #[t, t'] }) (v u : Value) (hd : a.eval d = v) (hs : a.eval s = u) {v' : Value} {w' : World}
    (hr : (Builtin.append_ #[t, t'] o.type #[v, u]).run P w = .ok v' w') (h : wpList P ops Q rest (a.put o.dst v') w') : wpList P ops Q (o :: rest) a w :=
  wpList_plain hgd fun _ hK => by
    unfold Oper.wp execOp
    simp only [ho, resolve, invoke, builtin, Sem.run_bind, Sem.run_pure, Result.andThen_ok, List.map_toArray, List.map_cons, List.map_nil, hd, hs, hr]
    exact hK _ _ h
end
structure RowSet (g : Nat) (cur : List Value) (t : TypeId) (w w' : World) : Prop where
  os : w'.os = w.os
  tape : w'.tape = w.tape
  output : w'.output = w.output
  size : w'.heap.size = w.heap.size
  row : w'.heap[g]? = some (.cells cur.toArray t (0, 0))
  other : ∀ b, b ≠ g → w'.heap[b]? = w.heap[b]?
theorem RowSet.set {w : World} {g : Nat} {t : TypeId} {cur : Array Value} (hg : w.heap[g]? = some (.cells cur t (0, 0))) (vs : List Value) : RowSet g vs t w (w.setRow g vs.toArray) :=
  ⟨rfl, rfl, rfl, by simp [World.setRow], setRow_heap w g cur _ t _ hg, fun b hb => setRow_other w g b _ hb⟩
theorem RowSet.trans {w v w' : World} {g : Nat} {t t' : TypeId} {a b : List Value} (h : RowSet g a t w v) (k : RowSet g b t' v w') : RowSet g b t' w w' :=
  ⟨k.os.trans h.os, k.tape.trans h.tape, k.output.trans h.output, k.size.trans h.size, k.row, fun b hb => (k.other b hb).trans (h.other b hb)⟩
theorem RowSet.drew {w w' : World} {g : Nat} {t : TypeId} {a : List Value} (h : RowSet g a t w.drew w') : RowSet g a t w w' := ⟨h.os, h.tape, h.output, h.size, h.row, h.other⟩
end Wb
