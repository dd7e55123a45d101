/- PaL PaS PaT PaU PaW. -/
import Derived.Lib.Overlaps
import Derived.Laws.Externs
import Derived.Test.YtlcjepnaljfpkaaQb3
import Derived.Test.YtlcjepnaljfpkaaQb8
namespace Wb
open Go Go.RowKit
theorem two_allocs (w : World) (a b : Obj) : Below w.heap.size w ((w.alloc a).alloc b) ∧ ((w.alloc a).alloc b).heap[w.heap.size]? = some a ∧ ((w.alloc a).alloc b).heap[w.heap.size + 1]? = some b ∧ ((w.alloc a).alloc b).heap.size = w.heap.size + 2 := by
  have s1 : (w.alloc a).heap.size = w.heap.size + 1 := by simp
  have h1 := heap_alloc_new (w.alloc a) b
  rw [s1] at h1
  exact ⟨((Below.refl _ w).alloc (Nat.le_refl _) a).alloc (by omega) b, (Below.heap_alloc (w.alloc a) b _ (by omega)).trans (heap_alloc_new w a), h1, by simp⟩
theorem atP_drop {n : Nd} {l : List Int} {i : Nat} {p : Int} (h : l[i]? = some p) : atP n (l.drop i) = if p < 0 then none else match n.kids[p.toNat]? with | some k => atP k (l.drop (i + 1)) | none => none := by
  obtain ⟨hi, e⟩ := List.getElem?_eq_some_iff.1 h
  rw [List.drop_eq_getElem_cons hi, e, atP_cons]
  rfl
end Wb
namespace Go.Proofs.Ytlcjepnaljfpkaa
open Go.RowKit Wb
set_option maxRecDepth 100000 in
set_option maxHeartbeats 4000000 in
theorem At_any (n : Nd) (A K : Option Addr) (ca ck : Nat) (l : List Int) (PA : Option Addr) (cp : Nat) (w : World) (hV : NodeV w n A K) (hsm : smallN n) (hP : SlI w PA l) (hl : l.length ≤ 1000000) :
    Calls Try.prog 9 #[ndV n A ca K ck, .slice PA l.length cp] w (NdOut (atP n l) w) := by
  obtain ⟨r, hr⟩ : ∃ r, atP n l = r := ⟨_, rfl⟩
  rw [hr]
  obtain ⟨hb2, h0, h1, hs2⟩ := two_allocs w (.cells #[.int .i64 n.kind, .string n.name.1, .string n.name.2, .slice A n.attrs.length ca, .slice K n.kids.length ck, .string n.text] 27) (.cells #[.int .i64 0, .string ⟨#[]⟩, .string ⟨#[]⟩, .slice none 0 0, .slice none 0 0, .string ⟨#[]⟩] 27)
  have HB := Lib.hid hb2
  have H0 := Lib.hid h0
  have H1 := Lib.hid h1
  have HS := Lib.hid hs2
  have HV := Lib.hid hV
  have HP := Lib.hid hP
  have HSM := Lib.hid hsm
  have HR := Lib.hid hr
  clear hb2 h0 h1 hs2 hV hP hsm hr
  unfold ndV ndCells
  go_enter Try.func9, Try.ntmps9
  go_upto_region 1 with fail
  revert HB H0 H1 HS
  generalize (w.alloc (.cells #[.int .i64 n.kind, .string n.name.1, .string n.name.2, .slice A n.attrs.length ca, .slice K n.kids.length ck, .string n.text] 27)).alloc (.cells #[.int .i64 0, .string ⟨#[]⟩, .string ⟨#[]⟩, .slice none 0 0, .slice none 0 0, .string ⟨#[]⟩] 27) = w1
  intro HB H0 H1 HS
  go_wp2
  go_loopw [10] (fun vi wr => ∃ (i : Nat) (m : Nd) (Am Km : Option Addr) (cam ckm : Nat), i ≤ l.length ∧ vi = .int .i64 i ∧ Hid (wr.heap[w.heap.size]? = some (.cells #[.int .i64 m.kind, .string m.name.1, .string m.name.2, .slice Am m.attrs.length cam, .slice Km m.kids.length ckm, .string m.text] 27 (0, 0))) ∧
    Hid (NodeV w m Am Km) ∧ Hid (smallN m) ∧ Hid (atP m (l.drop i) = r) ∧ Hid (Below w.heap.size w wr) ∧ Hid (wr.heap[w.heap.size + 1]? = some (.cells #[.int .i64 0, .string ⟨#[]⟩, .string ⟨#[]⟩, .slice none 0 0, .slice none 0 0, .string ⟨#[]⟩] 27 (0, 0)))) (fun vi _ => ((l.length : Int) - intOf vi).toNat)
  case atStart => exact ⟨0, n, A, K, ca, ck, by omega, rfl, H0, HV, HSM, HR, HB, H1⟩
  case round =>
    obtain ⟨i, m, Am, Km, cam, ckm, hi, rfl, HM, HVM, HSMm, HRM, HBr, HZ⟩ := hrel
    obtain ⟨n0, n1, n2, n3, n4, n5⟩ := cells_of_nd HM.out
    have z0 := blk_free HZ.out 0
    have z1 := blk_free HZ.out 1
    have z2 := blk_free HZ.out 2
    have z3 := blk_free HZ.out 3
    have z4 := blk_free HZ.out 4
    have z5 := blk_free HZ.out 5
    obtain ⟨y0, y1, y2, y3, y4, y5⟩ := cells_of_nd HZ.out
    have hwr := blk_in HZ.out
    by_cases h0 : i < l.length
    · obtain ⟨p, hp⟩ : ∃ p, l[i]? = some p := ⟨l[i], List.getElem?_eq_getElem h0⟩
      obtain ⟨pa, rfl, hpb, hpc⟩ := (HP.out.below HBr.out).at_ hp
      have hd := HRM.out
      rw [atP_drop hp] at hd
      have hhas := has_any m.kind m.name.1 m.name.2 m.text Am Km m.attrs.length cam m.kids.length ckm p wr
      by_cases hin : 0 ≤ p ∧ p < (m.kids.length : Int)
      · rw [decide_eq_true hin] at hhas
        obtain ⟨j, rfl⟩ : ∃ j : Nat, p = (j : Int) := ⟨p.toNat, by omega⟩
        obtain ⟨k, hk⟩ : ∃ k, m.kids[j]? = some k := ⟨m.kids[j]'(by omega), List.getElem?_eq_getElem (by omega)⟩
        rw [if_neg (by omega), show ((j : Int)).toNat = j from by omega, hk] at hd
        obtain ⟨ad, A1, ca1, Q1, cq1, rfl, had, d0, d1, d2, d3, d4, d5, hA1, hQ1⟩ := HVM.out.2.at_ hk
        have HKV : Hid (NodeV w k A1 Q1) := Lib.hid ⟨hA1, hQ1⟩
        have HSK := Lib.hid (((smallN_is m).1 HSMm.out).2.2 k (List.mem_of_getElem? hk))
        have HRD := Lib.hid hd
        have hbk : (ad.add (j * 6)).block < w.heap.size := by rw [add_block]; exact had
        have hj0 : (0 : Int) ≤ (j : Int) := by omega
        have hj1 : (j : Int) < (m.kids.length : Int) := by omega
        have D0 := Lib.hid d0
        have D1 := Lib.hid d1
        have D2 := Lib.hid d2
        have D3 := Lib.hid d3
        have D4 := Lib.hid d4
        have D5 := Lib.hid d5
        clear hd hA1 hQ1 hin hk hp d0 d1 d2 d3 d4 d5
        go_wp2_with fail
        refine hhas.mono ?_
        rintro e w2 ⟨rfl, hb2⟩
        have HB2 := Lib.hid (HBr.out.trans (hb2.mono HBr.out.size))
        have HM2 := Lib.hid (still_block HM.out hb2)
        have HZ2 := Lib.hid (still_block HZ.out hb2)
        clear hhas hb2 hpc n0 n1 n2 n3 n4 n5 z0 z1 z2 z3 z4 z5 y0 y1 y2 y3 y4 y5
        obtain ⟨n0, n1, n2, n3, n4, n5⟩ := cells_of_nd HM2.out
        have d0 := (HB2.out.cell hbk).trans D0.out
        have d1 := (HB2.out.cell (p := ⟨(ad.add (j * 6)).block, (ad.add (j * 6)).off + 1, none⟩) hbk).trans D1.out
        have d2 := (HB2.out.cell (p := ⟨(ad.add (j * 6)).block, (ad.add (j * 6)).off + 2, none⟩) hbk).trans D2.out
        have d3 := (HB2.out.cell (p := ⟨(ad.add (j * 6)).block, (ad.add (j * 6)).off + 3, none⟩) hbk).trans D3.out
        have d4 := (HB2.out.cell (p := ⟨(ad.add (j * 6)).block, (ad.add (j * 6)).off + 4, none⟩) hbk).trans D4.out
        have d5 := (HB2.out.cell (p := ⟨(ad.add (j * 6)).block, (ad.add (j * 6)).off + 5, none⟩) hbk).trans D5.out
        have f0 := blk_free HM2.out 0
        have f1 := blk_free HM2.out 1
        have f2 := blk_free HM2.out 2
        have f3 := blk_free HM2.out 3
        have f4 := blk_free HM2.out 4
        have f5 := blk_free HM2.out 5
        go_upto_region 7 with fail
        have HM3 := Lib.hid (six_blk HM2.out (.int .i64 k.kind) (.string k.name.1) (.string k.name.2) (.slice A1 k.attrs.length ca1) (.slice Q1 k.kids.length cq1) (.string k.text))
        have hk6 := six_keep w2 w.heap.size (.int .i64 k.kind) (.string k.name.1) (.string k.name.2) (.slice A1 k.attrs.length ca1) (.slice Q1 k.kids.length cq1) (.string k.text)
        have HZ3 := Lib.hid ((hk6.block _ (blk_in HZ2.out) (by omega)).trans HZ2.out)
        have HB3 := Lib.hid (six_below HB2.out (Nat.le_refl _) (.int .i64 k.kind) (.string k.name.1) (.string k.name.2) (.slice A1 k.attrs.length ca1) (.slice Q1 k.kids.length cq1) (.string k.text))
        clear hk6 n0 n1 n2 n3 n4 n5 d0 d1 d2 d3 d4 d5 f0 f1 f2 f3 f4 f5 HZ2 HB2 HM2 D0 D1 D2 D3 D4 D5
        revert HM3 HZ3 HB3
        generalize ((((((w2.setCell ⟨w.heap.size, 0, none⟩ (.int .i64 k.kind)).setCell ⟨w.heap.size, 1, none⟩ (.string k.name.1)).setCell ⟨w.heap.size, 2, none⟩ (.string k.name.2)).setCell ⟨w.heap.size, 3, none⟩ (.slice A1 k.attrs.length ca1)).setCell ⟨w.heap.size, 4, none⟩ (.slice Q1 k.kids.length cq1)).setCell ⟨w.heap.size, 5, none⟩ (.string k.text)) = w3
        intro HM3 HZ3 HB3
        go_wp2
        go_roundw
        case rel => exact ⟨i + 1, k, A1, Q1, ca1, cq1, by omega, by go_num, HM3, HKV, HSK, HRD, HB3, HZ3⟩
        case measure => simp [intOf]; omega
      · rw [decide_eq_false hin] at hhas
        have hr : r = none := by
          rw [← hd]
          by_cases h0 : p < 0
          · rw [if_pos h0]
          · rw [if_neg h0, List.getElem?_eq_none (by omega)]
        subst hr
        clear hd hin hp
        go_wp2_with fail
        refine hhas.mono ?_
        rintro e w2 ⟨rfl, hb2⟩
        have HB2 := Lib.hid (HBr.out.trans (hb2.mono HBr.out.size))
        have HZ2 := Lib.hid (still_block HZ.out hb2)
        clear hhas hb2 hpc n0 n1 n2 n3 n4 n5 z0 z1 z2 z3 z4 z5 y0 y1 y2 y3 y4 y5
        have z0 := blk_free HZ2.out 0
        have z1 := blk_free HZ2.out 1
        have z2 := blk_free HZ2.out 2
        have z3 := blk_free HZ2.out 3
        have z4 := blk_free HZ2.out 4
        have z5 := blk_free HZ2.out 5
        obtain ⟨y0, y1, y2, y3, y4, y5⟩ := cells_of_nd HZ2.out
        go_wp2
        refine bodyPost_ret (results_cell2 rfl _ _ (w.heap.size + 1) _ _ _ rfl (six_blk HZ2.out _ _ _ _ _ _) Try.underlying27 rfl node_info2) rfl ?_
        exact ⟨six_below HB2.out (by omega) _ _ _ _ _ _, rfl⟩
    · have hil : i = l.length := by omega
      subst hil
      have hd := HRM.out
      rw [List.drop_length] at hd
      simp only [atP] at hd
      subst hd
      have hcp := copyO_any m Am Km cam ckm wr (HVM.out.below HBr.out) HSMm.out
      unfold ndV ndCells at hcp
      go_wp2_with fail
      refine hcp.mono ?_
      rintro e w2 ⟨hb2, av, kv, rfl, hown⟩
      obtain ⟨A2, ca2, K2, ck2, rfl, rfl⟩ := own_slices hown
      have HZ2 := Lib.hid (still_block HZ.out hb2)
      have HB2 := Lib.hid (HBr.out.trans (hb2.mono HBr.out.size))
      have HO := Lib.hid (copy_safe hown)
      clear hcp hb2 hown n0 n1 n2 n3 n4 n5 z0 z1 z2 z3 z4 z5 y0 y1 y2 y3 y4 y5
      have z0 := blk_free HZ2.out 0
      have z1 := blk_free HZ2.out 1
      have z2 := blk_free HZ2.out 2
      have z3 := blk_free HZ2.out 3
      have z4 := blk_free HZ2.out 4
      have z5 := blk_free HZ2.out 5
      obtain ⟨y0, y1, y2, y3, y4, y5⟩ := cells_of_nd HZ2.out
      unfold ndC
      go_wp2
      refine bodyPost_ret (results_cell2 rfl _ _ (w.heap.size + 1) _ _ _ rfl (six_blk HZ2.out _ _ _ _ _ _) Try.underlying27 rfl node_info2) rfl ?_
      refine ⟨six_below HB2.out (by omega) _ _ _ _ _ _, A2, ca2, K2, ck2, rfl, ?_⟩
      have hk := six_keep w2 (w.heap.size + 1) (.int .i64 m.kind) (.string m.name.1) (.string m.name.2) (.slice A2 m.attrs.length ca2) (.slice K2 m.kids.length ck2) (.string m.text)
      exact SafeM.mono (SafeM.later HO.out (fun b p q => hk.block b q (fun z => by
        have p : wr.heap.size ≤ b := p
        omega)) hk.size) (fun b p => by
        have p : wr.heap.size ≤ b := p
        omega)
end Go.Proofs.Ytlcjepnaljfpkaa
namespace Go.Proofs.Ytlcjepnaljfpkaa
open Go.RowKit Wb
def zC : List Value := [.int .i64 0, .string ⟨#[]⟩, .string ⟨#[]⟩, .slice none 0 0, .slice none 0 0, .string ⟨#[]⟩]
theorem zC_is : (Builtin.zeroCells (Value.agg #[.int .i64 0, .string ⟨#[]⟩, .string ⟨#[]⟩, .slice none 0 0, .slice none 0 0, .string ⟨#[]⟩]).cells 1).toList = zC := by kernel_rfl
theorem zC_one : ∀ u ∈ zC, u.oneCell' = true := by
  intro u hu
  simp only [zC, List.mem_cons, List.mem_nil_iff, or_false] at hu
  rcases hu with rfl | rfl | rfl | rfl | rfl | rfl <;> rfl
theorem nds_head (g n c i : Nat) (hi : i ≤ c) (hc : 0 < c) (w : World) : (Instr.slice 25 (.slice (some ⟨g, 0, none⟩) n c) none (some (.int .i64 (i : Int))) none).run Try.prog w = .ok (.slice (some ⟨g, 0, none⟩) i c) w := by
  have h0 : (0 : Int) ≤ (i : Int) := by omega
  have h2 : (i : Int) ≤ (c : Int) := by omega
  have hu := Try.underlying25
  have hz := Try.sizeOf27
  have hn : ¬ c = 0 := by omega
  go_simp
theorem nds_tail (g n c i : Nat) (hi : i ≤ n) (hn : n ≤ c) : ∃ a1 : Addr, (∀ w, (Instr.slice 25 (.slice (some ⟨g, 0, none⟩) n c) (some (.int .i64 (i : Int))) none none).run Try.prog w = .ok (.slice (some a1) (n - i) (c - i)) w) ∧ a1.block = g ∧ (i < c → a1 = ⟨g, i * 6, none⟩) := by
  refine ⟨if c = i then ⟨g, 0, none⟩ else (⟨g, 0, none⟩ : Addr).add (i * 6), fun w => ?_, ?_, fun h => ?_⟩
  · have h0 : (0 : Int) ≤ (i : Int) := by omega
    have h2 : (i : Int) ≤ (n : Int) := by omega
    have hu := Try.underlying25
    have hz := Try.sizeOf27
    by_cases hc : c = i
    · subst hc
      go_simp
    · go_simp
  · split
    · rfl
    · rw [add_block]
  · rw [if_neg (by omega)]
    unfold Addr.add
    split <;> simp_all
theorem nds_lh (g n c i j : Nat) (hij : i ≤ j) (hj : j ≤ c) (hi : i < c) (w : World) : (Instr.slice 25 (.slice (some ⟨g, 0, none⟩) n c) (some (.int .i64 (i : Int))) (some (.int .i64 (j : Int))) none).run Try.prog w = .ok (.slice (some ⟨g, i * 6, none⟩) (j - i) (c - i)) w := by
  have h0 : (0 : Int) ≤ (i : Int) := by omega
  have h1 : (i : Int) ≤ (j : Int) := by omega
  have h2 : (j : Int) ≤ (c : Int) := by omega
  have hu := Try.underlying25
  have hz := Try.sizeOf27
  have hn : ¬ c = i := by omega
  go_simp
set_option maxRecDepth 100000 in
set_option maxHeartbeats 4000000 in
theorem delete_any (g m c i : Nat) (cur : Array Value) (w : World) (hg : w.heap[g]? = some (.cells cur 27 (0, 0))) (hcs : cur.size = c * 6) (hi : i ≤ m) (hnc : m + 1 ≤ c) (h1 : ∀ u ∈ cur.toList.take ((m + 1) * 6), u.oneCell' = true) :
    Calls Try.prog 31 #[.slice (some ⟨g, 0, none⟩) (m + 1) c, .int .i64 (i : Int), .int .i64 ((i : Int) + 1)] w fun e w' => e = .returned (.slice (some ⟨g, 0, none⟩) m c) ∧
      ∃ cs, RowSet g cs 27 w w' ∧ cs.take (m * 6) = cur.toList.take (i * 6) ++ (cur.toList.drop ((i + 1) * 6)).take ((m - i) * 6) := by
  obtain ⟨j0, hj, hy0, hy1, hy2⟩ := info_parts node_info
  obtain ⟨a1, hq2, _, ha1⟩ := nds_tail g (m + 1) c (i + 1) (by omega) hnc
  have hq1 := nds_head g (m + 1) c i (by omega) (by omega)
  have hq3 := nds_lh g m c m (m + 1) (by omega) (by omega) (by omega)
  rw [show ((i + 1 : Nat) : Int) = (i : Int) + 1 from by omega, show m + 1 - (i + 1) = m - i from by omega] at hq2
  rw [show ((m + 1 : Nat) : Int) = (m : Int) + 1 from by omega, show m + 1 - m = 1 from by omega] at hq3
  have hmid : ((cur.toList.drop ((i + 1) * 6)).take ((m - i) * 6)).length = (m - i) * 6 := by
    rw [List.length_take, List.length_drop, Array.length_toList, hcs]
    have : (i + 1) * 6 + (m - i) * 6 ≤ c * 6 := by omega
    omega
  have hsrc : ∀ j u, ((cur.toList.drop ((i + 1) * 6)).take ((m - i) * 6))[j]? = some u → w.drew.cell? (a1.add j) = some u := by
    intro j u hu
    have hjl := (List.getElem?_eq_some_iff.1 hu).1
    rw [hmid] at hjl
    rw [List.getElem?_take_of_lt (by omega), List.getElem?_drop] at hu
    rw [ha1 (by omega), Addr.add_lit]
    show w.cell? _ = _
    simpa [World.cell?, hg] using hu
  have hone : ∀ u ∈ (cur.toList.drop ((i + 1) * 6)).take ((m - i) * 6), u.oneCell' = true := by
    intro u hu
    obtain ⟨j, hj⟩ := List.getElem?_of_mem hu
    have hjl := (List.getElem?_eq_some_iff.1 hj).1
    rw [hmid] at hjl
    rw [List.getElem?_take_of_lt (by omega), List.getElem?_drop] at hj
    refine h1 u (List.mem_of_getElem? (i := (i + 1) * 6 + j) ?_)
    rw [List.getElem?_take_of_lt (by omega)]
    exact hj
  obtain ⟨mid, hm⟩ : ∃ mid, (cur.toList.drop ((i + 1) * 6)).take ((m - i) * 6) = mid := ⟨_, rfl⟩
  rw [hm] at hmid hsrc hone ⊢
  have hspare : ∀ j, j < mid.length → (w.drew.cell? ⟨g, 0 + i * 6 + j, none⟩).isSome = true ∧ w.drew.frozen? ⟨g, 0 + i * 6 + j, none⟩ = false := by
    intro j hj
    have hlt : 0 + i * 6 + j < cur.size := by rw [hcs]; omega
    obtain ⟨u, hu⟩ : ∃ u, cur[0 + i * 6 + j]? = some u := ⟨cur[0 + i * 6 + j], Array.getElem?_eq_getElem hlt⟩
    exact ⟨by show (w.cell? _).isSome = true; simp only [World.cell?, hg]; rw [hu]; rfl, by show w.frozen? _ = false; simp [World.frozen?, hg]⟩
  have hrow := setCells_row Try.prog (w := w.drew) (g := g) (o := i * 6) (vs := mid) hg (by rw [hmid, hcs]; omega) hone
  have he : i + (m - i) = m := by omega
  have hs1 := RowSet.set (w := w.drew) hg (cur.toList.take (i * 6) ++ mid ++ cur.toList.drop (i * 6 + mid.length))
  rw [← hrow] at hs1
  have hlen1 : (cur.toList.take (i * 6) ++ mid ++ cur.toList.drop (i * 6 + mid.length)).length = c * 6 := by
    rw [List.length_append, List.length_append, List.length_take, List.length_drop, Array.length_toList, hcs]; omega
  have htk : (cur.toList.take (i * 6) ++ mid ++ cur.toList.drop (i * 6 + mid.length)).take (m * 6) = cur.toList.take (i * 6) ++ mid := by
    rw [List.take_append_of_le_length (by rw [List.length_append, List.length_take, Array.length_toList, hcs, hmid]; omega), List.take_of_length_le (by rw [List.length_append, List.length_take, Array.length_toList, hcs, hmid]; omega)]
  obtain ⟨c1, hc1⟩ : ∃ c1, cur.toList.take (i * 6) ++ mid ++ cur.toList.drop (i * 6 + mid.length) = c1 := ⟨_, rfl⟩
  rw [hc1] at hs1 hlen1 htk
  obtain ⟨fin, hfin⟩ : ∃ fin, cur.toList.take (i * 6) ++ mid = fin := ⟨_, rfl⟩
  rw [hfin] at htk ⊢
  have hcl := fun (ty : TypeId) => run_clear_rowz (P := Try.prog) (w.drew.setCells g (i * 6) mid) 25 27 ty _ Try.underlying25 Try.zeroValue27 (by rw [zC_is]; exact zC_one) g (m * 6) (c - m) c1.toArray _ hs1.row (by rw [zC_is, List.size_toArray, hlen1]; show m * 6 + 6 ≤ c * 6; omega)
  have hs2 := RowSet.set hs1.row (c1.take (m * 6) ++ zC ++ c1.drop (m * 6 + zC.length))
  rw [zC_is] at hcl
  have ht2 : (c1.take (m * 6) ++ zC ++ c1.drop (m * 6 + zC.length)).take (m * 6) = fin := by rw [List.append_assoc, List.take_append_of_le_length (by rw [List.length_take, hlen1]; omega), List.take_take, Nat.min_self, htk]
  obtain ⟨c2, hc2⟩ : ∃ c2, c1.take (m * 6) ++ zC ++ c1.drop (m * 6 + zC.length) = c2 := ⟨_, rfl⟩
  rw [hc2] at hcl hs2 ht2
  have HF := Lib.hid (show ∃ cs, RowSet g cs 27 w ((w.drew.setCells g (i * 6) mid).setRow g c2.toArray) ∧ cs.take (m * 6) = fin from ⟨_, (hs1.trans hs2).drew, ht2⟩)
  have f1 : (0 : Int) ≤ (i : Int) := by omega
  have f2 : (i : Int) ≤ (i : Int) + 1 := by omega
  have f3 : (i : Int) + 1 ≤ (m : Int) + 1 := by omega
  have f4 : (m : Int) + 1 ≤ (c : Int) := by omega
  have f5 : ((i : Int) == (i : Int) + 1) = false := by simp; omega
  have HSP := Lib.hid hspare
  have HSRC := Lib.hid hsrc
  have HCL := Lib.hid hcl
  clear hs2 hs1 ht2 hc2 htk hlen1 hspare hsrc hcl hrow hm h1 hfin hc1
  go_enter Try.func31, Try.ntmps31
  go_wp2
  go_region_law (
    refine step_append_room rfl _ _ 25 rfl 27 j0 6 Try.underlying25 hj hy1 g 0 i c rfl a1 (m - i) (c - (i + 1)) mid rfl hmid HSRC.out hone (by omega) HSP.out ?_
    rw [he])
  all_goals (
    revert HCL HF
    generalize w.drew.setCells g (i * 6) mid = w1
    intro HF HCL
    have hcl := HCL.out
    clear HCL
    go_wp2
    go_ret
    exact ⟨rfl, HF.out⟩)
end Go.Proofs.Ytlcjepnaljfpkaa
namespace Wb
open Go Go.RowKit
theorem cells_flat {css : List (List Value)} (h6 : ∀ cs ∈ css, cs.length = 6) (i : Nat) : css.flatten.take (i * 6) = (css.take i).flatten ∧ css.flatten.drop (i * 6) = (css.drop i).flatten := by
  induction css generalizing i with
  | nil => simp
  | cons c css ih =>
    have hc : c.length = 6 := h6 c (by simp)
    cases i with
    | zero => simp
    | succ i =>
      have := ih (fun cs h => h6 cs (by simp [h])) i
      rw [List.flatten_cons, show (i + 1) * 6 = c.length + i * 6 from by rw [hc]; omega, List.take_length_add_append, List.drop_length_add_append, this.1, this.2]
      simp
theorem one_of_node {w : World} {n : Nd} {cs : List Value} (h : nodeC w n cs) : ∀ u ∈ cs, u.oneCell' = true := by
  obtain ⟨A, ca, K, ck, rfl, _⟩ := (nodeC_V _ _ _).1 h
  intro u hu
  simp only [ndCells, List.mem_cons, List.mem_nil_iff, or_false] at hu
  rcases hu with rfl | rfl | rfl | rfl | rfl | rfl <;> rfl
end Wb
namespace Go.Proofs.Ytlcjepnaljfpkaa
open Go.RowKit Wb
theorem row_safe {e : Nd} {av kv : Value} {css : List (List Value)} {lo hi h : Nat} {v v3 : World} {ms : List Nd} {cN : List (List Value)}
    (hko : kidsO 29 27 v (fun b => av.ownBlock = some b ∨ kv.ownBlock = some b) e.kids css lo hi) (hhi : hi ≤ v.heap.size)
    (hr : RowOnly kv v v3) (hl : cN.length = ms.length) (h6 : ∀ cs ∈ cN, cs.length = 6)
    (hsrc : ∀ (j : Nat) (m : Nd) (c : List Value), ms[j]? = some m → cN[j]? = some c → (∃ k : Nat, e.kids[k]? = some m ∧ css[k]? = some c) ∨ SafeM (MustI lo hi v.heap.size) v3 (fun u => nodeC u m c))
    (hh : MustI lo hi v.heap.size h) (hhl : h < v3.heap.size) (hrow : ∀ z u, cN.flatten[z]? = some u → v3.cell? ⟨h, z, none⟩ = some u) :
    SafeM (MustI lo hi v.heap.size) v3 (fun u => SlN u (some ⟨h, 0, none⟩) ms) := by
  intro w2 k1 k2
  have hgw := k1 h hh hhl
  have add : ∀ z : Nat, (⟨h, 0, none⟩ : Addr).add z = ⟨h, z, none⟩ := fun z => by unfold Addr.add; split <;> simp_all
  refine .inr ⟨_, rfl, by show h < _; omega, (kidsC_iff w2 _ _ 0).2 fun j m hm => ?_⟩
  have hjl := (List.getElem?_eq_some_iff.1 hm).1
  obtain ⟨c, hc⟩ : ∃ c, cN[j]? = some c := ⟨cN[j]'(by omega), List.getElem?_eq_getElem (by omega)⟩
  refine ⟨c, fun z u hu => ?_, ?_⟩
  · have hz : z < 6 := by have := (List.getElem?_eq_some_iff.1 hu).1; rw [h6 c (List.mem_of_getElem? hc)] at this; exact this
    rw [Nat.zero_add, add]
    exact (World.cell?_of_block hgw).trans (hrow _ u ((flat_at h6 j c hc z hz).trans hu))
  · rcases hsrc j m c hm hc with ⟨k, hk, hck⟩ | hs
    · obtain ⟨c2, l1, h1', c1, b1, b2, b3, b4, b5, _⟩ := kidsO_at hko k m hk
      rw [hck] at c1
      injection c1 with c1
      subst c1
      refine ownC_node _ _ _ _ (ownC_keep _ _ _ _ (fun b p q => ?_) b5)
      have hbv : b < v.heap.size := by omega
      exact (k1 b (.inl ⟨by omega, by omega⟩) (by have := hr.size; omega)).trans (hr.block b hbv (fun z => b4 b p q (.inr z)))
    · exact hs w2 k1 k2
theorem valL_erase : ∀ (ks : List Nd) (i : Nat), (valL (ks.eraseIdx i)).length ≤ (valL ks).length
  | [], i => by simp
  | k :: ks, 0 => by rw [List.eraseIdx_cons_zero, valL, List.length_append]; omega
  | k :: ks, i + 1 => by
    rw [List.eraseIdx_cons_succ, valL, valL, List.length_append, List.length_append]
    have := valL_erase ks i
    omega
set_option maxRecDepth 100000 in
set_option maxHeartbeats 4000000 in
theorem remove_clos (W : World) : KidsOK (fun ks i => ks.eraseIdx i) 30 #[] W := by
  intro v e av kv lo hi i hv hown hhi hge hil
  have hel : (e.kids.eraseIdx i).length = e.kids.length - 1 := List.length_eraseIdx_of_lt hil
  have hsm := ((smallN_is e).1 hge.1).2.1
  refine ⟨by show (e.kids.eraseIdx i).length ≤ _; omega, ?_, ?_⟩
  · have h1 := valL_erase e.kids i
    have h2 := hge.val
    show (valL (e.kids.eraseIdx i)).length ≤ _
    omega
  · obtain ⟨av', kv', css, e1, h1, h2, h3, h4, h5, hko⟩ := (ownC_iff _ _ _ _).1 hown
    simp only [ndC, List.cons.injEq, true_and, and_true] at e1
    obtain ⟨ea, ek⟩ := e1
    subst ea ek
    have h6 := (kidsO_len hko).2
    rcases h2.2 with ⟨_, y⟩ | ⟨g, cap, cur, rfl, hg0, hg, hnc, hcm, hcs, htk⟩
    · omega
    rw [show ∀ a b : Value, #[a, b] ++ #[] = #[a, b] from fun a b => by simp]
    obtain ⟨m, hm⟩ : ∃ m, e.kids.length = m + 1 := ⟨e.kids.length - 1, by omega⟩
    have hone : ∀ u ∈ cur.toList.take ((m + 1) * 6), u.oneCell' = true := by
      intro u hu
      rw [← hm, htk] at hu
      obtain ⟨c, hc, hu⟩ := List.mem_flatten.1 hu
      obtain ⟨k, hk⟩ := List.getElem?_of_mem hc
      have hkl := (List.getElem?_eq_some_iff.1 hk).1
      obtain ⟨n, hn⟩ : ∃ n, e.kids[k]? = some n := ⟨e.kids[k]'(by omega), List.getElem?_eq_getElem (by omega)⟩
      obtain ⟨c2, l1, h1', c1, _, _, _, _, b5, _⟩ := kidsO_at hko k n hn
      rw [hk] at c1
      injection c1 with c1
      subst c1
      exact one_of_node (ownC_node _ _ _ _ b5) u hu
    have hdel := delete_any g m cap i cur v hg hcs (by omega) (by omega) hone
    have hdl : e.kids.length - 1 = m := by omega
    have hleft := fun (v3 : World) (cs : List Value) (hr : RowSet g cs 27 v v3) (ht : cs.take (m * 6) = cur.toList.take (i * 6) ++ (cur.toList.drop ((i + 1) * 6)).take ((m - i) * 6)) =>
      (show SafeM (MustI lo hi v.heap.size) v3 (fun u => SlN u (some ⟨g, 0, none⟩) (e.kids.eraseIdx i)) ∧ RowOnly (.slice (some ⟨g, 0, none⟩) e.kids.length cap) v v3 from by
        have hro : RowOnly (.slice (some ⟨g, 0, none⟩) e.kids.length cap) v v3 := ⟨hr.os, hr.tape, hr.output, by rw [hr.size]; exact Nat.le_refl _, fun b _ y => hr.other b (fun z => y (by rw [z]; rfl))⟩
        refine ⟨row_safe (cN := css.eraseIdx i) hko hhi hro (by rw [List.length_eraseIdx_of_lt (by omega), hel, h3]) (fun c hc => h6 c (List.mem_of_mem_eraseIdx hc)) (fun j n c a b => .inl ?_) (.inl ⟨hg0, h5 g rfl⟩) (by rw [hr.size]; exact blk_in hg) (fun z u hz => ?_), hro⟩
        · rw [List.getElem?_eraseIdx] at a b
          by_cases hj : j < i
          · rw [if_pos hj] at a b
            exact ⟨j, a, b⟩
          · rw [if_neg hj] at a b
            exact ⟨j + 1, a, b⟩
        · have hf : (css.eraseIdx i).flatten = cs.take (m * 6) := by
            rw [ht, List.eraseIdx_eq_take_drop_succ, List.flatten_append, ← (cells_flat h6 i).1, ← (cells_flat h6 (i + 1)).2, ← htk, List.take_take, List.drop_take, Nat.min_eq_left (by omega), show e.kids.length * 6 - (i + 1) * 6 = (m - i) * 6 from by omega]
          rw [hf] at hz
          have hzl := (List.getElem?_eq_some_iff.1 hz).1
          rw [List.length_take] at hzl
          rw [List.getElem?_take_of_lt (by omega)] at hz
          simp [World.cell?, hr.row, hz])
    have HD := Lib.hid hdel
    have HL := Lib.hid hleft
    rw [hel, hdl, hm]
    rw [hm] at HL
    have hwr : IntKind.i64.wrap ((i : Int) + 1) = (i : Int) + 1 := by rw [IntKind.wrap_i64]; omega
    have hmc : m ≤ cap := by omega
    clear hdel hleft hone hel hdl h1 h2 h3 h4 h5 hko hown h6 hg htk hcs hge
    go_enter Try.func30, Try.ntmps30
    go_wp2_with fail
    refine HD.out.mono ?_
    rintro r v3 ⟨rfl, cs, hr, ht⟩
    have HF := Lib.hid (HL.out v3 cs hr ht)
    clear hr ht
    go_wp2
    go_ret
    exact ⟨some ⟨g, 0, none⟩, cap, rfl, hmc, HF.out⟩
end Go.Proofs.Ytlcjepnaljfpkaa
namespace Wb
open Go Go.RowKit
def remP (n : Nd) (l : List Int) : Option Nd := match l.getLast? with
  | none => none
  | some p => chP (kidF (fun ks i => ks.eraseIdx i) p) n l.dropLast
theorem remP_nil (n : Nd) : remP n [] = none := rfl
theorem remP_app (n : Nd) (init : List Int) (p : Int) : remP n (init ++ [p]) = chP (kidF (fun ks i => ks.eraseIdx i) p) n init := by
  unfold remP
  rw [List.getLast?_append]
  simp
end Wb
namespace Go.Proofs.Ytlcjepnaljfpkaa
open Go.RowKit Wb
theorem out_stored {W w1 w4 : World} {T : Nat} {m : Nd} {A K : Option Addr} {ca ck : Nat} (h : SafeM (fun b => w1.heap.size ≤ b) w4 (fun u => NodeV u m A K)) (h1 : T < w1.heap.size) (h2 : W.heap.size ≤ w1.heap.size) :
    SafeM (fun b => W.heap.size ≤ b) ((((((w4.setCell ⟨T, 0, none⟩ (.int .i64 m.kind)).setCell ⟨T, 1, none⟩ (.string m.name.1)).setCell ⟨T, 2, none⟩ (.string m.name.2)).setCell ⟨T, 3, none⟩ (.slice A m.attrs.length ca)).setCell ⟨T, 4, none⟩ (.slice K m.kids.length ck)).setCell ⟨T, 5, none⟩ (.string m.text)) (fun u => NodeV u m A K) := by
  have hk := six_keep w4 T (.int .i64 m.kind) (.string m.name.1) (.string m.name.2) (.slice A m.attrs.length ca) (.slice K m.kids.length ck) (.string m.text)
  exact SafeM.mono (SafeM.later h (fun b p q => hk.block b q (fun z => by
    have p : w1.heap.size ≤ b := p
    omega)) hk.size) (fun b p => by
    have p : w1.heap.size ≤ b := p
    omega)
set_option maxRecDepth 100000 in
set_option maxHeartbeats 4000000 in
theorem Remove_any (n : Nd) (A K : Option Addr) (ca ck : Nat) (l : List Int) (PA : Option Addr) (cp : Nat) (w : World) (hV : NodeV w n A K) (hgn : GN n) (hP : SlI w PA l) (hcp : l.length ≤ cp) (hl : l.length ≤ 1000000) :
    Calls Try.prog 10 #[ndV n A ca K ck, .slice PA l.length cp] w (NdOut (remP n l) w) := by
  obtain ⟨r, hr⟩ : ∃ r, remP n l = r := ⟨_, rfl⟩
  rw [hr]
  obtain ⟨hb2, h0, h1, hs2⟩ := two_allocs w (.cells #[.int .i64 n.kind, .string n.name.1, .string n.name.2, .slice A n.attrs.length ca, .slice K n.kids.length ck, .string n.text] 27) (.cells #[.int .i64 0, .string ⟨#[]⟩, .string ⟨#[]⟩, .slice none 0 0, .slice none 0 0, .string ⟨#[]⟩] 27)
  have HB := Lib.hid hb2
  have H0 := Lib.hid h0
  have H1 := Lib.hid h1
  have HS := Lib.hid hs2
  have HV := Lib.hid hV
  have HP := Lib.hid hP
  have HGN := Lib.hid hgn
  have HR := Lib.hid hr
  clear hb2 h0 h1 hs2 hV hP hgn hr
  unfold ndV ndCells
  rcases last_cases l with rfl | ⟨init, p, rfl⟩
  · have hr := HR.out
    rw [remP_nil] at hr
    subst hr
    rw [List.length_nil]
    go_enter Try.func10, Try.ntmps10
    go_upto_region 1 with fail
    revert HB H0 H1 HS
    generalize (w.alloc (.cells #[.int .i64 n.kind, .string n.name.1, .string n.name.2, .slice A n.attrs.length ca, .slice K n.kids.length ck, .string n.text] 27)).alloc (.cells #[.int .i64 0, .string ⟨#[]⟩, .string ⟨#[]⟩, .slice none 0 0, .slice none 0 0, .string ⟨#[]⟩] 27) = w1
    intro HB H0 H1 HS
    have z0 := blk_free H1.out 0
    have z1 := blk_free H1.out 1
    have z2 := blk_free H1.out 2
    have z3 := blk_free H1.out 3
    have z4 := blk_free H1.out 4
    have z5 := blk_free H1.out 5
    obtain ⟨y0, y1, y2, y3, y4, y5⟩ := cells_of_nd H1.out
    go_wp2
    refine bodyPost_ret (results_cell2 rfl _ _ (w.heap.size + 1) _ _ _ rfl (six_blk H1.out _ _ _ _ _ _) Try.underlying27 rfl node_info2) rfl ?_
    exact ⟨six_below HB.out (by omega) _ _ _ _ _ _, rfl⟩
  · have hr := HR.out
    rw [remP_app] at hr
    have hlen : (init ++ [p]).length = init.length + 1 := by simp
    rw [hlen] at hcp hl ⊢
    have HCL := Lib.hid (fun (v : World) (hv : Below w.heap.size w v) =>
      changedKids_any (fun ks i => ks.eraseIdx i) 30 #[] (fun args w => by rfl) n A K ca ck init p PA cp v (HV.out.below hv) HGN.out (HP.out.below hv) hcp (by omega) (remove_clos v))
    rw [hr] at HCL
    unfold ndV ndCells at HCL
    clear hr HR
    go_enter Try.func10, Try.ntmps10
    go_upto_region 1 with fail
    revert HB H0 H1 HS
    generalize (w.alloc (.cells #[.int .i64 n.kind, .string n.name.1, .string n.name.2, .slice A n.attrs.length ca, .slice K n.kids.length ck, .string n.text] 27)).alloc (.cells #[.int .i64 0, .string ⟨#[]⟩, .string ⟨#[]⟩, .slice none 0 0, .slice none 0 0, .string ⟨#[]⟩] 27) = w1
    intro HB H0 H1 HS
    obtain ⟨n0, n1, n2, n3, n4, n5⟩ := cells_of_nd H0.out
    have hcall := HCL.out w1 HB.out
    clear HCL
    go_wp2_with fail
    refine hcall.mono ?_
    rintro e w4 ⟨hb4, ho⟩
    have HZ4 := Lib.hid (still_block H1.out hb4)
    have HB4 := Lib.hid (HB.out.trans (hb4.mono HB.out.size))
    have z0 := blk_free HZ4.out 0
    have z1 := blk_free HZ4.out 1
    have z2 := blk_free HZ4.out 2
    have z3 := blk_free HZ4.out 3
    have z4 := blk_free HZ4.out 4
    have z5 := blk_free HZ4.out 5
    obtain ⟨y0, y1, y2, y3, y4, y5⟩ := cells_of_nd HZ4.out
    clear n0 n1 n2 n3 n4 n5 hcall hb4
    rcases r with _ | m
    · subst ho
      go_wp2
      refine bodyPost_ret (results_cell2 rfl _ _ (w.heap.size + 1) _ _ _ rfl (six_blk HZ4.out _ _ _ _ _ _) Try.underlying27 rfl node_info2) rfl ?_
      exact ⟨six_below HB4.out (by omega) _ _ _ _ _ _, rfl⟩
    · obtain ⟨A5, ca5, K5, ck5, rfl, hV5⟩ := ho
      have HV5 := Lib.hid hV5
      clear hV5
      unfold ndV ndCells
      go_wp2
      refine bodyPost_ret (results_cell2 rfl _ _ (w.heap.size + 1) _ _ _ rfl (six_blk HZ4.out _ _ _ _ _ _) Try.underlying27 rfl node_info2) rfl ?_
      exact ⟨six_below HB4.out (by omega) _ _ _ _ _ _, A5, ca5, K5, ck5, rfl, out_stored HV5.out (by have := HS.out; omega) (by have := HS.out; omega)⟩
end Go.Proofs.Ytlcjepnaljfpkaa
namespace Go.Proofs.Ytlcjepnaljfpkaa
open Go.RowKit Wb
def InsOut (kv : Value) (n : Nat) (cs : List Value) (w : World) (e : Ending) (w' : World) : Prop :=
  ∃ h c, e = .returned (.slice (some ⟨h, 0, none⟩) (n + 1) c) ∧ n + 1 ≤ c ∧ h < w'.heap.size ∧ (kv.ownBlock = some h ∨ w.heap.size ≤ h) ∧ (∀ z u, cs[z]? = some u → w'.cell? ⟨h, z, none⟩ = some u) ∧ RowOnly kv w w'
theorem nds_from (K : Option Addr) (n c i : Nat) (hi : i ≤ n) : ∃ O1 : Option Addr, ∀ w, (Instr.slice 25 (.slice K n c) (some (.int .i64 (i : Int))) none none).run Try.prog w = .ok (.slice O1 (n - i) (c - i)) w := by
  refine ⟨if c = i then K else K.map (·.add (i * 6)), fun w => ?_⟩
  have h0 : (0 : Int) ≤ (i : Int) := by omega
  have h2 : (i : Int) ≤ (n : Int) := by omega
  have hu := Try.underlying25
  have hz := Try.sizeOf27
  go_simp
set_option maxRecDepth 100000 in
set_option maxHeartbeats 4000000 in
theorem insert_end (K : Option Addr) (n c V base : Nat) (xs ys : List Value) (w : World) (hown : w.ownsRow base 27 6 (.slice K n c) n xs) (hV : w.heap[V]? = some (.cells ys.toArray 27 (0, 0))) (hy : ys.length = 6) (h1 : ∀ u ∈ ys, u.oneCell' = true) (hn : n ≤ 1000000) (hb : base ≤ w.heap.size) :
    Calls Try.prog 27 #[.slice K n c, .int .i64 (n : Int), .slice (some ⟨V, 0, none⟩) 1 1] w (InsOut (.slice K n c) n (xs ++ ys) w) := by
  obtain ⟨j0, hj, hy0, hy1, hy2⟩ := info_parts node_info
  have hsl : Sl w 6 (some ⟨V, 0, none⟩) 1 ys := ⟨by omega, fun _ => ⟨_, rfl, blk_in hV, fun j u hu => by
    rw [Addr.add_lit]
    simp [World.cell?, hV, hu]⟩⟩
  have hnc : n ≤ c := by
    rcases hown.2 with ⟨x, y⟩ | ⟨g, cap, cur, x, _, _, hnc, _⟩
    · omega
    · simp only [Value.slice.injEq] at x; omega
  obtain ⟨O1, hq⟩ := nds_from K n c n (Nat.le_refl _)
  rw [Nat.sub_self] at hq
  have HO := Lib.hid hown
  have HSL := Lib.hid hsl
  have HX := Lib.hid hown.1
  clear hown hsl hV
  go_enter Try.func27, Try.ntmps27
  go_wp2_with (at_builtin; refine wpList_append_sl _ rfl _ _ _ rfl base 27 j0 _ 6 104 Try.underlying25 hj hy0 hy1 hy2 rfl (by omega) _ n xs rfl HO.out (some ⟨V, 0, none⟩) 1 1 ys rfl HSL.out h1 (by simp only [maxLen]; omega) (by omega) hb ?_; intro v5 w5 hown5 hg5 hat5)
  obtain ⟨h, cap, rfl, hbh, hhl⟩ := hown5.form (by omega)
  have hcap : n + 1 ≤ cap := by
    rcases hown5.2 with ⟨x, _⟩ | ⟨g, cap', cur, x, _, _, hnc, _⟩
    · simp at x
    · simp only [Value.slice.injEq, Option.some.injEq, Addr.mk.injEq] at x; omega
  have HF : Hid (InsOut (.slice K n c) n (xs ++ ys) w (.returned (.slice (some ⟨h, 0, none⟩) (n + 1) cap)) w5) := Lib.hid ⟨h, cap, rfl, hcap, hhl, by
    rcases hat5 with x | x
    · exact .inl x.symm
    · injection x with x; exact .inr (by show _ ≤ h; have x : h = w.heap.size := x; omega), fun z u hz => by
      have := hown5.cells (g := h) rfl z u hz
      rwa [Addr.add_lit, Nat.zero_add] at this, ⟨hg5.os, hg5.tape, hg5.output, hg5.size, fun b x y => hg5.block b x (fun z => y z.symm)⟩⟩
  clear hown5 hg5 hat5
  go_ret
  exact HF.out
set_option maxRecDepth 100000 in
set_option maxHeartbeats 4000000 in
theorem insert_shift (g n c i V : Nat) (cur : Array Value) (ys : List Value) (w : World) (hg : w.heap[g]? = some (.cells cur 27 (0, 0))) (hcs : cur.size = c * 6) (hV : w.heap[V]? = some (.cells ys.toArray 27 (0, 0))) (hVg : V ≠ g) (hy : ys.length = 6) (h1 : ∀ u ∈ ys, u.oneCell' = true)
    (h2 : ∀ u ∈ cur.toList.take (n * 6), u.oneCell' = true) (hi : i < n) (hnc : n + 1 ≤ c) (hn : n ≤ 1000000) :
    Calls Try.prog 27 #[.slice (some ⟨g, 0, none⟩) n c, .int .i64 (i : Int), .slice (some ⟨V, 0, none⟩) 1 1] w (InsOut (.slice (some ⟨g, 0, none⟩) n c) n (cur.toList.take (i * 6) ++ ys ++ (cur.toList.drop (i * 6)).take ((n - i) * 6)) w) := by
  obtain ⟨O1, hq0⟩ := nds_from (some ⟨g, 0, none⟩) n c i (by omega)
  have hq1 := nds_head g n c (n + 1) (by omega) (by omega)
  obtain ⟨a2, hq2, _, ha2⟩ := nds_tail g (n + 1) c (i + 1) (by omega) (by omega)
  obtain ⟨a3, hq3, _, ha3⟩ := nds_tail g (n + 1) c i (by omega) (by omega)
  have ea2 := ha2 (by omega)
  have ea3 := ha3 (by omega)
  subst ea2 ea3
  rw [show ((n + 1 : Nat) : Int) = (n : Int) + 1 from by omega] at hq1
  rw [show ((i + 1 : Nat) : Int) = (i : Int) + 1 from by omega, show n + 1 - (i + 1) = n - i from by omega] at hq2
  have hov : ∀ lb cb, (callFunc 49 #[.slice (some ⟨V, 0, none⟩) 1 1, .slice (some ⟨g, (i + 1) * 6, none⟩) lb cb]).run Try.prog w = .ok (.value (.bool false)) w := fun lb cb => by
    rw [run_callFunc_extern (P := Try.prog) (f := 49) (fn := Try.f49) (by kernel_rfl) (by kernel_rfl) (by kernel_rfl) (by kernel_rfl) (e := Extern.SlicesOverlaps.overlaps #[25, 25] #[4]) (by kernel_rfl),
      Lib.run_overlaps_apart w 25 4 27 Try.underlying25 6 Try.sizeOf27 ⟨V, 0, none⟩ ⟨g, (i + 1) * 6, none⟩ 1 1 lb cb hVg 27 27 6 (c * 6) (by simp [World.shape?, hV, hy]) (by simp [World.shape?, hg, hcs]) (by omega) (by simp [World.frozen?, hV]) (by simp [World.frozen?, hV])]
    rfl
  obtain ⟨mid, hm⟩ : ∃ mid, (cur.toList.drop (i * 6)).take ((n - i) * 6) = mid := ⟨_, rfl⟩
  have hml : mid.length = (n - i) * 6 := by
    rw [← hm, List.length_take, List.length_drop, Array.length_toList, hcs]
    omega
  have hmo : ∀ u ∈ mid, u.oneCell' = true := by
    intro u hu
    rw [← hm] at hu
    obtain ⟨j, hj⟩ := List.getElem?_of_mem hu
    have hjl := (List.getElem?_eq_some_iff.1 hj).1
    rw [hm, hml] at hjl
    rw [List.getElem?_take_of_lt (by omega), List.getElem?_drop] at hj
    refine h2 u (List.mem_of_getElem? (i := i * 6 + j) ?_)
    rw [List.getElem?_take_of_lt (by omega)]
    exact hj
  have hms : ∀ j u, mid[j]? = some u → w.drew.cell? ((⟨g, i * 6, none⟩ : Addr).add j) = some u := by
    intro j u hu
    have hjl := (List.getElem?_eq_some_iff.1 hu).1
    rw [hml] at hjl
    rw [← hm, List.getElem?_take_of_lt (by omega), List.getElem?_drop] at hu
    rw [Addr.add_lit]
    show w.cell? _ = _
    simpa [World.cell?, hg] using hu
  have hcp1 := fun (ty : TypeId) (dc sc : Nat) => run_copy_rowz (P := Try.prog) w.drew 25 25 ty 27 6 g ((i + 1) * 6) (n - i) dc ⟨g, i * 6, none⟩ (n + 1 - i) sc cur _ mid Try.underlying25 node_info2 hg (by
    rw [hml, show Nat.min (n + 1 - i) (n - i) = n - i from Nat.min_eq_right (by omega)]) hms (by rw [hml, hcs]; omega) hmo
  have hs1 := RowSet.set (w := w.drew) hg (cur.toList.take ((i + 1) * 6) ++ mid ++ cur.toList.drop ((i + 1) * 6 + mid.length))
  have hl1 : (cur.toList.take ((i + 1) * 6) ++ mid ++ cur.toList.drop ((i + 1) * 6 + mid.length)).length = c * 6 := by
    rw [List.length_append, List.length_append, List.length_take, List.length_drop, Array.length_toList, hcs, hml]; omega
  have ht1 : (cur.toList.take ((i + 1) * 6) ++ mid ++ cur.toList.drop ((i + 1) * 6 + mid.length)).take (i * 6) = cur.toList.take (i * 6) := by
    rw [List.append_assoc, List.take_append_of_le_length (by rw [List.length_take, Array.length_toList, hcs]; omega), List.take_take, Nat.min_eq_left (by omega)]
  have hd1 : (cur.toList.take ((i + 1) * 6) ++ mid ++ cur.toList.drop ((i + 1) * 6 + mid.length)).drop (i * 6 + 6) = mid ++ cur.toList.drop ((i + 1) * 6 + mid.length) := by
    rw [List.append_assoc, List.drop_append_of_le_length (by rw [List.length_take, Array.length_toList, hcs]; omega), List.drop_of_length_le (by rw [List.length_take, Array.length_toList, hcs]; omega), List.nil_append]
  obtain ⟨c1, hc1⟩ : ∃ c1, cur.toList.take ((i + 1) * 6) ++ mid ++ cur.toList.drop ((i + 1) * 6 + mid.length) = c1 := ⟨_, rfl⟩
  rw [hc1] at hcp1 hs1 hl1 ht1 hd1
  have hV1 : (w.drew.setRow g c1.toArray).heap[V]? = some (.cells ys.toArray 27 (0, 0)) := (hs1.other V hVg).trans hV
  have hcp2 := fun (ty : TypeId) (dc : Nat) => run_copy_rowz (P := Try.prog) (w.drew.setRow g c1.toArray) 25 25 ty 27 6 g (i * 6) (n + 1 - i) dc ⟨V, 0, none⟩ 1 1 c1.toArray _ ys Try.underlying25 node_info2 hs1.row (by
    rw [hy, show Nat.min 1 (n + 1 - i) = 1 from Nat.min_eq_left (by omega)]) (fun j u hu => by rw [Addr.add_lit]; simp [World.cell?, hV1, hu]) (by rw [hy, List.size_toArray, hl1]; omega) h1
  have hs2 := RowSet.set hs1.row (c1.take (i * 6) ++ ys ++ c1.drop (i * 6 + ys.length))
  have hpre : c1.take (i * 6) ++ ys ++ c1.drop (i * 6 + ys.length) = (cur.toList.take (i * 6) ++ ys ++ mid) ++ cur.toList.drop ((i + 1) * 6 + mid.length) := by
    rw [hy, ht1, hd1, List.append_assoc, List.append_assoc, List.append_assoc]
  obtain ⟨c2, hc2⟩ : ∃ c2, c1.take (i * 6) ++ ys ++ c1.drop (i * 6 + ys.length) = c2 := ⟨_, rfl⟩
  simp only [hc2] at hcp2 hs2 hpre
  rw [hm]
  obtain ⟨fin, hfin⟩ : ∃ fin, cur.toList.take (i * 6) ++ ys ++ mid = fin := ⟨_, rfl⟩
  rw [hfin] at hpre ⊢
  have hs3 := (hs1.trans hs2).drew
  have HF : Hid (InsOut (.slice (some ⟨g, 0, none⟩) n c) n fin w (.returned (.slice (some ⟨g, 0, none⟩) (n + 1) c)) ((w.drew.setRow g c1.toArray).setRow g c2.toArray)) := Lib.hid ⟨g, c, rfl, hnc, by rw [hs3.size]; exact blk_in hg, .inl rfl, fun z u hz => by
      have hzl := (List.getElem?_eq_some_iff.1 hz).1
      have : c2[z]? = some u := by rw [hpre, List.getElem?_append_left hzl]; exact hz
      simp [World.cell?, hs3.row, this], ⟨hs3.os, hs3.tape, hs3.output, by rw [hs3.size]; exact Nat.le_refl _, fun b _ y => hs3.other b (fun z => y (by rw [z]; rfl))⟩⟩
  have f1 : ((i : Int) == (n : Int)) = false := by simp; omega
  have f2 : ¬ (c : Int) < (n : Int) + 1 := by omega
  have hwr : IntKind.i64.wrap ((i : Int) + 1) = (i : Int) + 1 := by rw [IntKind.wrap_i64]; omega
  clear hs3 hs2 hs1 hpre hc2 hfin ht1 hd1 hl1 hc1 hms hmo hml hm h1 h2 hy hV hV1 hcs
  go_enter Try.func27, Try.ntmps27
  go_upto_region 15 with (simp only [hov])
  go_region_law (refine step_copy_r _ rfl _ _ 25 25 rfl (.slice (some ⟨g, (i + 1) * 6, none⟩) (n - i) (c - (i + 1))) (.slice (some ⟨g, i * 6, none⟩) (n + 1 - i) (c - i)) (by simp [Act.eval, Act.put]) (by simp [Act.eval, Act.put]) (hcp1 _ _ _) ?_)
  all_goals (
    clear hcp1 hov
    go_wp2_with (at_builtin; refine wpList_copy_r _ rfl _ _ 25 25 rfl (.slice (some ⟨g, i * 6, none⟩) (n + 1 - i) (c - i)) (.slice (some ⟨V, 0, none⟩) 1 1) rfl rfl (hcp2 _ _) ?_)
    go_ret
    exact HF.out)
end Go.Proofs.Ytlcjepnaljfpkaa
