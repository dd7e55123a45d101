/- FeK. -/
import Derived.Test.YtmabhbihgenmcaaGreatDoorKd6
namespace Wb
open Go
theorem cells1_mk (ls : List (List UInt8)) : cells1 (ls.map mkB) = ls.map fun l => Value.string ⟨l.toArray⟩ := by
  unfold cells1
  rw [List.map_map]
  rfl
end Wb
namespace Go.Proofs.YtmabhbihgenmcaaGreatDoor
open Go.RowKit Wb
def OwnS (w : World) (g c : Nat) (l : List ByteArray) : Prop := ∃ cur, w.heap[g]? = some (.cells cur 9 (0, 0)) ∧ l.length ≤ c ∧ cur.toList.take l.length = cells1 l
theorem OwnS.keep {w w' : World} {g c : Nat} {l : List ByteArray} (h : OwnS w g c l) (hk : w'.heap[g]? = w.heap[g]?) : OwnS w' g c l := by
  obtain ⟨cur, h1, h2⟩ := h
  exact ⟨cur, hk.trans h1, h2⟩
theorem OwnS.below {w w' : World} {g c : Nat} {l : List ByteArray} (h : OwnS w g c l) (hb : Below w.heap.size w w') : OwnS w' g c l := by
  obtain ⟨cur, h1, h2⟩ := h
  exact ⟨cur, still_block h1 hb, h2⟩
theorem OwnS.cells {w : World} {g c : Nat} {l : List ByteArray} (h : OwnS w g c l) {j : Nat} {x : ByteArray} (hx : l[j]? = some x) : w.cell? ⟨g, j, none⟩ = some (.string x) := by
  obtain ⟨cur, h1, _, h3⟩ := h
  rw [blk_cell h1]
  have hj := (List.getElem?_eq_some_iff.1 hx).1
  have := cells1_at l j x hx
  rw [← h3, List.getElem?_take, if_pos hj, Array.getElem?_toList] at this
  exact this
theorem OwnS.sl {w : World} {g c : Nat} {l : List ByteArray} (h : OwnS w g c l) : Sl1 w (some ⟨g, 0, none⟩) l := by
  refine ⟨by simp [cells1], fun _ => ⟨_, rfl, ?_, fun j u hu => ?_⟩⟩
  · obtain ⟨cur, h1, _⟩ := h
    exact (Array.getElem?_eq_some_iff.1 h1).1
  · rw [Addr.add_lit, Nat.zero_add]
    unfold cells1 at hu
    rw [List.getElem?_map] at hu
    cases hx : l[j]? with
    | none => rw [hx] at hu; cases hu
    | some x =>
      rw [hx] at hu
      simp only [Option.map_some, Option.some.injEq] at hu
      rw [← hu]
      exact h.cells hx
theorem strinfo : (Tryz.prog.info? 9).map (fun i => (i.zero, i.size, i.bytes)) = some (some (.string ⟨#[]⟩), 1, 16) := by kernel_rfl
set_option maxRecDepth 100000 in
set_option maxHeartbeats 4000000 in
theorem folded_any (n v : ByteArray) (w : World) (hn : n.size ≤ 1000) (hv : v.size ≤ 1000000000) (hp : printableF v.data.toList = true) (hG : GvF w) :
    Calls Tryz.prog 75 #[.agg #[.string n, .string v]] w fun e w' => (∃ g c, e = .returned (.slice (some ⟨g, 0, none⟩) (linesF (n.data.toList, v.data.toList)).length c) ∧ OwnS w' g c ((linesF (n.data.toList, v.data.toList)).map mkB)) ∧ Below w.heap.size w w' := by
  obtain ⟨i2, hk0, hu0, hu1, hu2⟩ := info_parts strinfo
  have hb0 := (Below.refl w.heap.size w).alloc (Nat.le_refl _) (.cells #[.string n, .string v] 61)
  have hasc : ∀ (j : Nat) b, v.data.toList[j]? = some b → b.toNat < 128 := by
    intro j b hb
    have hm := List.mem_of_getElem? hb
    have h := hp
    rw [← prog_printable] at h
    unfold progV at h
    simp only [Bool.and_eq_true] at h
    have := List.all_eq_true.1 h.2 b hm
    rw [rng_plain] at this
    unfold rngC at this
    simp only [Bool.and_eq_true, decide_eq_true_eq] at this
    omega
  have hF := Tryz.strings_Fields v (w.alloc (.cells #[.string n, .string v] 61)) (by omega) hasc (hG.next hb0).2
  rw [fields_words v.data.toList hp] at hF
  have hwl : (flatW (wordsF v.data.toList)).length ≤ v.size + 1 := by
    rw [flat_words, ba_size]
    split <;> simp
  have hwn : (wordsF v.data.toList).length ≤ v.size + 1 := by
    unfold wordsF
    split
    · simp
    · have := split_len v.data.toList
      rw [← ba_size] at this
      exact this
  obtain ⟨ls, hls⟩ : ∃ ls, linesF (n.data.toList, v.data.toList) = ls := ⟨_, rfl⟩
  rw [hls]
  have HLS := Lib.hid (show ls = foldG (n.data.toList ++ [58]) true (wordsF v.data.toList) from hls.symm)
  generalize wordsF v.data.toList = ws at *
  clear hasc hp hls hG
  have hSw : Sl1 ((w.alloc (.cells #[.string n, .string v] 61)).alloc (.cells ((ws.map fun l => Value.string ⟨l.toArray⟩).toArray) 9)) (some ⟨(w.alloc (.cells #[.string n, .string v] 61)).heap.size, 0, none⟩) (ws.map mkB) := by
    have := Sl.lit (w.alloc (.cells #[.string n, .string v] 61)) 1 (cells1 (ws.map mkB)) 9 (ws.map mkB).length (by simp [cells1])
    rw [cells1_mk] at this
    unfold Sl1
    rw [cells1_mk]
    exact this
  have hb1 := hb0.alloc hb0.size (.cells ((ws.map fun l => Value.string ⟨l.toArray⟩).toArray) 9)
  have hwz : w.heap.size + 1 ≤ ((w.alloc (.cells #[.string n, .string v] 61)).alloc (.cells ((ws.map fun l => Value.string ⟨l.toArray⟩).toArray) 9)).heap.size := by simp
  have hln : (ws.map mkB).length = ws.length := List.length_map ..
  have hcol : n ++ ⟨#[58]⟩ = mkB (n.data.toList ++ [58]) := by
    refine eq_of_lists ?_
    rw [ByteArray.data_append, Array.toList_append, mkB_list]
  have HCOL := Lib.hid hcol
  have g0 : ¬ 9223372036854775807 < n.size + (⟨#[58]⟩ : ByteArray).size := by have : (⟨#[58]⟩ : ByteArray).size = 1 := rfl; omega
  clear hcol hb0
  go_enter Tryz.func75, Tryz.ntmps75
  go_wp2_with fail
  rw [HCOL.out]
  refine hF.mono ?_
  rintro e w1 ⟨rfl, rfl⟩
  clear hF
  revert hSw hb1 hwz
  generalize ((w.alloc (.cells #[.string n, .string v] 61)).alloc (.cells ((ws.map fun l => Value.string ⟨l.toArray⟩).toArray) 9)) = wz
  generalize (w.alloc (.cells #[.string n, .string v] 61)).heap.size = gw
  intro hSw hb1 hwz
  have HSW := Lib.hid hSw
  have HB1 := Lib.hid hb1
  clear hSw hb1
  have e0 : wz.ownsRow wz.heap.size 9 1 (.slice none 0 0) ([] : List (List UInt8)).length (cells1 (([] : List (List UInt8)).map mkB)) := World.ownsRow_nil _ _ _ _
  have E0 := Lib.hid e0
  clear e0
  have hL0 : (n.data.toList ++ [58]).length = n.size + 1 := by rw [List.length_append, ← ba_size]; rfl
  have HL0 := Lib.hid hL0
  clear hL0
  go_wp2
  go_loopw [3, 4, 14] (fun v3 v4 v14 wr => ∃ (i : Nat) (acc : List (List UInt8)) (line : List UInt8), i ≤ ws.length ∧ v14 = .int .i64 i ∧ v4 = .string (mkB line) ∧ acc.length ≤ i ∧ line.length + (flatW (ws.drop i)).length ≤ n.size + v.size + 2 ∧ Hid (ls = acc ++ foldG line (decide (i = 0)) (ws.drop i)) ∧ Hid (wr.ownsRow wz.heap.size 9 1 v3 acc.length (cells1 (acc.map mkB))) ∧ Hid (Below wz.heap.size wz wr)) (fun _ _ v14 _ => ws.length - (intOf v14).toNat)
  case atStart => exact ⟨0, [], _, by omega, rfl, rfl, by simp, by rw [HL0.out, List.drop_zero]; omega, Lib.hid (by rw [HLS.out]; simp), E0, Lib.hid (Below.refl _ _)⟩
  case round =>
    obtain ⟨i, acc, line, hi, rfl, rfl, hacc, hlen, HQ, HR, HB⟩ := hrel
    have hlb : line.length ≤ 1000001002 := by omega
    by_cases h0 : i < ws.length
    · obtain ⟨x, hx⟩ : ∃ x, ws[i]? = some x := ⟨ws[i], List.getElem?_eq_getElem h0⟩
      have hxm : (ws.map mkB)[i]? = some (mkB x) := by rw [List.getElem?_map, hx]; rfl
      obtain ⟨ad, hade, had, d0⟩ := (HSW.out.below HB.out).at_ hxm
      simp only [Option.some.injEq] at hade
      subst hade
      have hfd := flatW_drop hx
      have hdr : ws.drop i = x :: ws.drop (i + 1) := by
        obtain ⟨hi', e⟩ := List.getElem?_eq_some_iff.1 hx
        rw [List.drop_eq_getElem_cons hi', e]
      have hst := HQ.out
      rw [hdr, foldG_step] at hst
      have hxl : x.length ≤ 1000001002 := by omega
      have hsx : (mkB x).size = x.length := mkB_size x
      have hsl : (mkB line).size = line.length := mkB_size line
      rw [Addr.add_lit, Nat.zero_add] at d0
      have g1 : ¬ 9223372036854775807 < (⟨#[32]⟩ : ByteArray).size + (mkB x).size := by have : (⟨#[32]⟩ : ByteArray).size = 1 := rfl; omega
      have happ : (⟨#[32]⟩ : ByteArray) ++ mkB x = mkB (32 :: x) := mkB_app [32] x
      have happ2 := mkB_app line (32 :: x)
      have hxs : (32 :: x).length = x.length + 1 := rfl
      have hz := HB.out.size
      by_cases hf : (!decide (i = 0) && decide (76 < line.length + 1 + x.length)) = true
      · rw [if_pos hf] at hst
        simp only [Bool.and_eq_true, Bool.not_eq_true', decide_eq_false_iff_not, decide_eq_true_eq] at hf
        obtain ⟨hf0, hf1⟩ := hf
        have HST : Hid (ls = (acc ++ [line]) ++ foldG (32 :: x) (decide (i + 1 = 0)) (ws.drop (i + 1))) := Lib.hid (by rw [hst, decide_eq_false (show ¬ i + 1 = 0 by omega)]; simp)
        have hi0 : (0 : Int) < i := by omega
        have h76 : (76 : Int) < ((mkB line).size : Int) + 1 + ((mkB x).size : Int) := by omega
        have g2 : ¬ 9223372036854775807 < (⟨#[]⟩ : ByteArray).size + ((⟨#[32]⟩ : ByteArray) ++ mkB x).size := by rw [happ, mkB_size]; have : (⟨#[]⟩ : ByteArray).size = 0 := rfl; omega
        have hemp : (⟨#[]⟩ : ByteArray) ++ ((⟨#[32]⟩ : ByteArray) ++ mkB x) = mkB (32 :: x) := by rw [happ]; exact mkB_app [] (32 :: x)
        have HEMP := Lib.hid hemp
        obtain ⟨vA, vc, rfl⟩ := own_shape HR.out
        clear hst hx hxm hdr HQ happ happ2 hemp
        generalize mkB x = bx at *
        generalize hbl : mkB line = bl at h76 hsl ⊢
        have HBL := Lib.hid hbl
        clear hbl
        go_wp2_with (at_builtin; apply Classical.byContradiction; intro hNG)
        refine hNG ?_
        refine wpList_append_sl _ rfl _ _ _ rfl wz.heap.size 9 i2 _ 1 16 Tryz.underlying65 hk0 hu0 hu1 hu2 rfl (by omega) _ acc.length (cells1 (acc.map mkB)) rfl (HR.out.alloc _) (some ⟨wr.heap.size, 0, none⟩) 1 1 [.string bl] rfl (Sl.lit wr 1 [.string bl] _ 1 rfl) (cells1_one [bl]) (by simp only [maxLen]; omega) (by omega) (by simp; omega) ?_
        intro v5 w5 hown5 hg5 hat5
        have HB5 := Lib.hid ((HB.out.alloc hz (.cells #[.string bl] 9)).grown hg5 (by simp; omega) (fun k hk => (HR.out.lt k hk).1))
        have HR5 := Lib.hid hown5
        clear hown5 hg5 hat5 hNG
        go_wp2
        go_roundw
        case rel => exact ⟨i + 1, acc ++ [line], 32 :: x, by omega, by go_num, by rw [HEMP.out], by rw [List.length_append, List.length_singleton]; omega, by rw [hxs]; omega, HST, Lib.hid (by
          have := HR5.out
          rw [List.length_append, List.length_singleton, List.map_append, cells1_append, List.map_singleton, HBL.out]
          exact this), HB5⟩
        case measure => simp [intOf]; omega
      · rw [if_neg hf] at hst
        have HST : Hid (ls = acc ++ foldG (line ++ 32 :: x) (decide (i + 1 = 0)) (ws.drop (i + 1))) := Lib.hid (by rw [hst, decide_eq_false (show ¬ i + 1 = 0 by omega)])
        have g2 : ¬ 9223372036854775807 < (mkB line).size + ((⟨#[32]⟩ : ByteArray) ++ mkB x).size := by rw [happ, mkB_size line, mkB_size (32 :: x)]; omega
        have hsum : mkB line ++ ((⟨#[32]⟩ : ByteArray) ++ mkB x) = mkB (line ++ 32 :: x) := by rw [happ, happ2]
        have HSUM := Lib.hid hsum
        have hor : i = 0 ∨ (0 < i ∧ ¬ 76 < line.length + 1 + x.length) := by
          simp only [Bool.and_eq_true, Bool.not_eq_true', decide_eq_false_iff_not, decide_eq_true_eq, not_and] at hf
          by_cases h : i = 0
          · exact .inl h
          · exact .inr ⟨by omega, hf h⟩
        clear hst hx hxm hdr HQ happ happ2 hsum hf
        have HLN := Lib.hid (show (line ++ 32 :: x).length = line.length + 1 + x.length by rw [List.length_append]; omega)
        generalize mkB x = bx at *
        generalize mkB line = bl at *
        rcases hor with rfl | ⟨hi0, h76⟩
        · go_wp2
          go_roundw
          case rel => exact ⟨0 + 1, acc, line ++ 32 :: x, by omega, by go_num, by rw [HSUM.out], by omega, by rw [HLN.out]; omega, HST, HR, HB⟩
          case measure => simp [intOf]; omega
        · have hi1 : (0 : Int) < i := by omega
          have h77 : ¬ (76 : Int) < (bl.size : Int) + 1 + (bx.size : Int) := by omega
          go_wp2
          go_roundw
          case rel => exact ⟨i + 1, acc, line ++ 32 :: x, by omega, by go_num, by rw [HSUM.out], by omega, by rw [HLN.out]; omega, HST, HR, HB⟩
          case measure => simp [intOf]; omega
    · have HE : Hid (ls = acc ++ [line]) := Lib.hid (by rw [HQ.out, List.drop_eq_nil_of_le (by omega)]; rfl)
      obtain ⟨vA, vc, rfl⟩ := own_shape HR.out
      have hz := HB.out.size
      have HBL := Lib.hid (show acc.map mkB ++ [mkB line] = (acc ++ [line]).map mkB by rw [List.map_append]; rfl)
      generalize mkB line = bl at *
      clear HQ
      go_wp2_with (at_builtin; apply Classical.byContradiction; intro hNG)
      refine hNG ?_
      refine wpList_append_sl _ rfl _ _ _ rfl wz.heap.size 9 i2 _ 1 16 Tryz.underlying65 hk0 hu0 hu1 hu2 rfl (by omega) _ acc.length (cells1 (acc.map mkB)) rfl (HR.out.alloc _) (some ⟨wr.heap.size, 0, none⟩) 1 1 [.string bl] rfl (Sl.lit wr 1 [.string bl] _ 1 rfl) (cells1_one [bl]) (by simp only [maxLen]; omega) (by omega) (by simp; omega) ?_
      intro v5 w5 hown5 hg5 hat5
      have HB5 := Lib.hid (HB1.out.trans (((HB.out.alloc hz (.cells #[.string bl] 9)).grown hg5 (by simp; omega) (fun k hk => (HR.out.lt k hk).1)).mono HB1.out.size))
      obtain ⟨g, vd, rfl, HS5⟩ : ∃ g cap, v5 = .slice (some ⟨g, 0, none⟩) (acc.length + 1) cap ∧ OwnS w5 g cap ((acc ++ [line]).map mkB) := by
        rcases hown5.2 with ⟨_, hx⟩ | ⟨g, cap, cur, hv, _, hg, hle, _, _, htk⟩
        · omega
        · refine ⟨g, cap, hv, cur, hg, by rw [List.length_map, List.length_append, List.length_singleton]; exact hle, ?_⟩
          rw [← HBL.out, List.length_append, List.length_singleton, List.length_map, cells1_append]
          rw [Nat.mul_one] at htk
          exact htk
      have HS6 := Lib.hid HS5
      clear hown5 hg5 hat5 hNG HS5
      go_wp2
      go_ret
      rw [HE.out]
      refine ⟨⟨g, vd, ?_, HS6.out⟩, HB5.out⟩
      rw [List.length_append, List.length_singleton]; rfl
end Go.Proofs.YtmabhbihgenmcaaGreatDoor
