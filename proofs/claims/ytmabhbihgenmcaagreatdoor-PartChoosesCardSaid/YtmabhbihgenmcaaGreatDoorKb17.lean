/- QcH. -/
import Derived.Shelf.Strings.Split
import Derived.Test.YtmabhbihgenmcaaGreatDoorKb6
import Derived.Test.YtmabhbihgenmcaaGreatDoorKb13
import Derived.Test.YtmabhbihgenmcaaGreatDoorKb16
namespace Wb
open Go Go.RowKit
def ChoseN (l : List Pt) (n : Nat) : Prop := 1 ≤ n ∧ n < 1000000 ∧ clashL (wbM n) l = false ∧ ∀ k, 1 ≤ k → k < n → clashL (wbM k) l = true
theorem chose_ex {l : List Pt} (h : (covL l).length < 900000) : ∃ n, ChoseN l n := by
  obtain ⟨m, h1, h2, h3⟩ := some_free h
  obtain ⟨a1, a2, a3, a4⟩ := chooseF_free l 1000000 1 m (by omega) (by omega) h3
  exact ⟨chooseF l 1000000 1, a2, by omega, a1, a4⟩
theorem splitW_len : ∀ (f : Nat) (s : List UInt8), s.length < f → (Lib.split s sepW).length = Lib.count s sepW + 1
  | 0, _, h => by omega
  | f + 1, s, hf => by
    rcases Lib.index_spec s sepW with ⟨h, _⟩ | ⟨i, h, hi, ho, _⟩
    · rw [split_miss h, Lib.count_miss h]
      rfl
    · have hl := (List.isPrefixOf_iff_prefix.1 ho).length_le
      rw [List.length_drop] at hl
      have h6 : sepW.length = 6 := rfl
      rw [split_hit h, Lib.count_hit (by decide) h, List.length_cons, h6, splitW_len f _ (by rw [List.length_drop]; omega)]
      omega
theorem splitK_le (sep : List UInt8) : ∀ (k : Nat) (s p : List UInt8), p ∈ Lib.splitK sep 0 k s → p.length ≤ s.length
  | 0, s, p, h => by
    simp only [Lib.splitK, List.mem_singleton] at h
    rw [h]
    exact Nat.le_refl _
  | k + 1, s, p, h => by
    rw [Lib.splitK] at h
    split at h
    · rw [List.mem_singleton.1 h]
      exact Nat.le_refl _
    · rcases List.mem_cons.1 h with rfl | h
      · rw [List.length_take]; omega
      · have := splitK_le sep k _ p h
        rw [List.length_drop] at this
        omega
def sepB : ByteArray := ⟨#[13, 10, 45, 45, 119, 98]⟩
def piecesB (s : ByteArray) : List ByteArray := Lib.splitB sepB 0 (Lib.countB s sepB) s
theorem pieces_list (s : ByteArray) : (piecesB s).map (·.data.toList) = Lib.split s.data.toList sepW := Lib.splitB_data sepB 0 _ s
theorem pieces_len (s : ByteArray) : (piecesB s).length = Lib.countB s sepB + 1 := by
  have h := congrArg List.length (pieces_list s)
  rw [List.length_map] at h
  rw [h, splitW_len _ s.data.toList (Nat.lt_succ_self _)]
  rfl
theorem pieces_size {s p : ByteArray} (h : p ∈ piecesB s) : p.size ≤ s.size := by
  have h2 : p.data.toList ∈ Lib.split s.data.toList sepW := by
    rw [← pieces_list]
    exact List.mem_map.2 ⟨p, h, rfl⟩
  have := splitK_le sepW _ _ _ h2
  rw [ba_size, ba_size]
  exact this
theorem count_le (s : ByteArray) : Lib.countB s sepB ≤ s.size + 1 := by
  have := Lib.count_le s.data.toList sepB.data.toList
  rw [ba_size]
  exact this
def tkH (x : Pr) : List Nat := takenH x.1.data.toList
theorem tkH_eq (x : Pr) : tkH x = if Lib.hasPrefix x.1.data.toList [45, 45, 119, 98] = true then takesF 0 (Lib.trimPrefix x.1.data.toList [45, 45, 119, 98]) else [] := by
  unfold tkH takenH Lib.trimPrefix Lib.hasPrefix
  split
  · rfl
  · rfl
def tkB (s : ByteArray) : List Nat := ((piecesB s).drop 1).flatMap fun p => takesF 0 p.data.toList
theorem tkB_eq (body s : ByteArray) (h : s.data.toList = 13 :: 10 :: body.data.toList) : tkB s = takenB body.data.toList := by
  unfold tkB takenB
  rw [← h, ← pieces_list, ← List.map_drop, List.flatMap_map]
theorem takenP_eq (x : PtV) (s : ByteArray) (h : s.data.toList = 13 :: 10 :: x.2.2.data.toList) : takenP (ptOf x) = x.2.1.flatMap tkH ++ tkB s := by
  unfold takenP ptOf
  rw [tkB_eq x.2.2 s h, List.flatMap_map]
  rfl
theorem takenL_step {L : List PtV} {i : Nat} {x : PtV} (h : L[i]? = some x) : takenL (ptsOf (L.take (i + 1))) = takenL (ptsOf (L.take i)) ++ takenP (ptOf x) := by
  rw [List.take_add_one, h]
  unfold ptsOf takenL
  rw [List.map_append, List.flatMap_append]
  simp
theorem tot7_take (l : List Pr) (k : Nat) : tot7 (l.take k) ≤ tot7 l := by
  unfold tot7
  conv => rhs; rw [← List.take_append_drop k l]
  rw [List.map_append, List.sum_append]
  omega
theorem flat_step {α : Type} {l : List α} {f : α → List Nat} {i : Nat} {x : α} (h : l[i]? = some x) : (l.take (i + 1)).flatMap f = (l.take i).flatMap f ++ f x := by
  rw [List.take_add_one, h, List.flatMap_append]
  simp
end Wb
namespace Go.Proofs.YtmabhbihgenmcaaGreatDoor
open Go.RowKit Wb Go.Maps
def PartZ (x : PtV) : Prop := x.2.2.size ≤ 20000 ∧ x.2.1.length ≤ 5000 ∧ tot7 x.2.1 ≤ 100000
def CntL (w : World) (b : Nat) (acc : List Nat) (n : Nat) : Prop := CntU w b n (fun x => acc.count x) ∧ acc.length ≤ n
theorem CntL.kept {w w' : World} {b n : Nat} {acc : List Nat} {row : Option Nat} (h : CntL w b acc n) (hg : w.grownBy w' row) (hne : some b ≠ row) : CntL w' b acc n := ⟨h.1.kept hg hne, h.2⟩
theorem CntL.take {w' : World} {b n : Nat} {acc : List Nat} {s : ByteArray} (h1 : acc.length ≤ n) (h : CntU w' b (n + s.size) (fun x => acc.count x + (takesF 0 s.data.toList).count x)) : CntL w' b (acc ++ takesF 0 s.data.toList) (n + s.size) := by
  refine ⟨?_, ?_⟩
  · have e : (fun x => (acc ++ takesF 0 s.data.toList).count x) = fun x => acc.count x + (takesF 0 s.data.toList).count x := funext fun x => List.count_append
    rw [e]
    exact h
  · have := takes_len s.data.toList 0
    rw [List.length_append, ba_size]
    omega
theorem takeL_any (b n : Nat) (acc : List Nat) (s : ByteArray) (w : World) (hC : CntL w b acc n) (hs : s.size ≤ 1000000) (hn : n ≤ 990000000000) :
    Calls Tryz.prog 28 #[.map (some b), .string s] w fun e w' => e = .returned (.tuple #[]) ∧ CntL w' b (acc ++ takesF 0 s.data.toList) (n + s.size) ∧ w.grownBy w' (some b) :=
  (take_any b n (fun x => acc.count x) s w hC.1 (by omega) (by omega) (fun x => by have := List.count_le_length (a := x) (l := acc); have := hC.2; omega)).mono fun _ _ h => ⟨h.1, CntL.take hC.2 h.2.1, h.2.2⟩
theorem slice_from1 (e1 cnt : Nat) : ∃ B : Addr, (∀ W, (Instr.slice 65 (.slice (some ⟨e1, 0, none⟩) (cnt + 1) (cnt + 1)) (some (.int .i64 1)) none none).run Tryz.prog W = .ok (.slice (some B) cnt cnt) W) ∧ (0 < cnt → B = ⟨e1, 1, none⟩) := by
  have ht : Tryz.prog.underlying 65 = some (.slice (Tryz.prog.elem 65)) := by kernel_rfl
  have hsz : ∀ W, (sizeOf (Tryz.prog.elem 65)).run Tryz.prog W = .ok 1 W := fun W => by kernel_rfl
  by_cases h : cnt = 0
  · subst h
    refine ⟨⟨e1, 0, none⟩, fun W => ?_, fun h => by omega⟩
    rw [run_slice_l W 65 _ _ _ ht .i64 1 (by omega) (by omega), hsz W]
    unfold sliced
    simp [Result.andThen]
  · refine ⟨⟨e1, 1, none⟩, fun W => ?_, fun _ => rfl⟩
    rw [run_slice_l W 65 _ _ _ ht .i64 1 (by omega) (by omega), hsz W]
    unfold sliced
    simp [Result.andThen, Addr.add, h]
set_option maxRecDepth 100000 in
set_option maxHeartbeats 8000000 in
theorem choose_any (A : Option Addr) (L : List PtV) (c n : Nat) (w : World) (hS : SlP w A L) (hl : L.length ≤ 60) (hz : ∀ x ∈ L, PartZ x) (hn : ChoseN (ptsOf L) n) (hG : GvP w) :
    Calls Tryz.prog 11 #[.slice A L.length c] w fun e w' => e = .returned (.string (mkB (wbM n))) ∧ Below w.heap.size w w' := by
  have hmm := @run_makeMap Tryz.prog
  have HS := Lib.hid hS
  have HZ := Lib.hid hz
  have HN := Lib.hid hn
  have HG := Lib.hid hG
  clear hS hz hn hG
  have HB0 := Lib.hid ((Below.refl w.heap.size w).alloc (Nat.le_refl _) (.map #[] 0))
  have HC0 : Hid (CntL (w.alloc (.map #[] 0)) w.heap.size [] 0) := Lib.hid ⟨by simpa using CntU.made w, by simp⟩
  go_enter Tryz.func11, Tryz.ntmps11
  go_wp2
  go_loopw [16] (fun v16 wr => ∃ (i m : Nat), i ≤ L.length ∧ v16 = .int .i64 i ∧ m ≤ i * 2000000000 ∧ Hid (CntL wr w.heap.size (takenL (ptsOf (L.take i))) m) ∧ Hid (Below w.heap.size w wr)) (fun v16 _ => L.length - (intOf v16).toNat)
  case atStart => exact ⟨0, 0, by omega, rfl, by omega, Lib.hid (by simpa [takenL, ptsOf] using HC0.out), HB0⟩
  case round =>
    obtain ⟨i, m, hi, rfl, hm, HC, HB⟩ := hrel
    by_cases h0 : i < L.length
    · obtain ⟨⟨⟨x1, x3⟩, ⟨fs, body⟩⟩, hx⟩ : ∃ x, L[i]? = some x := ⟨L[i], List.getElem?_eq_getElem h0⟩
      obtain ⟨zb, zl, zt⟩ := HZ.out _ (List.mem_of_getElem? hx)
      obtain ⟨ad, rfl, had, d0, d1, hfs⟩ := (HS.out.below HB.out).at_ hx
      have hst := takenL_step hx
      have hsm := HS.out.2 _ (List.mem_of_getElem? hx)
      simp only at zb zl zt d0 d1 hsm
      obtain ⟨s13, hs13⟩ : ∃ s13, (⟨#[13, 10]⟩ : ByteArray) ++ body = s13 := ⟨_, rfl⟩
      have hl13 : s13.data.toList = 13 :: 10 :: body.data.toList := by
        rw [← hs13, ByteArray.data_append, Array.toList_append]
        rfl
      have hz13 : s13.size = 2 + body.size := by rw [← hs13, ByteArray.size_append]; rfl
      have htp := takenP_eq ((x1, x3), (fs, body)) s13 hl13
      simp only at htp
      rw [htp] at hst
      clear htp hl13 hfs hx
      have hcl := HC.out.1.lt
      generalize hacc : takenL (ptsOf (L.take i)) = acc0 at *
      have HST := Lib.hid hst
      have HSM := Lib.hid hsm
      have HS13 := Lib.hid hs13
      obtain ⟨w1, hw1⟩ : ∃ w1, wr.alloc (.cells #[.slice x1 fs.length x3, .string body] 43) = w1 := ⟨_, rfl⟩
      have hb1 : Below wr.heap.size wr w1 := by rw [← hw1]; exact (Below.refl _ _).alloc (Nat.le_refl _) _
      have hp : w1.heap[wr.heap.size]? = some (.cells #[.slice x1 fs.length x3, .string body] 43 (0, 0)) := by rw [← hw1]; exact heap_alloc_new _ _
      have p0 := blk_cell hp 0
      have p1 := blk_cell hp 1
      simp only [List.getElem?_toArray, List.getElem?_cons_zero, List.getElem?_cons_succ] at p0 p1
      have HC1 := Lib.hid (HC.out.kept (below_grown hb1 none) (by simp))
      have HB1 := Lib.hid (HB.out.trans (hb1.mono HB.out.size))
      have HP1 := Lib.hid p1
      have HW1 := Lib.hid hw1
      have hwr := HB.out.size
      clear hst hsm hs13 hb1 hp p1 hw1 hacc
      have hw1s := (World.block_lt_of_cell? _ _ p0)
      go_upto_region 5 with fail
      rw [HW1.out]
      clear HW1
      generalize wr.heap.size = e0 at *
      go_wp2
      go_loopw [23] (fun v23 wq => ∃ k m2 : Nat, k ≤ fs.length ∧ v23 = .int .i64 k ∧ m2 ≤ m + tot7 (fs.take k) ∧ Hid (CntL wq w.heap.size (acc0 ++ (fs.take k).flatMap tkH) m2) ∧ Hid (w1.grownBy wq (some w.heap.size))) (fun v23 _ => fs.length - (intOf v23).toNat)
      case atStart => exact ⟨0, m, by omega, rfl, by simp, Lib.hid (by simpa using HC1.out), Lib.hid (World.grownBy.refl _ _)⟩
      case round =>
        obtain ⟨k, m2, hk, rfl, hm2, HC2, HG2⟩ := hrel
        have hb2 : Below w.heap.size w wr := HB1.out.grown HG2.out HB1.out.size (fun k hk => by injection hk with hk; omega)
        have HB2 := Lib.hid hb2
        have hw1q := HG2.out.size
        by_cases hk0 : k < fs.length
        · obtain ⟨⟨f1, f2⟩, hf⟩ : ∃ f, fs[k]? = some f := ⟨fs[k], List.getElem?_eq_getElem hk0⟩
          obtain ⟨bd, rfl, hbd, b0, b1⟩ := (HSM.out.below hb2).at_ hf
          have hfm := tot7_mem (List.mem_of_getElem? hf)
          have hts := tot7_step hf
          have hte := tkH_eq (f1, f2)
          have HFT := Lib.hid (flat_step (f := tkH) hf)
          simp only at hfm hts hte b0 b1
          obtain ⟨w2, hw2⟩ : ∃ w2, wr.alloc (.cells #[.string f1, .string f2] 61) = w2 := ⟨_, rfl⟩
          have hb3 : Below wr.heap.size wr w2 := by rw [← hw2]; exact (Below.refl _ _).alloc (Nat.le_refl _) _
          have hq : w2.heap[wr.heap.size]? = some (.cells #[.string f1, .string f2] 61 (0, 0)) := by rw [← hw2]; exact heap_alloc_new _ _
          have q0 := blk_cell hq 0
          simp only [List.getElem?_toArray, List.getElem?_cons_zero] at q0
          have HC3 := Lib.hid (HC2.out.kept (below_grown hb3 none) (by simp))
          have HG3 := Lib.hid (HG2.out.trans (below_grown hb3 (some w.heap.size)))
          have hcp := Tryz.strings_CutPrefix f1 ⟨#[45, 45, 119, 98]⟩ w2
          rw [show (⟨#[45, 45, 119, 98]⟩ : ByteArray).data.toList = [45, 45, 119, 98] from rfl] at hcp
          have HW2 := Lib.hid hw2
          clear hf hb3 hq hw2 hb2
          go_upto_region 8 with fail
          rw [HW2.out]
          clear HW2
          cases hpf : Lib.hasPrefix f1.data.toList [45, 45, 119, 98]
          · rw [hpf] at hcp hte
            rw [if_neg (by simp)] at hte
            have HTE := Lib.hid hte
            clear hpf hte
            go_wp2_with fail
            refine hcp.mono ?_
            rintro e w3 ⟨rfl, rfl⟩
            clear hcp
            go_wp2
            go_roundw
            case rel => exact ⟨k + 1, m2, by omega, by go_num, by rw [hts]; omega, Lib.hid (by rw [HFT.out, HTE.out, List.append_nil]; exact HC3.out), HG3⟩
            case measure => simp [intOf]; omega
          · rw [hpf] at hcp hte
            rw [if_pos rfl] at hte
            have hts2 : (⟨(Lib.trimPrefix f1.data.toList [45, 45, 119, 98]).toArray⟩ : ByteArray).size ≤ f1.size := by
              rw [Lib.size_mk]
              unfold Lib.trimPrefix
              rw [if_pos hpf, List.length_drop, ba_size]
              omega
            have HTE : Hid (tkH (f1, f2) = takesF 0 (⟨(Lib.trimPrefix f1.data.toList [45, 45, 119, 98]).toArray⟩ : ByteArray).data.toList) := Lib.hid hte
            clear hpf hte
            generalize (⟨(Lib.trimPrefix f1.data.toList [45, 45, 119, 98]).toArray⟩ : ByteArray) = tp at *
            have htk := takeL_any w.heap.size m2 _ tp w2 HC3.out (by omega) (by have := tot7_take fs k; omega)
            go_wp2_with fail
            refine hcp.mono ?_
            rintro e w3 ⟨rfl, rfl⟩
            clear hcp
            go_wp2_with fail
            refine htk.mono ?_
            rintro e w4 ⟨rfl, hC4, hG4⟩
            have HC4 := Lib.hid hC4
            have HG4 := Lib.hid (HG3.out.trans hG4)
            clear htk hC4 hG4
            go_wp2
            go_roundw
            case rel => exact ⟨k + 1, m2 + tp.size, by omega, by go_num, by rw [hts]; omega, Lib.hid (by rw [HFT.out, HTE.out, ← List.append_assoc]; exact HC4.out), HG4⟩
            case measure => simp [intOf]; omega
        · obtain rfl : k = fs.length := by omega
          rw [List.take_of_length_le (Nat.le_refl _)] at hm2
          have hC2 := HC2.out
          rw [List.take_of_length_le (Nat.le_refl _)] at hC2
          have HC3 := Lib.hid hC2
          have p1 : wr.cell? ⟨e0, 1, none⟩ = some (.string body) := HG2.out.cell HP1.out (by simp; omega)
          obtain ⟨⟨mm, hmm2⟩, _⟩ := (HG.out.next hb2).1
          have hsp := Tryz.strings_Split s13 sepB mm wr (by omega) hmm2 (by decide)
          have hg1 : ¬ 9223372036854775807 < (⟨#[13, 10]⟩ : ByteArray).size + body.size := by have : (⟨#[13, 10]⟩ : ByteArray).size = 2 := rfl; omega
          have hcn := count_le s13
          have hpl := pieces_len s13
          clear hC2 HC2 hb2 hmm2
          have HS13e := HS13.out
          obtain ⟨w5, hw5⟩ : ∃ w5, wr.alloc (.cells ((Lib.splitB sepB 0 (Lib.countB s13 sepB) s13).map Value.string).toArray 9) = w5 := ⟨_, rfl⟩
          rw [hw5] at hsp
          have hb5 : Below wr.heap.size wr w5 := by rw [← hw5]; exact (Below.refl _ _).alloc (Nat.le_refl _) _
          have hpc : w5.heap[wr.heap.size]? = some (.cells ((piecesB s13).map Value.string).toArray 9 (0, 0)) := by rw [← hw5]; exact heap_alloc_new _ _
          have HPC := Lib.hid (fun (j : Nat) (p : ByteArray) (h : (piecesB s13)[j]? = some p) => (show w5.cell? ⟨wr.heap.size, j, none⟩ = some (.string p) from by
            have := blk_cell hpc j
            rw [this, List.getElem?_toArray, List.getElem?_map, h]
            rfl))
          have HC5 := Lib.hid (HC3.out.kept (below_grown hb5 none) (by simp))
          have HG5 := Lib.hid (HG2.out.trans (below_grown hb5 (some w.heap.size)))
          have HPL := Lib.hid hpl
          have hw5s : wr.heap.size < w5.heap.size := (Array.getElem?_eq_some_iff.1 hpc).1
          generalize Lib.countB s13 sepB = cnt at *
          clear hw5 hb5 hpc hpl
          go_wp2_with fail
          refine hsp.mono ?_
          rintro e w6 ⟨rfl, rfl⟩
          clear hsp
          clear HS13e
          generalize wr.heap.size = e1 at *
          have hs1 := slice_from1 e1 cnt
          obtain ⟨B1, hsl, hB1⟩ := hs1
          have HB1' := Lib.hid hB1
          clear hB1
          go_wp2
          have hs20 : s13.size ≤ 20002 := by omega
          have hcn2 : cnt ≤ 20003 := by omega
          have HB6 := Lib.hid (HB1.out.grown HG5.out HB1.out.size (fun k hk => by injection hk with hk; omega))
          go_loopw [44] (fun v44 wz => ∃ q m3 : Nat, q ≤ cnt ∧ v44 = .int .i64 q ∧ m3 ≤ m2 + q * 20002 ∧ Hid (CntL wz w.heap.size ((acc0 ++ fs.flatMap tkH) ++ (((piecesB s13).drop 1).take q).flatMap fun p => takesF 0 p.data.toList) m3) ∧ Hid (w6.grownBy wz (some w.heap.size))) (fun v44 _ => cnt - (intOf v44).toNat)
          case atStart => exact ⟨0, m2, by omega, rfl, by omega, Lib.hid (by simpa using HC5.out), Lib.hid (World.grownBy.refl _ _)⟩
          case round =>
            obtain ⟨q, m3, hq, rfl, hm3, HC6, HG6⟩ := hrel
            by_cases hq0 : q < cnt
            · obtain ⟨p, hp⟩ : ∃ p, (piecesB s13)[q + 1]? = some p := ⟨(piecesB s13)[q + 1]'(by rw [HPL.out]; omega), List.getElem?_eq_getElem _⟩
              have hps := pieces_size (List.mem_of_getElem? hp)
              have hp2 : ((piecesB s13).drop 1)[q]? = some p := by rw [List.getElem?_drop, Nat.add_comm]; exact hp
              have HFT := Lib.hid (flat_step (f := fun p : ByteArray => takesF 0 p.data.toList) hp2)
              have hcl6 : wr.cell? (B1.add q) = some (.string p) := by
                rw [HB1'.out (by omega), Lib.add_plain]
                have h := HPC.out (q + 1) p hp
                rw [Nat.add_comm] at h
                exact HG6.out.cell h (by simp; omega)
              have htk := takeL_any w.heap.size m3 _ p wr HC6.out (by omega) (by omega)
              clear hp hp2
              go_wp2_with fail
              refine htk.mono ?_
              rintro e w7 ⟨rfl, hC7, hG7⟩
              have HC7 := Lib.hid hC7
              have HG7 := Lib.hid (HG6.out.trans hG7)
              clear htk hC7 hG7
              go_wp2
              go_roundw
              case rel => exact ⟨q + 1, m3 + p.size, by omega, by go_num, by omega, Lib.hid (by rw [HFT.out, ← List.append_assoc]; exact HC7.out), HG7⟩
              case measure => simp [intOf]; omega
            · obtain rfl : q = cnt := by omega
              have HF : Hid (CntL wr w.heap.size (takenL (ptsOf (L.take (i + 1)))) m3) := Lib.hid (by
                have h := HC6.out
                rw [List.take_of_length_le (by rw [List.length_drop, HPL.out]; omega)] at h
                rw [HST.out, ← List.append_assoc]
                exact h)
              have HB7 := Lib.hid (HB6.out.grown HG6.out HB6.out.size (fun k hk => by injection hk with hk; omega))
              go_wp2
              go_roundw
              case rel => exact ⟨i + 1, m3, by omega, by go_num, by omega, HF, HB7⟩
              case measure => simp [intOf]; omega
    · obtain rfl : i = L.length := by omega
      have hC := HC.out.1
      rw [List.take_of_length_le (Nat.le_refl _)] at hC
      have HCE := Lib.hid hC
      clear hC HC hm
      go_wp2
      go_loopw [12] (fun v12 wy => ∃ k : Nat, 1 ≤ k ∧ k ≤ n ∧ v12 = .int .u64 k ∧ wy = wr) (fun v12 _ => n - (intOf v12).toNat)
      case atStart => exact ⟨1, by omega, HN.out.1, rfl, rfl⟩
      case round =>
        obtain ⟨k, hk1, hkn, rfl, rfl⟩ := hrel
        obtain ⟨D, hown, hat⟩ := HCE.out
        have hn6 := HN.out.2.1
        obtain ⟨cc, hlk, hat2, _⟩ := hown.lookup_int (Maps.int_keyed Tryz.underlying67) Tryz.underlying59 Tryz.underlying3 (zero_i _) (u64_key (x := k) (by omega))
        rw [hat k (by omega)] at hat2
        injection hat2 with hat2
        injection hat2 with _ hat2
        have hti := taken_iff (l := ptsOf L) hk1 (show k ≤ 2147483648 by omega)
        by_cases hlt : k < n
        · have hcl := HN.out.2.2.2 k hk1 hlt
          have hpos : 0 < cc := by
            have := List.count_pos_iff.2 (hti.2 hcl)
            rw [← hat2]
            simp only
            omega
          clear hat2 hti hcl hat hown
          have hwk : IntKind.u64.wrap ((k : Int) + 1) = (k : Int) + 1 := by rw [IntKind.wrap_u64]; omega
          go_wp2
          go_roundw
          case rel => exact ⟨k + 1, by omega, by omega, by go_num, by first | rfl | trivial⟩
          case measure => simp [intOf]; omega
        · obtain rfl : k = n := by omega
          have hz : cc = 0 := by
            have : (takenL (ptsOf L)).count k = 0 := List.count_eq_zero_of_not_mem fun h => by
              have := hti.1 h
              rw [HN.out.2.2.1] at this
              cases this
            rw [← hat2]
            simp only
            omega
          subst hz
          have hfm := fmtu_any k wr hk1 (by omega) (HG.out.next HB.out)
          have hjoin : (⟨#[119, 98]⟩ : ByteArray) ++ ⟨(digs k).toArray⟩ = mkB (wbM k) := mkB_app [119, 98] (digs k)
          have hdl := digs_le k 6 (by omega)
          have hds : (⟨(digs k).toArray⟩ : ByteArray).size = (digs k).length := Lib.size_mk _
          generalize (⟨(digs k).toArray⟩ : ByteArray) = db at *
          have HJ := Lib.hid hjoin
          have g5 : ¬ 9223372036854775807 < (⟨#[119, 98]⟩ : ByteArray).size + db.size := by have : (⟨#[119, 98]⟩ : ByteArray).size = 2 := rfl; omega
          clear hat2 hti hat hown hjoin
          go_wp2_with fail
          refine hfm.mono ?_
          rintro e w8 ⟨rfl, hb8⟩
          have HB8 := Lib.hid (HB.out.trans (hb8.mono HB.out.size))
          clear hb8 hfm hds
          go_wp2
          go_ret
          exact ⟨by rw [← HJ.out]; rfl, HB8.out⟩
end Go.Proofs.YtmabhbihgenmcaaGreatDoor
