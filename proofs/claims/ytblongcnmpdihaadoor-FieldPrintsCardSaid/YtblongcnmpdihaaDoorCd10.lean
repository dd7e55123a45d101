/- FeJ FeK. -/
import Derived.Lib.LaidTab
import Derived.Shelf.Strings.Fields
import Derived.Test.YtblongcnmpdihaaDoorCd9
namespace Wb
open Go
def mkB (l : List UInt8) : ByteArray := ⟨l.toArray⟩
theorem mkB_size (l : List UInt8) : (mkB l).size = l.length := Lib.size_mk l
theorem mkB_list (l : List UInt8) : (mkB l).data.toList = l := rfl
theorem eq_of_lists {a b : ByteArray} (h : a.data.toList = b.data.toList) : a = b := by
  rw [← ba_mk a, ← ba_mk b, h]
theorem trim_eq (s : ByteArray) : (((⟨(Lib.trimB s.data.toList 32).toArray⟩ : ByteArray).toList == s.toList) : Bool) = decide (Lib.trimB s.data.toList 32 = s.data.toList) := by
  rw [Lib.toList_data, Lib.toList_data, Bool.eq_iff_iff, beq_iff_eq, decide_eq_true_eq]
def idxS (p : ByteArray → Bool) : List ByteArray → Int
  | [] => -1
  | a :: l => if p a = true then 0 else if idxS p l < 0 then -1 else idxS p l + 1
theorem idxS_ge (p : ByteArray → Bool) : ∀ l, -1 ≤ idxS p l
  | [] => by simp [idxS]
  | a :: l => by
    have := idxS_ge p l
    unfold idxS
    split
    · omega
    · split <;> omega
theorem idxS_any (p : ByteArray → Bool) : ∀ l, decide (0 ≤ idxS p l) = l.any p
  | [] => rfl
  | a :: l => by
    have ih := idxS_any p l
    have := idxS_ge p l
    unfold idxS
    rw [List.any_cons]
    cases h : p a
    · rw [if_neg (by simp), Bool.false_or, ← ih]
      by_cases hn : idxS p l < 0
      · rw [if_pos hn, decide_eq_false (by omega), decide_eq_false (by omega)]
      · rw [if_neg hn, decide_eq_true (by omega), decide_eq_true (by omega)]
    · rw [if_pos rfl]; rfl
theorem idxS_drop {p : ByteArray → Bool} {l : List ByteArray} {i : Nat} {a : ByteArray} (h : l[i]? = some a) : idxS p (l.drop i) = if p a = true then 0 else if idxS p (l.drop (i + 1)) < 0 then -1 else idxS p (l.drop (i + 1)) + 1 := by
  obtain ⟨hi, e⟩ := List.getElem?_eq_some_iff.1 h
  rw [List.drop_eq_getElem_cons hi, e]
  rfl
def longS (l : List ByteArray) : Bool := l.any fun x => decide (998 < x.size)
theorem longS_B (ls : List (List UInt8)) : longS (ls.map mkB) = longB ls := by
  unfold longS longB
  rw [List.any_map]
  exact congrArg (fun q => ls.any q) (funext fun x => show decide (998 < (mkB x).size) = _ by rw [mkB_size])
theorem foldG_step (line : List UInt8) (first : Bool) (w : List UInt8) (ws : List (List UInt8)) : foldG line first (w :: ws) = if (!first && decide (76 < line.length + 1 + w.length)) = true then line :: foldG (32 :: w) false ws else foldG (line ++ 32 :: w) false ws := rfl
theorem flatW_drop {ws : List (List UInt8)} {i : Nat} {w : List UInt8} (h : ws[i]? = some w) : (flatW (ws.drop i)).length = 1 + w.length + (flatW (ws.drop (i + 1))).length := by
  obtain ⟨hi, e⟩ := List.getElem?_eq_some_iff.1 h
  rw [List.drop_eq_getElem_cons hi, e, flatW, List.length_cons, List.length_append]
  omega
theorem mkB_app (a b : List UInt8) : mkB a ++ mkB b = mkB (a ++ b) := by
  refine eq_of_lists ?_
  rw [ByteArray.data_append, Array.toList_append, mkB_list, mkB_list, mkB_list]
end Wb
namespace Go.Proofs.YtblongcnmpdihaaDoor
open Go.RowKit Wb
def GvF (w : World) : Prop := (∃ m, w.cell? ⟨2, 0, none⟩ = some (.int .i64 m)) ∧ Lib.TabIs Tryd.prog w "strings.asciiSpace" .u8 Lib.asciiSpaceTab
theorem GvF.next {w w' : World} (h : GvF w) (hb : Below w.heap.size w w') : GvF w' := by
  obtain ⟨⟨m, hm⟩, ht⟩ := h
  refine ⟨⟨m, ?_⟩, Go.Joins.tab_stays (g := 0) (by kernel_rfl) ht hb (Nat.le_refl _)⟩
  rw [hb.cell (World.block_lt_of_cell? w _ hm)]
  exact hm
set_option maxRecDepth 100000 in
set_option maxHeartbeats 1000000 in
theorem printable_any (s : ByteArray) (w : World) (hs : s.size ≤ 1000000000) (hG : GvF w) :
    Calls Tryd.prog 50 #[.string s] w fun e w' => e = .returned (.bool (printableF s.data.toList)) ∧ Below w.heap.size w w' := by
  obtain ⟨⟨m, hm⟩, _⟩ := hG
  have h1 := Tryd.strings_Contains s ⟨#[32, 32]⟩ m w (by omega) hm
  have h2 := fun v => Tryd.strings_Trim_one s 32 (by decide) v (by omega)
  have h3 := fun v => all_any (fun c => c != 9 && plainC c) 68 #[] s v hs (rng_tells v)
  have ht := trim_eq s
  have e1 : (⟨#[32, 32]⟩ : ByteArray).data.toList = [32, 32] := rfl
  rw [e1] at h1
  rw [← prog_printable]
  unfold progV
  have HB0 := Lib.hid (Below.refl w.heap.size w)
  clear hm e1
  generalize (⟨(Lib.trimB s.data.toList 32).toArray⟩ : ByteArray) = tr at *
  generalize decide (Lib.trimB s.data.toList 32 = s.data.toList) = b2 at *
  generalize s.data.toList.all (fun c => c != 9 && plainC c) = b3 at *
  cases hc : Lib.contains s.data.toList [32, 32]
  · rw [hc] at h1
    clear hc
    cases b2
    · go_enter Tryd.func50, Tryd.ntmps50
      go_wp2_with fail
      refine h1.mono ?_
      rintro e w1 ⟨rfl, rfl⟩
      clear h1
      go_wp2_with fail
      refine (h2 _).mono ?_
      rintro e w2 ⟨rfl, hb⟩
      have HB2 : Hid (Below w1.heap.size w1 w2) := Lib.hid (by rcases hb with rfl | rfl; exact Below.refl _ _; exact (Below.refl _ _).drew)
      clear hb h2
      go_wp2
      go_ret
      exact ⟨rfl, HB2.out⟩
    · go_enter Tryd.func50, Tryd.ntmps50
      go_wp2_with fail
      refine h1.mono ?_
      rintro e w1 ⟨rfl, rfl⟩
      clear h1
      go_wp2_with fail
      refine (h2 _).mono ?_
      rintro e w2 ⟨rfl, hb⟩
      have HB2 : Hid (Below w1.heap.size w1 w2) := Lib.hid (by rcases hb with rfl | rfl; exact Below.refl _ _; exact (Below.refl _ _).drew)
      clear hb h2
      go_wp2_with fail
      refine (h3 _).mono ?_
      rintro e w3 ⟨rfl, hb⟩
      have HB3 := Lib.hid (HB2.out.trans (hb.mono HB2.out.size))
      clear hb h3
      go_wp2
      go_ret
      exact ⟨rfl, HB3.out⟩
  · rw [hc] at h1
    clear hc ht
    go_enter Tryd.func50, Tryd.ntmps50
    go_wp2_with fail
    refine h1.mono ?_
    rintro e w1 ⟨rfl, rfl⟩
    clear h1
    go_wp2
    go_ret
    exact ⟨rfl, HB0.out⟩
theorem long_clos (x : ByteArray) (w : World) (hx : x.size ≤ 4000000000) : Calls Tryd.prog 59 #[.string x] w fun e w' => e = .returned (.bool (decide (998 < x.size))) ∧ Below w.heap.size w w' := by
  have HB0 := Lib.hid (Below.refl w.heap.size w)
  go_enter Tryd.func59, Tryd.ntmps59
  go_wp2
  go_ret
  exact ⟨ret_b (by simp <;> omega), HB0.out⟩
set_option maxRecDepth 100000 in
set_option maxHeartbeats 1000000 in
theorem idxStr_any (A : Option Addr) (l : List ByteArray) (c : Nat) (w : World) (hA : Sl1 w A l) (hl : l.length ≤ 1000000001) (hsz : ∀ x ∈ l, x.size ≤ 4000000000) :
    Calls Tryd.prog 73 #[.slice A l.length c, .func (.func 59) #[] #[]] w fun e w' => e = .returned (.int .i64 (idxS (fun x => decide (998 < x.size)) l)) ∧ Below w.heap.size w w' := by
  obtain ⟨R, hR⟩ : ∃ R, idxS (fun x => decide (998 < x.size)) l = R := ⟨_, rfl⟩
  rw [hR]
  have HR := Lib.hid hR
  have HA := Lib.hid hA
  have HS := Lib.hid hsz
  clear hR hA hsz
  go_enter Tryd.func73, Tryd.ntmps73
  go_wp2
  go_loopw [8] (fun vi wr => ∃ i : Nat, i ≤ l.length ∧ vi = .int .i64 i ∧ Hid (R = if idxS (fun x => decide (998 < x.size)) (l.drop i) < 0 then -1 else idxS (fun x => decide (998 < x.size)) (l.drop i) + i) ∧ Hid (Below w.heap.size w wr)) (fun vi _ => ((l.length : Int) - intOf vi).toNat)
  case atStart => exact ⟨0, by omega, rfl, Lib.hid (by
    rw [List.drop_zero, HR.out]
    have := idxS_ge (fun x => decide (998 < x.size)) l
    rw [HR.out] at this
    split <;> omega), Lib.hid (Below.refl _ _)⟩
  case round =>
    obtain ⟨i, hi, rfl, HQ, HB⟩ := hrel
    by_cases h0 : i < l.length
    · obtain ⟨a, ha⟩ : ∃ a, l[i]? = some a := ⟨l[i], List.getElem?_eq_getElem h0⟩
      obtain ⟨ad, rfl, had, d0⟩ := (HA.out.below HB.out).at_ ha
      have hc := long_clos a wr (HS.out a (List.mem_of_getElem? ha))
      by_cases hq : 998 < a.size
      · rw [decide_eq_true hq] at hc
        have HST : Hid (R = i) := Lib.hid (by
          have hx0 : idxS (fun x => decide (998 < x.size)) (l.drop i) = 0 := by rw [idxS_drop ha, if_pos (decide_eq_true hq)]
          rw [HQ.out, hx0]
          simp)
        clear hq ha
        go_wp2_with fail
        refine hc.mono ?_
        rintro e w3 ⟨rfl, hb3⟩
        have HB3 := Lib.hid (HB.out.trans (hb3.mono HB.out.size))
        clear hb3 hc
        go_wp2
        go_ret
        exact ⟨by rw [HST.out]; rfl, HB3.out⟩
      · rw [decide_eq_false hq] at hc
        have HST : Hid (R = if (if idxS (fun x => decide (998 < x.size)) (l.drop (i + 1)) < 0 then -1 else idxS (fun x => decide (998 < x.size)) (l.drop (i + 1)) + 1) < 0 then -1 else (if idxS (fun x => decide (998 < x.size)) (l.drop (i + 1)) < 0 then -1 else idxS (fun x => decide (998 < x.size)) (l.drop (i + 1)) + 1) + i) := Lib.hid (by
          have hx0 : idxS (fun x => decide (998 < x.size)) (l.drop i) = if idxS (fun x => decide (998 < x.size)) (l.drop (i + 1)) < 0 then -1 else idxS (fun x => decide (998 < x.size)) (l.drop (i + 1)) + 1 := by rw [idxS_drop ha, if_neg (by simpa using hq)]
          rw [HQ.out, hx0])
        clear hq ha
        go_wp2_with fail
        refine hc.mono ?_
        rintro e w3 ⟨rfl, hb3⟩
        have HB3 := Lib.hid (HB.out.trans (hb3.mono HB.out.size))
        clear hb3 hc
        go_wp2
        go_roundw
        case rel => exact ⟨i + 1, by omega, by go_num, Lib.hid (by
          rw [HST.out]
          have := idxS_ge (fun x => decide (998 < x.size)) (l.drop (i + 1))
          by_cases hn : idxS (fun x => decide (998 < x.size)) (l.drop (i + 1)) < 0
          · rw [if_pos hn, if_pos hn]; rfl
          · rw [if_neg hn, if_neg hn, if_neg (by omega)]; omega), HB3⟩
        case measure => simp [intOf]; omega
    · have HT : Hid (R = -1) := Lib.hid (by rw [HQ.out, List.drop_eq_nil_of_le (by omega)]; rfl)
      go_wp2
      go_ret
      exact ⟨by rw [HT.out]; rfl, HB.out⟩
set_option maxRecDepth 100000 in
theorem tooLong_any (A : Option Addr) (l : List ByteArray) (c : Nat) (w : World) (hA : Sl1 w A l) (hl : l.length ≤ 1000000001) (hsz : ∀ x ∈ l, x.size ≤ 4000000000) :
    Calls Tryd.prog 36 #[.slice A l.length c] w fun e w' => e = .returned (.bool (longS l)) ∧ Below w.heap.size w w' := by
  have h1 := idxStr_any A l c w hA hl hsz
  have hx := idxS_any (fun x => decide (998 < x.size)) l
  unfold longS
  rw [← hx]
  clear hx hA hsz
  generalize idxS (fun x => decide (998 < x.size)) l = n at *
  go_enter Tryd.func36, Tryd.ntmps36
  go_wp2_with (first
    | (go_at_call 73; refine h1.mono ?_; rintro e w1 ⟨rfl, hb⟩)
    | go_in)
  go_ret
  exact ⟨rfl, hb⟩
end Go.Proofs.YtblongcnmpdihaaDoor
namespace Wb
open Go
theorem cells1_mk (ls : List (List UInt8)) : cells1 (ls.map mkB) = ls.map fun l => Value.string ⟨l.toArray⟩ := by
  unfold cells1
  rw [List.map_map]
  rfl
end Wb
namespace Go.Proofs.YtblongcnmpdihaaDoor
open Go.RowKit Wb
def OwnS (w : World) (g c : Nat) (l : List ByteArray) : Prop := ∃ cur, w.heap[g]? = some (.cells cur 9 (0, 0)) ∧ l.length ≤ c ∧ cur.toList.take l.length = cells1 l
theorem OwnS.keep {w w' : World} {g c : Nat} {l : List ByteArray} (h : OwnS w g c l) (hk : w'.heap[g]? = w.heap[g]?) : OwnS w' g c l := by
  obtain ⟨cur, h1, h2⟩ := h
  exact ⟨cur, hk.trans h1, h2⟩
theorem OwnS.below {w w' : World} {g c : Nat} {l : List ByteArray} (h : OwnS w g c l) (hb : Below w.heap.size w w') : OwnS w' g c l := by
  obtain ⟨cur, h1, h2⟩ := h
  exact ⟨cur, still_block h1 hb, h2⟩
theorem OwnS.cells {w : World} {g c : Nat} {l : List ByteArray} (h : OwnS w g c l) {j : Nat} {x : ByteArray} (hx : l[j]? = some x) : w.cell? ⟨g, j, none⟩ = some (.string x) := by
  obtain ⟨cur, h1, _, h3⟩ := h
  rw [blk_cell h1]
  have hj := (List.getElem?_eq_some_iff.1 hx).1
  have := cells1_at l j x hx
  rw [← h3, List.getElem?_take, if_pos hj, Array.getElem?_toList] at this
  exact this
theorem OwnS.sl {w : World} {g c : Nat} {l : List ByteArray} (h : OwnS w g c l) : Sl1 w (some ⟨g, 0, none⟩) l := by
  refine ⟨by simp [cells1], fun _ => ⟨_, rfl, ?_, fun j u hu => ?_⟩⟩
  · obtain ⟨cur, h1, _⟩ := h
    exact (Array.getElem?_eq_some_iff.1 h1).1
  · rw [Addr.add_lit, Nat.zero_add]
    unfold cells1 at hu
    rw [List.getElem?_map] at hu
    cases hx : l[j]? with
    | none => rw [hx] at hu; cases hu
    | some x =>
      rw [hx] at hu
      simp only [Option.map_some, Option.some.injEq] at hu
      rw [← hu]
      exact h.cells hx
theorem strinfo : (Tryd.prog.info? 9).map (fun i => (i.zero, i.size, i.bytes)) = some (some (.string ⟨#[]⟩), 1, 16) := by kernel_rfl
set_option maxRecDepth 100000 in
set_option maxHeartbeats 4000000 in
theorem folded_any (n v : ByteArray) (w : World) (hn : n.size ≤ 1000) (hv : v.size ≤ 1000000000) (hp : printableF v.data.toList = true) (hG : GvF w) :
    Calls Tryd.prog 51 #[.agg #[.string n, .string v]] w fun e w' => (∃ g c, e = .returned (.slice (some ⟨g, 0, none⟩) (linesF (n.data.toList, v.data.toList)).length c) ∧ OwnS w' g c ((linesF (n.data.toList, v.data.toList)).map mkB)) ∧ Below w.heap.size w w' := by
  obtain ⟨i2, hk0, hu0, hu1, hu2⟩ := info_parts strinfo
  have hb0 := (Below.refl w.heap.size w).alloc (Nat.le_refl _) (.cells #[.string n, .string v] 48)
  have hasc : ∀ (j : Nat) b, v.data.toList[j]? = some b → b.toNat < 128 := by
    intro j b hb
    have hm := List.mem_of_getElem? hb
    have h := hp
    rw [← prog_printable] at h
    unfold progV at h
    simp only [Bool.and_eq_true] at h
    have := List.all_eq_true.1 h.2 b hm
    rw [rng_plain] at this
    unfold rngC at this
    simp only [Bool.and_eq_true, decide_eq_true_eq] at this
    omega
  have hF := Tryd.strings_Fields v (w.alloc (.cells #[.string n, .string v] 48)) (by omega) hasc (hG.next hb0).2
  rw [fields_words v.data.toList hp] at hF
  have hwl : (flatW (wordsF v.data.toList)).length ≤ v.size + 1 := by
    rw [flat_words, ba_size]
    split <;> simp
  have hwn : (wordsF v.data.toList).length ≤ v.size + 1 := by
    unfold wordsF
    split
    · simp
    · have := split_len v.data.toList
      rw [← ba_size] at this
      exact this
  obtain ⟨ls, hls⟩ : ∃ ls, linesF (n.data.toList, v.data.toList) = ls := ⟨_, rfl⟩
  rw [hls]
  have HLS := Lib.hid (show ls = foldG (n.data.toList ++ [58]) true (wordsF v.data.toList) from hls.symm)
  generalize wordsF v.data.toList = ws at *
  clear hasc hp hls hG
  have hSw : Sl1 ((w.alloc (.cells #[.string n, .string v] 48)).alloc (.cells ((ws.map fun l => Value.string ⟨l.toArray⟩).toArray) 9)) (some ⟨(w.alloc (.cells #[.string n, .string v] 48)).heap.size, 0, none⟩) (ws.map mkB) := by
    have := Sl.lit (w.alloc (.cells #[.string n, .string v] 48)) 1 (cells1 (ws.map mkB)) 9 (ws.map mkB).length (by simp [cells1])
    rw [cells1_mk] at this
    unfold Sl1
    rw [cells1_mk]
    exact this
  have hb1 := hb0.alloc hb0.size (.cells ((ws.map fun l => Value.string ⟨l.toArray⟩).toArray) 9)
  have hwz : w.heap.size + 1 ≤ ((w.alloc (.cells #[.string n, .string v] 48)).alloc (.cells ((ws.map fun l => Value.string ⟨l.toArray⟩).toArray) 9)).heap.size := by simp
  have hln : (ws.map mkB).length = ws.length := List.length_map ..
  have hcol : n ++ ⟨#[58]⟩ = mkB (n.data.toList ++ [58]) := by
    refine eq_of_lists ?_
    rw [ByteArray.data_append, Array.toList_append, mkB_list]
  have HCOL := Lib.hid hcol
  have g0 : ¬ 9223372036854775807 < n.size + (⟨#[58]⟩ : ByteArray).size := by have : (⟨#[58]⟩ : ByteArray).size = 1 := rfl; omega
  clear hcol hb0
  go_enter Tryd.func51, Tryd.ntmps51
  go_wp2_with fail
  rw [HCOL.out]
  refine hF.mono ?_
  rintro e w1 ⟨rfl, rfl⟩
  clear hF
  revert hSw hb1 hwz
  generalize ((w.alloc (.cells #[.string n, .string v] 48)).alloc (.cells ((ws.map fun l => Value.string ⟨l.toArray⟩).toArray) 9)) = wz
  generalize (w.alloc (.cells #[.string n, .string v] 48)).heap.size = gw
  intro hSw hb1 hwz
  have HSW := Lib.hid hSw
  have HB1 := Lib.hid hb1
  clear hSw hb1
  have e0 : wz.ownsRow wz.heap.size 9 1 (.slice none 0 0) ([] : List (List UInt8)).length (cells1 (([] : List (List UInt8)).map mkB)) := World.ownsRow_nil _ _ _ _
  have E0 := Lib.hid e0
  clear e0
  have hL0 : (n.data.toList ++ [58]).length = n.size + 1 := by rw [List.length_append, ← ba_size]; rfl
  have HL0 := Lib.hid hL0
  clear hL0
  go_wp2
  go_loopw [3, 4, 14] (fun v3 v4 v14 wr => ∃ (i : Nat) (acc : List (List UInt8)) (line : List UInt8), i ≤ ws.length ∧ v14 = .int .i64 i ∧ v4 = .string (mkB line) ∧ acc.length ≤ i ∧ line.length + (flatW (ws.drop i)).length ≤ n.size + v.size + 2 ∧ Hid (ls = acc ++ foldG line (decide (i = 0)) (ws.drop i)) ∧ Hid (wr.ownsRow wz.heap.size 9 1 v3 acc.length (cells1 (acc.map mkB))) ∧ Hid (Below wz.heap.size wz wr)) (fun _ _ v14 _ => ws.length - (intOf v14).toNat)
  case atStart => exact ⟨0, [], _, by omega, rfl, rfl, by simp, by rw [HL0.out, List.drop_zero]; omega, Lib.hid (by rw [HLS.out]; simp), E0, Lib.hid (Below.refl _ _)⟩
  case round =>
    obtain ⟨i, acc, line, hi, rfl, rfl, hacc, hlen, HQ, HR, HB⟩ := hrel
    have hlb : line.length ≤ 1000001002 := by omega
    by_cases h0 : i < ws.length
    · obtain ⟨x, hx⟩ : ∃ x, ws[i]? = some x := ⟨ws[i], List.getElem?_eq_getElem h0⟩
      have hxm : (ws.map mkB)[i]? = some (mkB x) := by rw [List.getElem?_map, hx]; rfl
      obtain ⟨ad, hade, had, d0⟩ := (HSW.out.below HB.out).at_ hxm
      simp only [Option.some.injEq] at hade
      subst hade
      have hfd := flatW_drop hx
      have hdr : ws.drop i = x :: ws.drop (i + 1) := by
        obtain ⟨hi', e⟩ := List.getElem?_eq_some_iff.1 hx
        rw [List.drop_eq_getElem_cons hi', e]
      have hst := HQ.out
      rw [hdr, foldG_step] at hst
      have hxl : x.length ≤ 1000001002 := by omega
      have hsx : (mkB x).size = x.length := mkB_size x
      have hsl : (mkB line).size = line.length := mkB_size line
      rw [Addr.add_lit, Nat.zero_add] at d0
      have g1 : ¬ 9223372036854775807 < (⟨#[32]⟩ : ByteArray).size + (mkB x).size := by have : (⟨#[32]⟩ : ByteArray).size = 1 := rfl; omega
      have happ : (⟨#[32]⟩ : ByteArray) ++ mkB x = mkB (32 :: x) := mkB_app [32] x
      have happ2 := mkB_app line (32 :: x)
      have hxs : (32 :: x).length = x.length + 1 := rfl
      have hz := HB.out.size
      by_cases hf : (!decide (i = 0) && decide (76 < line.length + 1 + x.length)) = true
      · rw [if_pos hf] at hst
        simp only [Bool.and_eq_true, Bool.not_eq_true', decide_eq_false_iff_not, decide_eq_true_eq] at hf
        obtain ⟨hf0, hf1⟩ := hf
        have HST : Hid (ls = (acc ++ [line]) ++ foldG (32 :: x) (decide (i + 1 = 0)) (ws.drop (i + 1))) := Lib.hid (by rw [hst, decide_eq_false (show ¬ i + 1 = 0 by omega)]; simp)
        have hi0 : (0 : Int) < i := by omega
        have h76 : (76 : Int) < ((mkB line).size : Int) + 1 + ((mkB x).size : Int) := by omega
        have g2 : ¬ 9223372036854775807 < (⟨#[]⟩ : ByteArray).size + ((⟨#[32]⟩ : ByteArray) ++ mkB x).size := by rw [happ, mkB_size]; have : (⟨#[]⟩ : ByteArray).size = 0 := rfl; omega
        have hemp : (⟨#[]⟩ : ByteArray) ++ ((⟨#[32]⟩ : ByteArray) ++ mkB x) = mkB (32 :: x) := by rw [happ]; exact mkB_app [] (32 :: x)
        have HEMP := Lib.hid hemp
        obtain ⟨vA, vc, rfl⟩ := own_shape HR.out
        clear hst hx hxm hdr HQ happ happ2 hemp
        generalize mkB x = bx at *
        generalize hbl : mkB line = bl at h76 hsl ⊢
        have HBL := Lib.hid hbl
        clear hbl
        go_wp2_with (at_builtin; apply Classical.byContradiction; intro hNG)
        refine hNG ?_
        refine wpList_append_sl _ rfl _ _ _ rfl wz.heap.size 9 i2 _ 1 16 Tryd.underlying55 hk0 hu0 hu1 hu2 rfl (by omega) _ acc.length (cells1 (acc.map mkB)) rfl (HR.out.alloc _) (some ⟨wr.heap.size, 0, none⟩) 1 1 [.string bl] rfl (Sl.lit wr 1 [.string bl] _ 1 rfl) (cells1_one [bl]) (by simp only [maxLen]; omega) (by omega) (by simp; omega) ?_
        intro v5 w5 hown5 hg5 hat5
        have HB5 := Lib.hid ((HB.out.alloc hz (.cells #[.string bl] 9)).grown hg5 (by simp; omega) (fun k hk => (HR.out.lt k hk).1))
        have HR5 := Lib.hid hown5
        clear hown5 hg5 hat5 hNG
        go_wp2
        go_roundw
        case rel => exact ⟨i + 1, acc ++ [line], 32 :: x, by omega, by go_num, by rw [HEMP.out], by rw [List.length_append, List.length_singleton]; omega, by rw [hxs]; omega, HST, Lib.hid (by
          have := HR5.out
          rw [List.length_append, List.length_singleton, List.map_append, cells1_append, List.map_singleton, HBL.out]
          exact this), HB5⟩
        case measure => simp [intOf]; omega
      · rw [if_neg hf] at hst
        have HST : Hid (ls = acc ++ foldG (line ++ 32 :: x) (decide (i + 1 = 0)) (ws.drop (i + 1))) := Lib.hid (by rw [hst, decide_eq_false (show ¬ i + 1 = 0 by omega)])
        have g2 : ¬ 9223372036854775807 < (mkB line).size + ((⟨#[32]⟩ : ByteArray) ++ mkB x).size := by rw [happ, mkB_size line, mkB_size (32 :: x)]; omega
        have hsum : mkB line ++ ((⟨#[32]⟩ : ByteArray) ++ mkB x) = mkB (line ++ 32 :: x) := by rw [happ, happ2]
        have HSUM := Lib.hid hsum
        have hor : i = 0 ∨ (0 < i ∧ ¬ 76 < line.length + 1 + x.length) := by
          simp only [Bool.and_eq_true, Bool.not_eq_true', decide_eq_false_iff_not, decide_eq_true_eq, not_and] at hf
          by_cases h : i = 0
          · exact .inl h
          · exact .inr ⟨by omega, hf h⟩
        clear hst hx hxm hdr HQ happ happ2 hsum hf
        have HLN := Lib.hid (show (line ++ 32 :: x).length = line.length + 1 + x.length by rw [List.length_append]; omega)
        generalize mkB x = bx at *
        generalize mkB line = bl at *
        rcases hor with rfl | ⟨hi0, h76⟩
        · go_wp2
          go_roundw
          case rel => exact ⟨0 + 1, acc, line ++ 32 :: x, by omega, by go_num, by rw [HSUM.out], by omega, by rw [HLN.out]; omega, HST, HR, HB⟩
          case measure => simp [intOf]; omega
        · have hi1 : (0 : Int) < i := by omega
          have h77 : ¬ (76 : Int) < (bl.size : Int) + 1 + (bx.size : Int) := by omega
          go_wp2
          go_roundw
          case rel => exact ⟨i + 1, acc, line ++ 32 :: x, by omega, by go_num, by rw [HSUM.out], by omega, by rw [HLN.out]; omega, HST, HR, HB⟩
          case measure => simp [intOf]; omega
    · have HE : Hid (ls = acc ++ [line]) := Lib.hid (by rw [HQ.out, List.drop_eq_nil_of_le (by omega)]; rfl)
      obtain ⟨vA, vc, rfl⟩ := own_shape HR.out
      have hz := HB.out.size
      have HBL := Lib.hid (show acc.map mkB ++ [mkB line] = (acc ++ [line]).map mkB by rw [List.map_append]; rfl)
      generalize mkB line = bl at *
      clear HQ
      go_wp2_with (at_builtin; apply Classical.byContradiction; intro hNG)
      refine hNG ?_
      refine wpList_append_sl _ rfl _ _ _ rfl wz.heap.size 9 i2 _ 1 16 Tryd.underlying55 hk0 hu0 hu1 hu2 rfl (by omega) _ acc.length (cells1 (acc.map mkB)) rfl (HR.out.alloc _) (some ⟨wr.heap.size, 0, none⟩) 1 1 [.string bl] rfl (Sl.lit wr 1 [.string bl] _ 1 rfl) (cells1_one [bl]) (by simp only [maxLen]; omega) (by omega) (by simp; omega) ?_
      intro v5 w5 hown5 hg5 hat5
      have HB5 := Lib.hid (HB1.out.trans (((HB.out.alloc hz (.cells #[.string bl] 9)).grown hg5 (by simp; omega) (fun k hk => (HR.out.lt k hk).1)).mono HB1.out.size))
      obtain ⟨g, vd, rfl, HS5⟩ : ∃ g cap, v5 = .slice (some ⟨g, 0, none⟩) (acc.length + 1) cap ∧ OwnS w5 g cap ((acc ++ [line]).map mkB) := by
        rcases hown5.2 with ⟨_, hx⟩ | ⟨g, cap, cur, hv, _, hg, hle, _, _, htk⟩
        · omega
        · refine ⟨g, cap, hv, cur, hg, by rw [List.length_map, List.length_append, List.length_singleton]; exact hle, ?_⟩
          rw [← HBL.out, List.length_append, List.length_singleton, List.length_map, cells1_append]
          rw [Nat.mul_one] at htk
          exact htk
      have HS6 := Lib.hid HS5
      clear hown5 hg5 hat5 hNG HS5
      go_wp2
      go_ret
      rw [HE.out]
      refine ⟨⟨g, vd, ?_, HS6.out⟩, HB5.out⟩
      rw [List.length_append, List.length_singleton]; rfl
end Go.Proofs.YtblongcnmpdihaaDoor
