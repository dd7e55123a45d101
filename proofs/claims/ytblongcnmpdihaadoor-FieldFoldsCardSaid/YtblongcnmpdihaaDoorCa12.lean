/- FeQ FfA FfO. -/
import Derived.Deep.RegionWith
import Derived.Laws.StructEq
import Derived.Deep.SlicePairs
import Derived.Carry
import Derived.Shelf.Vars
import Derived.Lib.LaidU8
import Derived.Lib.LaidTab
import Derived.MakeChecks
import Derived.WideShapes
import Derived.WalkKit
import Derived.ProofKit
import Derived.OpenShut
import Derived.ShutString
import Derived.Lay
import Derived.LaidMore
import Derived.Stop.Joined
import Derived.SevenTiedAt
import Derived.Test.YtblongcnmpdihaaDoorCa1
import Derived.Test.YtblongcnmpdihaaDoorCa3
import Derived.Test.YtblongcnmpdihaaDoorCa11
namespace Wb
open Go
def tot7 (l : List Pr) : Nat := (l.map fun x => x.1.size + x.2.size).sum
theorem tot7_step {l : List Pr} {k : Nat} {x : Pr} (h : l[k]? = some x) : tot7 (l.take (k + 1)) = tot7 (l.take k) + (x.1.size + x.2.size) := by
  rw [List.take_add_one, h]
  unfold tot7
  rw [List.map_append, List.sum_append]
  simp
def FewPost7 (l : List Pr) (w : World) (e : Ending) (w' : World) : Prop :=
  RowKit.Below w.heap.size w w' ∧ ∃ b, e = .returned (.bool b) ∧ (b = true → l.length + tot7 l < 5000)
def cidB : ByteArray := ⟨#[67, 111, 110, 116, 101, 110, 116, 45, 73, 68]⟩
def abB : ByteArray := ⟨#[60, 97, 64, 98, 62]⟩
def cidL : List UInt8 := [67, 111, 110, 116, 101, 110, 116, 45, 73, 68, 58, 32, 60, 97, 64, 98, 62, 13, 10, 13, 10]
theorem aw_print : printX [(cidB, abB)] = .ok cidL := by kernel_rfl
theorem aw_parse : parseL 100 0 (cidL ++ [120]) = .ok ([([67, 111, 110, 116, 101, 110, 116, 45, 73, 68], [60, 97, 64, 98, 62])], [120]) := by kernel_rfl
theorem aw_type : parseT [84, 101, 120, 116, 47, 88, 77, 76, 59, 32, 97, 61, 34, 98, 92, 34, 99, 34] = .ok ([116, 101, 120, 116, 47, 120, 109, 108], [([97], [98, 34, 99])]) := by kernel_rfl
theorem aw_tok1 : tokenF [97, 46, 98] = true := by kernel_rfl
theorem aw_tok2 : tokenF [97, 47, 98] = false := by kernel_rfl
theorem mkB_eqs (l m : List UInt8) : ((mkB l).toList == m) = (l == m) := by rw [Lib.toList_data]; rfl
end Wb
namespace Go.Proofs.YtblongcnmpdihaaDoor
open Go.RowKit Wb
set_option maxHeartbeats 2000000 in
set_option maxRecDepth 100000 in
theorem few7_any (A : Option Addr) (l : List Pr) (c : Nat) (w : World) (hA : Sl2 w A l) :
    Calls Tryd.prog 8 #[.slice A l.length c] w (FewPost7 l w) := by
  by_cases hlen : (l.length : Int) ≤ 5000
  · go_enter Tryd.func8, Tryd.ntmps8
    go_wp2
    go_loopw [3, 4] (fun n i wr => ∃ (k N : Nat), k ≤ l.length ∧ n = .int .i64 N ∧ i = .int .i64 k ∧ N ≤ 15000 ∧ Hid (N < 5000 → l.length + tot7 (l.take k) = N) ∧ Below w.heap.size w wr) (fun _ i _ => ((l.length : Int) - intOf i).toNat)
    case atStart => exact ⟨0, l.length, by omega, by rw [show min (l.length : Int) 5000 = (l.length : Int) from by omega], rfl, by omega, Lib.hid (fun _ => by simp [tot7]), Below.refl _ _⟩
    case round =>
      obtain ⟨k, N, hk, rfl, rfl, hN, HT, hb⟩ := hrel
      by_cases h1 : (N : Int) < 5000
      · by_cases h0 : (k : Int) < l.length
        · obtain ⟨⟨x1, x2⟩, he⟩ : ∃ x, l[k]? = some x := ⟨l[k], List.getElem?_eq_getElem (by omega)⟩
          obtain ⟨ad, rfl, _, c1, c2⟩ := (hA.below hb).at_ he
          have HE := Lib.hid he
          clear he
          by_cases m1 : (x1.size : Int) ≤ 5000
          · by_cases m2 : (x2.size : Int) ≤ 5000
            · go_wp2
              go_region
              go_wp2
              go_roundw
              case rel => exact ⟨k + 1, N + x1.size + x2.size, by omega, by go_num, by go_num, by omega, Lib.hid (fun _ => by rw [tot7_step HE.out, ← HT.out (by omega)]; simp only; omega), hb.drew⟩
              case measure => simp [intOf]; omega
            · go_wp2
              go_region
              go_wp2
              go_roundw
              case rel => exact ⟨k + 1, N + x1.size + 5000, by omega, by go_num, by go_num, by omega, Lib.hid (fun h => absurd h (by omega)), hb.drew⟩
              case measure => simp [intOf]; omega
          · by_cases m2 : (x2.size : Int) ≤ 5000
            · go_wp2
              go_region
              go_wp2
              go_roundw
              case rel => exact ⟨k + 1, N + 5000 + x2.size, by omega, by go_num, by go_num, by omega, Lib.hid (fun h => absurd h (by omega)), hb.drew⟩
              case measure => simp [intOf]; omega
            · go_wp2
              go_region
              go_wp2
              go_roundw
              case rel => exact ⟨k + 1, N + 5000 + 5000, by omega, by go_num, by go_num, by omega, Lib.hid (fun h => absurd h (by omega)), hb.drew⟩
              case measure => simp [intOf]; omega
        · have hd : decide ((N : Int) < 5000) = true := decide_eq_true h1
          go_wp2
          go_ret
          refine ⟨hb, _, rfl, fun _ => ?_⟩
          have := HT.out (by omega)
          rw [List.take_of_length_le (by omega)] at this
          omega
      · go_wp2
        all_goals
          go_ret
          exact ⟨hb, _, rfl, fun h => absurd h (by simp)⟩
  · go_enter Tryd.func8, Tryd.ntmps8
    go_wp2
    go_loopw [3, 4] (fun n i wr => n = .int .i64 5000 ∧ i = .int .i64 0 ∧ wr = w) (fun _ _ _ => 0)
    case atStart => exact ⟨by rw [show min (l.length : Int) 5000 = 5000 from by omega], rfl, rfl⟩
    case round =>
      obtain ⟨rfl, rfl, rfl⟩ := hrel
      go_wp2
      all_goals
        go_ret
        exact ⟨Below.refl _ _, _, rfl, fun h => absurd h (by simp)⟩
set_option maxRecDepth 100000 in
set_option maxHeartbeats 8000000 in
theorem awake7 (w : World) (hG : GvF w) : Calls Tryd.prog 7 #[] w fun e w' => e = .returned (.bool true) ∧ Below w.heap.size w w' := by
  have hb0 := (Below.refl w.heap.size w).alloc (Nat.le_refl _) (.cells #[.string cidB, .string abB] 48)
  have hA : Sl2 (w.alloc (.cells #[.string cidB, .string abB] 48)) (some ⟨w.heap.size, 0, none⟩) [(cidB, abB)] := Sl.lit w 2 [.string cidB, .string abB] 48 1 rfl
  have h1 := print_any (some ⟨w.heap.size, 0, none⟩) [(cidB, abB)] 1 (w.alloc (.cells #[.string cidB, .string abB] 48)) hA (by simp) (by
    intro x hx
    rw [List.mem_singleton.1 hx]
    exact ⟨by decide, by decide⟩) (hG.next hb0)
  rw [aw_print] at h1
  have h1 : Calls Tryd.prog 9 #[.slice (some ⟨w.heap.size, 0, none⟩) 1 1] (w.alloc (.cells #[.string cidB, .string abB] 48)) fun e w' => e = .returned (.tuple #[.string (mkB cidL), .int .i64 0]) ∧ Below (w.alloc (.cells #[.string cidB, .string abB] 48)).heap.size (w.alloc (.cells #[.string cidB, .string abB] 48)) w' := h1
  have happ : mkB cidL ++ (⟨#[120]⟩ : ByteArray) = mkB (cidL ++ [120]) := mkB_app cidL [120]
  have h2 := fun v (hg : GvF v) => parse_any (mkB cidL ++ (⟨#[120]⟩ : ByteArray)) 100 v (by rw [happ]; decide) (by rw [happ]; decide) hg
  rw [happ, mkB_list, aw_parse] at h2
  rw [← happ] at h2
  have h3 := fun v => parseType_any ⟨#[84, 101, 120, 116, 47, 88, 77, 76, 59, 32, 97, 61, 34, 98, 92, 34, 99, 34]⟩ v (by decide)
  rw [show (⟨#[84, 101, 120, 116, 47, 88, 77, 76, 59, 32, 97, 61, 34, 98, 92, 34, 99, 34]⟩ : ByteArray).data.toList = [84, 101, 120, 116, 47, 88, 77, 76, 59, 32, 97, 61, 34, 98, 92, 34, 99, 34] from rfl, aw_type] at h3
  have h4 := fun v => token_any ⟨#[97, 46, 98]⟩ v (by decide)
  have h5 := fun v => token_any ⟨#[97, 47, 98]⟩ v (by decide)
  rw [show (⟨#[97, 46, 98]⟩ : ByteArray).data.toList = [97, 46, 98] from rfl, aw_tok1] at h4
  rw [show (⟨#[97, 47, 98]⟩ : ByteArray).data.toList = [97, 47, 98] from rfl, aw_tok2] at h5
  have g1 : ¬ 9223372036854775807 < (mkB cidL).size + (⟨#[120]⟩ : ByteArray).size := by decide
  have q1 : ((mkB cidL).toList == [67, 111, 110, 116, 101, 110, 116, 45, 73, 68, 58, 32, 60, 97, 64, 98, 62, 13, 10, 13, 10]) = true := by rw [mkB_eqs]; decide
  have q2 : ((mkB [120]).toList == [120]) = true := by rw [mkB_eqs]; decide
  have q3 : ((mkB [116, 101, 120, 116, 47, 120, 109, 108]).toList == [116, 101, 120, 116, 47, 120, 109, 108]) = true := by rw [mkB_eqs]; decide
  have q4 : ((mkB [98, 34, 99]).toList == [98, 34, 99]) = true := by rw [mkB_eqs]; decide
  have h2 : ∀ v, GvF v → Calls Tryd.prog 15 #[.string (mkB cidL ++ (⟨#[120]⟩ : ByteArray))] v fun e w' => (∃ A c, e = .returned (.tuple #[.slice A 1 c, .string (mkB [120]), .int .i64 0])) ∧ Below v.heap.size v w' := fun v hg => (h2 v hg).mono fun e w' h => ⟨by obtain ⟨⟨A, c, h, _⟩, _⟩ := h; exact ⟨A, c, h⟩, h.2⟩
  have h3 : ∀ v, Calls Tryd.prog 19 #[.string ⟨#[84, 101, 120, 116, 47, 88, 77, 76, 59, 32, 97, 61, 34, 98, 92, 34, 99, 34]⟩] v fun e w' => (∃ A c, e = .returned (.tuple #[.string (mkB [116, 101, 120, 116, 47, 120, 109, 108]), .slice A 1 c, .int .i64 0]) ∧ Sl2 w' A [(mkB [97], mkB [98, 34, 99])]) ∧ Below v.heap.size v w' := h3
  have HG := Lib.hid hG
  have HB0 := Lib.hid hb0
  clear happ hA hb0 hG
  unfold cidB abB at h1 HB0
  generalize mkB cidL = s1 at *
  generalize mkB [120] = s2 at *
  generalize mkB [116, 101, 120, 116, 47, 120, 109, 108] = s3 at *
  generalize mkB [98, 34, 99] = s4 at *
  go_enter Tryd.func7, Tryd.ntmps7
  go_wp2_with fail
  refine h1.mono ?_
  rintro e w1 ⟨rfl, hb⟩
  have HB1 := Lib.hid (HB0.out.trans (hb.mono HB0.out.size))
  have k2 := h2 w1 (HG.out.next HB1.out)
  clear hb h1 h2
  go_wp2_with fail
  refine k2.mono ?_
  rintro e w2 ⟨⟨A, c, rfl⟩, hb⟩
  have HB2 := Lib.hid (HB1.out.trans (hb.mono HB1.out.size))
  clear hb k2
  go_wp2_with fail
  refine (h3 w2).mono ?_
  rintro e w3 ⟨⟨B, d, rfl, hS⟩, hb⟩
  have HB3 := Lib.hid (HB2.out.trans (hb.mono HB2.out.size))
  obtain ⟨ad, rfl, _, c0, c1⟩ := hS.at_ (k := 0) rfl
  rw [Nat.zero_mul, Addr.add_zero'] at c0 c1
  clear hb h3 hS
  go_wp2_with fail
  refine (h4 w3).mono ?_
  rintro e w4 ⟨rfl, hb⟩
  have HB4 := Lib.hid (HB3.out.trans (hb.mono HB3.out.size))
  clear hb h4
  go_wp2_with fail
  refine (h5 w4).mono ?_
  rintro e w5 ⟨rfl, hb⟩
  have HB5 := Lib.hid (HB4.out.trans (hb.mono HB4.out.size))
  clear hb h5
  go_wp2
  go_ret
  exact ⟨rfl, HB5.out⟩
end Go.Proofs.YtblongcnmpdihaaDoor
namespace Wb
open Go
def cellsO (l : List Bool) : List Value := l.map Value.bool
def SlO (w : World) (A : Option Addr) (l : List Bool) : Prop := Sl w 1 A l.length (cellsO l)
theorem SlO.below {w w' : World} {A : Option Addr} {l : List Bool} (h : SlO w A l) (hb : RowKit.Below w.heap.size w w') : SlO w' A l := Sl.below h hb
theorem SlO.at_ {w : World} {A : Option Addr} {l : List Bool} (h : SlO w A l) {k : Nat} {x : Bool} (hx : l[k]? = some x) :
    ∃ ad, A = some ad ∧ ad.block < w.heap.size ∧ w.cell? (ad.add k) = some (.bool x) := by
  have hk : k < l.length := (List.getElem?_eq_some_iff.1 hx).1
  obtain ⟨ad, e, hb, hc⟩ := h.2 (by omega)
  exact ⟨ad, e, hb, hc _ _ (by unfold cellsO; rw [List.getElem?_map, hx]; rfl)⟩
theorem printX_one {n v : ByteArray} {s : List UInt8} (h : printX [(n, v)] = .ok s) : namedF n.data.toList = true ∧ printableF v.data.toList = true := by
  unfold printX at h
  rw [if_neg (by simp), List.map_cons, printFs_lines] at h
  cases hl : linesOf (ofPr (n, v)) with
  | error e => rw [hl] at h; cases h
  | ok ls =>
    obtain ⟨_, a, b, _⟩ := linesOf_ok hl
    exact ⟨a, b⟩
theorem printX_err {l : List Pr} {e : Int} (h : printX l = .error e) : e = 3 ∨ e = 12 ∨ e = 4 := by
  unfold printX at h
  split at h
  · injection h with h; exact .inl h.symm
  · rename_i hle
    clear hle
    induction l with
    | nil => cases h
    | cons x l ih =>
      rw [List.map_cons, printFs_lines] at h
      cases hl : linesOf (ofPr x) with
      | error k =>
        rw [hl] at h
        injection h with h
        subst h
        unfold linesOf at hl
        split at hl
        · injection hl with e; exact .inr (.inl e.symm)
        split at hl
        · injection hl with e; exact .inr (.inr e.symm)
        split at hl
        · injection hl with e; exact .inl e.symm
        · cases hl
      | ok ls =>
        rw [hl] at h
        simp only at h
        cases hp : printFs (l.map ofPr) with
        | error k => rw [hp] at h; injection h with h; subst h; exact ih hp
        | ok s => rw [hp] at h; cases h
theorem fold_drop (fl : List Bool) (L : List UInt8) (k i : Nat) (c : UInt8) (h : L[i]? = some c) : foldV (fl.drop k) (L.drop i) = if c = 32 then (if (fl[k]?).getD false = true then [13, 10] else []) ++ 32 :: foldV (fl.drop (k + 1)) (L.drop (i + 1)) else c :: foldV (fl.drop k) (L.drop (i + 1)) := by
  obtain ⟨hi, e⟩ := List.getElem?_eq_some_iff.1 h
  rw [List.drop_eq_getElem_cons hi, e, foldV, List.head?_drop, List.tail_drop]
theorem foldV_len : ∀ (bs : List Bool) (l : List UInt8), (foldV bs l).length ≤ 3 * l.length
  | _, [] => by simp [foldV]
  | bs, c :: l => by
    rw [foldV]
    split
    · have := foldV_len bs.tail l
      rw [List.length_append, List.length_cons, List.length_cons]
      split <;> simp <;> omega
    · have := foldV_len bs l
      simp only [List.length_cons]
      omega
end Wb
namespace Go.Proofs.YtblongcnmpdihaaDoor
open Go.RowKit Wb
set_option maxRecDepth 100000 in
set_option maxHeartbeats 8000000 in
theorem folds_walk (n v : ByteArray) (F : Option Addr) (fl : List Bool) (c : Nat) (bh : ByteArray) (w : World) (hF : SlO w F fl) (hbh : bh.size ≤ 9223372036854775807) (hG : GvF w) :
    Calls Tryd.prog 6 #[.agg #[.string n, .string v], .slice F fl.length c, .string bh] w fun e w' => e = .returned (.bool true) ∧ Below w.heap.size w w' := by
  have hb0 := (Below.refl w.heap.size w).alloc (Nat.le_refl _) (.cells #[.string n, .string v] 48)
  have hX := heap_alloc_new w (.cells #[.string n, .string v] 48)
  have HG := Lib.hid (hG.next hb0)
  have HF := Lib.hid (hF.below hb0)
  have HX := Lib.hid hX
  have HB0 := Lib.hid hb0
  clear hb0 hX hG hF
  go_enter Tryd.func6, Tryd.ntmps6
  go_wp2_with fail
  revert HG HF HX HB0
  generalize (w.alloc (.cells #[.string n, .string v] 48)) = wz
  intro HG HF HX HB0
  generalize hT : w.heap.size = T at *
  have HT := Lib.hid hT
  clear hT
  refine (awake7 wz HG.out).mono ?_
  rintro e w1 ⟨rfl, hb⟩
  have HB1 := Lib.hid hb
  have CX := Lib.hid (fun (u : World) (h : Below wz.heap.size wz u) => (⟨blk_cell (still_block HX.out h) 0, blk_cell (still_block HX.out h) 1⟩ : u.cell? ⟨T, 0, none⟩ = _ ∧ u.cell? ⟨T, 1, none⟩ = _))
  have hx1 := CX.out w1 hb
  simp only [List.getElem?_toArray, List.getElem?_cons_zero, List.getElem?_cons_succ] at hx1
  obtain ⟨c0, c1⟩ := hx1
  clear hb
  have hba := (Below.refl w1.heap.size w1).alloc (Nat.le_refl _) (.cells #[.string n, .string v] 48)
  have hfew := few7_any (some ⟨w1.heap.size, 0, none⟩) [(n, v)] 1 (w1.alloc (.cells #[.string n, .string v] 48)) (Sl.lit w1 2 [.string n, .string v] 48 1 rfl)
  have HBA := Lib.hid (HB1.out.trans (hba.mono HB1.out.size))
  clear hba
  go_wp2_with fail
  refine hfew.mono ?_
  rintro e w2 ⟨hb, b, rfl, hfb⟩
  have HB2 := Lib.hid (HBA.out.trans (hb.mono HBA.out.size))
  have fin : ∀ u, Below wz.heap.size wz u → Below T w u := fun u hu => HB0.out.trans (hu.mono (by rw [← HT.out]; exact HB0.out.size))
  have FIN := Lib.hid fin
  clear hb hfew c0 c1 HBA HB1 fin
  cases b
  · go_wp2
    go_ret
    exact ⟨rfl, by rw [HT.out]; exact FIN.out _ HB2.out⟩
  have hnv : n.size + v.size < 5000 := by
    have h := hfb rfl
    unfold tot7 at h
    simp at h
    omega
  have hn5 : n.size < 5000 := by omega
  have hv5 : v.size < 5000 := by omega
  clear hfb hnv
  by_cases hb2 : (2000 : Int) < bh.size
  · go_wp2
    go_ret
    exact ⟨rfl, by rw [HT.out]; exact FIN.out _ HB2.out⟩
  have hx2 := CX.out w2 HB2.out
  simp only [List.getElem?_toArray, List.getElem?_cons_zero, List.getElem?_cons_succ] at hx2
  obtain ⟨c0, c1⟩ := hx2
  have hba := (Below.refl w2.heap.size w2).alloc (Nat.le_refl _) (.cells #[.string n, .string v] 48)
  have hpr := print_any (some ⟨w2.heap.size, 0, none⟩) [(n, v)] 1 (w2.alloc (.cells #[.string n, .string v] 48)) (Sl.lit w2 2 [.string n, .string v] 48 1 rfl) (by simp) (by
    intro x hx
    rw [List.mem_singleton.1 hx]
    simp only
    omega) (HG.out.next (HB2.out.trans (hba.mono HB2.out.size)))
  have HBA := Lib.hid (HB2.out.trans (hba.mono HB2.out.size))
  clear hba
  cases hpx : printX [(n, v)] with
  | error k =>
    rw [hpx] at hpr
    have hk := printX_err hpx
    have hpr : ∀ k', k' = k → Calls Tryd.prog 9 #[.slice (some ⟨w2.heap.size, 0, none⟩) 1 1] (w2.alloc (.cells #[.string n, .string v] 48)) fun e w' => e = .returned (.tuple #[.string ⟨#[]⟩, .int .i64 k']) ∧ Below (w2.alloc (.cells #[.string n, .string v] 48)).heap.size (w2.alloc (.cells #[.string n, .string v] 48)) w' := fun k' e => by subst e; exact hpr
    have hpr := hpr k rfl
    clear hpx
    rcases hk with rfl | rfl | rfl
    all_goals
      go_wp2_with fail
      refine hpr.mono ?_
      rintro e w3 ⟨rfl, hb⟩
      have HB3 := Lib.hid (HBA.out.trans (hb.mono HBA.out.size))
      clear hb hpr c0 c1
      go_wp2
      go_ret
      exact ⟨rfl, by rw [HT.out]; exact FIN.out _ HB3.out⟩
  | ok st =>
    rw [hpx] at hpr
    obtain ⟨hnm, hpv⟩ := printX_one hpx
    have hpr : Calls Tryd.prog 9 #[.slice (some ⟨w2.heap.size, 0, none⟩) 1 1] (w2.alloc (.cells #[.string n, .string v] 48)) fun e w' => e = .returned (.tuple #[.string (mkB st), .int .i64 0]) ∧ Below (w2.alloc (.cells #[.string n, .string v] 48)).heap.size (w2.alloc (.cells #[.string n, .string v] 48)) w' := hpr
    have HNM := Lib.hid hnm
    have HPV := Lib.hid hpv
    clear hpx hnm hpv
    generalize mkB st = sp at *
    go_wp2_with fail
    refine hpr.mono ?_
    rintro e w3 ⟨rfl, hb⟩
    have HB3 := Lib.hid (HBA.out.trans (hb.mono HBA.out.size))
    clear hb hpr c0 c1
    have hx3 := CX.out w3 HB3.out
    simp only [List.getElem?_toArray, List.getElem?_cons_zero, List.getElem?_cons_succ] at hx3
    obtain ⟨c0, c1⟩ := hx3
    by_cases h9 : (900 : Int) < v.size
    · go_wp2
      go_ret
      exact ⟨rfl, by rw [HT.out]; exact FIN.out _ HB3.out⟩
    have h900 : v.size ≤ 900 := by omega
    have g0 : ¬ 9223372036854775807 < n.size + (⟨#[58, 32]⟩ : ByteArray).size := by have : (⟨#[58, 32]⟩ : ByteArray).size = 2 := rfl; omega
    have hapn : n ++ (⟨#[58, 32]⟩ : ByteArray) = mkB (n.data.toList ++ [58, 32]) := by
      refine eq_of_lists ?_
      rw [ByteArray.data_append, Array.toList_append, mkB_list]
    have HAPN := Lib.hid hapn
    have HF3 := Lib.hid (HF.out.below HB3.out)
    clear hapn
    go_wp2
    go_loop [9, 10, 11] (fun vs vn vi => ∃ (i k : Nat) (x : List UInt8), i ≤ v.size ∧ vi = .int .i64 i ∧ vn = .int .i64 k ∧ k ≤ i ∧ vs = .string (mkB x) ∧ x.length ≤ n.size + 2 + 3 * i ∧ Hid (n.data.toList ++ ([58, 32] ++ foldV fl v.data.toList) = x ++ foldV (fl.drop k) (v.data.toList.drop i))) (fun _ _ vi => v.size - (intOf vi).toNat)
    case atStart => exact ⟨0, 0, _, by omega, rfl, rfl, by omega, by rw [HAPN.out], by rw [List.length_append, ← ba_size]; simp, Lib.hid (by simp)⟩
    case round =>
      obtain ⟨i, k, x, hi, rfl, rfl, hk, rfl, hxl, HQ⟩ := hrel
      have hmx : (mkB x).size = x.length := mkB_size x
      by_cases h0 : i < v.size
      · obtain ⟨ch, hch⟩ : ∃ ch, v[i] = ch := ⟨_, rfl⟩
        have hc : v.data.toList[i]? = some ch := by
          rw [List.getElem?_eq_getElem (by rw [← ba_size]; exact h0), ← hch]
          rfl
        have hst := HQ.out
        rw [fold_drop fl v.data.toList k i ch hc] at hst
        have hex : v.extract i (i + 1) = mkB [ch] := by
          refine eq_of_lists ?_
          rw [Lib.extract_data, mkB_list]
          obtain ⟨hi', e⟩ := List.getElem?_eq_some_iff.1 hc
          rw [List.drop_eq_getElem_cons hi', e, show i + 1 - i = 1 by omega]
          rfl
        have hexs : (v.extract i (i + 1)).size = 1 := by rw [hex]; rfl
        have hcr : (⟨#[13, 10]⟩ : ByteArray).size = 2 := rfl
        have g1 : ¬ 9223372036854775807 < (mkB x).size + (⟨#[13, 10]⟩ : ByteArray).size := by omega
        have g2 : ¬ 9223372036854775807 < (mkB x ++ (⟨#[13, 10]⟩ : ByteArray)).size + (v.extract i (i + 1)).size := by rw [ByteArray.size_append]; omega
        have g3 : ¬ 9223372036854775807 < (mkB x).size + (v.extract i (i + 1)).size := by omega
        have ha1 : mkB x ++ (⟨#[13, 10]⟩ : ByteArray) ++ v.extract i (i + 1) = mkB (x ++ [13, 10] ++ [ch]) := by
          rw [hex]
          have e1 := mkB_app x [13, 10]
          have e2 := mkB_app (x ++ [13, 10]) [ch]
          rw [← e2, ← e1]
          rfl
        have ha2 : mkB x ++ v.extract i (i + 1) = mkB (x ++ [ch]) := by rw [hex]; exact mkB_app x [ch]
        have HA1 := Lib.hid ha1
        have HA2 := Lib.hid ha2
        have e32 : ((v[i].toNat : Int) == 32) = decide (ch = 32) := by
          rw [hch, Bool.eq_iff_iff, beq_iff_eq, decide_eq_true_eq]
          exact ⟨fun h => UInt8.toNat.inj (by have : (32 : UInt8).toNat = 32 := rfl; omega), fun h => by rw [h]; rfl⟩
        clear ha1 ha2 hex hc hexs hcr hch HQ
        by_cases h32 : ch = 32
        · rw [if_pos h32] at hst
          rw [decide_eq_true h32] at e32
          by_cases hkf : k < fl.length
          · obtain ⟨b, hb⟩ : ∃ b, fl[k]? = some b := ⟨fl[k], List.getElem?_eq_getElem hkf⟩
            rw [hb] at hst
            obtain ⟨ad, rfl, had, d0⟩ := HF3.out.at_ hb
            clear hb
            cases b
            · have HST : Hid (n.data.toList ++ ([58, 32] ++ foldV fl v.data.toList) = (x ++ [ch]) ++ foldV (fl.drop (k + 1)) (v.data.toList.drop (i + 1))) := Lib.hid (by rw [hst, h32]; simp)
              clear hst h32
              go_wp2
              go_round
              case rel => exact ⟨i + 1, k + 1, _, by omega, by go_num, by go_num, by omega, by rw [HA2.out], by rw [List.length_append]; simp; omega, HST⟩
              case measure => simp [intOf] <;> omega
            · have HST : Hid (n.data.toList ++ ([58, 32] ++ foldV fl v.data.toList) = (x ++ [13, 10] ++ [ch]) ++ foldV (fl.drop (k + 1)) (v.data.toList.drop (i + 1))) := Lib.hid (by rw [hst, h32]; simp)
              clear hst h32
              go_wp2
              go_round
              case rel => exact ⟨i + 1, k + 1, _, by omega, by go_num, by go_num, by omega, by rw [HA1.out], by rw [List.length_append, List.length_append]; simp; omega, HST⟩
              case measure => simp [intOf] <;> omega
          · have HST : Hid (n.data.toList ++ ([58, 32] ++ foldV fl v.data.toList) = (x ++ [ch]) ++ foldV (fl.drop (k + 1)) (v.data.toList.drop (i + 1))) := Lib.hid (by rw [hst, h32, List.getElem?_eq_none (by omega)]; simp)
            clear hst h32
            go_wp2
            go_round
            case rel => exact ⟨i + 1, k + 1, _, by omega, by go_num, by go_num, by omega, by rw [HA2.out], by rw [List.length_append]; simp; omega, HST⟩
            case measure => simp [intOf] <;> omega
        · rw [if_neg h32] at hst
          rw [decide_eq_false h32] at e32
          have HST : Hid (n.data.toList ++ ([58, 32] ++ foldV fl v.data.toList) = (x ++ [ch]) ++ foldV (fl.drop k) (v.data.toList.drop (i + 1))) := Lib.hid (by rw [hst]; simp)
          clear hst h32
          go_wp2
          go_round
          case rel => exact ⟨i + 1, k, _, by omega, by go_num, rfl, by omega, by rw [HA2.out], by rw [List.length_append]; simp; omega, HST⟩
          case measure => simp [intOf] <;> omega
      · obtain rfl : i = v.size := by omega
        have hfull : x = n.data.toList ++ ([58, 32] ++ foldV fl v.data.toList) := by
          have h := HQ.out
          have e : v.data.toList.drop v.size = [] := by rw [ba_size]; exact List.drop_length
          rw [e] at h
          rw [h]
          simp [foldV]
        have hmS : mkB x ++ (⟨#[13, 10, 13, 10]⟩ : ByteArray) ++ bh = mkB (n.data.toList ++ (58 :: 32 :: (foldV fl v.data.toList ++ (13 :: 10 :: 13 :: 10 :: bh.data.toList)))) := by
          refine eq_of_lists ?_
          rw [ByteArray.data_append, Array.toList_append, ByteArray.data_append, Array.toList_append, mkB_list, mkB_list, hfull]
          simp
        have hfl := foldV_len fl v.data.toList
        rw [← ba_size] at hfl
        have hSs : (mkB x ++ (⟨#[13, 10, 13, 10]⟩ : ByteArray) ++ bh).size = x.length + 4 + bh.size := by
          rw [ByteArray.size_append, ByteArray.size_append, mkB_size]
          rfl
        have hps := fun u (hg : GvF u) => parse_any (mkB x ++ (⟨#[13, 10, 13, 10]⟩ : ByteArray) ++ bh) 100000 u (by omega) (by omega) hg
        have hpf := parse_fold n.data.toList v.data.toList bh.data.toList fl 100000 HNM.out HPV.out (by rw [← ba_size]; exact h900) (by omega)
        have hlst : (mkB x ++ (⟨#[13, 10, 13, 10]⟩ : ByteArray) ++ bh).data.toList = n.data.toList ++ (58 :: 32 :: (foldV fl v.data.toList ++ (13 :: 10 :: 13 :: 10 :: bh.data.toList))) := by rw [hmS]; rfl
        rw [hlst, hpf] at hps
        have hps : ∀ u, GvF u → Calls Tryd.prog 15 #[.string (mkB x ++ (⟨#[13, 10, 13, 10]⟩ : ByteArray) ++ bh)] u fun e w' => (∃ A c, e = .returned (.tuple #[.slice A 1 c, .string bh, .int .i64 0]) ∧ Sl2 w' A [(n, v)]) ∧ Below u.heap.size u w' := fun u hg => (hps u hg).mono fun e w' h => ⟨by
          obtain ⟨⟨A, c, h1, h2⟩, _⟩ := h
          refine ⟨A, c, ?_, ?_⟩
          · rw [h1]; unfold mkB; rw [ba_mk]; rfl
          · have e : toPrs [(n.data.toList, v.data.toList)] = [(n, v)] := by
              unfold toPrs toPr
              simp only [List.map_cons, List.map_nil]
            rw [e] at h2
            exact h2, h.2⟩
        have k1 := hps w3 (HG.out.next HB3.out)
        have h4 : (⟨#[13, 10, 13, 10]⟩ : ByteArray).size = 4 := rfl
        have g1 : ¬ 9223372036854775807 < (mkB x).size + (⟨#[13, 10, 13, 10]⟩ : ByteArray).size := by omega
        have g2 : ¬ 9223372036854775807 < (mkB x ++ (⟨#[13, 10, 13, 10]⟩ : ByteArray)).size + bh.size := by rw [ByteArray.size_append]; omega
        clear hfull hmS hfl hSs hpf hlst HQ hps h4
        go_wp2_with fail
        refine k1.mono ?_
        rintro e w4 ⟨⟨A, c4, rfl, hS⟩, hb⟩
        have HB4 := Lib.hid (HB3.out.trans (hb.mono HB3.out.size))
        obtain ⟨ad, rfl, _, d0, d1⟩ := hS.at_ (k := 0) rfl
        rw [Nat.zero_mul, Addr.add_zero'] at d0 d1
        have hx4 := CX.out w4 HB4.out
        simp only [List.getElem?_toArray, List.getElem?_cons_zero, List.getElem?_cons_succ] at hx4
        obtain ⟨b0, b1⟩ := hx4
        clear hb k1 hS c0 c1
        go_wp2
        go_region
        go_wp2
        go_ret
        exact ⟨rfl, by rw [HT.out]; exact FIN.out _ HB4.out.drew⟩
end Go.Proofs.YtblongcnmpdihaaDoor
namespace Wb
open Go Go.RowKit Go.Deep Go.ChangeShapes Go.WideShapes
section
variable {H : Type} {enc : TypeId × Value → H} {P : Program} {w : World} {base : Nat} {spare : Nat → Bool} {held : Bool}
theorem open_fieldV {t tS : TypeId} {f0 f1 : Field} (u : P.underlying t = some (.struct #[f0, f1])) (ct : P.cellsOf t = 2) (o0 : f0.offset = 0) (o1 : f1.offset = 1) (e0 : f0.type = tS) (e1 : f1.type = tS) (cS : P.cellsOf tS = 1) (uS : P.underlying tS = some .string) {r : Reach} {b0 : Nat} {v : Value} {d : DataW H} {p : List MemPlace} (hv : Value.okWide P w r b0 t v) (h : DataW.Trod enc P w base spare held t v d p) :
    ∃ a b : ByteArray, v = .agg #[.string a, .string b] := by
  obtain ⟨cs, rfl, hsz⟩ := okWide_struct u hv
  obtain ⟨fuel, hf⟩ := h
  have hf' : DataW.trod enc P w base spare held fuel t cs.toList = some (d, p) := hf
  obtain ⟨xs, n, _, _, hl, hx, hg⟩ := DataW.trod_struct u hf'
  rw [ct] at hl
  have h0 := hg 0 f0 rfl
  have h1 := hg 1 f1 rfl
  rw [e0, o0, cS] at h0
  rw [e1, o1, cS] at h1
  obtain ⟨c0, c1, hcs⟩ : ∃ c0 c1, cs.toList = [c0, c1] := by
    match hq : cs.toList, hl with
    | [c0, c1], _ => exact ⟨c0, c1, rfl⟩
  rw [hcs] at h0 h1 hf'
  match xs, hx with
  | [y0, y1], _ =>
    obtain ⟨a, ha, _⟩ := DataW.trod_string uS (show DataW.trod enc P w base spare held n tS [c0] = some y0 from h0)
    obtain ⟨b, hb, _⟩ := DataW.trod_string uS (show DataW.trod enc P w base spare held n tS [c1] = some y1 from h1)
    simp only [List.cons.injEq, and_true] at ha hb
    refine ⟨a, b, ?_⟩
    rw [ha, hb] at hcs
    cases cs
    simp_all
theorem open_bools {tSI tI : TypeId} (us : P.underlying tSI = some (.slice tI)) (ui : P.underlying tI = some .bool) (ic : P.cellsOf tI = 1) {v : Option Addr} {n c : Nat} {d : DataW H} {p : List MemPlace} (h : DataW.Trod enc P w base spare held tSI (.slice v n c) d p) :
    ∃ l : List Bool, n = l.length ∧ SlO w v l ∧ l.length ≤ c := by
  obtain ⟨fuel, hf⟩ := h
  have hf' : DataW.trod enc P w base spare held fuel tSI [.slice v n c] = some (d, p) := hf
  rcases DataW.trod_slice us hf' with ⟨hcs, _⟩ | ⟨a, len, cap, elems, rest, f, _, hcs, _, hb, hlc, hcm, he, hi, _⟩
  · simp only [List.cons.injEq, Value.slice.injEq, and_true] at hcs
    obtain ⟨rfl, rfl, rfl⟩ := hcs
    exact ⟨[], rfl, Sl.nil _ _ _, Nat.le_refl _⟩
  · simp only [List.cons.injEq, Value.slice.injEq, and_true] at hcs
    obtain ⟨rfl, rfl, rfl⟩ := hcs
    have each : ∀ i, i < n → ∃ k : Bool, w.cell? (a.add i) = some (.bool k) := by
      intro i hil
      have h1 := hi i hil
      rw [ic, List.getElem?_eq_getElem (by omega)] at h1
      obtain ⟨cs, h2, h3⟩ := Option.bind_eq_some_iff.1 h1
      obtain ⟨_, hlen, hcell⟩ := World.cells?_some h2
      match cs, hlen with
      | [c0], _ =>
        obtain ⟨k, hk, _⟩ := DataW.trod_bool ui h3
        simp only [List.cons.injEq, and_true] at hk
        have := hcell 0 (by simp)
        rw [add_add] at this
        refine ⟨k, ?_⟩
        rw [← hk]
        simpa using this
    let g : Nat → Bool := fun i => if h : i < n then Classical.choose (each i h) else false
    have hg : ∀ i, i < n → w.cell? (a.add i) = some (.bool (g i)) := by
      intro i h
      simp only [g, h, dif_pos]
      exact Classical.choose_spec (each i h)
    refine ⟨(List.range n).map g, by simp, ⟨by unfold cellsO; simp, fun hn => ?_⟩, by simpa using hlc⟩
    simp only [List.length_map, List.length_range] at hn
    refine ⟨a, rfl, ?_, fun j u hu => ?_⟩
    · have := World.block_lt_of_cell? w _ (hg 0 hn)
      rwa [add_block] at this
    · have hj : j < n := by
        have := (List.getElem?_eq_some_iff.1 hu).1
        unfold cellsO at this
        simpa using this
      unfold cellsO at hu
      rw [List.getElem?_map, List.getElem?_map, List.getElem?_range hj] at hu
      simp only [Option.map_some, Option.some.injEq] at hu
      rw [hg j hj, hu]
end
end Wb
