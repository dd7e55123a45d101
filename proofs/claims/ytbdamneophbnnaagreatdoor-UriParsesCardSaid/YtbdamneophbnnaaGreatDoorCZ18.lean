/- ScH. -/
import Derived.Test.YtbdamneophbnnaaGreatDoorCZ13
namespace Wb
open Go
theorem head_at (d : List UInt8) : Lib.hasPrefix d [64] = decide (d.head? = some 64) := by
  rw [pre_take']
  cases d with
  | nil => rfl
  | cons c l => simp
end Wb
namespace Go.Proofs.YtbdamneophbnnaaGreatDoor
open Go.RowKit Wb
set_option maxHeartbeats 8000000 in
set_option maxRecDepth 100000 in
theorem step_any (A : Option Addr) (l : List Pr) (c : Nat) (d : ByteArray) (last : Bool) (w : World) (hl : ScSm l) (hd : d.size ≤ 1000000) (hA : Sl2 w A l) (hG : GvS w) :
    Calls Tryz.prog 65 #[.slice A l.length c, .string d, .bool last] w fun e w' => OneOut (oneP l last d.data.toList) e ∧ Below w.heap.size w w' := by
  have hdl : d.data.toList.length = d.size := by simp
  have hcp := fun v => cutP_any d ⟨#[64]⟩ v
  rw [show (⟨#[64]⟩ : ByteArray).data.toList = [64] from rfl] at hcp
  obtain ⟨T, hT⟩ : ∃ T, Lib.trimPrefix d.data.toList [64] = T := ⟨_, rfl⟩
  obtain ⟨b, hb⟩ : ∃ b, Lib.hasPrefix d.data.toList [64] = b := ⟨_, rfl⟩
  have hTl : T.length ≤ d.size := by rw [← hT, ← hdl]; exact trimP_le _ _
  rw [hT, hb] at hcp
  have hk0 := OwnB.new0 w #[.int .i64 0, .bool false, .string ⟨#[]⟩, .string ⟨#[]⟩, .int .i64 0, .bool false, .string ⟨#[]⟩, .string ⟨#[]⟩, .string ⟨#[]⟩] 46
  have hb0 := (Below.refl w.heap.size w).alloc (Nat.le_refl _) (.cells #[.int .i64 0, .bool false, .string ⟨#[]⟩, .string ⟨#[]⟩, .int .i64 0, .bool false, .string ⟨#[]⟩, .string ⟨#[]⟩, .string ⟨#[]⟩] 46)
  have HAT := Lib.hid (fun v hv => attrStep_any A l c (mkT T) v hl (by rw [mkT_size]; omega) hv)
  have HNM := Lib.hid (fun v hv (hg : Below w.heap.size w v) => nameStep_any A l c d v hl hd hv (hG.next hg))
  obtain ⟨n, hn⟩ : ∃ n, decide (d.data.toList = sNsAll) = n := ⟨_, rfl⟩
  have hdn : (d.toList == [110, 97, 109, 101, 115, 112, 97, 99, 101, 58, 58, 42]) = n := by
    have := mkT_eq d.data.toList [110, 97, 109, 101, 115, 112, 97, 99, 101, 58, 58, 42]
    rw [show mkT d.data.toList = d from to_list d] at this
    rw [this]
    exact hn
  obtain ⟨o, ho⟩ : ∃ o, oneP l last d.data.toList = o := ⟨_, rfl⟩
  rw [ho]
  unfold oneP at ho
  have hcase : (last = true ∧ n = true) ∨ (last = true ∧ n = false ∧ b = true) ∨ (last = true ∧ n = false ∧ b = false) ∨ last = false := by
    cases last <;> cases n <;> cases b <;> simp
  rw [head_at] at hb
  rcases hcase with ⟨rfl, rfl⟩ | ⟨rfl, rfl, rfl⟩ | ⟨rfl, rfl, rfl⟩ | rfl
  · have hns : d.data.toList = sNsAll := by simpa using hn
    obtain rfl : .ok ⟨3, false, nE, 0, false, nE, sE⟩ = o := by rw [← ho, if_pos ⟨rfl, hns⟩]
    clear ho hns HAT HNM hT hb hTl hn
    go_enter Tryz.func65, Tryz.ntmps65
    go_upto_region 1 with fail
    generalize w.alloc (.cells #[.int .i64 0, .bool false, .string ⟨#[]⟩, .string ⟨#[]⟩, .int .i64 0, .bool false, .string ⟨#[]⟩, .string ⟨#[]⟩, .string ⟨#[]⟩] 46) = w0 at *
    go_wp2_with fail
    refine (hcp _).mono ?_
    rintro e w1 ⟨rfl, rfl⟩
    clear hcp
    have d0 : w1.cell? ⟨w.heap.size, 0, none⟩ = some (.int .i64 0) := hk0.cell 0
    have d1 : w1.cell? ⟨w.heap.size, 1, none⟩ = some (.bool false) := hk0.cell 1
    have d2 : w1.cell? ⟨w.heap.size, 2, none⟩ = some (.string ⟨#[]⟩) := hk0.cell 2
    have d3 : w1.cell? ⟨w.heap.size, 3, none⟩ = some (.string ⟨#[]⟩) := hk0.cell 3
    have d4 : w1.cell? ⟨w.heap.size, 4, none⟩ = some (.int .i64 0) := hk0.cell 4
    have d5 : w1.cell? ⟨w.heap.size, 5, none⟩ = some (.bool false) := hk0.cell 5
    have d6 : w1.cell? ⟨w.heap.size, 6, none⟩ = some (.string ⟨#[]⟩) := hk0.cell 6
    have d7 : w1.cell? ⟨w.heap.size, 7, none⟩ = some (.string ⟨#[]⟩) := hk0.cell 7
    have d8 : w1.cell? ⟨w.heap.size, 8, none⟩ = some (.string ⟨#[]⟩) := hk0.cell 8
    have df0 := hk0.free 0
    have df1 := hk0.free 1
    have df2 := hk0.free 2
    have df3 := hk0.free 3
    have df4 := hk0.free 4
    have df5 := hk0.free 5
    have df6 := hk0.free 6
    have df7 := hk0.free 7
    have df8 := hk0.free 8
    go_wp2
    refine bodyPost_ret (results_cell2 rfl _ _ w.heap.size _ _ _ rfl (hk0.all9 _ _ _ _ _ _ _ _ _).blk Tryz.underlying46 rfl step9_size) rfl ?_
    exact ⟨OneOut.good, (((((((((hb0.setCell (Nat.le_refl _) _).setCell (Nat.le_refl _) _).setCell (Nat.le_refl _) _).setCell (Nat.le_refl _) _).setCell (Nat.le_refl _) _).setCell (Nat.le_refl _) _).setCell (Nat.le_refl _) _).setCell (Nat.le_refl _) _).setCell (Nat.le_refl _) _)⟩
  · have hns : ¬ d.data.toList = sNsAll := by simpa using hn
    have h64 : d.data.toList.head? = some 64 := by simpa using hb
    have eT : T = d.data.toList.drop 1 := by
      rw [← hT]
      unfold Lib.trimPrefix
      rw [head_at, if_pos (by simpa using h64)]
      rfl
    rw [if_neg (fun h => hns h.2), if_pos ⟨rfl, h64⟩, ← eT] at ho
    have hat : ∀ v, Sl2 v A l → Calls Tryz.prog 97 #[.slice A l.length c, .string (mkT T)] v fun e w' => OneOut o e ∧ Below v.heap.size v w' := fun v hv => by rw [← ho]; exact HAT.out v hv
    have HAT2 := Lib.hid hat
    clear ho hns h64 eT hat HAT HNM hT hb hTl hn
    go_enter Tryz.func65, Tryz.ntmps65
    go_upto_region 1 with fail
    generalize w.alloc (.cells #[.int .i64 0, .bool false, .string ⟨#[]⟩, .string ⟨#[]⟩, .int .i64 0, .bool false, .string ⟨#[]⟩, .string ⟨#[]⟩, .string ⟨#[]⟩] 46) = w0 at *
    go_wp2_with fail
    refine (hcp _).mono ?_
    rintro e w1 ⟨rfl, rfl⟩
    clear hcp
    go_wp2_with fail
    refine (HAT2.out _ (hA.below hb0)).mono ?_
    rintro e w2 ⟨hco, hb2⟩
    have hk2 := hk0.next hb2
    replace hb2 := hb0.trans (hb2.mono hb0.size)
    cases o with
    | error kk =>
      obtain rfl := hco.1 kk rfl
      unfold stV nE
      have d0 : w2.cell? ⟨w.heap.size, 0, none⟩ = some (.int .i64 0) := hk2.cell 0
      have d1 : w2.cell? ⟨w.heap.size, 1, none⟩ = some (.bool false) := hk2.cell 1
      have d2 : w2.cell? ⟨w.heap.size, 2, none⟩ = some (.string ⟨#[]⟩) := hk2.cell 2
      have d3 : w2.cell? ⟨w.heap.size, 3, none⟩ = some (.string ⟨#[]⟩) := hk2.cell 3
      have d4 : w2.cell? ⟨w.heap.size, 4, none⟩ = some (.int .i64 0) := hk2.cell 4
      have d5 : w2.cell? ⟨w.heap.size, 5, none⟩ = some (.bool false) := hk2.cell 5
      have d6 : w2.cell? ⟨w.heap.size, 6, none⟩ = some (.string ⟨#[]⟩) := hk2.cell 6
      have d7 : w2.cell? ⟨w.heap.size, 7, none⟩ = some (.string ⟨#[]⟩) := hk2.cell 7
      have d8 : w2.cell? ⟨w.heap.size, 8, none⟩ = some (.string ⟨#[]⟩) := hk2.cell 8
      have df0 := hk2.free 0
      have df1 := hk2.free 1
      have df2 := hk2.free 2
      have df3 := hk2.free 3
      have df4 := hk2.free 4
      have df5 := hk2.free 5
      have df6 := hk2.free 6
      have df7 := hk2.free 7
      have df8 := hk2.free 8
      go_wp2
      refine bodyPost_ret (results_cell2 rfl _ _ w.heap.size _ _ _ rfl (hk2.all9 _ _ _ _ _ _ _ _ _).blk Tryz.underlying46 rfl step9_size) rfl ?_
      exact ⟨OneOut.bad, (((((((((hb2.setCell (Nat.le_refl _) _).setCell (Nat.le_refl _) _).setCell (Nat.le_refl _) _).setCell (Nat.le_refl _) _).setCell (Nat.le_refl _) _).setCell (Nat.le_refl _) _).setCell (Nat.le_refl _) _).setCell (Nat.le_refl _) _).setCell (Nat.le_refl _) _)⟩
    | ok x =>
      obtain rfl := hco.2 x rfl
      unfold stV
      have d0 : w2.cell? ⟨w.heap.size, 0, none⟩ = some (.int .i64 0) := hk2.cell 0
      have d1 : w2.cell? ⟨w.heap.size, 1, none⟩ = some (.bool false) := hk2.cell 1
      have d2 : w2.cell? ⟨w.heap.size, 2, none⟩ = some (.string ⟨#[]⟩) := hk2.cell 2
      have d3 : w2.cell? ⟨w.heap.size, 3, none⟩ = some (.string ⟨#[]⟩) := hk2.cell 3
      have d4 : w2.cell? ⟨w.heap.size, 4, none⟩ = some (.int .i64 0) := hk2.cell 4
      have d5 : w2.cell? ⟨w.heap.size, 5, none⟩ = some (.bool false) := hk2.cell 5
      have d6 : w2.cell? ⟨w.heap.size, 6, none⟩ = some (.string ⟨#[]⟩) := hk2.cell 6
      have d7 : w2.cell? ⟨w.heap.size, 7, none⟩ = some (.string ⟨#[]⟩) := hk2.cell 7
      have d8 : w2.cell? ⟨w.heap.size, 8, none⟩ = some (.string ⟨#[]⟩) := hk2.cell 8
      have df0 := hk2.free 0
      have df1 := hk2.free 1
      have df2 := hk2.free 2
      have df3 := hk2.free 3
      have df4 := hk2.free 4
      have df5 := hk2.free 5
      have df6 := hk2.free 6
      have df7 := hk2.free 7
      have df8 := hk2.free 8
      go_wp2
      refine bodyPost_ret (results_cell2 rfl _ _ w.heap.size _ _ _ rfl (hk2.all9 _ _ _ _ _ _ _ _ _).blk Tryz.underlying46 rfl step9_size) rfl ?_
      exact ⟨OneOut.good, (((((((((hb2.setCell (Nat.le_refl _) _).setCell (Nat.le_refl _) _).setCell (Nat.le_refl _) _).setCell (Nat.le_refl _) _).setCell (Nat.le_refl _) _).setCell (Nat.le_refl _) _).setCell (Nat.le_refl _) _).setCell (Nat.le_refl _) _).setCell (Nat.le_refl _) _)⟩
  · have hns : ¬ d.data.toList = sNsAll := by simpa using hn
    have h64 : ¬ d.data.toList.head? = some 64 := by simpa using hb
    rw [if_neg (fun h => hns h.2), if_neg (fun h => h64 h.2)] at ho
    have hnm : ∀ v, Below w.heap.size w v → Calls Tryz.prog 98 #[.slice A l.length c, .string d] v fun e w' => OneOut o e ∧ Below v.heap.size v w' := fun v hv => by rw [← ho]; exact HNM.out v (hA.below hv) hv
    have HNM2 := Lib.hid hnm
    clear ho hns h64 hnm HAT HNM hT hb hTl hn
    go_enter Tryz.func65, Tryz.ntmps65
    go_upto_region 1 with fail
    generalize w.alloc (.cells #[.int .i64 0, .bool false, .string ⟨#[]⟩, .string ⟨#[]⟩, .int .i64 0, .bool false, .string ⟨#[]⟩, .string ⟨#[]⟩, .string ⟨#[]⟩] 46) = w0 at *
    go_wp2_with fail
    refine (hcp _).mono ?_
    rintro e w1 ⟨rfl, rfl⟩
    clear hcp
    go_wp2_with fail
    refine (HNM2.out _ hb0).mono ?_
    rintro e w2 ⟨hco, hb2⟩
    have hk2 := hk0.next hb2
    replace hb2 := hb0.trans (hb2.mono hb0.size)
    cases o with
    | error kk =>
      obtain rfl := hco.1 kk rfl
      unfold stV nE
      have d0 : w2.cell? ⟨w.heap.size, 0, none⟩ = some (.int .i64 0) := hk2.cell 0
      have d1 : w2.cell? ⟨w.heap.size, 1, none⟩ = some (.bool false) := hk2.cell 1
      have d2 : w2.cell? ⟨w.heap.size, 2, none⟩ = some (.string ⟨#[]⟩) := hk2.cell 2
      have d3 : w2.cell? ⟨w.heap.size, 3, none⟩ = some (.string ⟨#[]⟩) := hk2.cell 3
      have d4 : w2.cell? ⟨w.heap.size, 4, none⟩ = some (.int .i64 0) := hk2.cell 4
      have d5 : w2.cell? ⟨w.heap.size, 5, none⟩ = some (.bool false) := hk2.cell 5
      have d6 : w2.cell? ⟨w.heap.size, 6, none⟩ = some (.string ⟨#[]⟩) := hk2.cell 6
      have d7 : w2.cell? ⟨w.heap.size, 7, none⟩ = some (.string ⟨#[]⟩) := hk2.cell 7
      have d8 : w2.cell? ⟨w.heap.size, 8, none⟩ = some (.string ⟨#[]⟩) := hk2.cell 8
      have df0 := hk2.free 0
      have df1 := hk2.free 1
      have df2 := hk2.free 2
      have df3 := hk2.free 3
      have df4 := hk2.free 4
      have df5 := hk2.free 5
      have df6 := hk2.free 6
      have df7 := hk2.free 7
      have df8 := hk2.free 8
      go_wp2
      refine bodyPost_ret (results_cell2 rfl _ _ w.heap.size _ _ _ rfl (hk2.all9 _ _ _ _ _ _ _ _ _).blk Tryz.underlying46 rfl step9_size) rfl ?_
      exact ⟨OneOut.bad, (((((((((hb2.setCell (Nat.le_refl _) _).setCell (Nat.le_refl _) _).setCell (Nat.le_refl _) _).setCell (Nat.le_refl _) _).setCell (Nat.le_refl _) _).setCell (Nat.le_refl _) _).setCell (Nat.le_refl _) _).setCell (Nat.le_refl _) _).setCell (Nat.le_refl _) _)⟩
    | ok x =>
      obtain rfl := hco.2 x rfl
      unfold stV
      have d0 : w2.cell? ⟨w.heap.size, 0, none⟩ = some (.int .i64 0) := hk2.cell 0
      have d1 : w2.cell? ⟨w.heap.size, 1, none⟩ = some (.bool false) := hk2.cell 1
      have d2 : w2.cell? ⟨w.heap.size, 2, none⟩ = some (.string ⟨#[]⟩) := hk2.cell 2
      have d3 : w2.cell? ⟨w.heap.size, 3, none⟩ = some (.string ⟨#[]⟩) := hk2.cell 3
      have d4 : w2.cell? ⟨w.heap.size, 4, none⟩ = some (.int .i64 0) := hk2.cell 4
      have d5 : w2.cell? ⟨w.heap.size, 5, none⟩ = some (.bool false) := hk2.cell 5
      have d6 : w2.cell? ⟨w.heap.size, 6, none⟩ = some (.string ⟨#[]⟩) := hk2.cell 6
      have d7 : w2.cell? ⟨w.heap.size, 7, none⟩ = some (.string ⟨#[]⟩) := hk2.cell 7
      have d8 : w2.cell? ⟨w.heap.size, 8, none⟩ = some (.string ⟨#[]⟩) := hk2.cell 8
      have df0 := hk2.free 0
      have df1 := hk2.free 1
      have df2 := hk2.free 2
      have df3 := hk2.free 3
      have df4 := hk2.free 4
      have df5 := hk2.free 5
      have df6 := hk2.free 6
      have df7 := hk2.free 7
      have df8 := hk2.free 8
      go_wp2
      refine bodyPost_ret (results_cell2 rfl _ _ w.heap.size _ _ _ rfl (hk2.all9 _ _ _ _ _ _ _ _ _).blk Tryz.underlying46 rfl step9_size) rfl ?_
      exact ⟨OneOut.good, (((((((((hb2.setCell (Nat.le_refl _) _).setCell (Nat.le_refl _) _).setCell (Nat.le_refl _) _).setCell (Nat.le_refl _) _).setCell (Nat.le_refl _) _).setCell (Nat.le_refl _) _).setCell (Nat.le_refl _) _).setCell (Nat.le_refl _) _).setCell (Nat.le_refl _) _)⟩
  · rw [if_neg (by simp), if_neg (by simp)] at ho
    have hnm : ∀ v, Below w.heap.size w v → Calls Tryz.prog 98 #[.slice A l.length c, .string d] v fun e w' => OneOut o e ∧ Below v.heap.size v w' := fun v hv => by rw [← ho]; exact HNM.out v (hA.below hv) hv
    have HNM2 := Lib.hid hnm
    clear ho hnm HAT HNM hT hb hTl hn
    go_enter Tryz.func65, Tryz.ntmps65
    go_upto_region 1 with fail
    generalize w.alloc (.cells #[.int .i64 0, .bool false, .string ⟨#[]⟩, .string ⟨#[]⟩, .int .i64 0, .bool false, .string ⟨#[]⟩, .string ⟨#[]⟩, .string ⟨#[]⟩] 46) = w0 at *
    go_wp2_with fail
    refine (hcp _).mono ?_
    rintro e w1 ⟨rfl, rfl⟩
    clear hcp
    go_wp2_with fail
    refine (HNM2.out _ hb0).mono ?_
    rintro e w2 ⟨hco, hb2⟩
    have hk2 := hk0.next hb2
    replace hb2 := hb0.trans (hb2.mono hb0.size)
    cases o with
    | error kk =>
      obtain rfl := hco.1 kk rfl
      unfold stV nE
      have d0 : w2.cell? ⟨w.heap.size, 0, none⟩ = some (.int .i64 0) := hk2.cell 0
      have d1 : w2.cell? ⟨w.heap.size, 1, none⟩ = some (.bool false) := hk2.cell 1
      have d2 : w2.cell? ⟨w.heap.size, 2, none⟩ = some (.string ⟨#[]⟩) := hk2.cell 2
      have d3 : w2.cell? ⟨w.heap.size, 3, none⟩ = some (.string ⟨#[]⟩) := hk2.cell 3
      have d4 : w2.cell? ⟨w.heap.size, 4, none⟩ = some (.int .i64 0) := hk2.cell 4
      have d5 : w2.cell? ⟨w.heap.size, 5, none⟩ = some (.bool false) := hk2.cell 5
      have d6 : w2.cell? ⟨w.heap.size, 6, none⟩ = some (.string ⟨#[]⟩) := hk2.cell 6
      have d7 : w2.cell? ⟨w.heap.size, 7, none⟩ = some (.string ⟨#[]⟩) := hk2.cell 7
      have d8 : w2.cell? ⟨w.heap.size, 8, none⟩ = some (.string ⟨#[]⟩) := hk2.cell 8
      have df0 := hk2.free 0
      have df1 := hk2.free 1
      have df2 := hk2.free 2
      have df3 := hk2.free 3
      have df4 := hk2.free 4
      have df5 := hk2.free 5
      have df6 := hk2.free 6
      have df7 := hk2.free 7
      have df8 := hk2.free 8
      go_wp2
      refine bodyPost_ret (results_cell2 rfl _ _ w.heap.size _ _ _ rfl (hk2.all9 _ _ _ _ _ _ _ _ _).blk Tryz.underlying46 rfl step9_size) rfl ?_
      exact ⟨OneOut.bad, (((((((((hb2.setCell (Nat.le_refl _) _).setCell (Nat.le_refl _) _).setCell (Nat.le_refl _) _).setCell (Nat.le_refl _) _).setCell (Nat.le_refl _) _).setCell (Nat.le_refl _) _).setCell (Nat.le_refl _) _).setCell (Nat.le_refl _) _).setCell (Nat.le_refl _) _)⟩
    | ok x =>
      obtain rfl := hco.2 x rfl
      unfold stV
      have d0 : w2.cell? ⟨w.heap.size, 0, none⟩ = some (.int .i64 0) := hk2.cell 0
      have d1 : w2.cell? ⟨w.heap.size, 1, none⟩ = some (.bool false) := hk2.cell 1
      have d2 : w2.cell? ⟨w.heap.size, 2, none⟩ = some (.string ⟨#[]⟩) := hk2.cell 2
      have d3 : w2.cell? ⟨w.heap.size, 3, none⟩ = some (.string ⟨#[]⟩) := hk2.cell 3
      have d4 : w2.cell? ⟨w.heap.size, 4, none⟩ = some (.int .i64 0) := hk2.cell 4
      have d5 : w2.cell? ⟨w.heap.size, 5, none⟩ = some (.bool false) := hk2.cell 5
      have d6 : w2.cell? ⟨w.heap.size, 6, none⟩ = some (.string ⟨#[]⟩) := hk2.cell 6
      have d7 : w2.cell? ⟨w.heap.size, 7, none⟩ = some (.string ⟨#[]⟩) := hk2.cell 7
      have d8 : w2.cell? ⟨w.heap.size, 8, none⟩ = some (.string ⟨#[]⟩) := hk2.cell 8
      have df0 := hk2.free 0
      have df1 := hk2.free 1
      have df2 := hk2.free 2
      have df3 := hk2.free 3
      have df4 := hk2.free 4
      have df5 := hk2.free 5
      have df6 := hk2.free 6
      have df7 := hk2.free 7
      have df8 := hk2.free 8
      go_wp2
      refine bodyPost_ret (results_cell2 rfl _ _ w.heap.size _ _ _ rfl (hk2.all9 _ _ _ _ _ _ _ _ _).blk Tryz.underlying46 rfl step9_size) rfl ?_
      exact ⟨OneOut.good, (((((((((hb2.setCell (Nat.le_refl _) _).setCell (Nat.le_refl _) _).setCell (Nat.le_refl _) _).setCell (Nat.le_refl _) _).setCell (Nat.le_refl _) _).setCell (Nat.le_refl _) _).setCell (Nat.le_refl _) _).setCell (Nat.le_refl _) _).setCell (Nat.le_refl _) _)⟩
end Go.Proofs.YtbdamneophbnnaaGreatDoor
