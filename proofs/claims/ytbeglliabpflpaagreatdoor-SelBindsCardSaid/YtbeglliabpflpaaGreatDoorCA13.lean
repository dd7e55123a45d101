/- SbC ScB GvS PrB. -/
import Derived.Lib.SmallJoins
import Derived.Test.YtbeglliabpflpaaGreatDoorRows
import Derived.Shelf.Vars
import Derived.Lib.LaidU8
import Derived.Lib.LaidTab
import Derived.MakeChecks
import Derived.WideShapes
import Derived.WalkKit
import Derived.ProofKit
import Derived.OpenShut
import Derived.ShutString
import Derived.Lay
import Derived.LaidMore
import Derived.Stop.Joined
import Derived.SevenTiedAt
import Derived.Carry
import Derived.Test.YtbeglliabpflpaaGreatDoorProg
import Derived.Lib.Builder
import Derived.Lib.AppendStr
import Derived.Lib.UnsafeStr
import Derived.Test.YtbeglliabpflpaaGreatDoorCA1
import Derived.Test.YtbeglliabpflpaaGreatDoorCA2
import Derived.Test.YtbeglliabpflpaaGreatDoorCA3
import Derived.Test.YtbeglliabpflpaaGreatDoorCA4
import Derived.Test.YtbeglliabpflpaaGreatDoorCA5
import Derived.Test.YtbeglliabpflpaaGreatDoorCA6
import Derived.Test.YtbeglliabpflpaaGreatDoorCA8
import Derived.Test.YtbeglliabpflpaaGreatDoorCA9
import Derived.Test.YtbeglliabpflpaaGreatDoorCA10
import Derived.Test.YtbeglliabpflpaaGreatDoorCA11
import Derived.Test.YtbeglliabpflpaaGreatDoorCA12
namespace Wb
def mkT (l : List UInt8) : ByteArray := ⟨l.toArray⟩
theorem mkT_app (a b : List UInt8) : mkT a ++ mkT b = mkT (a ++ b) := by
  apply ByteArray.ext
  apply Array.toList_inj.1
  unfold mkT
  rw [ByteArray.data_append, Array.toList_append]
theorem mkT_size (l : List UInt8) : (mkT l).size = l.length := by
  show l.toArray.size = _
  rw [List.size_toArray]
theorem mkT_list (l : List UInt8) : (mkT l).data.toList = l := by unfold mkT; simp
end Wb
namespace Go.Proofs.YtbeglliabpflpaaGreatDoor
open Go.RowKit Wb
end Go.Proofs.YtbeglliabpflpaaGreatDoor
namespace Go.Proofs.YtbeglliabpflpaaGreatDoor
open Go.RowKit Wb
def GvS (w : World) : Prop := Y.Gv w ∧ Lib.TabIs Tryz.prog w "internal/strconv.uint64pow10" .u64 Lib.pow10Tab
theorem GvS.next {w w' : World} (h : GvS w) (hb : Below w.heap.size w w') : GvS w' :=
  ⟨h.1.next hb, Go.Joins.tab_stays (g := 1) (by kernel_rfl) h.2 hb (Nat.le_refl _)⟩
theorem GvS.m {w : World} (h : GvS w) : GvM w := h.1.ml
theorem cut1_any (s : ByteArray) (c : UInt8) (w : World) (hs : s.size ≤ 1000000000) (hG : GvS w) :
    Calls Tryz.prog 45 #[.string s, .string ⟨#[c]⟩] w fun e w' => e = .returned (.tuple #[.string (mkT (Lib.cut s.data.toList [c]).1), .string (mkT (Lib.cut s.data.toList [c]).2.1), .bool (Lib.cut s.data.toList [c]).2.2]) ∧ Below w.heap.size w w' := by
  obtain ⟨m, hm⟩ := hG.m
  have h1 := Tryz.strings_Cut s ⟨#[c]⟩ m w (by omega) hm
  exact h1.mono fun e w' h => ⟨h.1, by obtain ⟨_, n, rfl⟩ := h; exact ⟨rfl, rfl, rfl, Nat.le_refl _, fun _ _ => rfl⟩⟩
theorem cutP_any (s p : ByteArray) (w : World) :
    Calls Tryz.prog 44 #[.string s, .string p] w fun e w' => e = .returned (.tuple #[.string (mkT (Lib.trimPrefix s.data.toList p.data.toList)), .bool (Lib.hasPrefix s.data.toList p.data.toList)]) ∧ w' = w := Tryz.strings_CutPrefix s p w
theorem trimP_le (s p : List UInt8) : (Lib.trimPrefix s p).length ≤ s.length := by
  unfold Lib.trimPrefix
  split
  · rw [List.length_drop]; omega
  · exact Nat.le_refl _
theorem cut_le (s : List UInt8) (c : UInt8) : (Lib.cut s [c]).1.length ≤ s.length ∧ (Lib.cut s [c]).2.1.length ≤ s.length := by
  cases h : cutC c s with
  | none => rw [cut_none1 h]; simp
  | some x =>
    obtain ⟨a, b⟩ := x
    rw [cut_some1 h]
    obtain ⟨rfl, _⟩ := cutC_some h
    simp only [List.length_append, List.length_cons]
    omega
theorem bind_size : (Tryz.prog.info? 49).map (·.size) = some 2 := by kernel_rfl
def cutBindV : Option ((List UInt8 × List UInt8) × List UInt8) → Value
  | none => .tuple #[.agg #[.string ⟨#[]⟩, .string ⟨#[]⟩], .string ⟨#[]⟩, .bool false]
  | some ((n, sp), r) => .tuple #[.agg #[.string (mkT n), .string (mkT sp)], .string (mkT r), .bool true]
theorem bind1_let {s P R Sp R2 : List UInt8} {b1 b2 b3 b4 : Bool} (h1 : Lib.hasPrefix s sBindK = b1) (h2 : Lib.cut (Lib.trimPrefix s sBindK) [61] = (P, R, b2)) (h3 : Lib.cut R [41] = (Sp, R2, b3)) (h4 : nameB P = b4) :
    bind1 s = if (b1 && (b2 && (b3 && b4))) = true then some ((P, Sp), R2) else none := by
  rw [← bindQ_is]
  unfold bindQ
  rw [pre_take'] at h1
  by_cases hk : s.take 6 = sBindK
  · have e1 : b1 = true := by rw [← h1]; exact decide_eq_true hk
    subst e1
    have et : Lib.trimPrefix s sBindK = s.drop 6 := by
      unfold Lib.trimPrefix
      rw [pre_take']
      show (if decide (List.take 6 s = sBindK) = true then s.drop 6 else s) = _
      rw [if_pos (decide_eq_true hk)]
    rw [et] at h2
    rw [if_pos hk]
    cases h61 : cutC 61 (s.drop 6) with
    | none =>
      rw [cut_none1 h61] at h2
      injection h2 with h2 h5
      injection h5 with h5 h6
      subst h6
      rfl
    | some x =>
      obtain ⟨n, t⟩ := x
      rw [cut_some1 h61] at h2
      injection h2 with h2 h5
      injection h5 with h5 h6
      subst h2 h5 h6
      simp only
      cases h41 : cutC 41 t with
      | none =>
        rw [cut_none1 h41] at h3
        injection h3 with h3 h5
        injection h5 with h5 h6
        subst h6
        rfl
      | some x =>
        obtain ⟨sp, r⟩ := x
        rw [cut_some1 h41] at h3
        injection h3 with h3 h5
        injection h5 with h5 h6
        subst h3 h5 h6
        simp only [h4, Bool.true_and]
  · have e1 : b1 = false := by rw [← h1]; exact decide_eq_false hk
    subst e1
    rw [if_neg hk]
    rfl
set_option maxRecDepth 100000 in
set_option maxHeartbeats 8000000 in
theorem cutBind_any (s : ByteArray) (w : World) (hs : s.size ≤ 1000000) (hG : GvS w) :
    Calls Tryz.prog 19 #[.string s] w fun e w' => e = .returned (cutBindV (bind1 s.data.toList)) ∧ Below w.heap.size w w' := by
  obtain ⟨b1, h1⟩ : ∃ b, Lib.hasPrefix s.data.toList sBindK = b := ⟨_, rfl⟩
  obtain ⟨P, R, b2, h2⟩ : ∃ P R b, Lib.cut (Lib.trimPrefix s.data.toList sBindK) [61] = (P, R, b) := ⟨_, _, _, rfl⟩
  obtain ⟨Sp, R2, b3, h3⟩ : ∃ X Y b, Lib.cut R [41] = (X, Y, b) := ⟨_, _, _, rfl⟩
  obtain ⟨b4, h4⟩ : ∃ b, nameB P = b := ⟨_, rfl⟩
  have HL := Lib.hid (bind1_let h1 h2 h3 h4)
  have ll := trimP_le s.data.toList sBindK
  have l1 := cut_le (Lib.trimPrefix s.data.toList sBindK) 61
  rw [h2] at l1
  have hsl : s.data.toList.length = s.size := by simp
  have k1 := cutP_any s ⟨#[120, 109, 108, 110, 115, 40]⟩
  have ek : (⟨#[120, 109, 108, 110, 115, 40]⟩ : ByteArray).data.toList = sBindK := rfl
  rw [ek, h1] at k1
  obtain ⟨T, hT⟩ : ∃ T, Lib.trimPrefix s.data.toList sBindK = T := ⟨_, rfl⟩
  rw [hT] at k1 l1 h2 ll
  have k2 := fun v hv => cut1_any (mkT T) 61 v (by rw [mkT_size]; omega) hv
  rw [mkT_list, h2] at k2
  have k3 := fun v hv => cut1_any (mkT R) 41 v (by rw [mkT_size]; simp only at l1; omega) hv
  rw [mkT_list, h3] at k3
  have k4 := fun v => name_any (mkT P) v (by rw [mkT_size]; simp only at l1; omega)
  rw [mkT_list, h4] at k4
  simp only at k2 k3
  have K2 := Lib.hid k2
  have K3 := Lib.hid k3
  have K4 := Lib.hid k4
  have HGa := Lib.hid (fun v (hb : Below w.heap.size w v) => hG.next hb)
  clear k2 k3 k4 h1 h2 h3 h4 l1 ll hsl hT hG ek
  obtain ⟨o, ho⟩ : ∃ o, bind1 s.data.toList = o := ⟨_, rfl⟩
  rw [ho]
  rw [ho] at HL
  clear ho
  have hb0 := (Below.refl w.heap.size w).alloc (Nat.le_refl _) (.cells #[.string ⟨#[]⟩, .string ⟨#[]⟩] 49)
  have hnew := heap_alloc_new w (.cells #[.string ⟨#[]⟩, .string ⟨#[]⟩] 49)
  have hc : b1 = false ∨ (b1 = true ∧ b2 = false) ∨ (b1 = true ∧ b2 = true ∧ b3 = false) ∨ (b1 = true ∧ b2 = true ∧ b3 = true ∧ b4 = false) ∨ (b1 = true ∧ b2 = true ∧ b3 = true ∧ b4 = true) := by
    cases b1 <;> cases b2 <;> cases b3 <;> cases b4 <;> simp
  rcases hc with rfl | ⟨rfl, rfl⟩ | ⟨rfl, rfl, rfl⟩ | ⟨rfl, rfl, rfl, rfl⟩ | ⟨rfl, rfl, rfl, rfl⟩
  all_goals
    go_enter Tryz.func19, Tryz.ntmps19
    go_wp2_with fail
    refine (k1 _).mono ?_
    rintro e w1 ⟨rfl, rfl⟩
    go_wp2_with fail
    refine (K2.out _ (HGa.out _ hb0)).mono ?_
    rintro e w2 ⟨rfl, hb2⟩
    have hk2 := (hb2.block w.heap.size (by simp)).trans hnew
    have hs2 : w.heap.size < w2.heap.size := by have := hb2.size; simp at this; omega
    replace hb2 := hb0.trans (hb2.mono hb0.size)
    go_wp2_with fail
    refine (K3.out _ (HGa.out _ hb2)).mono ?_
    rintro e w3 ⟨rfl, hb3⟩
    have hk3 := (hb3.block w.heap.size hs2).trans hk2
    have hs3 : w.heap.size < w3.heap.size := by have := hb3.size; omega
    replace hb3 := hb2.trans (hb3.mono hb2.size)
    clear hb2 hk2 hs2 hnew hb0 K2 K3 HGa k1
  · obtain rfl : o = none := by simpa using HL.out
    have f0 := blk_free hk3 0
    have f1 := blk_free hk3 1
    have c0 : w3.cell? ⟨w.heap.size, 0, none⟩ = some (.string ⟨#[]⟩) := blk_cell hk3 0
    have c1 : w3.cell? ⟨w.heap.size, 1, none⟩ = some (.string ⟨#[]⟩) := blk_cell hk3 1
    clear K4
    go_wp2
    refine bodyPost_ret (results_cell3 rfl _ _ w.heap.size _ _ _ rfl (blk_set (blk_set hk3 0 _) 1 _) Tryz.underlying49 rfl bind_size) rfl ?_
    exact ⟨rfl, (hb3.setCell (Nat.le_refl _) _).setCell (Nat.le_refl _) _⟩
  · obtain rfl : o = none := by simpa using HL.out
    have f0 := blk_free hk3 0
    have f1 := blk_free hk3 1
    have c0 : w3.cell? ⟨w.heap.size, 0, none⟩ = some (.string ⟨#[]⟩) := blk_cell hk3 0
    have c1 : w3.cell? ⟨w.heap.size, 1, none⟩ = some (.string ⟨#[]⟩) := blk_cell hk3 1
    clear K4
    go_wp2
    refine bodyPost_ret (results_cell3 rfl _ _ w.heap.size _ _ _ rfl (blk_set (blk_set hk3 0 _) 1 _) Tryz.underlying49 rfl bind_size) rfl ?_
    exact ⟨rfl, (hb3.setCell (Nat.le_refl _) _).setCell (Nat.le_refl _) _⟩
  · obtain rfl : o = none := by simpa using HL.out
    have f0 := blk_free hk3 0
    have f1 := blk_free hk3 1
    have c0 : w3.cell? ⟨w.heap.size, 0, none⟩ = some (.string ⟨#[]⟩) := blk_cell hk3 0
    have c1 : w3.cell? ⟨w.heap.size, 1, none⟩ = some (.string ⟨#[]⟩) := blk_cell hk3 1
    clear K4
    go_wp2
    refine bodyPost_ret (results_cell3 rfl _ _ w.heap.size _ _ _ rfl (blk_set (blk_set hk3 0 _) 1 _) Tryz.underlying49 rfl bind_size) rfl ?_
    exact ⟨rfl, (hb3.setCell (Nat.le_refl _) _).setCell (Nat.le_refl _) _⟩
  · obtain rfl : o = none := by simpa using HL.out
    go_wp2_with fail
    refine (K4.out _).mono ?_
    rintro e w4 ⟨rfl, hb4⟩
    have hk4 := (hb4.block w.heap.size hs3).trans hk3
    replace hb4 := hb3.trans (hb4.mono hb3.size)
    have f0 := blk_free hk4 0
    have f1 := blk_free hk4 1
    have c0 : w4.cell? ⟨w.heap.size, 0, none⟩ = some (.string ⟨#[]⟩) := blk_cell hk4 0
    have c1 : w4.cell? ⟨w.heap.size, 1, none⟩ = some (.string ⟨#[]⟩) := blk_cell hk4 1
    clear K4 hb3 hk3
    go_wp2
    refine bodyPost_ret (results_cell3 rfl _ _ w.heap.size _ _ _ rfl (blk_set (blk_set hk4 0 _) 1 _) Tryz.underlying49 rfl bind_size) rfl ?_
    exact ⟨rfl, (hb4.setCell (Nat.le_refl _) _).setCell (Nat.le_refl _) _⟩
  · obtain rfl : o = some ((P, Sp), R2) := by simpa using HL.out
    go_wp2_with fail
    refine (K4.out _).mono ?_
    rintro e w4 ⟨rfl, hb4⟩
    have hk4 := (hb4.block w.heap.size hs3).trans hk3
    replace hb4 := hb3.trans (hb4.mono hb3.size)
    have f0 := blk_free hk4 0
    have f1 := blk_free hk4 1
    have c0 : w4.cell? ⟨w.heap.size, 0, none⟩ = some (.string ⟨#[]⟩) := blk_cell hk4 0
    have c1 : w4.cell? ⟨w.heap.size, 1, none⟩ = some (.string ⟨#[]⟩) := blk_cell hk4 1
    clear K4 hb3 hk3
    go_wp2
    refine bodyPost_ret (results_cell3 rfl _ _ w.heap.size _ _ _ rfl (blk_set (blk_set hk4 0 _) 1 _) Tryz.underlying49 rfl bind_size) rfl ?_
    exact ⟨rfl, (hb4.setCell (Nat.le_refl _) _).setCell (Nat.le_refl _) _⟩
theorem cb_len {s : List UInt8} {n sp r : List UInt8} (h : bind1 s = some ((n, sp), r)) : n.length ≤ s.length ∧ sp.length ≤ s.length ∧ r.length < s.length := by
  obtain ⟨h1, es, _⟩ := bind1_len h
  have := congrArg List.length es
  simp only [List.length_append, List.length_cons] at this
  omega
set_option maxRecDepth 100000 in
set_option maxHeartbeats 8000000 in
theorem sbinds_any (q : ByteArray) (w : World) (hq : q.size ≤ 1000000) (hG : GvS w) :
    Calls Tryz.prog 8 #[.string q] w (BindsOut (bindsP q.data.toList) w) := by
  obtain ⟨o, ho⟩ : ∃ o, bindsP q.data.toList = o := ⟨_, rfl⟩
  rw [ho]
  unfold bindsP at ho
  have hd := fun v => decode_any q v hq
  obtain ⟨s, e0, hse⟩ : ∃ s e0, decP q.data.toList = (s, e0) := ⟨_, _, rfl⟩
  have hsl : s.length ≤ q.size := by
    have := decP_len q.data.toList
    rw [hse] at this
    simpa using this
  rw [hse] at ho hd
  simp only at ho hd
  by_cases h0 : e0 = 0
  · subst h0
    rw [if_pos rfl] at ho
    have HO := Lib.hid ho
    have HG := Lib.hid (fun v (hb : Below w.heap.size w v) => hG.next hb)
    have htr := fun v => trim_any (mkT s) v (by rw [mkT_size]; omega)
    rw [mkT_list] at htr
    have HT := Lib.hid htr
    clear ho hse hG htr
    go_enter Tryz.func8, Tryz.ntmps8
    go_wp2_with fail
    refine (hd _).mono ?_
    rintro e w1 ⟨rfl, hb1⟩
    have HB1 := Lib.hid hb1
    clear hb1 hd
    go_wp2_with fail
    refine (HT.out _).mono ?_
    rintro e w2 ⟨rfl, rfl⟩
    clear HT
    go_wp2
    go_loopw [4, 5, 6, 7, 8, 9] (fun v4 _ v6 _ _ _ wr => ∃ (u : List UInt8) (C : Option Addr) (k : Nat) (out : List Pr) (f : Nat), v4 = .string (mkT u) ∧ v6 = .slice C out.length k ∧ out.length ≤ 16 ∧ u.length < f ∧ u.length ≤ 1000000 ∧ Hid (u.dropWhile blkU = u) ∧ Hid (bindsL f u out = o) ∧ Hid (Sl2 wr C out) ∧ Hid (Below w.heap.size w wr)) (fun v4 _ _ _ _ _ _ => Lib.strSize v4)
    case atStart =>
      refine ⟨trimL s, none, 0, [], s.length + 1, rfl, rfl, by simp, ?_, ?_, Lib.hid (trim_head s), Lib.hid (by rw [binds_trim]; exact HO.out), Lib.hid (Sl2.nil _ _), HB1⟩
      · have := trim_len s
        omega
      · have := trim_len s
        omega
    case round =>
      obtain ⟨u, C, k, out, f, rfl, rfl, hol, huf, hul, HD, HQ, HC, HB⟩ := hrel
      obtain ⟨f, rfl⟩ : ∃ g, f = g + 1 := ⟨f - 1, by omega⟩
      by_cases hu : u = []
      · subst hu
        have hq := HQ.out
        rw [bindsL_end rfl] at hq
        have HQ2 := Lib.hid hq
        have he : (mkT []).toList.isEmpty = true := by rw [ByteArray.toList_eq]; rfl
        clear hq
        go_wp2
        go_ret2
        exact ⟨C, k, by rw [← HQ2.out]; rfl, by rw [← HQ2.out]; exact HC.out, HB.out⟩
      · have hne : (mkT u).toList.isEmpty = false := by
          rw [ByteArray.toList_eq]
          show (mkT u).data.toList.isEmpty = false
          rw [mkT_list]
          simpa using hu
        have hcb := fun v hv => cutBind_any (mkT u) v (by rw [mkT_size]; exact hul) hv
        rw [mkT_list] at hcb
        have hdw : u.dropWhile blkU ≠ [] := by rw [HD.out]; exact hu
        obtain ⟨ox, hox⟩ : ∃ ox, bind1 u = ox := ⟨_, rfl⟩
        rw [hox] at hcb
        cases ox with
        | none =>
          have hq := HQ.out
          rw [bindsL_none hdw (by rw [HD.out]; exact hox)] at hq
          subst hq
          clear HQ HD hdw hu hox
          go_wp2_with fail
          refine (hcb _ (HG.out _ HB.out)).mono ?_
          rintro e w3 ⟨rfl, hb3⟩
          have HB3 := Lib.hid (HB.out.trans (hb3.mono HB.out.size))
          unfold cutBindV
          clear hb3 hcb
          go_wp2
          go_ret2
          exact BindsOut.bad (HB3.out.alloc HB3.out.size _)
        | some x =>
          obtain ⟨⟨n, sp⟩, r⟩ := x
          obtain ⟨l1, l2, l3⟩ := cb_len hox
          have hq := HQ.out
          rw [bindsL_some hdw (by rw [HD.out]; exact hox)] at hq
          by_cases h16 : out.length = 16
          · rw [if_pos (by omega)] at hq
            subst hq
            clear HQ HD hdw hu hox
            have hl16 : ((out.length : Int) == 16) = true := by rw [h16]; rfl
            go_wp2_with fail
            refine (hcb _ (HG.out _ HB.out)).mono ?_
            rintro e w3 ⟨rfl, hb3⟩
            have HB3 := Lib.hid (HB.out.trans (hb3.mono HB.out.size))
            unfold cutBindV
            clear hb3 hcb
            go_wp2
            go_ret2
            exact BindsOut.bad (HB3.out.alloc HB3.out.size _)
          · rw [if_neg (by omega)] at hq
            have hl16 : ((out.length : Int) == 16) = false := by rw [beq_eq_false_iff_ne]; omega
            have hadd := fun v hv => add_any C out k (mkT n) (mkT sp) v (by omega) (by rw [mkT_size]; omega) hv
            have htr := fun v => trim_any (mkT r) v (by rw [mkT_size]; omega)
            rw [mkT_list] at htr
            have HQ2 : Hid ((if bindB (mkT n) (mkT sp) = 0 then bindsL f r (out ++ [(mkT n, mkT sp)]) else ([], bindB (mkT n) (mkT sp))) = o) := Lib.hid hq
            obtain ⟨bb, hbb⟩ : ∃ bb, bindB (mkT n) (mkT sp) = bb := ⟨_, rfl⟩
            have HBB := Lib.hid hbb
            have HADD := Lib.hid hadd
            have HT := Lib.hid htr
            have HL := Lib.hid (show r.length < f ∧ r.length ≤ 1000000 ∧ r.length < u.length from ⟨by omega, by omega, by omega⟩)
            clear hadd htr HQ HD hdw hu hox hq hbb l1 l2 l3
            go_wp2_with fail
            refine (hcb _ (HG.out _ HB.out)).mono ?_
            rintro e w3 ⟨rfl, hb3⟩
            have HB3 := Lib.hid (HB.out.trans (hb3.mono HB.out.size))
            have HC3 := Lib.hid (HC.out.below hb3)
            unfold cutBindV
            clear hb3 hcb
            have hba := HB3.out.alloc HB3.out.size (.cells #[.string (mkT n), .string (mkT sp)] 49)
            have HCA := Lib.hid (HC3.out.alloc (.cells #[.string (mkT n), .string (mkT sp)] 49))
            have HBA := Lib.hid hba
            have hk := heap_alloc_new w3 (.cells #[.string (mkT n), .string (mkT sp)] 49)
            clear hba
            go_upto_region 13 with fail
            generalize w3.alloc (.cells #[.string (mkT n), .string (mkT sp)] 49) = wa at *
            have c0 : wa.cell? ⟨w3.heap.size, 0, none⟩ = some (.string (mkT n)) := blk_cell hk 0
            have c1 : wa.cell? ⟨w3.heap.size, 1, none⟩ = some (.string (mkT sp)) := blk_cell hk 1
            clear hk
            go_wp2_with fail
            refine (HADD.out _ HCA.out).mono ?_
            rintro e w4 ⟨hb4, hpost⟩
            have hp := hpost bb HBB.out.symm
            have HB4 := Lib.hid (HBA.out.trans (hb4.mono HBA.out.size))
            clear hpost hb4 HADD HCA HBA c0 c1
            by_cases hb0 : bb = 0
            · rw [if_pos hb0] at hp
              obtain ⟨C', k', rfl, hC', -⟩ := hp
              have HC' := Lib.hid hC'
              have HQ3 := Lib.hid (show bindsL f r (out ++ [(mkT n, mkT sp)]) = o from by have := HQ2.out; rw [HBB.out, if_pos hb0] at this; exact this)
              clear hC' HQ2 HBB hb0
              go_wp2_with fail
              refine (HT.out _).mono ?_
              rintro e w5 ⟨rfl, rfl⟩
              go_wp2
              go_roundw
              case rel =>
                refine ⟨trimL r, C', k', out ++ [(mkT n, mkT sp)], f, rfl, by simp, by simp; omega, ?_, ?_, Lib.hid (trim_head r), Lib.hid (by rw [binds_trim]; exact HQ3.out), HC', HB4⟩
                · have := trim_len r; have := HL.out; omega
                · have := trim_len r; have := HL.out; omega
              case measure =>
                have := trim_len r
                have := HL.out
                show (mkT (trimL r)).size < (mkT u).size
                rw [mkT_size, mkT_size]
                omega
            · rw [if_neg hb0] at hp
              subst hp
              have hbn : (bb == 0) = false := by simpa using hb0
              have HQ3 := Lib.hid (show o = ([], bb) from by have := HQ2.out; rw [HBB.out, if_neg hb0] at this; exact this.symm)
              clear HQ2 HBB hb0
              go_wp2
              go_ret2
              rw [HQ3.out]
              exact BindsOut.bad HB4.out
  · have hz : o = ([], e0) := by rw [← ho, if_neg h0]
    have hz2 : (e0 == 0) = false := by simpa using h0
    subst hz
    clear ho hse h0
    go_enter Tryz.func8, Tryz.ntmps8
    go_wp2_with fail
    refine (hd _).mono ?_
    rintro e w1 ⟨rfl, hb1⟩
    go_wp2
    go_ret2
    exact BindsOut.bad hb1
end Go.Proofs.YtbeglliabpflpaaGreatDoor
namespace Go.Proofs.YtbeglliabpflpaaGreatDoor
open Go.ChangeShapes Go.WideShapes Go.ChangeAt Go.RowKit Wb
set_option linter.unusedVariables false
theorem pow_data : (Rows.laid_internal_strconv_uint64pow10 : DataW Unit) = Lib.tabData .u64 Lib.pow10Tab := by kernel_rfl
set_option maxRecDepth 1000000 in
theorem gvy_of {W : World} {L : List (String × DataW Unit)} (hmR : ("strconv.ErrRange", Rows.laid_strconv_ErrRange) ∈ L) (hmS : ("strconv.ErrSyntax", Rows.laid_strconv_ErrSyntax) ∈ L) (hL : laidMet Tryz.prog L W) (hsh : W.ShapedOpen Tryz.prog) : Y.Gv W := by
  have r2 : Lib.VarReads Tryz.prog W "strconv.ErrRange" Rows.laid_strconv_ErrRange := Lib.laidMet.reads hL hmR
  have r3 : Lib.VarReads Tryz.prog W "strconv.ErrSyntax" Rows.laid_strconv_ErrSyntax := Lib.laidMet.reads hL hmS
  have hml := cell_of_shapedOpen_int (P := Tryz.prog) (g := 0) (t := 3) (zero := #[.int .i64 0]) hsh (of_decide_eq_true (by kernel_rfl)) (by kernel_rfl) rfl (by kernel_rfl) (by kernel_rfl) Tryz.underlying3
  have iface : ∀ (cs : Array Value) (f : Nat) (nm : String) (x : DataW Unit) (p : List MemPlace), DataW.trod (fun _ => ()) Tryz.prog W 0 (fun _ => true) false f 84 cs.toList = some (.iface nm x, p) → ∃ v, cs[0]? = some v ∧ (v = .nilIface ∨ ∃ t p, v = .iface t p) := by
    intro cs f nm x p h
    cases f with
    | zero => simp [DataW.trod] at h
    | succ f =>
      rw [← Array.getElem?_toList]
      generalize cs.toList = l at h
      simp only [DataW.trod, Tryz.underlying84] at h
      split at h
      all_goals first
        | (cases ‹some (TypeDesc.interface _) = some _›; done)
        | (cases h; done)
        | exact ⟨_, rfl, .inl rfl⟩
        | exact ⟨_, rfl, .inr ⟨_, _, rfl⟩⟩
  obtain ⟨g2, t2, cs2, f2, p2, hg2, ht2, hv2, hd2⟩ := r2
  obtain rfl := Option.some.inj ((show Tryz.prog.globalNamed "strconv.ErrRange" = some 7 by kernel_rfl).symm.trans hg2)
  obtain rfl := Option.some.inj ((show (Tryz.prog.globals[7]?).map (·.type) = some 84 by kernel_rfl).symm.trans ht2)
  obtain ⟨v2, hc2, hi2⟩ := iface cs2 f2 _ _ _ hd2
  obtain ⟨g3, t3, cs3, f3, p3, hg3, ht3, hv3, hd3⟩ := r3
  obtain rfl := Option.some.inj ((show Tryz.prog.globalNamed "strconv.ErrSyntax" = some 6 by kernel_rfl).symm.trans hg3)
  obtain rfl := Option.some.inj ((show (Tryz.prog.globals[6]?).map (·.type) = some 84 by kernel_rfl).symm.trans ht3)
  obtain ⟨v3, hc3, hi3⟩ := iface cs3 f3 _ _ _ hd3
  have k2 := (World.var?_cell hg2 hv2 0).trans hc2
  have k3 := (World.var?_cell hg3 hv3 0).trans hc3
  refine ⟨?_, hml, ⟨v3, k3, hi3⟩, ⟨v2, k2, hi2⟩⟩
  rcases Nat.lt_or_ge 7 W.heap.size with h | h
  · exact h
  · simp [World.cell?, Array.getElem?_eq_none h] at k2
set_option maxRecDepth 1000000 in
theorem gvs_of {W : World} {L : List (String × DataW Unit)} (hmR : ("strconv.ErrRange", Rows.laid_strconv_ErrRange) ∈ L) (hmS : ("strconv.ErrSyntax", Rows.laid_strconv_ErrSyntax) ∈ L) (hmP : ("internal/strconv.uint64pow10", Rows.laid_internal_strconv_uint64pow10) ∈ L) (hL : laidMetH Tryz.prog L W) (hp : laidMetH Tryz.prog L W = laidMet Tryz.prog L W) (hsh : W.ShapedOpen Tryz.prog) : GvS W := by
  rw [hp] at hL
  refine ⟨gvy_of hmR hmS hL hsh, ?_⟩
  have r1 : Lib.VarReads Tryz.prog W "internal/strconv.uint64pow10" Rows.laid_internal_strconv_uint64pow10 := Lib.laidMet.reads hL hmP
  obtain ⟨g1, t1, cs1, f1, p1, hg1, ht1, hv1, hd1⟩ := r1
  obtain rfl := Option.some.inj ((show Tryz.prog.globalNamed "internal/strconv.uint64pow10" = some 1 by kernel_rfl).symm.trans hg1)
  obtain rfl := Option.some.inj ((show (Tryz.prog.globals[1]?).map (·.type) = some 173 by kernel_rfl).symm.trans ht1)
  rw [pow_data] at hd1
  have hc1 := Lib.cells_of_tab (n := 20) Tryz.underlying173 Tryz.underlying159 (by kernel_rfl) (by kernel_rfl) hd1
  unfold Lib.TabIs
  rw [hv1, ← hc1]
theorem handed {H : Type} {enc : TypeId × Value → H} {a : Assume} {C : Checked} {os : Os} {f : FuncId} {fn : Func} {s : ChangeSpec} {conds : List PathCond} {apart fresh handsOn again : Bool} {X : World → Array Value → Prop}
    (hX : ∀ (w w' : World) (args : Array Value), w.heap = w'.heap → X w args → X w' args)
    (own : ownKnob C.prog.godebug = none) (started : os.Started) (noInit : C.prog.inits.idxOf? f = none) (hfn : C.prog.funcs[f]? = some fn)
    (witness : ∃ (w : World) (tape : Tape) (i : Input), w.os = os ∧ (w.forCall tape i).Shaped C.prog ∧ i.vars = [] ∧ Input.okWide C.prog (w.forCall tape i) .any w.heap.size f i ∧
      ((s.pre enc C.prog fn conds apart (w.forCall tape i).memory i.args ∧ X (w.forCall tape i).memory i.args) ∧ sizedMet enc C.prog fn (OpenSpec.ofChange s) apart (w.forCall tape i).memory i.args) ∧ a.holds C.prog (lone (Frame.enter C.prog f i.args .normal) [] (w.forCall tape i)))
    (contract : ∀ (W : World) (base : Nat) (args : Array Value) (ds gs : List (DataW H)) (before : List MemPlace),
      (∀ (j : Nat) t v, fn.params[j]? = some t → args[j]? = some v → Value.okWide C.prog W .any base t v) →
      DataW.Whole enc C.prog fn.params.toList s.vars apart W args.toList ds gs before → X W args → W.ShapedOpen C.prog →
      Calls C.prog f args W fun e W' => ∃ v, e = .returned v ∧ s.post enc C.prog fn apart fresh handsOn again W args v W') :
    ReturnsInHanded a C os f .any (fun w args => (s.pre enc C.prog fn conds apart w args ∧ X w args) ∧ sizedMet enc C.prog fn (OpenSpec.ofChange s) apart w args) (s.post enc C.prog fn apart fresh handsOn again) := by
  refine returnsInHanded_of_calls own started noInit witness ?_
  intro w tape i _ hsh _ hok hpre hholds
  obtain ⟨_, _, _, fn', hfn', _, _, _, _, hval⟩ := hok
  have e : fn' = fn := Option.some.inj (hfn'.symm.trans hfn)
  subst e
  obtain ⟨⟨⟨ds, gs, before, hw, hc⟩, hx⟩, hz⟩ := hpre
  have hw' := DataW.Whole.of_heap (w' := w.forCall tape i) (by rfl) hw
  refine (contract (w.forCall tape i) w.heap.size i.args ds gs before hval hw' (hX _ _ _ (by rfl) hx) hsh).mono fun e W' ⟨v, he, hp⟩ => ?_
  subst he
  exact ChangeSpec.post_blind hp
end Go.Proofs.YtbeglliabpflpaaGreatDoor
namespace Go.Proofs.YtbeglliabpflpaaGreatDoor
open Go.RowKit Wb
def isU8 (w : World) (k : Nat) : Prop := ∃ cs f, w.heap[k]? = some (.cells cs 5 f)
def PgS (base b : Nat) (w : World) : Nat → Prop := fun k => base ≤ k ∧ (k = b ∨ isU8 w k)
def PgK (base b : Nat) (w w' : World) : Prop := Keep (PgS base b w) w w'
theorem PgK.refl (base b : Nat) (w : World) : PgK base b w w := Keep.refl _ w
theorem PgK.trans {base b : Nat} {w w' w2 : World} (h : PgK base b w w') (k : PgK base b w' w2) : PgK base b w w2 :=
  ⟨k.os.trans h.os, k.tape.trans h.tape, k.output.trans h.output, Nat.le_trans h.size k.size, fun i hi hs => by
    have e := h.block i hi hs
    have hs' : ¬ PgS base b w' i := fun ⟨h1, h2⟩ => hs ⟨h1, h2.imp id (fun ⟨cs, f, e'⟩ => ⟨cs, f, e.symm.trans e'⟩)⟩
    exact (k.block i (Nat.lt_of_lt_of_le hi h.size) hs').trans e⟩
theorem PgK.of_below {base b : Nat} {w w' : World} (h : Below w.heap.size w w') : PgK base b w w' := Keep.of_below _ h
theorem PgK.alloc {base b : Nat} (w : World) (o : Obj) : PgK base b w (w.alloc o) := PgK.of_below ((Below.refl _ w).alloc (Nat.le_refl _) o)
theorem PgK.drew {base b : Nat} {w w' : World} (h : PgK base b w w') : PgK base b w w'.drew := h.trans (PgK.of_below (Below.refl _ w').drew)
theorem PgK.below {base b : Nat} {w w' : World} (h : PgK base b w w') (hb : base ≤ w.heap.size) : Below base w w' := Keep.below h (fun _ hs => hs.1) hb
theorem PgK.blk {base b g : Nat} {cs : Array Value} {t : TypeId} {f : Nat × Nat} {w w' : World} (hk : PgK base b w w') (h : w.heap[g]? = some (.cells cs t f)) (ht : t ≠ 5) (hb : g ≠ b) : w'.heap[g]? = some (.cells cs t f) := by
  refine (hk.block g (blk_in h) ?_).trans h
  rintro ⟨_, rfl | ⟨cs', f', hx⟩⟩
  · exact hb rfl
  · rw [h] at hx
    injection hx with hx
    injection hx with _ hx
    exact ht hx
def PgP (base b : Nat) (p : Value) (bs : List UInt8) (most : Int) (over : Bool) (w : World) : Prop :=
  base ≤ b ∧ ∃ v, w.heap[b]? = some (.cells #[p, v, .int .i64 most, .bool over] 121 (0, 0)) ∧ w.ownsRow base 5 1 v bs.length (Lib.byteCells bs) ∧ v.ownBlock ≠ some b
def PgAt (base b : Nat) (bs : List UInt8) (most : Int) (over : Bool) (w : World) : Prop :=
  PgP base b (.pointer none) bs most over w ∨ PgP base b (.pointer (some ⟨b, 0, none⟩)) bs most over w
theorem PgAt.raw {base b : Nat} {bs : List UInt8} {most : Int} {over : Bool} {w : World} (h : PgAt base b bs most over w) : ∃ p, (p = .pointer none ∨ p = .pointer (some ⟨b, 0, none⟩)) ∧ PgP base b p bs most over w := by
  rcases h with h | h
  · exact ⟨_, .inl rfl, h⟩
  · exact ⟨_, .inr rfl, h⟩
theorem PgAt.of_raw {base b : Nat} {p : Value} {bs : List UInt8} {most : Int} {over : Bool} {w : World} (hp : p = .pointer none ∨ p = .pointer (some ⟨b, 0, none⟩)) (h : PgP base b p bs most over w) : PgAt base b bs most over w := by
  rcases hp with rfl | rfl
  · exact .inl h
  · exact .inr h
theorem PgAt.lt {base b : Nat} {bs : List UInt8} {most : Int} {over : Bool} {w : World} (h : PgAt base b bs most over w) : base ≤ b ∧ b < w.heap.size := by
  obtain ⟨_, _, h1, _, h2, _⟩ := h.raw
  exact ⟨h1, blk_in h2⟩
theorem PgAt.other {base b : Nat} {bs : List UInt8} {most : Int} {over : Bool} {w w' : World} (h : PgAt base b bs most over w) (hb : Below w.heap.size w w') : PgAt base b bs most over w' := by
  obtain ⟨p, hp, h1, v, h2, h3, h4⟩ := h.raw
  exact .of_raw hp ⟨h1, v, still_block h2 hb, own_below h3 hb, h4⟩
theorem lies_page : liesAt Tryz.prog Tryz.prog.depth 121 (4 / Tryz.prog.cellsOf 121) 0 80 1 = true := by kernel_rfl
theorem size_builder : (Tryz.prog.info? 80).map (·.size) = some 2 := by kernel_rfl
theorem no_escape (x : Value) (w : World) : (callFunc 101 #[x]).run Tryz.prog w = .ok (.value x) w := by
  rw [run_callFunc_extern (P := Tryz.prog) (f := 101) (fn := Tryz.f101) (e := Extern.AbiNoEscape.same) (by kernel_rfl) (by kernel_rfl) (by kernel_rfl) (by kernel_rfl) (by kernel_rfl), Lib.run_noEscape]
  rfl
set_option maxHeartbeats 1000000 in
set_option maxRecDepth 100000 in
theorem page_check {base b : Nat} {bs : List UInt8} {most : Int} {over : Bool} {w : World} (h : PgAt base b bs most over w) :
    Calls Tryz.prog 76 #[.pointer (some ⟨b, 0, none⟩)] w fun e w' => e = .returned (.tuple #[]) ∧ PgP base b (.pointer (some ⟨b, 0, none⟩)) bs most over w' ∧ PgK base b w w' := by
  obtain ⟨j, hj, hjs⟩ := Option.map_eq_some_iff.1 size_builder
  rcases h with ⟨h1, v, h2, h3, h4⟩ | ⟨h1, v, h2, h3, h4⟩
  · have h0 : w.cell? ⟨b, 0, none⟩ = some (.pointer none) := blk_cell h2 0
    have hfz := blk_free h2 0
    have hsh : w.shape? b = some (121, 4) := by simp [World.shape?, h2]
    have e1 : (convert 77 132 (.pointer (some ⟨b, 0, none⟩))).run Tryz.prog w = .ok (.pointer (some ⟨b, 0, none⟩)) w := Lib.run_to_unsafe w ⟨b, 0, none⟩ Tryz.underlying77 Tryz.underlying132 hj (by rw [hjs]; decide) hsh (by show 0 < 4; omega)
    have e2 : (convert 132 77 (.pointer (some ⟨b, 0, none⟩))).run Tryz.prog w = .ok (.pointer (some ⟨b, 0, none⟩)) w := Lib.run_from_unsafe w ⟨b, 0, none⟩ Tryz.underlying132 Tryz.underlying77 hj hsh lies_page
    have e3 := no_escape
    have hfin : PgP base b (.pointer (some ⟨b, 0, none⟩)) bs most over (w.setCell ⟨b, 0, none⟩ (.pointer (some ⟨b, 0, none⟩))) ∧ PgK base b w (w.setCell ⟨b, 0, none⟩ (.pointer (some ⟨b, 0, none⟩))) := by
      refine ⟨⟨h1, v, by simpa using blk_set h2 0 (.pointer (some ⟨b, 0, none⟩)), own_blk h3 fun k hv => Below.heap_setCell _ _ _ _ (fun e => h4 (by rw [hv]; simpa using e)), h4⟩, (Keep.refl _ w).setCell (p := ⟨b, 0, none⟩) ⟨h1, .inl rfl⟩ _⟩
    have HF := Lib.hid hfin
    clear hfin h3 h4 hsh hj hjs h2
    go_enter Tryz.func76, Tryz.ntmps76
    go_wp2
    go_end0
    exact ⟨rfl, HF.out⟩
  · have h0 : w.cell? ⟨b, 0, none⟩ = some (.pointer (some ⟨b, 0, none⟩)) := blk_cell h2 0
    have hfin : PgP base b (.pointer (some ⟨b, 0, none⟩)) bs most over w ∧ PgK base b w w := ⟨⟨h1, v, h2, h3, h4⟩, PgK.refl _ _ _⟩
    have HF := Lib.hid hfin
    have hpe := fun (v : World) => Lib.run_neq_ptr_same (P := Tryz.prog) v ⟨b, 0, none⟩ Tryz.underlying77 hj
    clear hfin h3 h4 hj hjs h2
    go_enter Tryz.func76, Tryz.ntmps76
    go_wp2
    go_end0
    exact ⟨rfl, HF.out⟩
theorem page_len {base b : Nat} {bs : List UInt8} {most : Int} {over : Bool} {w : World} (h : PgAt base b bs most over w) :
    Calls Tryz.prog 131 #[.pointer (some ⟨b, 0, none⟩)] w fun e w' => e = .returned (.int .i64 bs.length) ∧ w' = w := by
  obtain ⟨p, _, h1, v, h2, h3, h4⟩ := h.raw
  obtain ⟨A, c, rfl⟩ := own_shape h3
  have c1 : w.cell? ⟨b, 1, none⟩ = some (.slice A bs.length c) := blk_cell h2 1
  clear h h2 h3 h4
  go_enter Tryz.func131, Tryz.ntmps131
  go_wp2
  go_ret
  exact ⟨rfl, rfl⟩
set_option maxHeartbeats 2000000 in
set_option maxRecDepth 100000 in
theorem page_write {base b : Nat} {bs : List UInt8} {most : Int} {over : Bool} {w : World} (s : ByteArray) (h : PgAt base b bs most over w) (hlen : bs.length + s.size ≤ 140737488355328) :
    Calls Tryz.prog 62 #[.pointer (some ⟨b, 0, none⟩), .string s] w fun e w' => e = .returned (.tuple #[.int .i64 s.size, .nilIface]) ∧ PgAt base b (bs ++ s.data.toList) most over w' ∧ PgK base b w w' := by
  obtain ⟨i0, hi, hz0, hz1, hz2⟩ := info_parts byte_info
  have hc := page_check h
  have hl := h.lt
  clear h
  go_enter Tryz.func62, Tryz.ntmps62
  go_wp2_with fail
  refine hc.mono ?_
  rintro e w1 ⟨rfl, ⟨a1, v, a2, a3, a4⟩, hk1⟩
  have c0 : w1.cell? ⟨b, 0, none⟩ = some (.pointer (some ⟨b, 0, none⟩)) := blk_cell a2 0
  have c1 : w1.cell? ⟨b, 1, none⟩ = some v := blk_cell a2 1
  have hb1 := blk_in a2
  have A2 := Lib.hid a2
  have A4 := Lib.hid a4
  have K1 := Lib.hid hk1
  have hm : bs.length + s.size ≤ maxLen := by unfold maxLen; omega
  have hbw : base ≤ w1.heap.size := by omega
  clear hc hk1 a2 a4
  go_wp2_with (at_builtin; refine Lib.wpList_append_own_string _ rfl _ _ 78 9 rfl base 5 i0 Tryz.underlying78 Tryz.underlying9 hi hz0 hz1 hz2 _ _ _ rfl a3 s rfl hm hlen hbw ?_)
  intro v' w2 hown' hgrow _
  obtain ⟨A, c, rfl⟩ := own_shape hown'
  have hne : some b ≠ v.ownBlock := fun e => A4.out e.symm
  have hb2 := grown_block A2.out hgrow hne
  have d0 : w2.cell? ⟨b, 0, none⟩ = some (.pointer (some ⟨b, 0, none⟩)) := blk_cell hb2 0
  have d1 : w2.cell? ⟨b, 1, none⟩ = some v := blk_cell hb2 1
  have f1 := blk_free hb2 1
  have hk2 : PgK base b w1 (w2.setCell ⟨b, 1, none⟩ (.slice A (bs.length + s.size) c)) := by
    refine ((Keep.refl (PgS base b w1) w1).grown hgrow (fun k hv => ?_)).setCell (p := ⟨b, 1, none⟩) ⟨hl.1, .inl rfl⟩ _
    refine ⟨(own_in a3 hv).1, .inr ?_⟩
    rcases a3.2 with ⟨rfl, _⟩ | ⟨g, cap, cur, rfl, _, hg, _⟩
    · simp [Value.ownBlock] at hv
    · simp only [Value.ownBlock, Option.some.injEq] at hv
      subst hv
      exact ⟨_, _, hg⟩
  have hne2 : (Value.slice A (bs.length + s.size) c).ownBlock ≠ some b := by
    intro e
    rcases hown'.2 with ⟨h0, _⟩ | ⟨g, cap, cur, hv, _, hg, _⟩
    · rw [h0] at e; simp [Value.ownBlock] at e
    · rw [hv] at e
      simp only [Value.ownBlock, Option.some.injEq] at e
      subst e
      rw [hb2] at hg
      injection hg with hg
      injection hg with _ hg
      exact absurd hg (by decide)
  have hfin : PgAt base b (bs ++ s.data.toList) most over (w2.setCell ⟨b, 1, none⟩ (.slice A (bs.length + s.size) c)) := by
    refine .inr ⟨hl.1, _, by simpa using blk_set hb2 1 (.slice A (bs.length + s.size) c), ?_, hne2⟩
    have := own_blk (w' := w2.setCell ⟨b, 1, none⟩ (.slice A (bs.length + s.size) c)) hown' fun k hv => Below.heap_setCell _ _ _ _ (fun e => hne2 (by rw [hv]; simpa using e))
    rw [Lib.strCells_eq, ← Lib.byteCells_append] at this
    rw [List.length_append, ← Lib.size_eq]
    exact this
  have HF := Lib.hid hfin
  have K2 := Lib.hid (K1.out.trans hk2)
  clear hfin hk2 hown' hgrow hb2 hne2 a3 hne
  go_wp2
  go_ret2
  exact ⟨rfl, HF.out, K2.out⟩
set_option maxHeartbeats 2000000 in
set_option maxRecDepth 100000 in
theorem page_string {base b : Nat} {bs : List UInt8} {most : Int} {over : Bool} {w : World} (h : PgAt base b bs most over w) :
    Calls Tryz.prog 42 #[.pointer (some ⟨b, 0, none⟩)] w fun e w' => e = .returned (.string ⟨bs.toArray⟩) ∧ Below base w w' := by
  obtain ⟨hbb, hbw⟩ := h.lt
  obtain ⟨p, _, h1, v, h2, h3, h4⟩ := h.raw
  have hUS := fun (W : World) (q : Option Addr) => Lib.run_unsafeString_none (P := Tryz.prog) W 114 3 9 q
  have hU0 : ∀ (W : World), (Builtin.unsafeSliceData_ #[78] 114 #[.slice none 0 0]).run Tryz.prog W = .ok (.pointer none) W := fun _ => rfl
  have hbs : base ≤ w.heap.size := by omega
  rcases h3.2 with ⟨rfl, h0⟩ | ⟨g, cap, cur, rfl, hbg, hg, hnc, hcm, hcs, htake⟩
  · obtain rfl : bs = [] := List.eq_nil_of_length_eq_zero h0
    have c1 : w.drew.cell? ⟨b, 1, none⟩ = some (.slice none 0 0) := blk_cell (w := w.drew) h2 1
    clear h h2 h3 h4
    go_enter Tryz.func42, Tryz.ntmps42
    go_wp2
    go_region
    all_goals (go_wp2; go_ret; exact ⟨rfl, Below.drew (Below.refl base w)⟩)
  · by_cases h0 : bs = []
    · subst h0
      by_cases hc0 : cap = 0
      · subst hc0
        have c1 : w.drew.cell? ⟨b, 1, none⟩ = some (.slice (some ⟨g, 0, none⟩) 0 0) := blk_cell (w := w.drew) h2 1
        have c0 : w.cell? ⟨b, 1, none⟩ = some (.slice (some ⟨g, 0, none⟩) 0 0) := c1
        have hSD : (Builtin.unsafeSliceData_ #[78] 114 #[.slice (some ⟨g, 0, none⟩) 0 0]).run Tryz.prog w.drew = .ok (.pointer (some ⟨w.drew.heap.size, 0, none⟩)) (w.drew.alloc (.view ⟨g, 0, none⟩ 5)) :=
          Lib.run_unsafeSliceData_zero w.drew _ _ 5 Tryz.underlying114 ⟨g, 0, none⟩ 0 (5, cur.size) (by have hg' : w.drew.heap[g]? = some (.cells cur 5 (0, 0)) := hg; simp [World.shape?, hg'])
        have c2 : (w.drew.alloc (.view ⟨g, 0, none⟩ 5)).cell? ⟨b, 1, none⟩ = some (.slice (some ⟨g, 0, none⟩) 0 0) := by
          have : (w.drew.alloc (.view ⟨g, 0, none⟩ 5)).heap[b]? = _ := (Lib.alloc_old w.drew _ b hbw).trans h2
          exact blk_cell this 1
        have c3 : (w.alloc (.view ⟨g, 0, none⟩ 5)).drew.cell? ⟨b, 1, none⟩ = some (.slice (some ⟨g, 0, none⟩) 0 0) := c2
        clear h h2 h3 h4 hg hcs htake
        go_enter Tryz.func42, Tryz.ntmps42
        go_wp2
        go_region
        all_goals (go_wp2; go_ret; exact ⟨rfl, (Below.drew (Below.refl base w)).alloc hbs _⟩)
      · have c1 : w.drew.cell? ⟨b, 1, none⟩ = some (.slice (some ⟨g, 0, none⟩) 0 cap) := blk_cell (w := w.drew) h2 1
        have hSD : (Builtin.unsafeSliceData_ #[78] 114 #[.slice (some ⟨g, 0, none⟩) 0 cap]).run Tryz.prog w.drew = .ok (.pointer (some ⟨g, 0, none⟩)) w.drew :=
          Lib.run_unsafeSliceData_row _ _ _ _ _ _ hc0
        clear h h2 h3 h4 hg hcs htake hc0 hcm hnc
        go_enter Tryz.func42, Tryz.ntmps42
        go_wp2
        go_region
        all_goals (go_wp2; go_ret; exact ⟨rfl, Below.drew (Below.refl base w)⟩)
    · have hl0 : bs.length ≠ 0 := by simpa using h0
      have c1 : w.drew.cell? ⟨b, 1, none⟩ = some (.slice (some ⟨g, 0, none⟩) bs.length cap) := blk_cell (w := w.drew) h2 1
      have hSD : (Builtin.unsafeSliceData_ #[78] 114 #[.slice (some ⟨g, 0, none⟩) bs.length cap]).run Tryz.prog w.drew = .ok (.pointer (some ⟨g, 0, none⟩)) w.drew :=
        Lib.run_unsafeSliceData_row _ _ _ _ _ _ (by omega)
      have hU2 : (Builtin.unsafeString_ #[114, 3] 9 #[.pointer (some ⟨g, 0, none⟩), .int .i64 bs.length]).run Tryz.prog w.drew = .ok (.string ⟨bs.toArray⟩) (w.drew.freeze ⟨g, 0, none⟩ bs.length) := by
        refine Lib.run_unsafeString_row w.drew 114 3 9 5 Tryz.underlying114 (by kernel_rfl) g cur.size (by have hg' : w.drew.heap[g]? = some (.cells cur 5 (0, 0)) := hg; simp [World.shape?, hg']) bs h0 (by omega) (by unfold maxLen at hcm; omega) ?_
        intro j x hx
        have := h3.cells (g := g) rfl j (.int .u8 x.toNat) (by simp [Lib.byteCells, hx])
        exact this
      clear h h2 h3 h4 hg hcs htake hcm hnc hUS
      go_enter Tryz.func42, Tryz.ntmps42
      go_wp2
      go_region
      all_goals (go_wp2; go_ret; exact ⟨rfl, Lib.below_freeze (Below.drew (Below.refl base w)) (p := ⟨g, 0, none⟩) hbg _⟩)
end Go.Proofs.YtbeglliabpflpaaGreatDoor
