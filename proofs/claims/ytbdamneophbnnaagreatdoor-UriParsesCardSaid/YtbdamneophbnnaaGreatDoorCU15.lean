/- SbC ScB GvS SpA. -/
import Derived.Lib.SmallJoins
import Derived.Test.YtbdamneophbnnaaGreatDoorRows
import Derived.Shelf.Vars
import Derived.Lib.LaidU8
import Derived.Lib.LaidTab
import Derived.MakeChecks
import Derived.WideShapes
import Derived.WalkKit
import Derived.ProofKit
import Derived.OpenShut
import Derived.ShutString
import Derived.Lay
import Derived.LaidMore
import Derived.Stop.Joined
import Derived.SevenTiedAt
import Derived.Carry
import Derived.Test.YtbdamneophbnnaaGreatDoorCU5
import Derived.Test.YtbdamneophbnnaaGreatDoorCU6
import Derived.Test.YtbdamneophbnnaaGreatDoorCU9
import Derived.Test.YtbdamneophbnnaaGreatDoorCU10
import Derived.Test.YtbdamneophbnnaaGreatDoorCU11
import Derived.Test.YtbdamneophbnnaaGreatDoorCU13
import Derived.Test.YtbdamneophbnnaaGreatDoorCU14
namespace Wb
def mkT (l : List UInt8) : ByteArray := ⟨l.toArray⟩
theorem mkT_app (a b : List UInt8) : mkT a ++ mkT b = mkT (a ++ b) := by
  apply ByteArray.ext
  apply Array.toList_inj.1
  unfold mkT
  rw [ByteArray.data_append, Array.toList_append]
theorem mkT_size (l : List UInt8) : (mkT l).size = l.length := by
  show l.toArray.size = _
  rw [List.size_toArray]
theorem mkT_list (l : List UInt8) : (mkT l).data.toList = l := by unfold mkT; simp
end Wb
namespace Go.Proofs.YtbdamneophbnnaaGreatDoor
open Go.RowKit Wb
theorem stext_at (w : World) (g : Nat) (c : UInt8) (h : w.cell? ⟨g, 0, none⟩ = some (.int .u8 (c.toNat : Int))) :
    (convert 74 9 (.slice (some ⟨g, 0, none⟩) 1 1)).run Tryz.prog w = .ok (.string (mkT [c])) w := by
  have := run_text w g 1 1 [(c.toNat : Int)] rfl (by
    intro j v hv
    match j, hv with
    | 0, hv => simp at hv; subst hv; exact h)
  rw [this]
  have e : b8 (c.toNat : Int) = c := by unfold b8; simp
  simp [e, mkT]
set_option maxRecDepth 100000 in
set_option maxHeartbeats 8000000 in
theorem sdigits_any : ∀ (n : Nat) (w : World), n ≠ 0 → n ≤ 1000000 → Calls Tryz.prog 56 #[.int .i64 n] w fun e w' => e = .returned (.string (mkT (dgN n))) ∧ Below w.heap.size w w' := by
  intro n
  induction n using Nat.strongRecOn with
  | _ n ih =>
    intro w hz hn
    obtain ⟨v, hv⟩ : ∃ v : UInt8, UInt8.ofNat (48 + n % 10) = v := ⟨_, rfl⟩
    have hvn : v.toNat = 48 + n % 10 := by rw [← hv]; exact dgN_last n
    have a4 : IntKind.u8.wrap (v.toNat : Int) = (v.toNat : Int) := by
      have := v.toNat_lt
      rw [IntKind.wrap_u8]; omega
    have k1 := fun (u : World) => stext_at (u.alloc (.cells #[.int .u8 (v.toNat : Int)] 5)) u.heap.size v (by
      have := blk_cell (heap_alloc_new u (.cells #[.int .u8 (v.toNat : Int)] 5)) 0
      exact this)
    by_cases h0 : n < 10
    · have HE : Hid (mkT [v] = mkT (dgN n)) := Lib.hid (by
        rw [dgN, dif_neg hz, hv, show n / 10 = 0 by omega, dgN, dif_pos rfl]
        rfl)
      have a1 : (n : Int) < 10 := by omega
      have a2 : IntKind.u8.wrap (IntKind.i64.wrap (48 + (n : Int))) = (v.toNat : Int) := by
        rw [IntKind.wrap_i64, IntKind.wrap_u8]; omega
      have a3 : IntKind.i64.wrap (48 + (n : Int)) = (v.toNat : Int) := by rw [IntKind.wrap_i64]; omega
      clear ih hv hvn
      go_enter Tryz.func56, Tryz.ntmps56
      go_wp2
      go_ret
      exact ⟨by rw [← HE.out]; rfl, (Below.refl w.heap.size w).alloc (Nat.le_refl _) _⟩
    · have hih := fun v => ih (n / 10) (by omega) v (by omega) (by omega)
      have HE : Hid (mkT (dgN (n / 10)) ++ mkT [v] = mkT (dgN n)) := Lib.hid (by
        rw [mkT_app]
        conv => rhs; rw [dgN, dif_neg hz]
        rw [hv])
      have hd8 : (mkT (dgN (n / 10))).size ≤ 8 := by
        rw [mkT_size]
        exact dgN_le _ 8 (by omega)
      have b0 : ¬ (n : Int) < 10 := by omega
      have b1 : (n : Int) / 10 = ((n / 10 : Nat) : Int) := by omega
      have b2 : (48 : Int) + (n : Int) % 10 = (v.toNat : Int) := by omega
      have w1 : IntKind.i64.wrap (((n / 10 : Nat) : Int)) = ((n / 10 : Nat) : Int) := by rw [IntKind.wrap_i64]; omega
      have w2 : IntKind.u8.wrap (IntKind.i64.wrap (48 + (n : Int).tmod 10)) = (v.toNat : Int) := by
        have e : (n : Int).tmod 10 = (n : Int) % 10 := Int.tmod_eq_emod_of_nonneg (by omega)
        have := v.toNat_lt
        rw [e, IntKind.wrap_i64, IntKind.wrap_u8]; omega
      have HCV := Lib.hid (fun u g h => stext_at u g v h)
      have g2 : ¬ 9223372036854775807 < (mkT (dgN (n / 10))).size + (mkT [v]).size := by have : (mkT [v]).size = 1 := rfl; omega
      generalize n / 10 = q at *
      have HIH := Lib.hid hih
      clear ih hv hih hvn
      generalize mkT (dgN q) = db at *
      generalize mkT [v] = tv at *
      go_enter Tryz.func56, Tryz.ntmps56
      go_wp2
      have hc0 : ((w.alloc (.cells #[.int .u8 (v.toNat : Int)] 5)).drew).cell? ⟨w.heap.size, 0, none⟩ = some (.int .u8 (v.toNat : Int)) := by
        have := blk_cell (heap_alloc_new w (.cells #[.int .u8 (v.toNat : Int)] 5)) 0
        exact this
      have k2 := HCV.out _ _ hc0
      have HC0 := Lib.hid hc0
      have HBB := Lib.hid (((Below.refl w.heap.size w).alloc (Nat.le_refl _) (.cells #[.int .u8 (v.toNat : Int)] 5)).drew)
      clear hc0
      (try simp only [List.append])
      refine wp_region_held_drew (S := (fun _ => True)) (by kernel_rfl) (trivial) (fun hHeld => ?_)
      refine takeW 0 ?_
      refine takeW 1 ?_
      refine takeW 3 ?_
      refine takeW 4 ?_
      (try simp only [Act.put, List.setIfInBounds_toArray, List.set_cons_zero, List.set_cons_succ])
      refine takeW 5 ?_
      refine takeW 6 ?_
      (try simp only [Act.put, List.setIfInBounds_toArray, List.set_cons_zero, List.set_cons_succ])
      refine wpAnyH_ready (rs := [2, 7]) (by kernel_rfl) (by simp) ?_
      refine AllReadyH.cons rfl (fun K2 hK2 => ?_) (AllReadyH.cons rfl (fun K2 hK2 => ?_) AllReadyH.nil)
      · go_simp
        refine (HIH.out _).mono ?_
        rintro e w2 ⟨rfl, hb2⟩
        have HB2 : Hid (Below w.heap.size w w2) := Lib.hid (by first | exact (Below.refl w.heap.size w).drew.trans hb2 | exact HBB.out.trans (hb2.mono HBB.out.size))
        try have kB := HCV.out w2 w.heap.size ((hb2.cell (p := ⟨w.heap.size, 0, none⟩) (by simp)).trans HC0.out)
        refine hK2.out _ _ trivial (fun _ => ?_)
        (try simp only [Act.put, List.setIfInBounds_toArray, List.set_cons_zero, List.set_cons_succ])
        refine wpAnyH_ready (rs := [7]) (by kernel_rfl) (by simp) ?_
        refine AllReadyH.cons rfl (fun K2 hK2 => ?_) AllReadyH.nil
        go_simp
        refine hK2.out _ _ trivial (fun _ => ?_)
        (try simp only [Act.put, List.setIfInBounds_toArray, List.set_cons_zero, List.set_cons_succ])
        refine wpAnyH_ready (rs := [8]) (by kernel_rfl) (by simp) ?_
        refine AllReadyH.cons rfl (fun K2 hK2 => ?_) AllReadyH.nil
        go_simp
        refine hK2.out _ _ trivial (fun _ => ?_)
        refine takeW 9 ?_
        refine takeW 10 ?_
        (try simp only [Act.put, List.setIfInBounds_toArray, List.set_cons_zero, List.set_cons_succ])
        refine wpAnyH_done (by kernel_rfl) ?_ _
        go_wp2
        go_ret
        exact ⟨by rw [← HE.out]; rfl, by first | exact HB2.out | exact HB2.out.alloc HB2.out.size _⟩
      · go_simp
        refine hK2.out _ _ trivial (fun _ => ?_)
        (try simp only [Act.put, List.setIfInBounds_toArray, List.set_cons_zero, List.set_cons_succ])
        refine wpAnyH_ready (rs := [2, 8]) (by kernel_rfl) (by simp) ?_
        refine AllReadyH.cons rfl (fun K2 hK2 => ?_) (AllReadyH.cons rfl (fun K2 hK2 => ?_) AllReadyH.nil)
        · go_simp
          refine (HIH.out _).mono ?_
          rintro e w2 ⟨rfl, hb2⟩
          have HB2 : Hid (Below w.heap.size w w2) := Lib.hid (by first | exact (Below.refl w.heap.size w).drew.trans hb2 | exact HBB.out.trans (hb2.mono HBB.out.size))
          try have kB := HCV.out w2 w.heap.size ((hb2.cell (p := ⟨w.heap.size, 0, none⟩) (by simp)).trans HC0.out)
          refine hK2.out _ _ trivial (fun _ => ?_)
          (try simp only [Act.put, List.setIfInBounds_toArray, List.set_cons_zero, List.set_cons_succ])
          refine wpAnyH_ready (rs := [8]) (by kernel_rfl) (by simp) ?_
          refine AllReadyH.cons rfl (fun K2 hK2 => ?_) AllReadyH.nil
          go_simp
          refine hK2.out _ _ trivial (fun _ => ?_)
          (try simp only [Act.put, List.setIfInBounds_toArray, List.set_cons_zero, List.set_cons_succ])
          refine takeW 9 ?_
          refine takeW 10 ?_
          (try simp only [Act.put, List.setIfInBounds_toArray, List.set_cons_zero, List.set_cons_succ])
          refine wpAnyH_done (by kernel_rfl) ?_ _
          go_wp2
          go_ret
          exact ⟨by rw [← HE.out]; rfl, by first | exact HB2.out | exact HB2.out.alloc HB2.out.size _⟩
        · go_simp
          refine hK2.out _ _ trivial (fun _ => ?_)
          (try simp only [Act.put, List.setIfInBounds_toArray, List.set_cons_zero, List.set_cons_succ])
          refine wpAnyH_ready (rs := [2]) (by kernel_rfl) (by simp) ?_
          refine AllReadyH.cons rfl (fun K2 hK2 => ?_) AllReadyH.nil
          go_simp
          refine (HIH.out _).mono ?_
          rintro e w2 ⟨rfl, hb2⟩
          have HB2 : Hid (Below w.heap.size w w2) := Lib.hid (by first | exact (Below.refl w.heap.size w).drew.trans hb2 | exact HBB.out.trans (hb2.mono HBB.out.size))
          try have kB := HCV.out w2 w.heap.size ((hb2.cell (p := ⟨w.heap.size, 0, none⟩) (by simp)).trans HC0.out)
          refine hK2.out _ _ trivial (fun _ => ?_)
          refine takeW 9 ?_
          refine takeW 10 ?_
          (try simp only [Act.put, List.setIfInBounds_toArray, List.set_cons_zero, List.set_cons_succ])
          refine wpAnyH_done (by kernel_rfl) ?_ _
          go_wp2
          go_ret
          exact ⟨by rw [← HE.out]; rfl, by first | exact HB2.out | exact HB2.out.alloc HB2.out.size _⟩
end Go.Proofs.YtbdamneophbnnaaGreatDoor
namespace Go.Proofs.YtbdamneophbnnaaGreatDoor
open Go.RowKit Wb
def GvS (w : World) : Prop := Y.Gv w ∧ Lib.TabIs Tryz.prog w "internal/strconv.uint64pow10" .u64 Lib.pow10Tab
theorem GvS.next {w w' : World} (h : GvS w) (hb : Below w.heap.size w w') : GvS w' :=
  ⟨h.1.next hb, Go.Joins.tab_stays (g := 1) (by kernel_rfl) h.2 hb (Nat.le_refl _)⟩
theorem GvS.m {w : World} (h : GvS w) : GvM w := h.1.ml
theorem cut1_any (s : ByteArray) (c : UInt8) (w : World) (hs : s.size ≤ 1000000000) (hG : GvS w) :
    Calls Tryz.prog 33 #[.string s, .string ⟨#[c]⟩] w fun e w' => e = .returned (.tuple #[.string (mkT (Lib.cut s.data.toList [c]).1), .string (mkT (Lib.cut s.data.toList [c]).2.1), .bool (Lib.cut s.data.toList [c]).2.2]) ∧ Below w.heap.size w w' := by
  obtain ⟨m, hm⟩ := hG.m
  have h1 := Tryz.strings_Cut s ⟨#[c]⟩ m w (by omega) hm
  exact h1.mono fun e w' h => ⟨h.1, by obtain ⟨_, n, rfl⟩ := h; exact ⟨rfl, rfl, rfl, Nat.le_refl _, fun _ _ => rfl⟩⟩
theorem cutP_any (s p : ByteArray) (w : World) :
    Calls Tryz.prog 89 #[.string s, .string p] w fun e w' => e = .returned (.tuple #[.string (mkT (Lib.trimPrefix s.data.toList p.data.toList)), .bool (Lib.hasPrefix s.data.toList p.data.toList)]) ∧ w' = w := Tryz.strings_CutPrefix s p w
theorem trimP_le (s p : List UInt8) : (Lib.trimPrefix s p).length ≤ s.length := by
  unfold Lib.trimPrefix
  split
  · rw [List.length_drop]; omega
  · exact Nat.le_refl _
theorem cut_le (s : List UInt8) (c : UInt8) : (Lib.cut s [c]).1.length ≤ s.length ∧ (Lib.cut s [c]).2.1.length ≤ s.length := by
  cases h : cutC c s with
  | none => rw [cut_none1 h]; simp
  | some x =>
    obtain ⟨a, b⟩ := x
    rw [cut_some1 h]
    obtain ⟨rfl, _⟩ := cutC_some h
    simp only [List.length_append, List.length_cons]
    omega
theorem bind_size : (Tryz.prog.info? 80).map (·.size) = some 2 := by kernel_rfl
def cutBindV : Option ((List UInt8 × List UInt8) × List UInt8) → Value
  | none => .tuple #[.agg #[.string ⟨#[]⟩, .string ⟨#[]⟩], .string ⟨#[]⟩, .bool false]
  | some ((n, sp), r) => .tuple #[.agg #[.string (mkT n), .string (mkT sp)], .string (mkT r), .bool true]
theorem bind1_let {s P R Sp R2 : List UInt8} {b1 b2 b3 b4 : Bool} (h1 : Lib.hasPrefix s sBindK = b1) (h2 : Lib.cut (Lib.trimPrefix s sBindK) [61] = (P, R, b2)) (h3 : Lib.cut R [41] = (Sp, R2, b3)) (h4 : nameB P = b4) :
    bind1 s = if (b1 && (b2 && (b3 && b4))) = true then some ((P, Sp), R2) else none := by
  rw [← bindQ_is]
  unfold bindQ
  rw [pre_take'] at h1
  by_cases hk : s.take 6 = sBindK
  · have e1 : b1 = true := by rw [← h1]; exact decide_eq_true hk
    subst e1
    have et : Lib.trimPrefix s sBindK = s.drop 6 := by
      unfold Lib.trimPrefix
      rw [pre_take']
      show (if decide (List.take 6 s = sBindK) = true then s.drop 6 else s) = _
      rw [if_pos (decide_eq_true hk)]
    rw [et] at h2
    rw [if_pos hk]
    cases h61 : cutC 61 (s.drop 6) with
    | none =>
      rw [cut_none1 h61] at h2
      injection h2 with h2 h5
      injection h5 with h5 h6
      subst h6
      rfl
    | some x =>
      obtain ⟨n, t⟩ := x
      rw [cut_some1 h61] at h2
      injection h2 with h2 h5
      injection h5 with h5 h6
      subst h2 h5 h6
      simp only
      cases h41 : cutC 41 t with
      | none =>
        rw [cut_none1 h41] at h3
        injection h3 with h3 h5
        injection h5 with h5 h6
        subst h6
        rfl
      | some x =>
        obtain ⟨sp, r⟩ := x
        rw [cut_some1 h41] at h3
        injection h3 with h3 h5
        injection h5 with h5 h6
        subst h3 h5 h6
        simp only [h4, Bool.true_and]
  · have e1 : b1 = false := by rw [← h1]; exact decide_eq_false hk
    subst e1
    rw [if_neg hk]
    rfl
set_option maxRecDepth 100000 in
set_option maxHeartbeats 8000000 in
theorem cutBind_any (s : ByteArray) (w : World) (hs : s.size ≤ 1000000) (hG : GvS w) :
    Calls Tryz.prog 61 #[.string s] w fun e w' => e = .returned (cutBindV (bind1 s.data.toList)) ∧ Below w.heap.size w w' := by
  obtain ⟨b1, h1⟩ : ∃ b, Lib.hasPrefix s.data.toList sBindK = b := ⟨_, rfl⟩
  obtain ⟨P, R, b2, h2⟩ : ∃ P R b, Lib.cut (Lib.trimPrefix s.data.toList sBindK) [61] = (P, R, b) := ⟨_, _, _, rfl⟩
  obtain ⟨Sp, R2, b3, h3⟩ : ∃ X Y b, Lib.cut R [41] = (X, Y, b) := ⟨_, _, _, rfl⟩
  obtain ⟨b4, h4⟩ : ∃ b, nameB P = b := ⟨_, rfl⟩
  have HL := Lib.hid (bind1_let h1 h2 h3 h4)
  have ll := trimP_le s.data.toList sBindK
  have l1 := cut_le (Lib.trimPrefix s.data.toList sBindK) 61
  rw [h2] at l1
  have hsl : s.data.toList.length = s.size := by simp
  have k1 := cutP_any s ⟨#[120, 109, 108, 110, 115, 40]⟩
  have ek : (⟨#[120, 109, 108, 110, 115, 40]⟩ : ByteArray).data.toList = sBindK := rfl
  rw [ek, h1] at k1
  obtain ⟨T, hT⟩ : ∃ T, Lib.trimPrefix s.data.toList sBindK = T := ⟨_, rfl⟩
  rw [hT] at k1 l1 h2 ll
  have k2 := fun v hv => cut1_any (mkT T) 61 v (by rw [mkT_size]; omega) hv
  rw [mkT_list, h2] at k2
  have k3 := fun v hv => cut1_any (mkT R) 41 v (by rw [mkT_size]; simp only at l1; omega) hv
  rw [mkT_list, h3] at k3
  have k4 := fun v => name_any (mkT P) v (by rw [mkT_size]; simp only at l1; omega)
  rw [mkT_list, h4] at k4
  simp only at k2 k3
  have K2 := Lib.hid k2
  have K3 := Lib.hid k3
  have K4 := Lib.hid k4
  have HGa := Lib.hid (fun v (hb : Below w.heap.size w v) => hG.next hb)
  clear k2 k3 k4 h1 h2 h3 h4 l1 ll hsl hT hG ek
  obtain ⟨o, ho⟩ : ∃ o, bind1 s.data.toList = o := ⟨_, rfl⟩
  rw [ho]
  rw [ho] at HL
  clear ho
  have hb0 := (Below.refl w.heap.size w).alloc (Nat.le_refl _) (.cells #[.string ⟨#[]⟩, .string ⟨#[]⟩] 80)
  have hnew := heap_alloc_new w (.cells #[.string ⟨#[]⟩, .string ⟨#[]⟩] 80)
  have hc : b1 = false ∨ (b1 = true ∧ b2 = false) ∨ (b1 = true ∧ b2 = true ∧ b3 = false) ∨ (b1 = true ∧ b2 = true ∧ b3 = true ∧ b4 = false) ∨ (b1 = true ∧ b2 = true ∧ b3 = true ∧ b4 = true) := by
    cases b1 <;> cases b2 <;> cases b3 <;> cases b4 <;> simp
  rcases hc with rfl | ⟨rfl, rfl⟩ | ⟨rfl, rfl, rfl⟩ | ⟨rfl, rfl, rfl, rfl⟩ | ⟨rfl, rfl, rfl, rfl⟩
  all_goals
    go_enter Tryz.func61, Tryz.ntmps61
    go_wp2_with fail
    refine (k1 _).mono ?_
    rintro e w1 ⟨rfl, rfl⟩
    go_wp2_with fail
    refine (K2.out _ (HGa.out _ hb0)).mono ?_
    rintro e w2 ⟨rfl, hb2⟩
    have hk2 := (hb2.block w.heap.size (by simp)).trans hnew
    have hs2 : w.heap.size < w2.heap.size := by have := hb2.size; simp at this; omega
    replace hb2 := hb0.trans (hb2.mono hb0.size)
    go_wp2_with fail
    refine (K3.out _ (HGa.out _ hb2)).mono ?_
    rintro e w3 ⟨rfl, hb3⟩
    have hk3 := (hb3.block w.heap.size hs2).trans hk2
    have hs3 : w.heap.size < w3.heap.size := by have := hb3.size; omega
    replace hb3 := hb2.trans (hb3.mono hb2.size)
    clear hb2 hk2 hs2 hnew hb0 K2 K3 HGa k1
  · obtain rfl : o = none := by simpa using HL.out
    have f0 := blk_free hk3 0
    have f1 := blk_free hk3 1
    have c0 : w3.cell? ⟨w.heap.size, 0, none⟩ = some (.string ⟨#[]⟩) := blk_cell hk3 0
    have c1 : w3.cell? ⟨w.heap.size, 1, none⟩ = some (.string ⟨#[]⟩) := blk_cell hk3 1
    clear K4
    go_wp2
    refine bodyPost_ret (results_cell3 rfl _ _ w.heap.size _ _ _ rfl (blk_set (blk_set hk3 0 _) 1 _) Tryz.underlying80 rfl bind_size) rfl ?_
    exact ⟨rfl, (hb3.setCell (Nat.le_refl _) _).setCell (Nat.le_refl _) _⟩
  · obtain rfl : o = none := by simpa using HL.out
    have f0 := blk_free hk3 0
    have f1 := blk_free hk3 1
    have c0 : w3.cell? ⟨w.heap.size, 0, none⟩ = some (.string ⟨#[]⟩) := blk_cell hk3 0
    have c1 : w3.cell? ⟨w.heap.size, 1, none⟩ = some (.string ⟨#[]⟩) := blk_cell hk3 1
    clear K4
    go_wp2
    refine bodyPost_ret (results_cell3 rfl _ _ w.heap.size _ _ _ rfl (blk_set (blk_set hk3 0 _) 1 _) Tryz.underlying80 rfl bind_size) rfl ?_
    exact ⟨rfl, (hb3.setCell (Nat.le_refl _) _).setCell (Nat.le_refl _) _⟩
  · obtain rfl : o = none := by simpa using HL.out
    have f0 := blk_free hk3 0
    have f1 := blk_free hk3 1
    have c0 : w3.cell? ⟨w.heap.size, 0, none⟩ = some (.string ⟨#[]⟩) := blk_cell hk3 0
    have c1 : w3.cell? ⟨w.heap.size, 1, none⟩ = some (.string ⟨#[]⟩) := blk_cell hk3 1
    clear K4
    go_wp2
    refine bodyPost_ret (results_cell3 rfl _ _ w.heap.size _ _ _ rfl (blk_set (blk_set hk3 0 _) 1 _) Tryz.underlying80 rfl bind_size) rfl ?_
    exact ⟨rfl, (hb3.setCell (Nat.le_refl _) _).setCell (Nat.le_refl _) _⟩
  · obtain rfl : o = none := by simpa using HL.out
    go_wp2_with fail
    refine (K4.out _).mono ?_
    rintro e w4 ⟨rfl, hb4⟩
    have hk4 := (hb4.block w.heap.size hs3).trans hk3
    replace hb4 := hb3.trans (hb4.mono hb3.size)
    have f0 := blk_free hk4 0
    have f1 := blk_free hk4 1
    have c0 : w4.cell? ⟨w.heap.size, 0, none⟩ = some (.string ⟨#[]⟩) := blk_cell hk4 0
    have c1 : w4.cell? ⟨w.heap.size, 1, none⟩ = some (.string ⟨#[]⟩) := blk_cell hk4 1
    clear K4 hb3 hk3
    go_wp2
    refine bodyPost_ret (results_cell3 rfl _ _ w.heap.size _ _ _ rfl (blk_set (blk_set hk4 0 _) 1 _) Tryz.underlying80 rfl bind_size) rfl ?_
    exact ⟨rfl, (hb4.setCell (Nat.le_refl _) _).setCell (Nat.le_refl _) _⟩
  · obtain rfl : o = some ((P, Sp), R2) := by simpa using HL.out
    go_wp2_with fail
    refine (K4.out _).mono ?_
    rintro e w4 ⟨rfl, hb4⟩
    have hk4 := (hb4.block w.heap.size hs3).trans hk3
    replace hb4 := hb3.trans (hb4.mono hb3.size)
    have f0 := blk_free hk4 0
    have f1 := blk_free hk4 1
    have c0 : w4.cell? ⟨w.heap.size, 0, none⟩ = some (.string ⟨#[]⟩) := blk_cell hk4 0
    have c1 : w4.cell? ⟨w.heap.size, 1, none⟩ = some (.string ⟨#[]⟩) := blk_cell hk4 1
    clear K4 hb3 hk3
    go_wp2
    refine bodyPost_ret (results_cell3 rfl _ _ w.heap.size _ _ _ rfl (blk_set (blk_set hk4 0 _) 1 _) Tryz.underlying80 rfl bind_size) rfl ?_
    exact ⟨rfl, (hb4.setCell (Nat.le_refl _) _).setCell (Nat.le_refl _) _⟩
theorem cb_len {s : List UInt8} {n sp r : List UInt8} (h : bind1 s = some ((n, sp), r)) : n.length ≤ s.length ∧ sp.length ≤ s.length ∧ r.length < s.length := by
  obtain ⟨h1, es, _⟩ := bind1_len h
  have := congrArg List.length es
  simp only [List.length_append, List.length_cons] at this
  omega
set_option maxRecDepth 100000 in
set_option maxHeartbeats 8000000 in
theorem sbinds_any (q : ByteArray) (w : World) (hq : q.size ≤ 1000000) (hG : GvS w) :
    Calls Tryz.prog 38 #[.string q] w (BindsOut (bindsP q.data.toList) w) := by
  obtain ⟨o, ho⟩ : ∃ o, bindsP q.data.toList = o := ⟨_, rfl⟩
  rw [ho]
  unfold bindsP at ho
  have hd := fun v => decode_any q v hq
  obtain ⟨s, e0, hse⟩ : ∃ s e0, decP q.data.toList = (s, e0) := ⟨_, _, rfl⟩
  have hsl : s.length ≤ q.size := by
    have := decP_len q.data.toList
    rw [hse] at this
    simpa using this
  rw [hse] at ho hd
  simp only at ho hd
  by_cases h0 : e0 = 0
  · subst h0
    rw [if_pos rfl] at ho
    have HO := Lib.hid ho
    have HG := Lib.hid (fun v (hb : Below w.heap.size w v) => hG.next hb)
    have htr := fun v => trim_any (mkT s) v (by rw [mkT_size]; omega)
    rw [mkT_list] at htr
    have HT := Lib.hid htr
    clear ho hse hG htr
    go_enter Tryz.func38, Tryz.ntmps38
    go_wp2_with fail
    refine (hd _).mono ?_
    rintro e w1 ⟨rfl, hb1⟩
    have HB1 := Lib.hid hb1
    clear hb1 hd
    go_wp2_with fail
    refine (HT.out _).mono ?_
    rintro e w2 ⟨rfl, rfl⟩
    clear HT
    go_wp2
    go_loopw [4, 5, 6, 7, 8, 9] (fun v4 _ v6 _ _ _ wr => ∃ (u : List UInt8) (C : Option Addr) (k : Nat) (out : List Pr) (f : Nat), v4 = .string (mkT u) ∧ v6 = .slice C out.length k ∧ out.length ≤ 16 ∧ u.length < f ∧ u.length ≤ 1000000 ∧ Hid (u.dropWhile blkU = u) ∧ Hid (bindsL f u out = o) ∧ Hid (Sl2 wr C out) ∧ Hid (Below w.heap.size w wr)) (fun v4 _ _ _ _ _ _ => Lib.strSize v4)
    case atStart =>
      refine ⟨trimL s, none, 0, [], s.length + 1, rfl, rfl, by simp, ?_, ?_, Lib.hid (trim_head s), Lib.hid (by rw [binds_trim]; exact HO.out), Lib.hid (Sl2.nil _ _), HB1⟩
      · have := trim_len s
        omega
      · have := trim_len s
        omega
    case round =>
      obtain ⟨u, C, k, out, f, rfl, rfl, hol, huf, hul, HD, HQ, HC, HB⟩ := hrel
      obtain ⟨f, rfl⟩ : ∃ g, f = g + 1 := ⟨f - 1, by omega⟩
      by_cases hu : u = []
      · subst hu
        have hq := HQ.out
        rw [bindsL_end rfl] at hq
        have HQ2 := Lib.hid hq
        have he : (mkT []).toList.isEmpty = true := by rw [ByteArray.toList_eq]; rfl
        clear hq
        go_wp2
        go_ret2
        exact ⟨C, k, by rw [← HQ2.out]; rfl, by rw [← HQ2.out]; exact HC.out, HB.out⟩
      · have hne : (mkT u).toList.isEmpty = false := by
          rw [ByteArray.toList_eq]
          show (mkT u).data.toList.isEmpty = false
          rw [mkT_list]
          simpa using hu
        have hcb := fun v hv => cutBind_any (mkT u) v (by rw [mkT_size]; exact hul) hv
        rw [mkT_list] at hcb
        have hdw : u.dropWhile blkU ≠ [] := by rw [HD.out]; exact hu
        obtain ⟨ox, hox⟩ : ∃ ox, bind1 u = ox := ⟨_, rfl⟩
        rw [hox] at hcb
        cases ox with
        | none =>
          have hq := HQ.out
          rw [bindsL_none hdw (by rw [HD.out]; exact hox)] at hq
          subst hq
          clear HQ HD hdw hu hox
          go_wp2_with fail
          refine (hcb _ (HG.out _ HB.out)).mono ?_
          rintro e w3 ⟨rfl, hb3⟩
          have HB3 := Lib.hid (HB.out.trans (hb3.mono HB.out.size))
          unfold cutBindV
          clear hb3 hcb
          go_wp2
          go_ret2
          exact BindsOut.bad (HB3.out.alloc HB3.out.size _)
        | some x =>
          obtain ⟨⟨n, sp⟩, r⟩ := x
          obtain ⟨l1, l2, l3⟩ := cb_len hox
          have hq := HQ.out
          rw [bindsL_some hdw (by rw [HD.out]; exact hox)] at hq
          by_cases h16 : out.length = 16
          · rw [if_pos (by omega)] at hq
            subst hq
            clear HQ HD hdw hu hox
            have hl16 : ((out.length : Int) == 16) = true := by rw [h16]; rfl
            go_wp2_with fail
            refine (hcb _ (HG.out _ HB.out)).mono ?_
            rintro e w3 ⟨rfl, hb3⟩
            have HB3 := Lib.hid (HB.out.trans (hb3.mono HB.out.size))
            unfold cutBindV
            clear hb3 hcb
            go_wp2
            go_ret2
            exact BindsOut.bad (HB3.out.alloc HB3.out.size _)
          · rw [if_neg (by omega)] at hq
            have hl16 : ((out.length : Int) == 16) = false := by rw [beq_eq_false_iff_ne]; omega
            have hadd := fun v hv => add_any C out k (mkT n) (mkT sp) v (by omega) (by rw [mkT_size]; omega) hv
            have htr := fun v => trim_any (mkT r) v (by rw [mkT_size]; omega)
            rw [mkT_list] at htr
            have HQ2 : Hid ((if bindB (mkT n) (mkT sp) = 0 then bindsL f r (out ++ [(mkT n, mkT sp)]) else ([], bindB (mkT n) (mkT sp))) = o) := Lib.hid hq
            obtain ⟨bb, hbb⟩ : ∃ bb, bindB (mkT n) (mkT sp) = bb := ⟨_, rfl⟩
            have HBB := Lib.hid hbb
            have HADD := Lib.hid hadd
            have HT := Lib.hid htr
            have HL := Lib.hid (show r.length < f ∧ r.length ≤ 1000000 ∧ r.length < u.length from ⟨by omega, by omega, by omega⟩)
            clear hadd htr HQ HD hdw hu hox hq hbb l1 l2 l3
            go_wp2_with fail
            refine (hcb _ (HG.out _ HB.out)).mono ?_
            rintro e w3 ⟨rfl, hb3⟩
            have HB3 := Lib.hid (HB.out.trans (hb3.mono HB.out.size))
            have HC3 := Lib.hid (HC.out.below hb3)
            unfold cutBindV
            clear hb3 hcb
            have hba := HB3.out.alloc HB3.out.size (.cells #[.string (mkT n), .string (mkT sp)] 80)
            have HCA := Lib.hid (HC3.out.alloc (.cells #[.string (mkT n), .string (mkT sp)] 80))
            have HBA := Lib.hid hba
            have hk := heap_alloc_new w3 (.cells #[.string (mkT n), .string (mkT sp)] 80)
            clear hba
            go_upto_region 13 with fail
            generalize w3.alloc (.cells #[.string (mkT n), .string (mkT sp)] 80) = wa at *
            have c0 : wa.cell? ⟨w3.heap.size, 0, none⟩ = some (.string (mkT n)) := blk_cell hk 0
            have c1 : wa.cell? ⟨w3.heap.size, 1, none⟩ = some (.string (mkT sp)) := blk_cell hk 1
            clear hk
            go_wp2_with fail
            refine (HADD.out _ HCA.out).mono ?_
            rintro e w4 ⟨hb4, hpost⟩
            have hp := hpost bb HBB.out.symm
            have HB4 := Lib.hid (HBA.out.trans (hb4.mono HBA.out.size))
            clear hpost hb4 HADD HCA HBA c0 c1
            by_cases hb0 : bb = 0
            · rw [if_pos hb0] at hp
              obtain ⟨C', k', rfl, hC', -⟩ := hp
              have HC' := Lib.hid hC'
              have HQ3 := Lib.hid (show bindsL f r (out ++ [(mkT n, mkT sp)]) = o from by have := HQ2.out; rw [HBB.out, if_pos hb0] at this; exact this)
              clear hC' HQ2 HBB hb0
              go_wp2_with fail
              refine (HT.out _).mono ?_
              rintro e w5 ⟨rfl, rfl⟩
              go_wp2
              go_roundw
              case rel =>
                refine ⟨trimL r, C', k', out ++ [(mkT n, mkT sp)], f, rfl, by simp, by simp; omega, ?_, ?_, Lib.hid (trim_head r), Lib.hid (by rw [binds_trim]; exact HQ3.out), HC', HB4⟩
                · have := trim_len r; have := HL.out; omega
                · have := trim_len r; have := HL.out; omega
              case measure =>
                have := trim_len r
                have := HL.out
                show (mkT (trimL r)).size < (mkT u).size
                rw [mkT_size, mkT_size]
                omega
            · rw [if_neg hb0] at hp
              subst hp
              have hbn : (bb == 0) = false := by simpa using hb0
              have HQ3 := Lib.hid (show o = ([], bb) from by have := HQ2.out; rw [HBB.out, if_neg hb0] at this; exact this.symm)
              clear HQ2 HBB hb0
              go_wp2
              go_ret2
              rw [HQ3.out]
              exact BindsOut.bad HB4.out
  · have hz : o = ([], e0) := by rw [← ho, if_neg h0]
    have hz2 : (e0 == 0) = false := by simpa using h0
    subst hz
    clear ho hse h0
    go_enter Tryz.func38, Tryz.ntmps38
    go_wp2_with fail
    refine (hd _).mono ?_
    rintro e w1 ⟨rfl, hb1⟩
    go_wp2
    go_ret2
    exact BindsOut.bad hb1
end Go.Proofs.YtbdamneophbnnaaGreatDoor
namespace Go.Proofs.YtbdamneophbnnaaGreatDoor
open Go.ChangeShapes Go.WideShapes Go.ChangeAt Go.RowKit Wb
set_option linter.unusedVariables false
theorem pow_data : (Rows.laid_internal_strconv_uint64pow10 : DataW Unit) = Lib.tabData .u64 Lib.pow10Tab := by kernel_rfl
set_option maxRecDepth 1000000 in
theorem gvy_of {W : World} {L : List (String × DataW Unit)} (hmR : ("strconv.ErrRange", Rows.laid_strconv_ErrRange) ∈ L) (hmS : ("strconv.ErrSyntax", Rows.laid_strconv_ErrSyntax) ∈ L) (hL : laidMet Tryz.prog L W) (hsh : W.ShapedOpen Tryz.prog) : Y.Gv W := by
  have r2 : Lib.VarReads Tryz.prog W "strconv.ErrRange" Rows.laid_strconv_ErrRange := Lib.laidMet.reads hL hmR
  have r3 : Lib.VarReads Tryz.prog W "strconv.ErrSyntax" Rows.laid_strconv_ErrSyntax := Lib.laidMet.reads hL hmS
  have hml := cell_of_shapedOpen_int (P := Tryz.prog) (g := 0) (t := 3) (zero := #[.int .i64 0]) hsh (of_decide_eq_true (by kernel_rfl)) (by kernel_rfl) rfl (by kernel_rfl) (by kernel_rfl) Tryz.underlying3
  have iface : ∀ (cs : Array Value) (f : Nat) (nm : String) (x : DataW Unit) (p : List MemPlace), DataW.trod (fun _ => ()) Tryz.prog W 0 (fun _ => true) false f 91 cs.toList = some (.iface nm x, p) → ∃ v, cs[0]? = some v ∧ (v = .nilIface ∨ ∃ t p, v = .iface t p) := by
    intro cs f nm x p h
    cases f with
    | zero => simp [DataW.trod] at h
    | succ f =>
      rw [← Array.getElem?_toList]
      generalize cs.toList = l at h
      simp only [DataW.trod, Tryz.underlying91] at h
      split at h
      all_goals first
        | (cases ‹some (TypeDesc.interface _) = some _›; done)
        | (cases h; done)
        | exact ⟨_, rfl, .inl rfl⟩
        | exact ⟨_, rfl, .inr ⟨_, _, rfl⟩⟩
  obtain ⟨g2, t2, cs2, f2, p2, hg2, ht2, hv2, hd2⟩ := r2
  obtain rfl := Option.some.inj ((show Tryz.prog.globalNamed "strconv.ErrRange" = some 7 by kernel_rfl).symm.trans hg2)
  obtain rfl := Option.some.inj ((show (Tryz.prog.globals[7]?).map (·.type) = some 91 by kernel_rfl).symm.trans ht2)
  obtain ⟨v2, hc2, hi2⟩ := iface cs2 f2 _ _ _ hd2
  obtain ⟨g3, t3, cs3, f3, p3, hg3, ht3, hv3, hd3⟩ := r3
  obtain rfl := Option.some.inj ((show Tryz.prog.globalNamed "strconv.ErrSyntax" = some 6 by kernel_rfl).symm.trans hg3)
  obtain rfl := Option.some.inj ((show (Tryz.prog.globals[6]?).map (·.type) = some 91 by kernel_rfl).symm.trans ht3)
  obtain ⟨v3, hc3, hi3⟩ := iface cs3 f3 _ _ _ hd3
  have k2 := (World.var?_cell hg2 hv2 0).trans hc2
  have k3 := (World.var?_cell hg3 hv3 0).trans hc3
  refine ⟨?_, hml, ⟨v3, k3, hi3⟩, ⟨v2, k2, hi2⟩⟩
  rcases Nat.lt_or_ge 7 W.heap.size with h | h
  · exact h
  · simp [World.cell?, Array.getElem?_eq_none h] at k2
set_option maxRecDepth 1000000 in
theorem gvs_of {W : World} {L : List (String × DataW Unit)} (hmR : ("strconv.ErrRange", Rows.laid_strconv_ErrRange) ∈ L) (hmS : ("strconv.ErrSyntax", Rows.laid_strconv_ErrSyntax) ∈ L) (hmP : ("internal/strconv.uint64pow10", Rows.laid_internal_strconv_uint64pow10) ∈ L) (hL : laidMetH Tryz.prog L W) (hp : laidMetH Tryz.prog L W = laidMet Tryz.prog L W) (hsh : W.ShapedOpen Tryz.prog) : GvS W := by
  rw [hp] at hL
  refine ⟨gvy_of hmR hmS hL hsh, ?_⟩
  have r1 : Lib.VarReads Tryz.prog W "internal/strconv.uint64pow10" Rows.laid_internal_strconv_uint64pow10 := Lib.laidMet.reads hL hmP
  obtain ⟨g1, t1, cs1, f1, p1, hg1, ht1, hv1, hd1⟩ := r1
  obtain rfl := Option.some.inj ((show Tryz.prog.globalNamed "internal/strconv.uint64pow10" = some 1 by kernel_rfl).symm.trans hg1)
  obtain rfl := Option.some.inj ((show (Tryz.prog.globals[1]?).map (·.type) = some 202 by kernel_rfl).symm.trans ht1)
  rw [pow_data] at hd1
  have hc1 := Lib.cells_of_tab (n := 20) Tryz.underlying202 Tryz.underlying191 (by kernel_rfl) (by kernel_rfl) hd1
  unfold Lib.TabIs
  rw [hv1, ← hc1]
theorem handed {H : Type} {enc : TypeId × Value → H} {a : Assume} {C : Checked} {os : Os} {f : FuncId} {fn : Func} {s : ChangeSpec} {conds : List PathCond} {apart fresh handsOn again : Bool} {X : World → Array Value → Prop}
    (hX : ∀ (w w' : World) (args : Array Value), w.heap = w'.heap → X w args → X w' args)
    (own : ownKnob C.prog.godebug = none) (started : os.Started) (noInit : C.prog.inits.idxOf? f = none) (hfn : C.prog.funcs[f]? = some fn)
    (witness : ∃ (w : World) (tape : Tape) (i : Input), w.os = os ∧ (w.forCall tape i).Shaped C.prog ∧ i.vars = [] ∧ Input.okWide C.prog (w.forCall tape i) .any w.heap.size f i ∧
      ((s.pre enc C.prog fn conds apart (w.forCall tape i).memory i.args ∧ X (w.forCall tape i).memory i.args) ∧ sizedMet enc C.prog fn (OpenSpec.ofChange s) apart (w.forCall tape i).memory i.args) ∧ a.holds C.prog (lone (Frame.enter C.prog f i.args .normal) [] (w.forCall tape i)))
    (contract : ∀ (W : World) (base : Nat) (args : Array Value) (ds gs : List (DataW H)) (before : List MemPlace),
      (∀ (j : Nat) t v, fn.params[j]? = some t → args[j]? = some v → Value.okWide C.prog W .any base t v) →
      DataW.Whole enc C.prog fn.params.toList s.vars apart W args.toList ds gs before → X W args → W.ShapedOpen C.prog →
      Calls C.prog f args W fun e W' => ∃ v, e = .returned v ∧ s.post enc C.prog fn apart fresh handsOn again W args v W') :
    ReturnsInHanded a C os f .any (fun w args => (s.pre enc C.prog fn conds apart w args ∧ X w args) ∧ sizedMet enc C.prog fn (OpenSpec.ofChange s) apart w args) (s.post enc C.prog fn apart fresh handsOn again) := by
  refine returnsInHanded_of_calls own started noInit witness ?_
  intro w tape i _ hsh _ hok hpre hholds
  obtain ⟨_, _, _, fn', hfn', _, _, _, _, hval⟩ := hok
  have e : fn' = fn := Option.some.inj (hfn'.symm.trans hfn)
  subst e
  obtain ⟨⟨⟨ds, gs, before, hw, hc⟩, hx⟩, hz⟩ := hpre
  have hw' := DataW.Whole.of_heap (w' := w.forCall tape i) (by rfl) hw
  refine (contract (w.forCall tape i) w.heap.size i.args ds gs before hval hw' (hX _ _ _ (by rfl) hx) hsh).mono fun e W' ⟨v, he, hp⟩ => ?_
  subst he
  exact ChangeSpec.post_blind hp
end Go.Proofs.YtbdamneophbnnaaGreatDoor
namespace Wb
theorem txt_step {l : List UInt8} (hne : l ≠ []) : TxtOK l ↔ (dec l).2 ≠ 0 ∧ charB (dec l).1 = true ∧ TxtOK (l.drop (dec l).2.toNat) := by
  constructor
  · rintro ⟨ns, h1, h2⟩
    cases ns with
    | nil => exact absurd h2 (by simpa using hne)
    | cons n ns =>
      have hn := char_sgn n (h1 n (by simp))
      have hd := flat_dec n ns [] hn
      have hr := flat_drop n ns []
      rw [List.append_nil] at hd hr
      rw [List.append_nil] at hr
      have hsl := slen_one n hn
      rw [h2, hd]
      refine ⟨by show slen n ≠ 0; omega, h1 n (by simp), ?_⟩
      show TxtOK (List.drop (slen n).toNat _)
      rw [hr]
      exact ⟨ns, fun m hm => h1 m (by simp [hm]), rfl⟩
  · rintro ⟨h0, hc, ns, h1, h2⟩
    obtain ⟨n, k, hd⟩ := dec_pair l
    rw [hd] at h0 hc h2
    simp only at h0 hc h2
    obtain ⟨a1, a2, rest, a3⟩ := dec_some _ n k hd h0
    have hl := enc_length n
    have hs := slen_one n a1
    have hrest : l.drop k.toNat = rest := by
      rw [a3, show k.toNat = (enc n).length by omega, List.drop_left]
    rw [hrest] at h2
    refine ⟨n :: ns, fun m hm => ?_, by rw [List.flatMap_cons, ← h2]; exact a3⟩
    rcases List.mem_cons.1 hm with rfl | hm
    · exact hc
    · exact h1 m hm
theorem txt_no {s : ByteArray} {l : List UInt8} (h : TxtB s ↔ TxtOK l) (hne : l ≠ []) {r m : Int} (hd : dec l = (r, m)) (hb : m = 0 ∨ charB r = false) : sgB s = false := by
  cases hs : sgB s with
  | false => rfl
  | true =>
    have := (txt_step hne).1 (h.1 ((sgB_iff s).1 hs))
    rw [hd] at this
    rcases hb with e | e
    · exact absurd e this.1
    · rw [this.2.1] at e; cases e
theorem txt_go {s : ByteArray} {p m : Nat} {r : Int} (h : TxtB s ↔ TxtOK (s.data.toList.drop p)) (hne : s.data.toList.drop p ≠ []) (hd : dec (s.data.toList.drop p) = (r, (m : Int))) (h0 : m ≠ 0) (hc : charB r = true) : TxtB s ↔ TxtOK (s.data.toList.drop (p + m)) := by
  rw [h, txt_step hne, hd]
  simp only [Int.toNat_natCast, List.drop_drop]
  exact ⟨fun g => g.2.2, fun g => ⟨by omega, hc, g⟩⟩
end Wb
namespace Go.Proofs.YtbdamneophbnnaaGreatDoor
open Go.RowKit Wb
set_option maxHeartbeats 1000000 in
theorem rsigns_any (s : ByteArray) (w : World) (hs : s.size ≤ 1000000000) :
    Calls Tryz.prog 84 #[.string s] w fun e w' => e = .returned (.bool (sgB s)) ∧ Below w.heap.size w w' := by
  go_enter Tryz.func84, Tryz.ntmps84
  go_wp2
  go_loopw [3] (fun i wr => ∃ p : Nat, p ≤ s.size ∧ i = .int .i64 p ∧ Hid (TxtB s ↔ TxtOK (s.data.toList.drop p)) ∧ Below w.heap.size w wr) (fun i _ => s.size - (intOf i).toNat)
  case atStart => exact ⟨0, by omega, rfl, Lib.hid Iff.rfl, Below.refl _ _⟩
  case round =>
    obtain ⟨p, hp, rfl, HC, hbel⟩ := hrel
    by_cases hlt : p < s.size
    · obtain ⟨b0, b4, bl⟩ := dec_bd (s.data.toList.drop p)
      obtain ⟨r', k, hd⟩ := dec_pair (s.data.toList.drop p)
      have HD := Lib.hid hd
      rw [hd] at b0 bl
      obtain ⟨m', rfl⟩ := Int.eq_ofNat_of_zero_le (show 0 ≤ k from b0)
      have hle : p + m' ≤ s.size := by simp at bl; omega
      have HR := Lib.hid (runeS_dec s p hlt)
      have HNE := Lib.hid (show s.data.toList.drop p ≠ [] by rw [drop_cons s p hlt]; simp)
      clear b0 b4 bl hd
      go_wp2_with fail
      refine (rrune_any s p _ hs).mono ?_
      rw [HR.out, HD.out]
      rintro e w3 ⟨rfl, hb3⟩
      have hbw3 := hbel.trans (hb3.mono hbel.size)
      clear hb3 hbel
      by_cases h0 : m' = 0
      · subst h0
        go_wp2
        go_ret
        exact ⟨ret_b (txt_no HC.out HNE.out HD.out (.inl rfl)).symm, hbw3⟩
      · have hne : ((m' : Int) == 0) = false := by simpa using h0
        have HB := Lib.hid hbw3
        clear hbw3
        go_wp2_with fail
        refine (rchar_any r' _).mono ?_
        cases hst : charB r' with
        | false =>
          have HS := Lib.hid (txt_no HC.out HNE.out HD.out (.inr hst)).symm
          clear hst
          rintro e w4 ⟨rfl, hb4⟩
          have HB4 := Lib.hid (HB.out.trans (hb4.mono HB.out.size))
          clear hb4
          go_wp2
          go_ret
          exact ⟨ret_b HS.out, HB4.out⟩
        | true =>
          have HS := Lib.hid (txt_go HC.out HNE.out HD.out h0 hst)
          clear hst
          rintro e w4 ⟨rfl, hb4⟩
          have hb5 := HB.out.trans (hb4.mono HB.out.size)
          clear hb4
          go_wp2
          go_roundw
          case rel => exact ⟨p + m', hle, by go_num, HS, hb5⟩
          case measure => simp [intOf]; omega
    · have HS : Hid (true = sgB s) := Lib.hid (by
        have h1 := HC.out.2 (by rw [List.drop_eq_nil_of_le (by simp; omega)]; exact TxtOK.nil)
        exact ((sgB_iff s).2 h1).symm)
      clear HC
      go_wp2
      go_ret
      exact ⟨ret_b HS.out, hbel⟩
end Go.Proofs.YtbdamneophbnnaaGreatDoor
