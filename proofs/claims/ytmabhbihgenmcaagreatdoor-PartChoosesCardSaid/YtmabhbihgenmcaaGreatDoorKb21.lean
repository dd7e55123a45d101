/- QcM QcN QcO LxAa FhA. -/
import Derived.Deep.RegionWith
import Derived.Test.YtmabhbihgenmcaaGreatDoorRows
import Derived.Laws.BytesString
import Derived.Lib.Strings
import Derived.Deep.AppendSrc
import Derived.Deep.RegionHeld2
import Derived.Deep.RegionLaw
import Derived.Deep.Cut
import Derived.Test.YtmabhbihgenmcaaGreatDoorKb2
import Derived.Test.YtmabhbihgenmcaaGreatDoorKb3
import Derived.Test.YtmabhbihgenmcaaGreatDoorKb15
import Derived.Test.YtmabhbihgenmcaaGreatDoorKb20
namespace Wb
open Go Go.RowKit
def totB (L : List PtV) : Nat := (L.map fun x => x.2.2.size).sum
theorem totB_step {L : List PtV} {k : Nat} {x : PtV} (h : L[k]? = some x) : totB (L.take (k + 1)) = totB (L.take k) + x.2.2.size := by
  rw [List.take_add_one, h]
  unfold totB
  rw [List.map_append, List.sum_append]
  simp
theorem totB_mem {L : List PtV} {x : PtV} (h : x ∈ L) : x.2.2.size ≤ totB L := by
  unfold totB
  induction L with
  | nil => cases h
  | cons a l ih =>
    rw [List.map_cons, List.sum_cons]
    rcases List.mem_cons.1 h with rfl | h
    · omega
    · have := ih h; omega
def FewL (L : List PtV) : Prop := L.length ≤ 60 ∧ L.length + totB L < 20000 ∧ ∀ x ∈ L, x.2.1.length + tot7 x.2.1 < 5000
def FewPost8 (L : List PtV) (w : World) (e : Ending) (w' : World) : Prop :=
  RowKit.Below w.heap.size w w' ∧ ∃ b, e = .returned (.bool b) ∧ (b = true → FewL L)
theorem mem_take_step {L : List PtV} {k : Nat} {x : PtV} (h : L[k]? = some x) {P : PtV → Prop} (h1 : ∀ y ∈ L.take k, P y) (h2 : P x) : ∀ y ∈ L.take (k + 1), P y := by
  intro y hy
  rw [List.take_add_one, h] at hy
  rcases List.mem_append.1 hy with hy | hy
  · exact h1 y hy
  · simp at hy
    rw [hy]; exact h2
theorem digs_one : digs 1 = [49] := by rw [digs, dif_neg (by decide), show 1 / 10 = 0 from rfl, digs, dif_pos rfl]; rfl
theorem digs_two : digs 2 = [50] := by rw [digs, dif_neg (by decide), show 2 / 10 = 0 from rfl, digs, dif_pos rfl]; rfl
theorem aw8_chose : ChoseN [([], [45, 45, 119, 98, 49])] 2 := by
  refine ⟨by decide, by decide, ?_, fun k h1 h2 => ?_⟩
  · unfold wbM
    rw [digs_two]
    kernel_rfl
  · obtain rfl : k = 1 := by omega
    unfold wbM
    rw [digs_one]
    kernel_rfl
def hiB : ByteArray := ⟨#[104, 105]⟩
def aw8L : List UInt8 := [45, 45, 98, 13, 10, 13, 10, 104, 105, 13, 10, 45, 45, 98, 45, 45, 13, 10]
theorem aw8_print : printM [98] [([], [104, 105])] = .ok aw8L := by kernel_rfl
theorem aw8_parse : parseM [98] aw8L = .ok [([], [104, 105])] := by kernel_rfl
end Wb
namespace Go.Proofs.YtmabhbihgenmcaaGreatDoor
open Go.RowKit Wb
theorem FewL.z {L : List PtV} (h : FewL L) : ∀ x ∈ L, PartZ x := by
  obtain ⟨h1, h2, h3⟩ := h
  intro x hx
  have a1 := totB_mem hx
  have a2 := h3 x hx
  exact ⟨by omega, by omega, by omega⟩
theorem cov_sum : ∀ L : List PtV, (∀ x ∈ L, x.2.1.length ≤ 5000) → (covL (ptsOf L)).length ≤ totB L + 5003 * L.length
  | [], _ => Nat.zero_le _
  | x :: L, h => by
    have ih := cov_sum L fun y hy => h y (List.mem_cons_of_mem _ hy)
    have hx := h x (List.mem_cons_self ..)
    unfold covL ptsOf totB at *
    rw [List.map_cons, List.flatMap_cons, List.length_append, covP_len, List.map_cons, List.sum_cons, List.length_cons]
    have e1 : (ptOf x).2.length = x.2.2.size := (ba_size x.2.2).symm
    have e2 : (ptOf x).1.length = x.2.1.length := List.length_map ..
    omega
theorem FewL.chose {L : List PtV} (h : FewL L) : ∃ n, ChoseN (ptsOf L) n := by
  refine chose_ex ?_
  have := cov_sum L fun x hx => by have := h.2.2 x hx; omega
  have h1 := h.1
  have h2 := h.2.1
  omega
set_option maxHeartbeats 4000000 in
set_option maxRecDepth 100000 in
theorem few8_any (A : Option Addr) (L : List PtV) (c : Nat) (w : World) (hA : SlP w A L) :
    Calls Tryz.prog 8 #[.slice A L.length c] w (FewPost8 L w) := by
  have HA := Lib.hid hA
  clear hA
  by_cases hlen : (L.length : Int) ≤ 20000
  · go_enter Tryz.func8, Tryz.ntmps8
    go_wp2
    go_loopw [3, 4] (fun n i wr => ∃ (k N : Nat), k ≤ L.length ∧ n = .int .i64 N ∧ i = .int .i64 k ∧ N ≤ 60000 ∧ Hid (N < 20000 → L.length + totB (L.take k) = N) ∧ Hid (∀ y ∈ L.take k, y.2.1.length + tot7 y.2.1 < 5000) ∧ Hid (Below w.heap.size w wr)) (fun _ i _ => ((L.length : Int) - intOf i).toNat)
    case atStart => exact ⟨0, L.length, by omega, by rw [show min (L.length : Int) 20000 = (L.length : Int) from by omega], rfl, by omega, Lib.hid (fun _ => by simp [totB]), Lib.hid (fun y hy => by simp at hy), Lib.hid (Below.refl _ _)⟩
    case round =>
      obtain ⟨k, N, hk, rfl, rfl, hN, HT, HF, HB⟩ := hrel
      by_cases h1 : (N : Int) < 20000
      · by_cases h0 : (k : Int) < L.length
        · obtain ⟨⟨⟨x1, x3⟩, ⟨fs, body⟩⟩, he⟩ : ∃ x, L[k]? = some x := ⟨L[k], List.getElem?_eq_getElem (by omega)⟩
          obtain ⟨ad, rfl, had, c1, c2, hfs⟩ := (HA.out.below HB.out).at_ he
          have HE := Lib.hid he
          simp only at c1 c2 hfs
          have hfew := few7_any x1 fs x3 wr hfs
          have k0 : (0 : Int) ≤ (k : Int) := by omega
          clear he hfs had
          by_cases m1 : (body.size : Int) ≤ 20000
          · have HT2 := Lib.hid (fun (_ : N + body.size < 20000) => (show L.length + totB (L.take (k + 1)) = N + body.size from by rw [totB_step HE.out]; have := HT.out (by omega); simp only; omega))
            go_wp2_with fail
            refine hfew.mono ?_
            rintro e w2 ⟨hb2, b2, rfl, hfb⟩
            have HB2 := Lib.hid (HB.out.trans (hb2.mono HB.out.size))
            have HFB := Lib.hid hfb
            clear hb2 hfew hfb
            cases b2
            · go_wp2
              go_ret
              exact ⟨HB2.out, _, rfl, fun h => absurd h (by simp)⟩
            · have HF2 := Lib.hid (mem_take_step (P := fun y => y.2.1.length + tot7 y.2.1 < 5000) HE.out HF.out (HFB.out rfl))
              go_wp2
              go_roundw
              case rel => exact ⟨k + 1, N + body.size, by omega, by go_num, by go_num, by omega, HT2, HF2, HB2⟩
              case measure => simp [intOf]; omega
          · have HT2 : Hid (N + 20000 < 20000 → L.length + totB (L.take (k + 1)) = N + 20000) := Lib.hid (fun h => absurd h (by omega))
            go_wp2_with fail
            refine hfew.mono ?_
            rintro e w2 ⟨hb2, b2, rfl, hfb⟩
            have HB2 := Lib.hid (HB.out.trans (hb2.mono HB.out.size))
            have HFB := Lib.hid hfb
            clear hb2 hfew hfb
            cases b2
            · go_wp2
              go_ret
              exact ⟨HB2.out, _, rfl, fun h => absurd h (by simp)⟩
            · have HF2 := Lib.hid (mem_take_step (P := fun y => y.2.1.length + tot7 y.2.1 < 5000) HE.out HF.out (HFB.out rfl))
              go_wp2
              go_roundw
              case rel => exact ⟨k + 1, N + 20000, by omega, by go_num, by go_num, by omega, HT2, HF2, HB2⟩
              case measure => simp [intOf]; omega
        · have hd : decide ((N : Int) < 20000) = true := decide_eq_true h1
          have HT2 := HT.out (by omega)
          rw [List.take_of_length_le (by omega)] at HT2
          have HF2 := HF.out
          rw [List.take_of_length_le (by omega)] at HF2
          have HF3 := Lib.hid HF2
          clear HF2
          by_cases h60 : (L.length : Int) ≤ 60
          · go_wp2
            go_ret
            exact ⟨HB.out, _, rfl, fun _ => ⟨by omega, by omega, HF3.out⟩⟩
          · go_wp2
            go_ret
            exact ⟨HB.out, _, rfl, fun h => absurd h (by simp)⟩
      · have hd : decide ((N : Int) < 20000) = false := decide_eq_false h1
        go_wp2
        all_goals
          go_ret
          exact ⟨HB.out, _, rfl, fun h => absurd h (by simp)⟩
  · go_enter Tryz.func8, Tryz.ntmps8
    go_wp2
    go_loopw [3, 4] (fun n i wr => n = .int .i64 20000 ∧ i = .int .i64 0 ∧ wr = w) (fun _ _ _ => 0)
    case atStart => exact ⟨by rw [show min (L.length : Int) 20000 = 20000 from by omega], rfl, rfl⟩
    case round =>
      obtain ⟨rfl, rfl, rfl⟩ := hrel
      go_wp2
      all_goals
        go_ret
        exact ⟨Below.refl _ _, _, rfl, fun h => absurd h (by simp)⟩
end Go.Proofs.YtmabhbihgenmcaaGreatDoor
namespace Wb
open Go Go.RowKit
theorem pts_one {L : List PtV} {l : List UInt8} (h : ptsOf L = [([], l)]) : ∃ B d, L = [((B, d), ([], mkB l))] := by
  have hl := congrArg List.length h
  unfold ptsOf at hl
  rw [List.length_map] at hl
  obtain ⟨x, rfl⟩ := List.length_eq_one_iff.1 hl
  obtain ⟨⟨B, d⟩, ⟨fs, body⟩⟩ := x
  unfold ptsOf ptOf at h
  simp only [List.map_cons, List.map_nil, List.cons.injEq, Prod.mk.injEq, and_true, List.map_eq_nil_iff] at h
  refine ⟨B, d, ?_⟩
  rw [h.1, show body = mkB l from eq_of_lists (by rw [h.2]; rfl)]
def wb1B : ByteArray := ⟨#[45, 45, 119, 98, 49]⟩
end Wb
namespace Go.Proofs.YtmabhbihgenmcaaGreatDoor
open Go.RowKit Wb
theorem lit_part (w : World) (b : ByteArray) : SlP (w.alloc (.cells #[.slice none 0 0, .string b] 43)) (some ⟨w.heap.size, 0, none⟩) [((none, 0), ([], b))] :=
  ⟨Sl.lit w 2 [.slice none 0 0, .string b] 43 1 rfl, fun x hx => by
    rw [List.mem_singleton.1 hx]
    exact Sl2.nil _ _⟩
set_option maxRecDepth 100000 in
set_option maxHeartbeats 8000000 in
theorem awake8 (w : World) (hG : GvP w) : Calls Tryz.prog 7 #[] w fun e w' => e = .returned (.bool true) ∧ Below w.heap.size w w' := by
  have hb0 := (Below.refl w.heap.size w).alloc (Nat.le_refl _) (.cells #[.slice none 0 0, .string hiB] 43)
  have h1 := print8_any ⟨#[98]⟩ (some ⟨w.heap.size, 0, none⟩) [((none, 0), ([], hiB))] 1 (w.alloc (.cells #[.slice none 0 0, .string hiB] 43)) (by decide) (lit_part w hiB) (by decide) (by
    intro x hx
    rw [List.mem_singleton.1 hx]
    exact ⟨by decide, by decide, by decide⟩) (hG.1.next hb0)
  have e1 : printM (⟨#[98]⟩ : ByteArray).data.toList (ptsOf [((none, 0), ([], hiB))]) = .ok aw8L := aw8_print
  rw [e1] at h1
  have h1 : Calls Tryz.prog 9 #[.string ⟨#[98]⟩, .slice (some ⟨w.heap.size, 0, none⟩) 1 1] (w.alloc (.cells #[.slice none 0 0, .string hiB] 43)) fun e w' => e = .returned (.tuple #[.string (mkB aw8L), .int .i64 0]) ∧ Below (w.alloc (.cells #[.slice none 0 0, .string hiB] 43)).heap.size (w.alloc (.cells #[.slice none 0 0, .string hiB] 43)) w' := h1
  have h2 := fun v (hg : GvF v) => parse8_any (mkB aw8L) ⟨#[98]⟩ v (by decide) (by decide) hg
  have e2 : parseM (⟨#[98]⟩ : ByteArray).data.toList (mkB aw8L).data.toList = .ok [([], [104, 105])] := aw8_parse
  rw [e2] at h2
  have h2 : ∀ v, GvF v → Calls Tryz.prog 13 #[.string (mkB aw8L), .string ⟨#[98]⟩] v fun e w' => (∃ A c, ∃ L : List PtV, e = .returned (.tuple #[.slice A L.length c, .int .i64 0]) ∧ SlP w' A L ∧ ptsOf L = [([], [104, 105])]) ∧ Below v.heap.size v w' := h2
  have h3 := fun (v : World) (hg : GvP v) => choose_any (some ⟨v.heap.size, 0, none⟩) [((none, 0), ([], wb1B))] 1 2 (v.alloc (.cells #[.slice none 0 0, .string wb1B] 43)) (lit_part v wb1B) (by decide) (by
    intro x hx
    rw [List.mem_singleton.1 hx]
    exact ⟨by decide, by decide, by decide⟩) aw8_chose (hg.next ((Below.refl v.heap.size v).alloc (Nat.le_refl _) _))
  have q1 : ((mkB aw8L).toList == [45, 45, 98, 13, 10, 13, 10, 104, 105, 13, 10, 45, 45, 98, 45, 45, 13, 10]) = true := by rw [mkB_eqs]; decide
  have q2 : ((mkB [104, 105]).toList == [104, 105]) = true := by rw [mkB_eqs]; decide
  have q3 : ((mkB (wbM 2)).toList == [119, 98, 50]) = true := by
    rw [mkB_eqs]
    unfold wbM
    rw [digs_two]
    decide
  have HG := Lib.hid hG
  have HB0 := Lib.hid hb0
  clear hb0 hG e1 e2
  unfold hiB at h1 HB0
  unfold wb1B at h3
  generalize mkB aw8L = s1 at *
  generalize mkB (wbM 2) = s3 at *
  go_enter Tryz.func7, Tryz.ntmps7
  go_wp2_with fail
  refine h1.mono ?_
  rintro e w1 ⟨rfl, hb⟩
  have HB1 := Lib.hid (HB0.out.trans (hb.mono HB0.out.size))
  have k2 := h2 w1 (HG.out.next HB1.out).1
  clear hb h1 h2
  go_wp2_with fail
  refine k2.mono ?_
  rintro e w2 ⟨⟨A, c, L, rfl, hS, hpt⟩, hb⟩
  have HB2 := Lib.hid (HB1.out.trans (hb.mono HB1.out.size))
  obtain ⟨B, d, rfl⟩ := pts_one hpt
  obtain ⟨ad, rfl, _, c0, c1, _⟩ := hS.at_ (k := 0) rfl
  rw [Nat.zero_mul, Addr.add_zero'] at c0 c1
  simp only at c0 c1
  have k3 := h3 w2 (HG.out.next HB2.out)
  have HBA := Lib.hid (HB2.out.alloc HB2.out.size (.cells #[.slice none 0 0, .string ⟨#[45, 45, 119, 98, 49]⟩] 43))
  generalize mkB [104, 105] = s2 at *
  clear hb k2 hS hpt h3
  go_wp2_with fail
  refine k3.mono ?_
  rintro e w3 ⟨rfl, hb⟩
  have HB3 := Lib.hid (HBA.out.trans (hb.mono HBA.out.size))
  clear hb k3
  go_wp2
  go_ret
  refine ⟨?_, HB3.out⟩
  first
  | rfl
  | simp
end Go.Proofs.YtmabhbihgenmcaaGreatDoor
namespace Wb
open Go Go.RowKit
theorem wbM_len {n : Nat} (h : n < 1000000) : (wbM n).length ≤ 8 := by
  have := digs_le n 6 (by omega)
  unfold wbM
  rw [List.length_cons, List.length_cons]
  omega
end Wb
namespace Go.Proofs.YtmabhbihgenmcaaGreatDoor
open Go.RowKit Wb
end Go.Proofs.YtmabhbihgenmcaaGreatDoor
namespace Go.Proofs.YtmabhbihgenmcaaGreatDoor
open Go.RowKit Wb
def begAt (s : ByteArray) (i : Nat) (t : ByteArray) : Bool := (s.extract i (i + t.size)).toList == t.toList
def begB (s : ByteArray) (at_ : Int) (t : ByteArray) : Bool := decide (0 ≤ at_) && (decide (at_ + t.size ≤ s.size) && begAt s at_.toNat t)
set_option maxHeartbeats 400000 in
theorem begins_any (s t : ByteArray) (at_ : Int) (w : World) (hs : s.size ≤ 1000000000) (ht : t.size ≤ 1000000000) (h1 : -1000000000 ≤ at_) (h2 : at_ ≤ 2000000000) :
    Calls Tryz.prog 37 #[.string s, .int .i64 at_, .string t] w fun e w' => e = .returned (.bool (begB s at_ t)) ∧ w = w' := by
  by_cases h0 : 0 ≤ at_
  · obtain ⟨k, rfl⟩ := Int.eq_ofNat_of_zero_le h0
    by_cases hk : (k : Int) + t.size ≤ s.size
    · cases hb : begAt s k t
      all_goals
        have H : Hid (begB s k t = _) := Lib.hid (show begB s k t = begAt s k t from by unfold begB; rw [decide_eq_true h0, decide_eq_true hk]; simp)
        rw [H.out, hb]
        clear H
        have hq : ((s.extract k (k + t.size)).toList == t.toList) = _ := hb
        clear hb
        have g1 : (t.size : Int) ≤ (s.size : Int) - k := by omega
        go_enter Tryz.func37, Tryz.ntmps37
        go_wp2
        go_ret
        exact ⟨rfl, rfl⟩
    · have H : begB s k t = false := by unfold begB; rw [decide_eq_false hk]; simp
      rw [H]
      clear H
      have g1 : ¬ (t.size : Int) ≤ (s.size : Int) - k := by omega
      go_enter Tryz.func37, Tryz.ntmps37
      go_wp2
      go_ret
      exact ⟨rfl, rfl⟩
  · have H : begB s at_ t = false := by unfold begB; rw [decide_eq_false h0]; simp
    rw [H]
    clear H
    go_enter Tryz.func37, Tryz.ntmps37
    go_wp2
    go_ret
    exact ⟨rfl, rfl⟩
def IdxIs (s : ByteArray) (a : Nat) (t : ByteArray) (r : Int) : Prop :=
  (r = -1 ∧ ∀ i, a ≤ i → i + t.size ≤ s.size → begAt s i t = false) ∨
  (∃ k : Nat, r = k ∧ a ≤ k ∧ k + t.size ≤ s.size ∧ begAt s k t = true ∧ ∀ i, a ≤ i → i < k → begAt s i t = false)
set_option maxHeartbeats 400000 in
theorem index_any (s t : ByteArray) (a : Nat) (w : World) (hs : s.size ≤ 1000000000) (ht : t.size ≤ 1000000000) (ha : a ≤ 2000000000) :
    Calls Tryz.prog 67 #[.string s, .int .i64 a, .string t] w fun e w' => ∃ r, e = .returned (.int .i64 r) ∧ IdxIs s a t r ∧ w = w' := by
  go_enter Tryz.func67, Tryz.ntmps67
  go_wp2
  go_loop [7] (fun i => ∃ k : Nat, a ≤ k ∧ (k : Int) ≤ 2000000000 ∧ i = .int .i64 k ∧ Hid (∀ i, a ≤ i → i < k → begAt s i t = false)) (fun i => (2000000001 - intOf i).toNat)
  case atStart => exact ⟨a, Nat.le_refl _, by omega, rfl, Lib.hid (fun i h1 h2 => absurd h2 (by omega))⟩
  case round =>
    obtain ⟨k, hk, hk2, rfl, HI⟩ := hrel
    by_cases hr : (k : Int) ≤ (s.size : Int) - t.size
    · have g1 : (k : Int) + t.size ≤ s.size := by omega
      cases hb : begAt s k t
      · have HB := Lib.hid hb
        have hq : ((s.extract k (k + t.size)).toList == t.toList) = false := hb
        clear hb
        go_wp2
        go_round
        case rel => exact ⟨k + 1, by omega, by omega, by go_num, Lib.hid (fun i h1 h2 => by
          by_cases e : i = k
          · subst e; exact HB.out
          · exact HI.out i h1 (by omega))⟩
        case measure => simp [intOf]; omega
      · have HB := Lib.hid hb
        have hq : ((s.extract k (k + t.size)).toList == t.toList) = true := hb
        clear hb
        go_wp2
        go_ret
        exact ⟨k, rfl, .inr ⟨k, rfl, hk, by omega, HB.out, HI.out⟩, rfl⟩
    · go_wp2
      go_ret
      exact ⟨-1, rfl, .inl ⟨rfl, fun i h1 h2 => HI.out i h1 (by omega)⟩, rfl⟩
end Go.Proofs.YtmabhbihgenmcaaGreatDoor
namespace Wb
open Go
theorem all_take {p : UInt8 → Bool} {L : List UInt8} {i : Nat} {c : UInt8} (h : L[i]? = some c) : (L.take (i + 1)).all p = ((L.take i).all p && p c) := by
  rw [List.take_add_one, h, List.all_append]
  simp
theorem all_stop {p : UInt8 → Bool} {L : List UInt8} {i : Nat} {c : UInt8} (h : L[i]? = some c) (hp : p c = false) : L.all p = false := by
  cases hc : L.all p
  · rfl
  · rw [List.all_eq_true] at hc
    rw [hc c (List.mem_of_getElem? h)] at hp
    cases hp
theorem ba_get {s : ByteArray} {i : Nat} (h : i < s.size) : s.data.toList[i]? = some s[i] := by
  rw [List.getElem?_eq_getElem (by rw [← ba_size]; exact h)]
  rfl
end Wb
namespace Go.Proofs.YtmabhbihgenmcaaGreatDoor
open Go.RowKit Wb
end Go.Proofs.YtmabhbihgenmcaaGreatDoor
