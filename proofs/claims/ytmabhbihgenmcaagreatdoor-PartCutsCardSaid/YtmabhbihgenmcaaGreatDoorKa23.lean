/- QcM QcN QcO. -/
import Derived.Deep.RegionWith
import Derived.Test.YtmabhbihgenmcaaGreatDoorKa22
namespace Wb
open Go Go.RowKit
def totB (L : List PtV) : Nat := (L.map fun x => x.2.2.size).sum
theorem totB_step {L : List PtV} {k : Nat} {x : PtV} (h : L[k]? = some x) : totB (L.take (k + 1)) = totB (L.take k) + x.2.2.size := by
  rw [List.take_add_one, h]
  unfold totB
  rw [List.map_append, List.sum_append]
  simp
theorem totB_mem {L : List PtV} {x : PtV} (h : x ∈ L) : x.2.2.size ≤ totB L := by
  unfold totB
  induction L with
  | nil => cases h
  | cons a l ih =>
    rw [List.map_cons, List.sum_cons]
    rcases List.mem_cons.1 h with rfl | h
    · omega
    · have := ih h; omega
def FewL (L : List PtV) : Prop := L.length ≤ 60 ∧ L.length + totB L < 20000 ∧ ∀ x ∈ L, x.2.1.length + tot7 x.2.1 < 5000
def FewPost8 (L : List PtV) (w : World) (e : Ending) (w' : World) : Prop :=
  RowKit.Below w.heap.size w w' ∧ ∃ b, e = .returned (.bool b) ∧ (b = true → FewL L)
theorem mem_take_step {L : List PtV} {k : Nat} {x : PtV} (h : L[k]? = some x) {P : PtV → Prop} (h1 : ∀ y ∈ L.take k, P y) (h2 : P x) : ∀ y ∈ L.take (k + 1), P y := by
  intro y hy
  rw [List.take_add_one, h] at hy
  rcases List.mem_append.1 hy with hy | hy
  · exact h1 y hy
  · simp at hy
    rw [hy]; exact h2
theorem digs_one : digs 1 = [49] := by rw [digs, dif_neg (by decide), show 1 / 10 = 0 from rfl, digs, dif_pos rfl]; rfl
theorem digs_two : digs 2 = [50] := by rw [digs, dif_neg (by decide), show 2 / 10 = 0 from rfl, digs, dif_pos rfl]; rfl
theorem aw8_chose : ChoseN [([], [45, 45, 119, 98, 49])] 2 := by
  refine ⟨by decide, by decide, ?_, fun k h1 h2 => ?_⟩
  · unfold wbM
    rw [digs_two]
    kernel_rfl
  · obtain rfl : k = 1 := by omega
    unfold wbM
    rw [digs_one]
    kernel_rfl
def hiB : ByteArray := ⟨#[104, 105]⟩
def aw8L : List UInt8 := [45, 45, 98, 13, 10, 13, 10, 104, 105, 13, 10, 45, 45, 98, 45, 45, 13, 10]
theorem aw8_print : printM [98] [([], [104, 105])] = .ok aw8L := by kernel_rfl
theorem aw8_parse : parseM [98] aw8L = .ok [([], [104, 105])] := by kernel_rfl
end Wb
namespace Go.Proofs.YtmabhbihgenmcaaGreatDoor
open Go.RowKit Wb
theorem FewL.z {L : List PtV} (h : FewL L) : ∀ x ∈ L, PartZ x := by
  obtain ⟨h1, h2, h3⟩ := h
  intro x hx
  have a1 := totB_mem hx
  have a2 := h3 x hx
  exact ⟨by omega, by omega, by omega⟩
theorem cov_sum : ∀ L : List PtV, (∀ x ∈ L, x.2.1.length ≤ 5000) → (covL (ptsOf L)).length ≤ totB L + 5003 * L.length
  | [], _ => Nat.zero_le _
  | x :: L, h => by
    have ih := cov_sum L fun y hy => h y (List.mem_cons_of_mem _ hy)
    have hx := h x (List.mem_cons_self ..)
    unfold covL ptsOf totB at *
    rw [List.map_cons, List.flatMap_cons, List.length_append, covP_len, List.map_cons, List.sum_cons, List.length_cons]
    have e1 : (ptOf x).2.length = x.2.2.size := (ba_size x.2.2).symm
    have e2 : (ptOf x).1.length = x.2.1.length := List.length_map ..
    omega
theorem FewL.chose {L : List PtV} (h : FewL L) : ∃ n, ChoseN (ptsOf L) n := by
  refine chose_ex ?_
  have := cov_sum L fun x hx => by have := h.2.2 x hx; omega
  have h1 := h.1
  have h2 := h.2.1
  omega
set_option maxHeartbeats 4000000 in
set_option maxRecDepth 100000 in
theorem few8_any (A : Option Addr) (L : List PtV) (c : Nat) (w : World) (hA : SlP w A L) :
    Calls Tryz.prog 8 #[.slice A L.length c] w (FewPost8 L w) := by
  have HA := Lib.hid hA
  clear hA
  by_cases hlen : (L.length : Int) ≤ 20000
  · go_enter Tryz.func8, Tryz.ntmps8
    go_wp2
    go_loopw [3, 4] (fun n i wr => ∃ (k N : Nat), k ≤ L.length ∧ n = .int .i64 N ∧ i = .int .i64 k ∧ N ≤ 60000 ∧ Hid (N < 20000 → L.length + totB (L.take k) = N) ∧ Hid (∀ y ∈ L.take k, y.2.1.length + tot7 y.2.1 < 5000) ∧ Hid (Below w.heap.size w wr)) (fun _ i _ => ((L.length : Int) - intOf i).toNat)
    case atStart => exact ⟨0, L.length, by omega, by rw [show min (L.length : Int) 20000 = (L.length : Int) from by omega], rfl, by omega, Lib.hid (fun _ => by simp [totB]), Lib.hid (fun y hy => by simp at hy), Lib.hid (Below.refl _ _)⟩
    case round =>
      obtain ⟨k, N, hk, rfl, rfl, hN, HT, HF, HB⟩ := hrel
      by_cases h1 : (N : Int) < 20000
      · by_cases h0 : (k : Int) < L.length
        · obtain ⟨⟨⟨x1, x3⟩, ⟨fs, body⟩⟩, he⟩ : ∃ x, L[k]? = some x := ⟨L[k], List.getElem?_eq_getElem (by omega)⟩
          obtain ⟨ad, rfl, had, c1, c2, hfs⟩ := (HA.out.below HB.out).at_ he
          have HE := Lib.hid he
          simp only at c1 c2 hfs
          have hfew := few7_any x1 fs x3 wr hfs
          have k0 : (0 : Int) ≤ (k : Int) := by omega
          clear he hfs had
          by_cases m1 : (body.size : Int) ≤ 20000
          · have HT2 := Lib.hid (fun (_ : N + body.size < 20000) => (show L.length + totB (L.take (k + 1)) = N + body.size from by rw [totB_step HE.out]; have := HT.out (by omega); simp only; omega))
            go_wp2_with fail
            refine hfew.mono ?_
            rintro e w2 ⟨hb2, b2, rfl, hfb⟩
            have HB2 := Lib.hid (HB.out.trans (hb2.mono HB.out.size))
            have HFB := Lib.hid hfb
            clear hb2 hfew hfb
            cases b2
            · go_wp2
              go_ret
              exact ⟨HB2.out, _, rfl, fun h => absurd h (by simp)⟩
            · have HF2 := Lib.hid (mem_take_step (P := fun y => y.2.1.length + tot7 y.2.1 < 5000) HE.out HF.out (HFB.out rfl))
              go_wp2
              go_roundw
              case rel => exact ⟨k + 1, N + body.size, by omega, by go_num, by go_num, by omega, HT2, HF2, HB2⟩
              case measure => simp [intOf]; omega
          · have HT2 : Hid (N + 20000 < 20000 → L.length + totB (L.take (k + 1)) = N + 20000) := Lib.hid (fun h => absurd h (by omega))
            go_wp2_with fail
            refine hfew.mono ?_
            rintro e w2 ⟨hb2, b2, rfl, hfb⟩
            have HB2 := Lib.hid (HB.out.trans (hb2.mono HB.out.size))
            have HFB := Lib.hid hfb
            clear hb2 hfew hfb
            cases b2
            · go_wp2
              go_ret
              exact ⟨HB2.out, _, rfl, fun h => absurd h (by simp)⟩
            · have HF2 := Lib.hid (mem_take_step (P := fun y => y.2.1.length + tot7 y.2.1 < 5000) HE.out HF.out (HFB.out rfl))
              go_wp2
              go_roundw
              case rel => exact ⟨k + 1, N + 20000, by omega, by go_num, by go_num, by omega, HT2, HF2, HB2⟩
              case measure => simp [intOf]; omega
        · have hd : decide ((N : Int) < 20000) = true := decide_eq_true h1
          have HT2 := HT.out (by omega)
          rw [List.take_of_length_le (by omega)] at HT2
          have HF2 := HF.out
          rw [List.take_of_length_le (by omega)] at HF2
          have HF3 := Lib.hid HF2
          clear HF2
          by_cases h60 : (L.length : Int) ≤ 60
          · go_wp2
            go_ret
            exact ⟨HB.out, _, rfl, fun _ => ⟨by omega, by omega, HF3.out⟩⟩
          · go_wp2
            go_ret
            exact ⟨HB.out, _, rfl, fun h => absurd h (by simp)⟩
      · have hd : decide ((N : Int) < 20000) = false := decide_eq_false h1
        go_wp2
        all_goals
          go_ret
          exact ⟨HB.out, _, rfl, fun h => absurd h (by simp)⟩
  · go_enter Tryz.func8, Tryz.ntmps8
    go_wp2
    go_loopw [3, 4] (fun n i wr => n = .int .i64 20000 ∧ i = .int .i64 0 ∧ wr = w) (fun _ _ _ => 0)
    case atStart => exact ⟨by rw [show min (L.length : Int) 20000 = 20000 from by omega], rfl, rfl⟩
    case round =>
      obtain ⟨rfl, rfl, rfl⟩ := hrel
      go_wp2
      all_goals
        go_ret
        exact ⟨Below.refl _ _, _, rfl, fun h => absurd h (by simp)⟩
end Go.Proofs.YtmabhbihgenmcaaGreatDoor
namespace Wb
open Go Go.RowKit
theorem pts_one {L : List PtV} {l : List UInt8} (h : ptsOf L = [([], l)]) : ∃ B d, L = [((B, d), ([], mkB l))] := by
  have hl := congrArg List.length h
  unfold ptsOf at hl
  rw [List.length_map] at hl
  obtain ⟨x, rfl⟩ := List.length_eq_one_iff.1 hl
  obtain ⟨⟨B, d⟩, ⟨fs, body⟩⟩ := x
  unfold ptsOf ptOf at h
  simp only [List.map_cons, List.map_nil, List.cons.injEq, Prod.mk.injEq, and_true, List.map_eq_nil_iff] at h
  refine ⟨B, d, ?_⟩
  rw [h.1, show body = mkB l from eq_of_lists (by rw [h.2]; rfl)]
def wb1B : ByteArray := ⟨#[45, 45, 119, 98, 49]⟩
end Wb
namespace Go.Proofs.YtmabhbihgenmcaaGreatDoor
open Go.RowKit Wb
theorem lit_part (w : World) (b : ByteArray) : SlP (w.alloc (.cells #[.slice none 0 0, .string b] 43)) (some ⟨w.heap.size, 0, none⟩) [((none, 0), ([], b))] :=
  ⟨Sl.lit w 2 [.slice none 0 0, .string b] 43 1 rfl, fun x hx => by
    rw [List.mem_singleton.1 hx]
    exact Sl2.nil _ _⟩
set_option maxRecDepth 100000 in
set_option maxHeartbeats 8000000 in
theorem awake8 (w : World) (hG : GvP w) : Calls Tryz.prog 7 #[] w fun e w' => e = .returned (.bool true) ∧ Below w.heap.size w w' := by
  have hb0 := (Below.refl w.heap.size w).alloc (Nat.le_refl _) (.cells #[.slice none 0 0, .string hiB] 43)
  have h1 := print8_any ⟨#[98]⟩ (some ⟨w.heap.size, 0, none⟩) [((none, 0), ([], hiB))] 1 (w.alloc (.cells #[.slice none 0 0, .string hiB] 43)) (by decide) (lit_part w hiB) (by decide) (by
    intro x hx
    rw [List.mem_singleton.1 hx]
    exact ⟨by decide, by decide, by decide⟩) (hG.1.next hb0)
  have e1 : printM (⟨#[98]⟩ : ByteArray).data.toList (ptsOf [((none, 0), ([], hiB))]) = .ok aw8L := aw8_print
  rw [e1] at h1
  have h1 : Calls Tryz.prog 9 #[.string ⟨#[98]⟩, .slice (some ⟨w.heap.size, 0, none⟩) 1 1] (w.alloc (.cells #[.slice none 0 0, .string hiB] 43)) fun e w' => e = .returned (.tuple #[.string (mkB aw8L), .int .i64 0]) ∧ Below (w.alloc (.cells #[.slice none 0 0, .string hiB] 43)).heap.size (w.alloc (.cells #[.slice none 0 0, .string hiB] 43)) w' := h1
  have h2 := fun v (hg : GvF v) => parse8_any (mkB aw8L) ⟨#[98]⟩ v (by decide) (by decide) hg
  have e2 : parseM (⟨#[98]⟩ : ByteArray).data.toList (mkB aw8L).data.toList = .ok [([], [104, 105])] := aw8_parse
  rw [e2] at h2
  have h2 : ∀ v, GvF v → Calls Tryz.prog 13 #[.string (mkB aw8L), .string ⟨#[98]⟩] v fun e w' => (∃ A c, ∃ L : List PtV, e = .returned (.tuple #[.slice A L.length c, .int .i64 0]) ∧ SlP w' A L ∧ ptsOf L = [([], [104, 105])]) ∧ Below v.heap.size v w' := h2
  have h3 := fun (v : World) (hg : GvP v) => choose_any (some ⟨v.heap.size, 0, none⟩) [((none, 0), ([], wb1B))] 1 2 (v.alloc (.cells #[.slice none 0 0, .string wb1B] 43)) (lit_part v wb1B) (by decide) (by
    intro x hx
    rw [List.mem_singleton.1 hx]
    exact ⟨by decide, by decide, by decide⟩) aw8_chose (hg.next ((Below.refl v.heap.size v).alloc (Nat.le_refl _) _))
  have q1 : ((mkB aw8L).toList == [45, 45, 98, 13, 10, 13, 10, 104, 105, 13, 10, 45, 45, 98, 45, 45, 13, 10]) = true := by rw [mkB_eqs]; decide
  have q2 : ((mkB [104, 105]).toList == [104, 105]) = true := by rw [mkB_eqs]; decide
  have q3 : ((mkB (wbM 2)).toList == [119, 98, 50]) = true := by
    rw [mkB_eqs]
    unfold wbM
    rw [digs_two]
    decide
  have HG := Lib.hid hG
  have HB0 := Lib.hid hb0
  clear hb0 hG e1 e2
  unfold hiB at h1 HB0
  unfold wb1B at h3
  generalize mkB aw8L = s1 at *
  generalize mkB (wbM 2) = s3 at *
  go_enter Tryz.func7, Tryz.ntmps7
  go_wp2_with fail
  refine h1.mono ?_
  rintro e w1 ⟨rfl, hb⟩
  have HB1 := Lib.hid (HB0.out.trans (hb.mono HB0.out.size))
  have k2 := h2 w1 (HG.out.next HB1.out).1
  clear hb h1 h2
  go_wp2_with fail
  refine k2.mono ?_
  rintro e w2 ⟨⟨A, c, L, rfl, hS, hpt⟩, hb⟩
  have HB2 := Lib.hid (HB1.out.trans (hb.mono HB1.out.size))
  obtain ⟨B, d, rfl⟩ := pts_one hpt
  obtain ⟨ad, rfl, _, c0, c1, _⟩ := hS.at_ (k := 0) rfl
  rw [Nat.zero_mul, Addr.add_zero'] at c0 c1
  simp only at c0 c1
  have k3 := h3 w2 (HG.out.next HB2.out)
  have HBA := Lib.hid (HB2.out.alloc HB2.out.size (.cells #[.slice none 0 0, .string ⟨#[45, 45, 119, 98, 49]⟩] 43))
  generalize mkB [104, 105] = s2 at *
  clear hb k2 hS hpt h3
  go_wp2_with fail
  refine k3.mono ?_
  rintro e w3 ⟨rfl, hb⟩
  have HB3 := Lib.hid (HBA.out.trans (hb.mono HBA.out.size))
  clear hb k3
  go_wp2
  go_ret
  refine ⟨?_, HB3.out⟩
  first
  | rfl
  | simp
end Go.Proofs.YtmabhbihgenmcaaGreatDoor
namespace Wb
open Go Go.RowKit
theorem partsM_len {b : List UInt8} : ∀ {l : List Pt} {s : List UInt8}, partsM b l = .ok s → b.length + 6 ≤ s.length
  | [], s, h => by
    simp only [partsM, Except.ok.injEq] at h
    rw [← h, List.length_append, delB_len]
    simp only [List.length_cons, List.length_nil]
    omega
  | p :: l, s, h => by
    rw [partsM] at h
    split at h
    · cases h
    · split at h
      · cases h
      · rename_i hd _ s' hs
        have := partsM_len hs
        simp only [Except.ok.injEq] at h
        rw [← h]
        simp only [List.length_append, List.length_cons]
        omega
theorem printH_err {fs : List Pr} {e : Int} (h : printH (fs.map ofPr) = .error e) : e = 3 ∨ e = 12 ∨ e = 4 := by
  rw [printH_eq] at h
  exact printX_err h
theorem partsM_err {b : List UInt8} : ∀ {L : List PtV} {e : Int}, partsM b (ptsOf L) = .error e → e = 3 ∨ e = 12 ∨ e = 4
  | [], e, h => by cases h
  | x :: L, e, h => by
    have hh : partsM b (ptOf x :: ptsOf L) = .error e := h
    rw [partsM] at hh
    split at hh
    · rename_i e2 h2
      injection hh with hh
      rw [← hh]
      exact printH_err h2
    · split at hh
      · rename_i e2 h2
        injection hh with hh
        rw [← hh]
        exact partsM_err h2
      · cases hh
theorem printM_err {b : List UInt8} {L : List PtV} {e : Int} (h : printM b (ptsOf L) = .error e) : e = 30 ∨ e = 2 ∨ e = 3 ∨ e = 12 ∨ e = 4 := by
  unfold printM at h
  split at h
  · injection h with h; exact .inl h.symm
  split at h
  · injection h with h; exact .inr (.inr (.inl h.symm))
  split at h
  · injection h with h; exact .inr (.inl h.symm)
  · rcases partsM_err h with h | h | h
    · exact .inr (.inr (.inl h))
    · exact .inr (.inr (.inr (.inl h)))
    · exact .inr (.inr (.inr (.inr h)))
theorem partsM_size {b : List UInt8} : ∀ {L : List PtV} {s : List UInt8}, (∀ x ∈ L, x.2.2.size ≤ 20000 ∧ x.2.1.length + tot7 x.2.1 ≤ 5000) → partsM b (ptsOf L) = .ok s → s.length ≤ (L.length + 1) * (b.length + 60000)
  | [], s, _, h => by
    have hh : partsM b [] = .ok s := h
    simp only [partsM, Except.ok.injEq] at hh
    rw [← hh, List.length_append, delB_len]
    simp only [List.length_cons, List.length_nil]
    omega
  | x :: L, s, hz, h => by
    have hh : partsM b (ptOf x :: ptsOf L) = .ok s := h
    rw [partsM] at hh
    have hpe : printH (ptOf x).1 = printX x.2.1 := printH_eq x.2.1
    rw [hpe] at hh
    split at hh
    · cases hh
    · rename_i hd hx
      split at hh
      · cases hh
      · rename_i s' hs
        have ih := partsM_size (fun y hy => hz y (List.mem_cons_of_mem _ hy)) hs
        have h1 := printX_size hx
        obtain ⟨z1, z2⟩ := hz x (List.mem_cons_self ..)
        have e1 : (ptOf x).2.length = x.2.2.size := (ba_size x.2.2).symm
        simp only [Except.ok.injEq] at hh
        rw [← hh]
        simp only [List.length_append, List.length_cons, delB_len, e1]
        rw [Nat.add_mul (L.length + 1) 1]
        omega
theorem printM_ok {b : List UInt8} {L : List PtV} {s : List UInt8} (h : printM b (ptsOf L) = .ok s) : partsM b (ptsOf L) = .ok s := by
  unfold printM at h
  split at h
  · cases h
  split at h
  · cases h
  split at h
  · cases h
  · exact h
theorem wbM_len {n : Nat} (h : n < 1000000) : (wbM n).length ≤ 8 := by
  have := digs_le n 6 (by omega)
  unfold wbM
  rw [List.length_cons, List.length_cons]
  omega
end Wb
namespace Go.Proofs.YtmabhbihgenmcaaGreatDoor
open Go.RowKit Wb
set_option maxRecDepth 100000 in
set_option maxHeartbeats 8000000 in
theorem cuts_walk (A : Option Addr) (L : List PtV) (c : Nat) (cut : Int) (w : World) (hA : SlP w A L) (hc1 : -9223372036854775808 ≤ cut) (hc2 : cut ≤ 9223372036854775807) (hG : GvP w) :
    Calls Tryz.prog 5 #[.slice A L.length c, .int .i64 cut] w fun e w' => e = .returned (.bool true) ∧ Below w.heap.size w w' := by
  have HG := Lib.hid hG
  have HA := Lib.hid hA
  clear hG hA
  go_enter Tryz.func5, Tryz.ntmps5
  go_wp2_with fail
  refine (awake8 w HG.out).mono ?_
  rintro e w1 ⟨rfl, hb⟩
  have HB1 := Lib.hid hb
  have hfew := few8_any A L c w1 (HA.out.below hb)
  clear hb
  go_wp2_with fail
  refine hfew.mono ?_
  rintro e w2 ⟨hb, b, rfl, hfb⟩
  have HB2 := Lib.hid (HB1.out.trans (hb.mono HB1.out.size))
  clear hb hfew
  cases b
  · clear hfb
    go_wp2
    go_ret
    exact ⟨rfl, HB2.out⟩
  have hfe := hfb rfl
  clear hfb
  have hl60 := hfe.1
  obtain ⟨ch, hch⟩ := FewL.chose hfe
  have HZ := Lib.hid (FewL.z hfe)
  have h6 := hch.2.1
  have hwl := wbM_len h6
  have k1 := choose_any A L c ch w2 (HA.out.below HB2.out) hl60 HZ.out hch (HG.out.next HB2.out)
  have hms : (mkB (wbM ch)).size = (wbM ch).length := mkB_size _
  have k2 := fun (v : World) (hv : Below w.heap.size w v) => print8_any (mkB (wbM ch)) A L c v (by omega) (HA.out.below hv) hl60 HZ.out (HG.out.next hv).1
  rw [mkB_list] at k2
  have HZ5 := Lib.hid (fun (x : PtV) (hx : x ∈ L) => (show x.2.2.size ≤ 20000 ∧ x.2.1.length + tot7 x.2.1 ≤ 5000 from by have h1 := totB_mem hx; have h2 := hfe.2.1; have h3 := hfe.2.2 x hx; omega))
  have H58 := Lib.hid (wb_colon ch)
  clear hch hfe
  cases hpx : printM (wbM ch) (ptsOf L) with
  | error k =>
    rw [hpx] at k2
    have hk := printM_err hpx
    clear hpx
    generalize mkB (wbM ch) = bb at *
    rcases hk with rfl | rfl | rfl | rfl | rfl
    all_goals
      go_wp2_with fail
      refine k1.mono ?_
      rintro e w3 ⟨rfl, hb⟩
      have HB3 := Lib.hid (HB2.out.trans (hb.mono HB2.out.size))
      have k4 := k2 w3 HB3.out
      clear hb k1 k2
      go_wp2_with fail
      refine k4.mono ?_
      rintro e w4 ⟨he, hb⟩
      obtain rfl : e = _ := he
      have HB4 := Lib.hid (HB3.out.trans (hb.mono HB3.out.size))
      clear hb k4
      go_wp2
      go_ret
      exact ⟨rfl, HB4.out⟩
  | ok st =>
    rw [hpx] at k2
    have k2 : ∀ v, Below w.heap.size w v → Calls Tryz.prog 9 #[.string (mkB (wbM ch)), .slice A L.length c] v fun e w' => e = .returned (.tuple #[.string (mkB st), .int .i64 0]) ∧ Below v.heap.size v w' := k2
    have hlen := partsM_len (printM_ok hpx)
    have hsz := partsM_size HZ5.out (printM_ok hpx)
    have hst : st.length ≤ 5000000 := by
      have : (L.length + 1) * ((wbM ch).length + 60000) ≤ 61 * 60008 := Nat.mul_le_mul (by omega) (by omega)
      omega
    have hsm : (mkB st).size = st.length := mkB_size st
    obtain ⟨N, hN⟩ : ∃ N, st.length = N + ((wbM ch).length + 6) := ⟨st.length - ((wbM ch).length + 6), by omega⟩
    have hcut := fun (m : Nat) (hm : m ≤ N) (v : World) (hv : Below w.heap.size w v) => (show ∃ k : Int, k ≠ 0 ∧ Calls Tryz.prog 13 #[.string ((mkB st).extract 0 m), .string (mkB (wbM ch))] v fun e w' => e = .returned (.tuple #[.slice none 0 0, .int .i64 k]) ∧ Below v.heap.size v w' from by
      obtain ⟨k, hk0, hk⟩ := part_cuts H58.out hpx (n := m) (by omega)
      have h := parse8_any ((mkB st).extract 0 m) (mkB (wbM ch)) v (by rw [ByteArray.size_extract]; omega) (by omega) (HG.out.next hv).1
      rw [show ((mkB st).extract 0 m).data.toList = st.take m from by rw [Lib.extract_upto]; rfl, mkB_list, hk] at h
      exact ⟨k, hk0, h⟩)
    have HCUT := Lib.hid hcut
    have e2 : ((mkB st).size : Int) - ((mkB (wbM ch)).size : Int) = (N : Int) + 6 := by omega
    have hNs : N ≤ (mkB st).size := by omega
    have hSz : (mkB st).size ≤ 5000000 := by omega
    have hbz : (mkB (wbM ch)).size ≤ 8 := by omega
    clear hpx hcut hsz hlen hsm hst hN hms hwl
    generalize mkB st = S at *
    generalize mkB (wbM ch) = bb at *
    by_cases hc : 0 ≤ cut ∧ cut < N
    · obtain ⟨hca, hcb⟩ := hc
      obtain ⟨m, rfl⟩ : ∃ m : Nat, cut = m := ⟨cut.toNat, by omega⟩
      go_wp2_with fail
      refine k1.mono ?_
      rintro e w3 ⟨rfl, hb⟩
      have HB3 := Lib.hid (HB2.out.trans (hb.mono HB2.out.size))
      have k4 := k2 w3 HB3.out
      clear hb k1 k2
      go_wp2_with fail
      refine k4.mono ?_
      rintro e w4 ⟨rfl, hb⟩
      have HB4 := Lib.hid (HB3.out.trans (hb.mono HB3.out.size))
      obtain ⟨k, hk0, k5⟩ := HCUT.out m (by omega) w4 HB4.out
      have HKZ : Hid ((k != 0) = true) := Lib.hid (by rw [bne_iff_ne]; exact hk0)
      clear hb k4 hk0
      go_wp2_with fail
      refine k5.mono ?_
      rintro e w5 ⟨rfl, hb⟩
      have HB5 := Lib.hid (HB4.out.trans (hb.mono HB4.out.size))
      clear hb k5
      go_wp2
      go_ret
      exact ⟨ret_b HKZ.out, HB5.out⟩
    · have hcc : ¬ 0 ≤ cut ∨ (0 ≤ cut ∧ ¬ cut < N) := by omega
      clear hc
      rcases hcc with hca | ⟨hca, hcb⟩
      all_goals
        go_wp2_with fail
        refine k1.mono ?_
        rintro e w3 ⟨rfl, hb⟩
        have HB3 := Lib.hid (HB2.out.trans (hb.mono HB2.out.size))
        have k4 := k2 w3 HB3.out
        clear hb k1 k2
        go_wp2_with fail
        refine k4.mono ?_
        rintro e w4 ⟨rfl, hb⟩
        have HB4 := Lib.hid (HB3.out.trans (hb.mono HB3.out.size))
        obtain ⟨k, hk0, k5⟩ := HCUT.out N (by omega) w4 HB4.out
        have HKZ : Hid ((k != 0) = true) := Lib.hid (by rw [bne_iff_ne]; exact hk0)
        clear hb k4 hk0
        go_wp2_with fail
        refine k5.mono ?_
        rintro e w5 ⟨rfl, hb⟩
        have HB5 := Lib.hid (HB4.out.trans (hb.mono HB4.out.size))
        clear hb k5
        go_wp2
        go_ret
        exact ⟨ret_b HKZ.out, HB5.out⟩
end Go.Proofs.YtmabhbihgenmcaaGreatDoor
