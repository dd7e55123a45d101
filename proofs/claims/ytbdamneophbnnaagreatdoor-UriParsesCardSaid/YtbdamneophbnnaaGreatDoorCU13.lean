/- QdK QdS. -/
import Derived.Deep.Cut
import Derived.Lib.SmallJoins
import Derived.Test.YtbdamneophbnnaaGreatDoorCU7
import Derived.Test.YtbdamneophbnnaaGreatDoorCU10
import Derived.Test.YtbdamneophbnnaaGreatDoorCU12
namespace Wb
theorem esc_at {s b : List UInt8} {i : Nat} (hd : DecAt s b i) (h : i < s.length) (hc : s[i] = 37) :
    (escO (s.drop (i + 1)) = false ∧ pctD s = none) ∨ (escO (s.drop (i + 1)) = true ∧ i + 2 < s.length ∧ DecAt s (b ++ [escV (s.drop (i + 1))]) (i + 3)) := by
  by_cases h2 : i + 2 < s.length
  · have e : s.drop (i + 1) = s[i + 1] :: s[i + 2] :: s.drop (i + 3) := by
      rw [pdrop_at (show i + 1 < s.length by omega), pdrop_at (show i + 1 + 1 < s.length by omega)]
    rw [e]
    unfold escO escV
    by_cases hq : dgV s[i + 1] < 0 ∨ dgV s[i + 2] < 0
    · refine .inl ⟨by simp [hq], decAt_bad hd h hc (.inr ⟨h2, hq⟩)⟩
    · refine .inr ⟨by simp [hq], h2, ?_⟩
      simp only [if_neg hq]
      exact decAt_esc hd h2 hc (by omega) (by omega)
  · refine .inl ⟨(esc_short (by rw [List.length_drop]; omega)).2, decAt_bad hd h hc (.inl (by omega))⟩
theorem decP_none {s : List UInt8} (h : pctD s = none) : decP s = ([], 32) := by
  unfold decP
  rw [h]
theorem decP_some {s t : List UInt8} (h : pctD s = some t) : decP s = if 0 ≤ chk t then ([], 10) else (t, 0) := by
  unfold decP
  rw [h]
theorem ext_drop (s : ByteArray) (a : Nat) : (s.extract a s.size).data.toList = s.data.toList.drop a := by
  rw [ext_sub, List.take_of_length_le (by simp)]
end Wb
namespace Go.Proofs.YtbdamneophbnnaaGreatDoor
open Go.RowKit Wb
set_option maxRecDepth 100000 in
set_option maxHeartbeats 8000000 in
theorem decode_any (s : ByteArray) (w : World) (hs : s.size ≤ 1000000) :
    Calls Tryz.prog 35 #[.string s] w fun e w' => e = .returned (.tuple #[.string ⟨(decP s.data.toList).1.toArray⟩, .int .i64 (decP s.data.toList).2]) ∧ Below w.heap.size w w' := by
  obtain ⟨o, ho⟩ : ∃ o, decP s.data.toList = o := ⟨_, rfl⟩
  rw [ho]
  have HO := Lib.hid ho
  clear ho
  have HF0 := Lib.hid (Lib.fresh_isBuilder 89 5 w)
  have HB0 := Lib.hid ((Below.refl w.heap.size w).alloc (Nat.le_refl _) (.cells #[.pointer none, .slice none 0 0] 89))
  have hw0 : w.heap.size ≤ (w.alloc (.cells #[.pointer none, .slice none 0 0] 89)).heap.size := by simp
  go_enter Tryz.func35, Tryz.ntmps35
  go_wp2
  go_loopw [5] (fun v5 wr => ∃ (i : Nat) (acc : List UInt8), i ≤ s.size ∧ v5 = .int .i64 i ∧ acc.length ≤ i ∧ Hid (DecAt s.data.toList acc i) ∧ Hid (Lib.IsBuilder 89 5 w.heap.size w.heap.size (Lib.byteCells acc) wr) ∧ Hid (Below w.heap.size w wr) ∧ w.heap.size ≤ wr.heap.size) (fun v5 _ => ((s.size : Int) - intOf v5).toNat)
  case atStart => exact ⟨0, [], by omega, rfl, by simp, Lib.hid (decAt_zero _), HF0, HB0, hw0⟩
  case round =>
    clear HF0 HB0 hw0
    obtain ⟨i, acc, hil, rfl, hal, HD, HF, HB, hws⟩ := hrel
    by_cases h0 : i < s.size
    · have h0l : i < s.data.toList.length := by simpa using h0
      have w1 : IntKind.i64.wrap ((i : Int) + 1) = (i : Int) + 1 := by rw [IntKind.wrap_i64]; omega
      cases h37 : (s[i] == 37)
      · have hne : s.data.toList[i] ≠ 37 := fun h => by
          rw [beq_eq_false_iff_ne] at h37
          exact h37 h
        have HD2 : Hid (DecAt s.data.toList (acc ++ [s[i]]) (i + 1)) := Lib.hid (decAt_one HD.out h0l hne)
        have hp := u8_is37 _ _ h37
        have k1 := qbyte_any w.heap.size w.heap.size (Lib.byteCells acc) (s[i].toNat : Int) wr HF.out (by rw [Lib.byteCells_length]; omega) hws
        clear hne h37 HD HF
        go_wp2_with fail
        refine k1.mono ?_
        rintro e w5 ⟨⟨v, rfl⟩, hF5, hb5⟩
        have HF5 : Hid (Lib.IsBuilder 89 5 w.heap.size w.heap.size (Lib.byteCells (acc ++ [s[i]])) w5) := Lib.hid (by rw [Lib.byteCells_append]; exact hF5)
        have HB5 := Lib.hid (HB.out.trans hb5)
        have hws5 : w.heap.size ≤ w5.heap.size := Nat.le_trans hws hb5.size
        clear k1 hF5 hb5 HB hws
        go_wp2
        go_roundw
        case rel => exact ⟨i + 1, acc ++ [s[i]], by omega, by go_num, by rw [List.length_append]; simp; omega, HD2, HF5, HB5, hws5⟩
        case measure => simp [intOf]; omega
      · have he : s.data.toList[i] = 37 := by
          rw [beq_iff_eq] at h37
          exact h37
        have hp := u8_is37 _ _ h37
        have hes := esc_at HD.out h0l he
        have g1 : (i : Int) + 1 ≤ (s.size : Int) := by omega
        have g2 : (0 : Int) ≤ (i : Int) + 1 := by omega
        obtain ⟨x, hx⟩ : ∃ x, s.extract (i + 1) s.size = x := ⟨_, rfl⟩
        have hesc := fun v => pescaped_any x v
        rw [← ext_drop, hx] at hes
        clear h37 he
        rcases hes with ⟨h1, h2⟩ | ⟨h1, h2, h3⟩
        · have HE : Hid (o = ([], 32)) := Lib.hid (HO.out.symm.trans (decP_none h2))
          rw [h1] at hesc
          clear h1 h2 HD
          go_wp2_with fail
          (try rw [hx])
          refine (hesc _).mono ?_
          rintro e w5 ⟨rfl, rfl⟩
          clear hesc
          go_wp2
          go_ret2
          rw [HE.out]
          exact ⟨rfl, HB.out⟩
        · have HD2 := Lib.hid h3
          have h2s : i + 2 < s.size := by simpa using h2
          have w2 : IntKind.i64.wrap ((i : Int) + 2) = (i : Int) + 2 := by rw [IntKind.wrap_i64]; omega
          have w3 : IntKind.i64.wrap ((i : Int) + 3) = (i : Int) + 3 := by rw [IntKind.wrap_i64]; omega
          rw [h1] at hesc
          generalize escV x.data.toList = d at *
          have k1 := qbyte_any w.heap.size w.heap.size (Lib.byteCells acc) (d.toNat : Int) wr HF.out (by rw [Lib.byteCells_length]; omega) hws
          clear h1 h2 h3 HD HF
          go_wp2_with fail
          (try rw [hx])
          refine (hesc _).mono ?_
          rintro e w5 ⟨rfl, rfl⟩
          clear hesc
          go_wp2_with fail
          refine k1.mono ?_
          rintro e w6 ⟨⟨v, rfl⟩, hF6, hb6⟩
          have HF6 : Hid (Lib.IsBuilder 89 5 w.heap.size w.heap.size (Lib.byteCells (acc ++ [d])) w6) := Lib.hid (by rw [Lib.byteCells_append]; exact hF6)
          have HB6 := Lib.hid (HB.out.trans hb6)
          have hws6 : w.heap.size ≤ w6.heap.size := Nat.le_trans hws hb6.size
          clear k1 hF6 hb6 HB hws hx
          go_wp2
          go_roundw
          case rel => exact ⟨i + 3, acc ++ [d], by omega, by go_num, by rw [List.length_append]; simp; omega, HD2, HF6, HB6, hws6⟩
          case measure => simp [intOf]; omega
    · have hoe := HO.out.symm.trans (decP_some (decAt_end HD.out (by simp; omega)))
      have ck := fun v => check_any ⟨acc.toArray⟩ v (by show acc.toArray.size ≤ _; simp; omega)
      rw [show (⟨acc.toArray⟩ : ByteArray).data.toList = acc by simp] at ck
      have CK := Lib.hid ck
      have HT := Lib.hid (toldB_of HF.out)
      clear ck HD HF hal hil
      rcases chk_bd acc with hq | hq
      · rw [hq, if_neg (by omega)] at hoe
        have HOE := Lib.hid hoe
        rw [hq] at CK
        clear hq hoe
        go_wp2_with fail
        refine (told_string HT.out hws).mono ?_
        rintro e w5 ⟨rfl, hb5, ht5⟩
        have HB5 := Lib.hid (HB.out.trans hb5)
        have HT5 := Lib.hid ht5
        have hws5 : w.heap.size ≤ w5.heap.size := Nat.le_trans hws hb5.size
        clear hb5 ht5 HB HT
        go_wp2_with fail
        refine (CK.out _).mono ?_
        rintro e w6 ⟨rfl, hb6⟩
        have HB6 := Lib.hid (HB5.out.trans (hb6.mono hws5))
        have HT6 := Lib.hid (HT5.out.below hb6)
        have hws6 : w.heap.size ≤ w6.heap.size := Nat.le_trans hws5 hb6.size
        clear hb6 HB5 HT5 CK
        go_wp2_with fail
        refine (told_string HT6.out hws6).mono ?_
        rintro e w7 ⟨rfl, hb7, ht7⟩
        have HB7 := Lib.hid (HB6.out.trans hb7)
        clear hb7 ht7 HB6 HT6
        go_wp2
        go_ret2
        rw [HOE.out]
        exact ⟨rfl, HB7.out⟩
      · have hq0 : 0 ≤ chk acc := by omega
        rw [if_pos hq0] at hoe
        have HOE := Lib.hid hoe
        generalize chk acc = n at *
        clear hq hoe
        go_wp2_with fail
        refine (told_string HT.out hws).mono ?_
        rintro e w5 ⟨rfl, hb5, ht5⟩
        have HB5 := Lib.hid (HB.out.trans hb5)
        have hws5 : w.heap.size ≤ w5.heap.size := Nat.le_trans hws hb5.size
        clear hb5 ht5 HB HT
        go_wp2_with fail
        refine (CK.out _).mono ?_
        rintro e w6 ⟨rfl, hb6⟩
        have HB6 := Lib.hid (HB5.out.trans (hb6.mono hws5))
        clear hb6 HB5 CK
        go_wp2
        go_ret2
        rw [HOE.out]
        exact ⟨rfl, HB6.out⟩
end Go.Proofs.YtbdamneophbnnaaGreatDoor
namespace Wb
open Go Go.RowKit
theorem own_base {w : World} {base base' sz n : Nat} {e : TypeId} {v : Value} {xs : List Value} (h : w.ownsRow base' e sz v n xs) (hb : base ≤ base') : w.ownsRow base e sz v n xs := by
  refine ⟨h.1, ?_⟩
  rcases h.2 with h2 | ⟨g, cap, cur, h1, h2, h3⟩
  · exact .inl h2
  · exact .inr ⟨g, cap, cur, h1, by omega, h3⟩
end Wb
namespace Go.Proofs.YtbdamneophbnnaaGreatDoor
open Go.RowKit Wb
def GvM (w : World) : Prop := ∃ m, w.cell? ⟨0, 0, none⟩ = some (.int .i64 m)
theorem GvM.next {w w' : World} (h : GvM w) (hb : Below w.heap.size w w') : GvM w' := by
  obtain ⟨m, hm⟩ := h
  refine ⟨m, ?_⟩
  rw [hb.cell (World.block_lt_of_cell? w _ hm)]
  exact hm
theorem text_one (w : World) (g : Nat) (c : UInt8) (h : w.cell? ⟨g, 0, none⟩ = some (.int .u8 (c.toNat : Int))) :
    (convert 74 9 (.slice (some ⟨g, 0, none⟩) 1 1)).run Tryz.prog w = .ok (.string ⟨#[c]⟩) w := by
  have := run_text w g 1 1 [(c.toNat : Int)] rfl (by
    intro j v hv
    match j, hv with
    | 0, hv => simp at hv; subst hv; exact h)
  rw [this]
  have e : b8 (c.toNat : Int) = c := by unfold b8; simp
  simp [e]
set_option maxHeartbeats 1000000 in
set_option maxRecDepth 100000 in
theorem sclone_any (s : ByteArray) (w : World) (hs : s.size ≤ 1000000000) :
    Calls Tryz.prog 37 #[.string s] w fun e w' => e = .returned (.string s) ∧ Below w.heap.size w w' := by
  have k := fun v => Tryz.stringslite_Clone s v (by omega)
  go_enter Tryz.func37, Tryz.ntmps37
  go_wp2_with fail
  refine (k _).mono ?_
  rintro e w2 ⟨rfl, hb⟩
  clear k
  go_wp2
  go_ret
  exact ⟨rfl, hb⟩
theorem ssplit_any (s : ByteArray) (c : UInt8) (w : World) (hs : s.size ≤ 1000000) (hG : GvM w) :
    Calls Tryz.prog 96 #[.string s, .string ⟨#[c]⟩] w (PieOut (pcsB c s) w) := by
  obtain ⟨m, hm⟩ := hG
  refine (Tryz.strings_Split s ⟨#[c]⟩ m w (by omega) hm (by show 1 ≤ 1; omega)).mono ?_
  rintro e w' ⟨rfl, rfl⟩
  have hl := pcs_cnt c s
  rw [split_pieces]
  refine ⟨_, by rw [← hl], ?_, (Below.refl _ _).alloc (Nat.le_refl _) _⟩
  have hle := pcs_len c [] s.data.toList
  have hp : (pcsB c s).length ≤ s.size + 1 := by
    unfold pcsB
    rw [List.length_map]
    unfold pieceF
    simpa using hle
  have := World.ownsRow_lit (base := w.heap.size) (e := 9) (size := 1) w ((pcsB c s).map Value.string).toArray (pcsB c s).length (Nat.le_refl _) (by unfold maxLen; omega) (by simp)
  simpa [cells1] using this
set_option maxRecDepth 100000 in
set_option maxHeartbeats 8000000 in
theorem pieces_any (s : ByteArray) (c : UInt8) (w : World) (hs : s.size ≤ 1000000) (hG : GvM w) :
    Calls Tryz.prog 64 #[.string s, .int .u8 c.toNat] w (PieOut (pcsB c s) w) := by
  have HCL := Lib.hid (fun v => sclone_any s v (by omega))
  have HSP := Lib.hid (fun (v : World) (hb : Below w.heap.size w v) => ssplit_any s c v hs (hG.next hb))
  have HCV := Lib.hid (fun u g h => text_one u g c h)
  have k1 := fun (u : World) => text_one (u.alloc (.cells #[.int .u8 (c.toNat : Int)] 5)) u.heap.size c (by
    have := blk_cell (heap_alloc_new u (.cells #[.int .u8 (c.toNat : Int)] 5)) 0
    exact this)
  have hc0 : ((w.alloc (.cells #[.int .u8 (c.toNat : Int)] 5)).drew).cell? ⟨w.heap.size, 0, none⟩ = some (.int .u8 (c.toNat : Int)) := by
    have := blk_cell (heap_alloc_new w (.cells #[.int .u8 (c.toNat : Int)] 5)) 0
    exact this
  have k2 := text_one _ _ _ hc0
  have HC0 := Lib.hid hc0
  have HBB := Lib.hid (((Below.refl w.heap.size w).alloc (Nat.le_refl _) (.cells #[.int .u8 (c.toNat : Int)] 5)).drew)
  clear hc0 hG
  go_enter Tryz.func64, Tryz.ntmps64
  go_upto_region 1 with fail
  (try simp only [List.append])
  refine wp_region_held_drew (S := (fun _ => True)) (by kernel_rfl) (trivial) (fun hHeld => ?_)
  refine takeW 0 ?_
  refine takeW 2 ?_
  (try simp only [Act.put, List.setIfInBounds_toArray, List.set_cons_zero, List.set_cons_succ])
  refine wpAnyH_ready (rs := [1, 3]) (by kernel_rfl) (by simp) ?_
  refine AllReadyH.cons rfl (fun K2 hK2 => ?_) (AllReadyH.cons rfl (fun K2 hK2 => ?_) AllReadyH.nil)
  · go_simp
    refine (HCL.out _).mono ?_
    rintro e w2 ⟨rfl, hb2⟩
    have HB2 : Hid (Below w.heap.size w w2) := Lib.hid (by first | exact (Below.refl w.heap.size w).drew.trans hb2 | exact HBB.out.trans (hb2.mono HBB.out.size))
    try have kB := HCV.out w2 w.heap.size ((hb2.cell (p := ⟨w.heap.size, 0, none⟩) (by simp)).trans HC0.out)
    refine hK2.out _ _ trivial (fun _ => ?_)
    (try simp only [Act.put, List.setIfInBounds_toArray, List.set_cons_zero, List.set_cons_succ])
    refine wpAnyH_ready (rs := [3]) (by kernel_rfl) (by simp) ?_
    refine AllReadyH.cons rfl (fun K2 hK2 => ?_) AllReadyH.nil
    go_simp
    refine hK2.out _ _ trivial (fun _ => ?_)
    (try simp only [Act.put, List.setIfInBounds_toArray, List.set_cons_zero, List.set_cons_succ])
    refine wpAnyH_ready (rs := [4]) (by kernel_rfl) (by simp) ?_
    refine AllReadyH.cons rfl (fun K2 hK2 => ?_) AllReadyH.nil
    go_simp
    refine hK2.out _ _ trivial (fun _ => ?_)
    (try simp only [Act.put, List.setIfInBounds_toArray, List.set_cons_zero, List.set_cons_succ])
    refine wpAnyH_ready (rs := [5]) (by kernel_rfl) (by simp) ?_
    refine AllReadyH.cons rfl (fun K2 hK2 => ?_) AllReadyH.nil
    go_simp
    refine (HSP.out _ (by first | exact HB2.out | exact HB2.out.alloc HB2.out.size _)).mono ?_
    rintro e w6 ⟨v6, rfl, hown6, hb6⟩
    have HO6 := Lib.hid (own_base hown6 (by first | exact HB2.out.size | exact (HB2.out.alloc HB2.out.size _).size))
    have HB6 : Hid (Below w.heap.size w w6) := Lib.hid (by first | exact HB2.out.trans (hb6.mono HB2.out.size) | exact (HB2.out.alloc HB2.out.size _).trans (hb6.mono (HB2.out.alloc HB2.out.size _).size))
    clear hown6 hb6
    refine hK2.out _ _ trivial (fun _ => ?_)
    refine takeW 6 ?_
    (try simp only [Act.put, List.setIfInBounds_toArray, List.set_cons_zero, List.set_cons_succ])
    refine wpAnyH_done (by kernel_rfl) ?_ _
    go_wp2
    go_ret
    exact ⟨_, rfl, HO6.out, HB6.out⟩
  · go_simp
    refine hK2.out _ _ trivial (fun _ => ?_)
    (try simp only [Act.put, List.setIfInBounds_toArray, List.set_cons_zero, List.set_cons_succ])
    refine wpAnyH_ready (rs := [1, 4]) (by kernel_rfl) (by simp) ?_
    refine AllReadyH.cons rfl (fun K2 hK2 => ?_) (AllReadyH.cons rfl (fun K2 hK2 => ?_) AllReadyH.nil)
    · go_simp
      refine (HCL.out _).mono ?_
      rintro e w2 ⟨rfl, hb2⟩
      have HB2 : Hid (Below w.heap.size w w2) := Lib.hid (by first | exact (Below.refl w.heap.size w).drew.trans hb2 | exact HBB.out.trans (hb2.mono HBB.out.size))
      try have kB := HCV.out w2 w.heap.size ((hb2.cell (p := ⟨w.heap.size, 0, none⟩) (by simp)).trans HC0.out)
      refine hK2.out _ _ trivial (fun _ => ?_)
      (try simp only [Act.put, List.setIfInBounds_toArray, List.set_cons_zero, List.set_cons_succ])
      refine wpAnyH_ready (rs := [4]) (by kernel_rfl) (by simp) ?_
      refine AllReadyH.cons rfl (fun K2 hK2 => ?_) AllReadyH.nil
      go_simp
      refine hK2.out _ _ trivial (fun _ => ?_)
      (try simp only [Act.put, List.setIfInBounds_toArray, List.set_cons_zero, List.set_cons_succ])
      refine wpAnyH_ready (rs := [5]) (by kernel_rfl) (by simp) ?_
      refine AllReadyH.cons rfl (fun K2 hK2 => ?_) AllReadyH.nil
      go_simp
      refine (HSP.out _ (by first | exact HB2.out | exact HB2.out.alloc HB2.out.size _)).mono ?_
      rintro e w6 ⟨v6, rfl, hown6, hb6⟩
      have HO6 := Lib.hid (own_base hown6 (by first | exact HB2.out.size | exact (HB2.out.alloc HB2.out.size _).size))
      have HB6 : Hid (Below w.heap.size w w6) := Lib.hid (by first | exact HB2.out.trans (hb6.mono HB2.out.size) | exact (HB2.out.alloc HB2.out.size _).trans (hb6.mono (HB2.out.alloc HB2.out.size _).size))
      clear hown6 hb6
      refine hK2.out _ _ trivial (fun _ => ?_)
      refine takeW 6 ?_
      (try simp only [Act.put, List.setIfInBounds_toArray, List.set_cons_zero, List.set_cons_succ])
      refine wpAnyH_done (by kernel_rfl) ?_ _
      go_wp2
      go_ret
      exact ⟨_, rfl, HO6.out, HB6.out⟩
    · go_simp
      refine hK2.out _ _ trivial (fun _ => ?_)
      (try simp only [Act.put, List.setIfInBounds_toArray, List.set_cons_zero, List.set_cons_succ])
      refine wpAnyH_ready (rs := [1]) (by kernel_rfl) (by simp) ?_
      refine AllReadyH.cons rfl (fun K2 hK2 => ?_) AllReadyH.nil
      go_simp
      refine (HCL.out _).mono ?_
      rintro e w2 ⟨rfl, hb2⟩
      have HB2 : Hid (Below w.heap.size w w2) := Lib.hid (by first | exact (Below.refl w.heap.size w).drew.trans hb2 | exact HBB.out.trans (hb2.mono HBB.out.size))
      try have kB := HCV.out w2 w.heap.size ((hb2.cell (p := ⟨w.heap.size, 0, none⟩) (by simp)).trans HC0.out)
      refine hK2.out _ _ trivial (fun _ => ?_)
      (try simp only [Act.put, List.setIfInBounds_toArray, List.set_cons_zero, List.set_cons_succ])
      refine wpAnyH_ready (rs := [5]) (by kernel_rfl) (by simp) ?_
      refine AllReadyH.cons rfl (fun K2 hK2 => ?_) AllReadyH.nil
      go_simp
      refine (HSP.out _ (by first | exact HB2.out | exact HB2.out.alloc HB2.out.size _)).mono ?_
      rintro e w6 ⟨v6, rfl, hown6, hb6⟩
      have HO6 := Lib.hid (own_base hown6 (by first | exact HB2.out.size | exact (HB2.out.alloc HB2.out.size _).size))
      have HB6 : Hid (Below w.heap.size w w6) := Lib.hid (by first | exact HB2.out.trans (hb6.mono HB2.out.size) | exact (HB2.out.alloc HB2.out.size _).trans (hb6.mono (HB2.out.alloc HB2.out.size _).size))
      clear hown6 hb6
      refine hK2.out _ _ trivial (fun _ => ?_)
      (try simp only [Act.put, List.setIfInBounds_toArray, List.set_cons_zero, List.set_cons_succ])
      refine takeW 6 ?_
      (try simp only [Act.put, List.setIfInBounds_toArray, List.set_cons_zero, List.set_cons_succ])
      refine wpAnyH_done (by kernel_rfl) ?_ _
      go_wp2
      go_ret
      exact ⟨_, rfl, HO6.out, HB6.out⟩
end Go.Proofs.YtbdamneophbnnaaGreatDoor
