
/- Contract of package pct: Pieces. -/
import Derived.Test.YtclenfdhnccalaaDoorQdF
import Derived.Test.YtclenfdhnccalaaDoorShelf
import Derived.Test.YtclenfdhnccalaaDoorTake
import Derived.Test.YtclenfdhnccalaaDoorTxt
import Derived.Lib.SmallJoins
namespace Wb
open Go Go.RowKit
theorem own_base {w : World} {base base' sz n : Nat} {e : TypeId} {v : Value} {xs : List Value} (h : w.ownsRow base' e sz v n xs) (hb : base ≤ base') : w.ownsRow base e sz v n xs := by
  refine ⟨h.1, ?_⟩
  rcases h.2 with h2 | ⟨g, cap, cur, h1, h2, h3⟩
  · exact .inl h2
  · exact .inr ⟨g, cap, cur, h1, by omega, h3⟩
end Wb
namespace Go.Proofs.YtclenfdhnccalaaDoor
open Go.RowKit Wb
/-- What is asked of the package-level variables. -/
def GvM (w : World) : Prop := ∃ m, w.cell? ⟨0, 0, none⟩ = some (.int .i64 m)
theorem GvM.next {w w' : World} (h : GvM w) (hb : Below w.heap.size w w') : GvM w' := by
  obtain ⟨m, hm⟩ := h
  refine ⟨m, ?_⟩
  rw [hb.cell (World.block_lt_of_cell? w _ hm)]
  exact hm

theorem text_one (w : World) (g : Nat) (c : UInt8) (h : w.cell? ⟨g, 0, none⟩ = some (.int .u8 (c.toNat : Int))) :
    (convert 35 9 (.slice (some ⟨g, 0, none⟩) 1 1)).run Tryd.prog w = .ok (.string ⟨#[c]⟩) w := by
  have := run_text w g 1 1 [(c.toNat : Int)] rfl (by
    intro j v hv
    match j, hv with
    | 0, hv => simp at hv; subst hv; exact h)
  rw [this]
  have e : b8 (c.toNat : Int) = c := by unfold b8; simp
  simp [e]

set_option maxHeartbeats 1000000 in
set_option maxRecDepth 100000 in
theorem sclone_any (s : ByteArray) (w : World) (hs : s.size ≤ 1000000000) :
    Calls Tryd.prog 25 #[.string s] w fun e w' => e = .returned (.string s) ∧ Below w.heap.size w w' := by
  have k := fun v => Tryd.stringslite_Clone s v (by omega)
  go_enter Tryd.func25, Tryd.ntmps25
  go_wp2_with fail
  refine (k _).mono ?_
  rintro e w2 ⟨rfl, hb⟩
  clear k
  go_wp2
  go_ret
  exact ⟨rfl, hb⟩

theorem ssplit_any (s : ByteArray) (c : UInt8) (w : World) (hs : s.size ≤ 1000000) (hG : GvM w) :
    Calls Tryd.prog 24 #[.string s, .string ⟨#[c]⟩] w (PieOut (piecesB c s) w) := by
  obtain ⟨m, hm⟩ := hG
  refine (Tryd.strings_Split s ⟨#[c]⟩ m w (by omega) hm (by show 1 ≤ 1; omega)).mono ?_
  rintro e w' ⟨rfl, rfl⟩
  have hl := split_len c s
  rw [split_pieces]
  refine ⟨_, by rw [← hl], ?_, (Below.refl _ _).alloc (Nat.le_refl _) _⟩
  have hle := piece_len c [] s.data.toList
  have hp : (piecesB c s).length ≤ s.size + 1 := by
    unfold piecesB
    rw [List.length_map]
    unfold pieceF
    simpa using hle
  have := World.ownsRow_lit (base := w.heap.size) (e := 9) (size := 1) w ((piecesB c s).map Value.string).toArray (piecesB c s).length (Nat.le_refl _) (by unfold maxLen; omega) (by simp)
  simpa [cells1] using this

set_option maxRecDepth 100000 in
set_option maxHeartbeats 8000000 in
theorem pieces_any (s : ByteArray) (c : UInt8) (w : World) (hs : s.size ≤ 1000000) (hG : GvM w) :
    Calls Tryd.prog 14 #[.string s, .int .u8 c.toNat] w (PieOut (piecesB c s) w) := by
  have HCL := Lib.hid (fun v => sclone_any s v (by omega))
  have HSP := Lib.hid (fun (v : World) (hb : Below w.heap.size w v) => ssplit_any s c v hs (hG.next hb))
  have HCV := Lib.hid (fun u g h => text_one u g c h)
  have k1 := fun (u : World) => text_one (u.alloc (.cells #[.int .u8 (c.toNat : Int)] 5)) u.heap.size c (by
    have := blk_cell (heap_alloc_new u (.cells #[.int .u8 (c.toNat : Int)] 5)) 0
    exact this)
  have hc0 : ((w.alloc (.cells #[.int .u8 (c.toNat : Int)] 5)).drew).cell? ⟨w.heap.size, 0, none⟩ = some (.int .u8 (c.toNat : Int)) := by
    have := blk_cell (heap_alloc_new w (.cells #[.int .u8 (c.toNat : Int)] 5)) 0
    exact this
  have k2 := text_one _ _ _ hc0
  have HC0 := Lib.hid hc0
  have HBB := Lib.hid (((Below.refl w.heap.size w).alloc (Nat.le_refl _) (.cells #[.int .u8 (c.toNat : Int)] 5)).drew)
  clear hc0 hG
  go_enter Tryd.func14, Tryd.ntmps14
  go_upto_region 1 with fail
  (try simp only [List.append])
  refine wp_region_held_drew (S := (fun _ => True)) (by kernel_rfl) (trivial) (fun hHeld => ?_)
  refine takeW 0 ?_
  refine takeW 2 ?_
  (try simp only [Act.put, List.setIfInBounds_toArray, List.set_cons_zero, List.set_cons_succ])
  refine wpAnyH_ready (rs := [1, 3]) (by kernel_rfl) (by simp) ?_
  refine AllReadyH.cons rfl (fun K2 hK2 => ?_) (AllReadyH.cons rfl (fun K2 hK2 => ?_) AllReadyH.nil)
  · go_simp
    refine (HCL.out _).mono ?_
    rintro e w2 ⟨rfl, hb2⟩
    have HB2 : Hid (Below w.heap.size w w2) := Lib.hid (by first | exact (Below.refl w.heap.size w).drew.trans hb2 | exact HBB.out.trans (hb2.mono HBB.out.size))
    try have kB := HCV.out w2 w.heap.size ((hb2.cell (p := ⟨w.heap.size, 0, none⟩) (by simp)).trans HC0.out)
    refine hK2.out _ _ trivial (fun _ => ?_)
    (try simp only [Act.put, List.setIfInBounds_toArray, List.set_cons_zero, List.set_cons_succ])
    refine wpAnyH_ready (rs := [3]) (by kernel_rfl) (by simp) ?_
    refine AllReadyH.cons rfl (fun K2 hK2 => ?_) AllReadyH.nil
    go_simp
    refine hK2.out _ _ trivial (fun _ => ?_)
    (try simp only [Act.put, List.setIfInBounds_toArray, List.set_cons_zero, List.set_cons_succ])
    refine wpAnyH_ready (rs := [4]) (by kernel_rfl) (by simp) ?_
    refine AllReadyH.cons rfl (fun K2 hK2 => ?_) AllReadyH.nil
    go_simp
    refine hK2.out _ _ trivial (fun _ => ?_)
    (try simp only [Act.put, List.setIfInBounds_toArray, List.set_cons_zero, List.set_cons_succ])
    refine wpAnyH_ready (rs := [5]) (by kernel_rfl) (by simp) ?_
    refine AllReadyH.cons rfl (fun K2 hK2 => ?_) AllReadyH.nil
    go_simp
    refine (HSP.out _ (by first | exact HB2.out | exact HB2.out.alloc HB2.out.size _)).mono ?_
    rintro e w6 ⟨v6, rfl, hown6, hb6⟩
    have HO6 := Lib.hid (own_base hown6 (by first | exact HB2.out.size | exact (HB2.out.alloc HB2.out.size _).size))
    have HB6 : Hid (Below w.heap.size w w6) := Lib.hid (by first | exact HB2.out.trans (hb6.mono HB2.out.size) | exact (HB2.out.alloc HB2.out.size _).trans (hb6.mono (HB2.out.alloc HB2.out.size _).size))
    clear hown6 hb6
    refine hK2.out _ _ trivial (fun _ => ?_)
    refine takeW 6 ?_
    (try simp only [Act.put, List.setIfInBounds_toArray, List.set_cons_zero, List.set_cons_succ])
    refine wpAnyH_done (by kernel_rfl) ?_ _
    go_wp2
    go_ret
    exact ⟨_, rfl, HO6.out, HB6.out⟩
  · go_simp
    refine hK2.out _ _ trivial (fun _ => ?_)
    (try simp only [Act.put, List.setIfInBounds_toArray, List.set_cons_zero, List.set_cons_succ])
    refine wpAnyH_ready (rs := [1, 4]) (by kernel_rfl) (by simp) ?_
    refine AllReadyH.cons rfl (fun K2 hK2 => ?_) (AllReadyH.cons rfl (fun K2 hK2 => ?_) AllReadyH.nil)
    · go_simp
      refine (HCL.out _).mono ?_
      rintro e w2 ⟨rfl, hb2⟩
      have HB2 : Hid (Below w.heap.size w w2) := Lib.hid (by first | exact (Below.refl w.heap.size w).drew.trans hb2 | exact HBB.out.trans (hb2.mono HBB.out.size))
      try have kB := HCV.out w2 w.heap.size ((hb2.cell (p := ⟨w.heap.size, 0, none⟩) (by simp)).trans HC0.out)
      refine hK2.out _ _ trivial (fun _ => ?_)
      (try simp only [Act.put, List.setIfInBounds_toArray, List.set_cons_zero, List.set_cons_succ])
      refine wpAnyH_ready (rs := [4]) (by kernel_rfl) (by simp) ?_
      refine AllReadyH.cons rfl (fun K2 hK2 => ?_) AllReadyH.nil
      go_simp
      refine hK2.out _ _ trivial (fun _ => ?_)
      (try simp only [Act.put, List.setIfInBounds_toArray, List.set_cons_zero, List.set_cons_succ])
      refine wpAnyH_ready (rs := [5]) (by kernel_rfl) (by simp) ?_
      refine AllReadyH.cons rfl (fun K2 hK2 => ?_) AllReadyH.nil
      go_simp
      refine (HSP.out _ (by first | exact HB2.out | exact HB2.out.alloc HB2.out.size _)).mono ?_
      rintro e w6 ⟨v6, rfl, hown6, hb6⟩
      have HO6 := Lib.hid (own_base hown6 (by first | exact HB2.out.size | exact (HB2.out.alloc HB2.out.size _).size))
      have HB6 : Hid (Below w.heap.size w w6) := Lib.hid (by first | exact HB2.out.trans (hb6.mono HB2.out.size) | exact (HB2.out.alloc HB2.out.size _).trans (hb6.mono (HB2.out.alloc HB2.out.size _).size))
      clear hown6 hb6
      refine hK2.out _ _ trivial (fun _ => ?_)
      refine takeW 6 ?_
      (try simp only [Act.put, List.setIfInBounds_toArray, List.set_cons_zero, List.set_cons_succ])
      refine wpAnyH_done (by kernel_rfl) ?_ _
      go_wp2
      go_ret
      exact ⟨_, rfl, HO6.out, HB6.out⟩
    · go_simp
      refine hK2.out _ _ trivial (fun _ => ?_)
      (try simp only [Act.put, List.setIfInBounds_toArray, List.set_cons_zero, List.set_cons_succ])
      refine wpAnyH_ready (rs := [1]) (by kernel_rfl) (by simp) ?_
      refine AllReadyH.cons rfl (fun K2 hK2 => ?_) AllReadyH.nil
      go_simp
      refine (HCL.out _).mono ?_
      rintro e w2 ⟨rfl, hb2⟩
      have HB2 : Hid (Below w.heap.size w w2) := Lib.hid (by first | exact (Below.refl w.heap.size w).drew.trans hb2 | exact HBB.out.trans (hb2.mono HBB.out.size))
      try have kB := HCV.out w2 w.heap.size ((hb2.cell (p := ⟨w.heap.size, 0, none⟩) (by simp)).trans HC0.out)
      refine hK2.out _ _ trivial (fun _ => ?_)
      (try simp only [Act.put, List.setIfInBounds_toArray, List.set_cons_zero, List.set_cons_succ])
      refine wpAnyH_ready (rs := [5]) (by kernel_rfl) (by simp) ?_
      refine AllReadyH.cons rfl (fun K2 hK2 => ?_) AllReadyH.nil
      go_simp
      refine (HSP.out _ (by first | exact HB2.out | exact HB2.out.alloc HB2.out.size _)).mono ?_
      rintro e w6 ⟨v6, rfl, hown6, hb6⟩
      have HO6 := Lib.hid (own_base hown6 (by first | exact HB2.out.size | exact (HB2.out.alloc HB2.out.size _).size))
      have HB6 : Hid (Below w.heap.size w w6) := Lib.hid (by first | exact HB2.out.trans (hb6.mono HB2.out.size) | exact (HB2.out.alloc HB2.out.size _).trans (hb6.mono (HB2.out.alloc HB2.out.size _).size))
      clear hown6 hb6
      refine hK2.out _ _ trivial (fun _ => ?_)
      (try simp only [Act.put, List.setIfInBounds_toArray, List.set_cons_zero, List.set_cons_succ])
      refine takeW 6 ?_
      (try simp only [Act.put, List.setIfInBounds_toArray, List.set_cons_zero, List.set_cons_succ])
      refine wpAnyH_done (by kernel_rfl) ?_ _
      go_wp2
      go_ret
      exact ⟨_, rfl, HO6.out, HB6.out⟩
end Go.Proofs.YtclenfdhnccalaaDoor
