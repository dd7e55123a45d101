import Derived.Test.YtjohfljkhlkjoaaGreatDoorProg
import Derived.Test.YtjohfljkhlkjoaaGreatDoorMgKi
import Derived.Test.YtjohfljkhlkjoaaGreatDoorMgG
import Derived.Test.YtjohfljkhlkjoaaGreatDoorMgU
import Derived.Deep.RegionHeld2
import Derived.BigRegion
import Derived.Test.YtjohfljkhlkjoaaGreatDoorMgR
import Derived.Deep.AppendLies
import Derived.Deep.Draws
import Derived.Deep.Cut
import Derived.Deep.RegionLaw
import Derived.Test.YtjohfljkhlkjoaaGreatDoorUtfG
namespace Go.Proofs.YtjohfljkhlkjoaaGreatDoor
open Go.RowKit Wb
abbrev BW (base B : Nat) (b : Bd) (ov : Value) (xs : List ElX) (rc : List Value) (w : World) : Prop := BdW 37 162 93 base B b ov xs rc w
section
variable {base B : Nat} {b : Bd} {ov : Value} {xs l : List ElX} {x : ElX} {rc : List Value} {w : World}
theorem ended_any (h : BW base B b ov xs rc w) : Calls Tryz.prog 51 #[.pointer (some ⟨B, 0, none⟩)] w fun e w' => e = .returned (.bool (decide (b.root.kind = 1))) ∧ w = w' := by
  have c1 := h.c1
  clear h
  go_enter Tryz.func51, Tryz.ntmps51
  go_wp2
  go_ret
  exact ⟨ret_b (by first | rfl | simp), rfl⟩
theorem inner_none (h : BW base B b ov [] rc w) : Calls Tryz.prog 120 #[.pointer (some ⟨B, 0, none⟩)] w fun e w' => e = .returned (.pointer none) ∧ w = w' := by
  have c0 := h.c0
  obtain ⟨A, c, hv⟩ := own_shape h.own
  rw [hv] at c0
  clear h hv
  go_enter Tryz.func120, Tryz.ntmps120
  go_wp2
  go_ret
  exact ⟨rfl, rfl⟩
theorem inner_some {O cap : Nat} (h : BW base B b (.slice (some ⟨O, 0, none⟩) (l.length + 1) cap) (l ++ [x]) rc w) (hl : l.length ≤ 1000) :
    Calls Tryz.prog 120 #[.pointer (some ⟨B, 0, none⟩)] w fun e w' => e = .returned (.pointer (some ⟨O, l.length * 8, none⟩)) ∧ w' = w.drew := by
  have c0 := h.c0
  have c0d : w.drew.cell? ⟨B, 0, none⟩ = some (.slice (some ⟨O, 0, none⟩) (l.length + 1) cap) := c0
  clear h
  generalize l.length = n at *
  have b1 : (0 : Int) ≤ (n : Int) := by omega
  have b2 : (n : Int) < ((n + 1 : Nat) : Int) := by omega
  go_enter Tryz.func120, Tryz.ntmps120
  go_wp2
  go_region
  all_goals
    go_wp2
    go_ret
    exact ⟨rfl, rfl⟩
end
end Go.Proofs.YtjohfljkhlkjoaaGreatDoor

namespace Go.Proofs.YtjohfljkhlkjoaaGreatDoor
open Go.RowKit Wb
section
variable {base B : Nat} {b : Bd} {ov : Value} {xs l : List ElX} {x : ElX} {rc : List Value} {w : World}
theorem node_info : (Tryz.prog.info? 37).map (fun i => (i.zero, i.size, i.bytes)) = some (some (.agg #[.int .i64 0, .string ⟨#[]⟩, .string ⟨#[]⟩, .slice none 0 0, .slice none 0 0, .string ⟨#[]⟩]), 6, 104) := by kernel_rfl
set_option maxHeartbeats 8000000 in
theorem close_any {O cap : Nat} (h : BW base B b (.slice (some ⟨O, 0, none⟩) (l.length + 1) cap) (l ++ [x]) rc w) (hl : l.length ≤ 1000) (hks : ∀ z ∈ l, z.e.kids.length ≤ 1000000) :
    Calls Tryz.prog 83 #[.pointer (some ⟨B, 0, none⟩)] w fun e w' => e = .returned (.tuple #[]) ∧ Below base w w' ∧ ∃ ov' xs' rc', BW base B (closeX b) ov' xs' rc' w' := by
  have HI := Lib.hid (inner_some h hl)
  obtain ⟨K, ck, hkv⟩ := h.kshape (x := x) (by simp)
  have e2 : w.drew.cell? ⟨O, l.length * 8 + 2, none⟩ = some (.int .i64 1) := h.elc 2 _ rfl
  have e3 : w.drew.cell? ⟨O, l.length * 8 + 3, none⟩ = some (.string x.e.name.1) := h.elc 3 _ rfl
  have e4 : w.drew.cell? ⟨O, l.length * 8 + 4, none⟩ = some (.string x.e.name.2) := h.elc 4 _ rfl
  have e5 : w.drew.cell? ⟨O, l.length * 8 + 5, none⟩ = some (.slice x.aA x.e.attrs.length x.ac) := h.elc 5 _ rfl
  have e6 : w.drew.cell? ⟨O, l.length * 8 + 6, none⟩ = some (.slice K x.e.kids.length ck) := by rw [← hkv]; exact h.elc 6 _ rfl
  have e7 : w.drew.cell? ⟨O, l.length * 8 + 7, none⟩ = some (.string sE) := h.elc 7 _ rfl
  have c0 : w.drew.cell? ⟨B, 0, none⟩ = some (.slice (some ⟨O, 0, none⟩) (l.length + 1) cap) := h.c0
  have f0 : w.drew.frozen? ⟨B, 0, none⟩ = false := h.f 0
  have H := Lib.hid h
  have b3 : (l.length : Int) ≤ (cap : Int) := by have := h.cap.1; omega
  have b1 : (0 : Int) ≤ (l.length : Int) := by omega
  have b2 : (l.length : Int) ≤ ((l.length + 1 : Nat) : Int) := by omega
  clear h
  go_enter Tryz.func83, Tryz.ntmps83
  go_wp2_with fail
  refine HI.out.mono ?_
  rintro e w1 ⟨rfl, rfl⟩
  go_upto_region 1 with fail
  have hA : BW base B b (.slice (some ⟨O, 0, none⟩) (l.length + 1) cap) (l ++ [x]) rc ((w.alloc (.cells (ndCells 1 x.e.name x.aA x.e.attrs.length x.ac K x.e.kids.length ck sE).toArray 37)).drew) := H.out.other (((Below.refl _ w).alloc (Nat.le_refl _) _).drew)
  have hN : ((w.alloc (.cells (ndCells 1 x.e.name x.aA x.e.attrs.length x.ac K x.e.kids.length ck sE).toArray 37)).drew).heap[w.heap.size]? = some (.cells (ndCells 1 x.e.name x.aA x.e.attrs.length x.ac K x.e.kids.length ck sE).toArray 37 (0, 0)) := heap_alloc_new w _
  have hbw : Below w.heap.size w ((w.alloc (.cells (ndCells 1 x.e.name x.aA x.e.attrs.length x.ac K x.e.kids.length ck sE).toArray 37)).drew) := ((Below.refl _ w).alloc (Nat.le_refl _) _).drew
  have hBl : B < w.heap.size := H.out.ltB
  have HA := Lib.hid hA
  have HN := Lib.hid hN
  have HB := Lib.hid hbw
  have HK := Lib.hid hkv
  have HH := Lib.hid (show ∀ k, BdS B (.slice (some ⟨O, 0, none⟩) (l.length + 1) cap) (l ++ [x]) k → base ≤ k ∧ k < w.heap.size from fun k hk => H.out.lt hk)
  clear e2 e3 e4 e5 e6 e7 c0 f0 hA hN hbw H HI hkv
  revert HA HN HB
  unfold ndCells
  generalize (w.alloc (.cells [Value.int .i64 1, .string x.e.name.1, .string x.e.name.2, .slice x.aA x.e.attrs.length x.ac, .slice K x.e.kids.length ck, .string sE].toArray 37)).drew = wa
  intro HA HN HB
  generalize w.heap.size = N at *
  have c0 : wa.drew.cell? ⟨B, 0, none⟩ = some (.slice (some ⟨O, 0, none⟩) (l.length + 1) cap) := HA.out.c0
  have f0 : wa.drew.frozen? ⟨B, 0, none⟩ = false := HA.out.f 0
  go_region
  obtain ⟨p1, p2, K', ck', p3, p4⟩ := HA.out.pop
  have hz : Below wa.heap.size (wa.setCell ⟨B, 0, none⟩ (.slice (some ⟨O, 0, none⟩) l.length cap)) ((wa.setCell ⟨B, 0, none⟩ (.slice (some ⟨O, 0, none⟩) l.length cap)).drew) := (Below.refl _ _).drew
  have hsz : (wa.setCell ⟨B, 0, none⟩ (.slice (some ⟨O, 0, none⟩) l.length cap)).heap.size = wa.heap.size := by simp [World.setCell]
  rw [← hsz] at hz
  have HZ := Lib.hid (p1.other hz)
  have HQ := Lib.hid (p4.keep (Keep.of_below _ hz) (fun k _ h => h))
  obtain ⟨rfl, rfl⟩ : K' = K ∧ ck' = ck := by
    have := HK.out.symm.trans p3
    simp only [Value.slice.injEq] at this
    exact ⟨this.1.symm, this.2.2.symm⟩
  have HZB := Lib.hid ((HA.out.below p2).trans (hz.mono (by have := HA.out.ltB; have := HA.out.hB; omega)))
  have HZN : Hid (((wa.setCell ⟨B, 0, none⟩ (.slice (some ⟨O, 0, none⟩) l.length cap)).drew).heap[N]? = some (.cells #[.int .i64 1, .string x.e.name.1, .string x.e.name.2, .slice x.aA x.e.attrs.length x.ac, .slice K' x.e.kids.length ck', .string sE] 37 (0, 0))) := Lib.hid ((Below.heap_setCell _ _ _ _ (by simp; omega)).trans HN.out)
  have HOP := Lib.hid (show b.opened = l.map ElX.e ++ [x.e] from by rw [HA.out.els]; simp)
  clear p1 p2 p3 p4 hz hsz c0 f0 HN
  revert HZ HQ HZB HZN
  generalize (wa.setCell ⟨B, 0, none⟩ (.slice (some ⟨O, 0, none⟩) l.length cap)).drew = wz
  intro HZ HQ HZB HZN
  rcases last_cases l with rfl | ⟨l', y, rfl⟩
  · have hin := inner_none HZ.out
    obtain ⟨A0, ca0, K0, ck0, hrc, _⟩ := (nodeC_V _ _ _).1 HZ.out.root.here
    have q1 : wz.cell? ⟨B, 1, none⟩ = some (.int .i64 b.root.kind) := by rw [blk_cell HZ.out.blk 1, hrc]; rfl
    have q2 : wz.cell? ⟨B, 2, none⟩ = some (.string b.root.name.1) := by rw [blk_cell HZ.out.blk 2, hrc]; rfl
    have q3 : wz.cell? ⟨B, 3, none⟩ = some (.string b.root.name.2) := by rw [blk_cell HZ.out.blk 3, hrc]; rfl
    have q4 : wz.cell? ⟨B, 4, none⟩ = some (.slice A0 b.root.attrs.length ca0) := by rw [blk_cell HZ.out.blk 4, hrc]; rfl
    have q5 : wz.cell? ⟨B, 5, none⟩ = some (.slice K0 b.root.kids.length ck0) := by rw [blk_cell HZ.out.blk 5, hrc]; rfl
    have q6 : wz.cell? ⟨B, 6, none⟩ = some (.string b.root.text) := by rw [blk_cell HZ.out.blk 6, hrc]; rfl
    have g1 := HZ.out.f 1
    have g2 := HZ.out.f 2
    have g3 := HZ.out.f 3
    have g4 := HZ.out.f 4
    have g5 := HZ.out.f 5
    have g6 := HZ.out.f 6
    have n0 := blk_cell HZN.out 0
    have n1 := blk_cell HZN.out 1
    have n2 := blk_cell HZN.out 2
    have n3 := blk_cell HZN.out 3
    have n4 := blk_cell HZN.out 4
    have n5 := blk_cell HZN.out 5
    simp only [List.getElem?_toArray, List.getElem?_cons_zero, List.getElem?_cons_succ] at n0 n1 n2 n3 n4 n5
    have HRC := Lib.hid hrc
    clear hrc
    go_wp2_with fail
    refine hin.mono ?_
    rintro e w1 ⟨rfl, rfl⟩
    go_wp2
    go_end0
    refine ⟨rfl, ?_, ?_⟩
    · exact (((((((((HB.out.mono (by have := HH.out B (.inl rfl); omega)).trans HZB.out).setCell (by exact HZ.out.hB) _).setCell (by exact HZ.out.hB) _).setCell (by exact HZ.out.hB) _).setCell (by exact HZ.out.hB) _).setCell (by exact HZ.out.hB) _).setCell (by exact HZ.out.hB) _))
    · have hb := HZ.out.blk
      rw [HRC.out] at hb
      have h6 := blk_set (blk_set (blk_set (blk_set (blk_set (blk_set hb 1 (.int .i64 1)) 2 (.string x.e.name.1)) 3 (.string x.e.name.2)) 4 (.slice x.aA x.e.attrs.length x.ac)) 5 (.slice K' x.e.kids.length ck')) 6 (.string sE)
      have hr := HZ.out.rooted ((((((((Keep.refl (fun k => k = B) wz).setCell (p := ⟨B, 1, none⟩) rfl (.int .i64 1)).setCell (p := ⟨B, 2, none⟩) rfl (.string x.e.name.1)).setCell (p := ⟨B, 3, none⟩) rfl (.string x.e.name.2)).setCell (p := ⟨B, 4, none⟩) rfl (.slice x.aA x.e.attrs.length x.ac)).setCell (p := ⟨B, 5, none⟩) rfl (.slice K' x.e.kids.length ck')).setCell (p := ⟨B, 6, none⟩) rfl (.string sE))) HQ.out h6
      rw [closeX_one (e := x.e) (by simpa using HOP.out)]
      exact ⟨_, _, _, hr.1⟩
  · obtain ⟨K2, ck2, hkv2⟩ := HZ.out.kshape (x := y) (by simp)
    rw [List.length_append, List.length_singleton] at HZ
    have HZ : Hid (BW base B _ (.slice (some ⟨O, 0, none⟩) (l'.length + 1) cap) (l' ++ [y]) rc wz) := HZ
    have hin := inner_some HZ.out (by simp at hl; omega)
    have HQ := HQ
    go_wp2_with fail
    refine hin.mono ?_
    rintro e w1 ⟨rfl, rfl⟩
    go_upto_region 4 with fail
    have HY := Lib.hid (HZ.out.other (((Below.refl _ wz).drew : Below wz.heap.size wz wz.drew)))
    have HQY := Lib.hid (HQ.out.keep (Keep.of_below _ (((Below.refl _ wz).drew : Below wz.heap.size wz wz.drew))) (fun _ _ h => h))
    have HBY := Lib.hid (HZB.out.drew)
    have HYN : Hid (wz.drew.heap[N]? = some (.cells #[.int .i64 1, .string x.e.name.1, .string x.e.name.2, .slice x.aA x.e.attrs.length x.ac, .slice K' x.e.kids.length ck', .string sE] 37 (0, 0))) := HZN
    have hyk : y.e.kids.length ≤ 1000000 := hks y (by simp)
    clear HZ HQ HZB HZN hin
    revert HY HQY HBY HYN
    generalize wz.drew = wc
    intro HY HQY HBY HYN
    obtain ⟨css, hcl, hown, hsf⟩ := HY.out.kids y (by simp)
    rw [hkv2] at hown
    obtain ⟨i0, hi, hz0, hz1, hz2⟩ := info_parts node_info
    have e6 : wc.drew.cell? ⟨O, l'.length * 8 + 6, none⟩ = some (.slice K2 y.e.kids.length ck2) := by rw [← hkv2]; exact HY.out.elc 6 _ rfl
    have f6 : wc.drew.frozen? ⟨O, l'.length * 8 + 6, none⟩ = false := HY.out.elf _
    have n0 := blk_cell HYN.out 0
    have n1 := blk_cell HYN.out 1
    have n2 := blk_cell HYN.out 2
    have n3 := blk_cell HYN.out 3
    have n4 := blk_cell HYN.out 4
    have n5 := blk_cell HYN.out 5
    simp only [List.getElem?_toArray, List.getElem?_cons_zero, List.getElem?_cons_succ] at n0 n1 n2 n3 n4 n5
    have hbl : base ≤ wc.heap.size := by have := HY.out.ltB; have := HY.out.hB; omega
    have HOWN := Lib.hid (hown.alloc (.cells #[.int .i64 0, .string ⟨#[]⟩, .string ⟨#[]⟩, .slice none 0 0, .slice none 0 0, .string ⟨#[]⟩] 37))
    have HLIT := Lib.hid (Sl.lit wc 6 [.int .i64 0, .string ⟨#[]⟩, .string ⟨#[]⟩, .slice none 0 0, .slice none 0 0, .string ⟨#[]⟩] 37 1 rfl)
    have HONE := Lib.hid (show ∀ u ∈ [Value.int .i64 0, .string ⟨#[]⟩, .string ⟨#[]⟩, .slice none 0 0, .slice none 0 0, .string ⟨#[]⟩], u.oneCell' = true from fun u hu => by
      simp only [List.mem_cons, List.mem_nil_iff, or_false] at hu
      rcases hu with rfl | rfl | rfl | rfl | rfl | rfl <;> rfl)
    have HCL := Lib.hid hcl
    have HSF := Lib.hid hsf
    have HNE := Lib.hid (show (Value.slice K2 y.e.kids.length ck2).ownBlock ≠ some O ∧ (Value.slice K2 y.e.kids.length ck2).ownBlock ≠ some N from by
      rw [← hkv2]
      refine ⟨fun e => HY.out.d3 y (by simp) O e rfl, fun e => ?_⟩
      have := (HH.out N (.inr (.inr ⟨y, by simp, e⟩))).2
      omega)
    have HOLD := Lib.hid (fun (w4 : World) (hg : ((wc.alloc (.cells #[.int .i64 0, .string ⟨#[]⟩, .string ⟨#[]⟩, .slice none 0 0, .slice none 0 0, .string ⟨#[]⟩] 37)).drew).grownBy w4 (Value.slice K2 y.e.kids.length ck2).ownBlock) =>
      (show (∀ j, w4.cell? ⟨O, j, none⟩ = wc.cell? ⟨O, j, none⟩) ∧ (∀ j, w4.frozen? ⟨O, j, none⟩ = wc.frozen? ⟨O, j, none⟩) ∧ (∀ j, w4.cell? ⟨N, j, none⟩ = wc.cell? ⟨N, j, none⟩) from by
        have hO : O < wc.heap.size := (HY.out.lt (.inr (.inl rfl))).2
        have hNl : N < wc.heap.size := blk_in HYN.out
        have h1 : w4.heap[O]? = wc.heap[O]? := (hg.block O (by show O < (wc.heap.push _).size; simp; omega) (fun e => HNE.out.1 e.symm)).trans (Below.heap_alloc wc _ _ hO)
        have h2 : w4.heap[N]? = wc.heap[N]? := (hg.block N (by show N < (wc.heap.push _).size; simp; omega) (fun e => HNE.out.2 e.symm)).trans (Below.heap_alloc wc _ _ hNl)
        exact ⟨fun j => World.cell?_of_block (w := wc) h1, fun j => World.frozen?_of_block (w := wc) h1, fun j => World.cell?_of_block (w := wc) h2⟩))
    have hxl : css.flatten.length = y.e.kids.length * 6 := hown.1
    have HXL := Lib.hid hxl
    have HE := Lib.hid (And.intro e6 (And.intro f6 (And.intro n0 (And.intro n1 (And.intro n2 (And.intro n3 (And.intro n4 n5)))))))
    have hbk1 : (0 : Int) ≤ (y.e.kids.length : Int) := by omega
    have hbk2 : (y.e.kids.length : Int) < (y.e.kids.length : Int) + 1 := by omega
    clear hcl hsf hown hxl
    have hNl : N < wc.heap.size := blk_in HYN.out
    have hOl : O < wc.heap.size := (HY.out.lt (.inr (.inl rfl))).2
    have aN : ∀ o j, (wc.alloc o).cell? ⟨N, j, none⟩ = wc.cell? ⟨N, j, none⟩ := fun o j => World.cell?_of_block (w := wc) (Below.heap_alloc wc o _ hNl)
    have aO : ∀ o j, (wc.alloc o).cell? ⟨O, j, none⟩ = wc.cell? ⟨O, j, none⟩ := fun o j => World.cell?_of_block (w := wc) (Below.heap_alloc wc o _ hOl)
    have an0 : ∀ o, (wc.alloc o).cell? ⟨N, 0, none⟩ = _ := fun o => (aN o 0).trans n0
    have an1 : ∀ o, (wc.alloc o).cell? ⟨N, 1, none⟩ = _ := fun o => (aN o 1).trans n1
    have an2 : ∀ o, (wc.alloc o).cell? ⟨N, 2, none⟩ = _ := fun o => (aN o 2).trans n2
    have an3 : ∀ o, (wc.alloc o).cell? ⟨N, 3, none⟩ = _ := fun o => (aN o 3).trans n3
    have an4 : ∀ o, (wc.alloc o).cell? ⟨N, 4, none⟩ = _ := fun o => (aN o 4).trans n4
    have an5 : ∀ o, (wc.alloc o).cell? ⟨N, 5, none⟩ = _ := fun o => (aN o 5).trans n5
    have ae6 : ∀ o, (wc.alloc o).cell? ⟨O, l'.length * 8 + 6, none⟩ = _ := fun o => (aO o _).trans e6
    clear aN aO hNl hOl
    have HOl := Lib.hid (show O < wc.heap.size from (HY.out.lt (.inr (.inl rfl))).2)
    go_region_law (
      refine step_append_sl _ rfl (.tmp 31) (.tmp 34) _ rfl base 37 i0 _ 6 104 Tryz.underlying35 hi hz0 hz1 hz2 rfl (by omega) _ y.e.kids.length css.flatten rfl HOWN.out (some ⟨wc.heap.size, 0, none⟩) 1 1 [.int .i64 0, .string ⟨#[]⟩, .string ⟨#[]⟩, .slice none 0 0, .slice none 0 0, .string ⟨#[]⟩] rfl HLIT.out HONE.out (by simp only [maxLen]; omega) (by omega) (by simp; omega) ?_
      intro v4 w4 hown4 hg4 hat4
      obtain ⟨g4, cap4, rfl, hbg4, hgl4⟩ := hown4.form (by omega)
      obtain ⟨o1, o2, o3⟩ := HOLD.out w4 hg4
      have e64 := (o1 (l'.length * 8 + 6)).trans HE.out.1
      have f64 := (o2 (l'.length * 8 + 6)).trans HE.out.2.1
      have m0 := (o3 0).trans HE.out.2.2.1
      have m1 := (o3 1).trans HE.out.2.2.2.1
      have m2 := (o3 2).trans HE.out.2.2.2.2.1
      have m3 := (o3 3).trans HE.out.2.2.2.2.2.1
      have m4 := (o3 4).trans HE.out.2.2.2.2.2.2.1
      have m5 := (o3 5).trans HE.out.2.2.2.2.2.2.2
      have z0 : w4.cell? ⟨g4, y.e.kids.length * 6, none⟩ = some (.int .i64 0) := row_end hown4 HXL.out 0 _ rfl
      have z1 : w4.cell? ⟨g4, y.e.kids.length * 6 + 1, none⟩ = some (.string ⟨#[]⟩) := row_end hown4 HXL.out 1 _ rfl
      have z2 : w4.cell? ⟨g4, y.e.kids.length * 6 + 2, none⟩ = some (.string ⟨#[]⟩) := row_end hown4 HXL.out 2 _ rfl
      have z3 : w4.cell? ⟨g4, y.e.kids.length * 6 + 3, none⟩ = some (.slice none 0 0) := row_end hown4 HXL.out 3 _ rfl
      have z4 : w4.cell? ⟨g4, y.e.kids.length * 6 + 4, none⟩ = some (.slice none 0 0) := row_end hown4 HXL.out 4 _ rfl
      have z5 : w4.cell? ⟨g4, y.e.kids.length * 6 + 5, none⟩ = some (.string ⟨#[]⟩) := row_end hown4 HXL.out 5 _ rfl
      have zf0 := hown4.frozenAt (y.e.kids.length * 6)
      have zf1 := hown4.frozenAt (y.e.kids.length * 6 + 1)
      have zf2 := hown4.frozenAt (y.e.kids.length * 6 + 2)
      have zf3 := hown4.frozenAt (y.e.kids.length * 6 + 3)
      have zf4 := hown4.frozenAt (y.e.kids.length * 6 + 4)
      have zf5 := hown4.frozenAt (y.e.kids.length * 6 + 5)
      have hgO : g4 ≠ O := (by
        intro e
        subst e
        rcases hat4 with h | h
        · exact HNE.out.1 h.symm
        · have h0 : g4 = (wc.heap.push _).size := Option.some.inj h
          have := HOl.out
          simp at h0
          omega)
      have HOW := Lib.hid (And.intro hown4 (And.intro hg4 hat4))
      clear hown4 hg4 hat4 o1 o2 o3)
    all_goals (
      go_wp2
      refine bodyPost_ret (results_none rfl _ _ _) rfl ?_
      refine ⟨rfl, ?_⟩
      have hfin := HY.out.closed HQY.out hkv2 HCL.out HXL.out HSF.out (show Below wc.heap.size wc _ from ((Below.refl _ wc).alloc (Nat.le_refl _) _).drew) HOW.out.1 HOW.out.2.1 HOW.out.2.2
      have hbx := (HB.out.mono (show base ≤ N by have := HH.out B (.inl rfl); omega)).trans HBY.out
      have e26 : l'.length * 8 + 2 + 4 = l'.length * 8 + 6 := by omega
      rw [e26, closeX_more (l := l'.map ElX.e) (f := y.e) (e := x.e) (by rw [HOP.out]; simp)]
      clear HY HQY HOW HB HBY HYN HA HH HSF HOWN HLIT HOLD HE
      first
        | (unfold six at hfin; with_reducible exact ⟨hbx.trans hfin.2, _, _, _, hfin.1⟩)
        | (rw [← six_comm _ _ _ _ _ hgO] at hfin; unfold six at hfin; with_reducible exact ⟨hbx.trans hfin.2, _, _, _, hfin.1⟩))
end
end Go.Proofs.YtjohfljkhlkjoaaGreatDoor

namespace Go.Proofs.YtjohfljkhlkjoaaGreatDoor
open Go.RowKit Wb
def TakeOut (base B : Nat) (r : Except Int Bd) (w : World) (e : Ending) (w' : World) : Prop :=
  Below base w w' ∧ match r with
  | .error c => c ≠ 0 ∧ e = .returned (.int .i64 c) ∧ Below w.heap.size w w'
  | .ok b' => e = .returned (.int .i64 0) ∧ ∃ ov xs rc, BW base B b' ov xs rc w'
theorem TakeOut.bad {base B : Nat} {w w' : World} {r : Except Int Bd} {c : Int} (hr : r = .error c) (hc : c ≠ 0) (hb : Below base w w') (hb2 : Below w.heap.size w w') : TakeOut base B r w (.returned (.int .i64 c)) w' := by
  subst hr; exact ⟨hb, hc, rfl, hb2⟩
theorem TakeOut.good {base B : Nat} {w w' : World} {r : Except Int Bd} {b' : Bd} (hr : r = .ok b') (hb : Below base w w') (h : ∃ ov xs rc, BW base B b' ov xs rc w') : TakeOut base B r w (.returned (.int .i64 0)) w' := by
  subst hr; exact ⟨hb, rfl, h⟩
section
variable {base B : Nat} {b : Bd} {ov : Value} {xs l : List ElX} {x : ElX} {rc : List Value} {w : World}
theorem len_costs : ∀ ks : List Nd, ks.length ≤ costNs ks
  | [] => by simp
  | k :: ks => by
    have := len_costs ks
    have := costN_pos k
    simp only [costNs, List.length_cons]
    omega
theorem opN_mem : ∀ {l : List El} {e : El}, e ∈ l → elN e ≤ opN l
  | x :: l, e, h => by
    have hc : opN (x :: l) = elN x + opN l := by simp [opN]
    rcases List.mem_cons.1 h with rfl | h
    · omega
    · have := opN_mem h
      omega
theorem BW.kids_len (h : BW base B b ov xs rc w) (hb : BdOK b) : (∀ z ∈ xs, z.e.kids.length ≤ 2000) ∧ xs.length ≤ 24 := by
  have hc := hb.count
  have hf := hb.few
  refine ⟨fun z hz => ?_, ?_⟩
  · have h1 := opN_mem (l := b.opened) (e := z.e) (by rw [h.els]; exact List.mem_map_of_mem hz)
    have h2 := len_costs z.e.kids
    unfold elN at h1
    omega
  · have hl : xs.length = b.opened.length := by rw [h.els]; simp
    rcases last_cases b.opened with h0 | ⟨l, e, h0⟩
    · rw [hl, h0]; simp
    · have h1 := hb.opened
      rw [h0, OpOK.app] at h1
      have := h1.2.deep
      rw [hl, h0, List.length_append, List.length_singleton]
      omega
set_option maxHeartbeats 1000000 in
theorem end_any (word : ByteArray) (h : BW base B b ov xs rc w) (hb : BdOK b) :
    Calls Tryz.prog 81 #[.pointer (some ⟨B, 0, none⟩), .string word] w (TakeOut base B (endX' b word) w) := by
  obtain ⟨hkl, hxl⟩ := h.kids_len hb
  rcases last_cases xs with rfl | ⟨l, x, rfl⟩
  · have hin := inner_none h
    have hr : endX' b word = .error 15 := by unfold endX'; rw [h.els]; rfl
    have HR := Lib.hid hr
    have hbb := Below.refl base w
    clear h hr hb hkl hxl
    go_enter Tryz.func81, Tryz.ntmps81
    go_wp2_with fail
    refine hin.mono ?_
    rintro e w1 ⟨rfl, rfl⟩
    go_wp2
    go_ret
    exact TakeOut.bad HR.out (by decide) hbb (Below.refl _ _)
  · obtain ⟨O, cap, rfl⟩ := h.row
    have hll : l.length ≤ 1000 := by simp at hxl; omega
    have hin := inner_some h hll
    have c0 : w.drew.cell? ⟨O, l.length * 8, none⟩ = some (.string x.e.word) := h.elc 0 _ rfl
    have hgl : b.opened.getLast? = some x.e := by rw [h.els]; simp
    have hbz : Below w.heap.size w w.drew := (Below.refl _ w).drew
    have hbb : Below base w w.drew := (Below.refl _ w).drew
    have HD := Lib.hid (h.other hbz)
    have HC := Lib.hid (close_any HD.out hll (fun z hz => Nat.le_trans (hkl z (by simp [hz])) (by omega)))
    cases hq : eqT x.e.word word
    · have hr : endX' b word = .error 15 := by unfold endX'; rw [hgl]; simp [hq]
      have HR := Lib.hid hr
      have hq' : (x.e.word.toList == word.toList) = false := by rw [← hq]; rfl
      clear h hr hb hkl hxl hgl hq
      go_enter Tryz.func81, Tryz.ntmps81
      go_wp2_with fail
      refine hin.mono ?_
      rintro e w1 ⟨rfl, rfl⟩
      go_wp2
      go_ret
      exact TakeOut.bad HR.out (by decide) hbb hbz
    · have hr : endX' b word = .ok (closeX b) := by unfold endX'; rw [hgl]; simp [hq]
      have HR := Lib.hid hr
      have hq' : (x.e.word.toList == word.toList) = true := by rw [← hq]; rfl
      clear h hr hb hkl hxl hgl hq
      go_enter Tryz.func81, Tryz.ntmps81
      go_wp2_with fail
      refine hin.mono ?_
      rintro e w1 ⟨rfl, rfl⟩
      go_wp2_with fail
      refine HC.out.mono ?_
      rintro e w2 ⟨rfl, hb2, h2⟩
      go_wp2
      go_ret
      exact TakeOut.good HR.out (hbb.trans hb2) h2
end
end Go.Proofs.YtjohfljkhlkjoaaGreatDoor

namespace Go.Proofs.YtjohfljkhlkjoaaGreatDoor
open Go.RowKit Wb
section
variable {base B : Nat} {b : Bd} {ov : Value} {xs l : List ElX} {x : ElX} {rc : List Value} {w : World}
set_option maxHeartbeats 1000000 in
theorem text_none (s : ByteArray) (hs : s.size ≤ 1000000) (h : BW base B b ov [] rc w) :
    Calls Tryz.prog 80 #[.pointer (some ⟨B, 0, none⟩), .string s] w (TakeOut base B (textX' b s) w) := by
  have hin := inner_none h
  have hgl : b.opened.getLast? = none := by rw [h.els]; rfl
  have hbb := Below.refl base w
  have HW : Hid (∃ ov xs rc, BW base B b ov xs rc w) := Lib.hid ⟨_, _, _, h⟩
  clear h
  go_enter Tryz.func80, Tryz.ntmps80
  go_wp2_with fail
  refine hin.mono ?_
  rintro e w1 ⟨rfl, rfl⟩
  go_wp2_with fail
  refine (trim_any s _ (by omega)).mono ?_
  rintro e w1 ⟨rfl, rfl⟩
  by_cases ht : trimL s.data.toList = []
  · have hr : textX' b s = .ok b := by unfold textX'; rw [hgl]; simp [ht]
    have HR := Lib.hid hr
    rw [ht]
    clear hr ht hgl hin
    go_wp2
    go_ret
    exact TakeOut.good HR.out hbb HW.out
  · have hr : textX' b s = .error 18 := by unfold textX'; rw [hgl]; simp [ht]
    have HR := Lib.hid hr
    have hne : (ByteArray.mk (trimL s.data.toList).toArray).toList.isEmpty = false := by
      rw [ByteArray.toList_eq]
      simpa using ht
    have hne2 : ¬ (ByteArray.mk (trimL s.data.toList).toArray).toList = [] := by
      rw [ByteArray.toList_eq]
      simpa using ht
    generalize (ByteArray.mk (trimL s.data.toList).toArray) = z at *
    clear hr ht hgl hin
    go_wp2
    go_ret
    exact TakeOut.bad HR.out (by decide) hbb (Below.refl _ _)
theorem new_text {base B O cap : Nat} {b : Bd} {l : List ElX} {x : ElX} {rc : List Value} {s : ByteArray} {wd w4 : World} {K : Option Addr} {ck : Nat} {v4 : Value} {css : List (List Value)}
    (h : BW base B b (.slice (some ⟨O, 0, none⟩) (l.length + 1) cap) (l ++ [x]) rc wd) (hkv : x.kv = .slice K x.e.kids.length ck) (hcl : css.length = x.e.kids.length)
    (hsf : ∀ (i : Nat) (k : Nd) (cs : List Value), x.e.kids[i]? = some k → css[i]? = some cs → SafeP (BdU base B (.slice (some ⟨O, 0, none⟩) (l.length + 1) cap) (l ++ [x])) wd (fun v => nodeC v k cs))
    (n : Nat) (o : Obj) (h4 : w4.ownsRow base 37 6 v4 (x.e.kids.length + 1) (css.flatten ++ [.int .i64 2, .string sE, .string sE, .slice none 0 0, .slice none 0 0, .string s]))
    (hg : ((wd.setCell ⟨B, 7, none⟩ (.int .i64 (n : Int))).alloc o).grownBy w4 (Value.slice K x.e.kids.length ck).ownBlock) (hat : v4.ownBlock = (Value.slice K x.e.kids.length ck).ownBlock ∨ v4.ownBlock = some ((wd.setCell ⟨B, 7, none⟩ (.int .i64 (n : Int))).alloc o).heap.size) :
    Below base wd (w4.setCell ⟨O, l.length * 8 + 6, none⟩ v4) ∧ ∃ ov' xs' rc', BW base B { b with nodes := n, opened := l.map ElX.e ++ [x.e.more (.mk 2 (sE, sE) [] [] s)] } ov' xs' rc' (w4.setCell ⟨O, l.length * 8 + 6, none⟩ v4) := by
  have hc := h.count n
  have hkc : Keep (BdS B (.slice (some ⟨O, 0, none⟩) (l.length + 1) cap) (l ++ [x])) wd (wd.setCell ⟨B, 7, none⟩ (.int .i64 (n : Int))) := (Keep.refl _ wd).setCell (.inl rfl) _
  have hbo : Below (wd.setCell ⟨B, 7, none⟩ (.int .i64 (n : Int))).heap.size (wd.setCell ⟨B, 7, none⟩ (.int .i64 (n : Int))) ((wd.setCell ⟨B, 7, none⟩ (.int .i64 (n : Int))).alloc o) := (Below.refl _ _).alloc (Nat.le_refl _) _
  have ha := hc.other hbo
  rw [← hkv] at hg hat
  have hk := ha.kid hcl (fun i k cs h1 h2 => (((hsf i k cs h1 h2).keep (ku hkc) (fun _ _ h => h)).keep (Keep.of_below _ hbo) (fun _ _ h => h))) (text_node _ _ s) h4 hg hat
  have hbb : base ≤ (wd.setCell ⟨B, 7, none⟩ (.int .i64 (n : Int))).heap.size := Nat.le_of_lt (Nat.lt_of_le_of_lt hc.hB hc.ltB)
  exact ⟨((h.below hkc).trans (hbo.mono hbb)).trans (ha.below hk.2), _, _, _, hk.1⟩
set_option maxRecDepth 100000 in
set_option maxHeartbeats 4000000 in
theorem text_some {O cap : Nat} (s : ByteArray) (hs : s.size ≤ 1000000) (h : BW base B b (.slice (some ⟨O, 0, none⟩) (l.length + 1) cap) (l ++ [x]) rc w) (hb : BdOK b) (htx : ∀ k ∈ x.e.kids, k.text.size ≤ 100000000000) :
    Calls Tryz.prog 80 #[.pointer (some ⟨B, 0, none⟩), .string s] w (TakeOut base B (textX' b s) w) := by
  obtain ⟨hkl, hxl⟩ := h.kids_len hb
  have hll : l.length ≤ 1000 := by simp at hxl; omega
  have hin := inner_some h hll
  have hgl : b.opened.getLast? = some x.e := by rw [h.els]; simp
  have hdl : b.opened.dropLast = l.map ElX.e := by rw [h.els]; simp
  have hbz : Below w.heap.size w w.drew := (Below.refl _ w).drew
  have HB := Lib.hid ((Below.refl base w).drew)
  have HBZ := Lib.hid hbz
  have HD := Lib.hid (h.other hbz)
  have hnl : b.nodes ≤ 2000 := hb.few
  have hkx := hkl x (by simp)
  clear h hb hkl hxl hbz
  revert HB HD hin HBZ
  generalize hwd : w.drew = wd
  intro hin HB HBZ HD
  by_cases hs0 : eqT s sE = true
  · have hr : textX' b s = .ok b := by unfold textX'; rw [hgl]; simp [hs0]
    have HR := Lib.hid hr
    have he : s.toList.isEmpty = true := by
      obtain rfl := (eqT_iff s sE).1 hs0
      rw [ByteArray.toList_eq]; rfl
    have HW : Hid (∃ ov xs rc, BW base B b ov xs rc wd) := Lib.hid ⟨_, _, _, HD.out⟩
    clear hr hgl hdl hs0
    go_enter Tryz.func80, Tryz.ntmps80
    go_wp2_with fail
    refine hin.mono ?_
    rintro e w1 ⟨rfl, rfl⟩
    go_wp2
    go_ret
    exact TakeOut.good HR.out HB.out HW.out
  · have hsf : eqT s sE = false := by simpa using hs0
    have hne : ¬ s.toList = [] := fun e => hs0 ((eqT_iff s sE).2 (by
      rw [ByteArray.toList_eq] at e
      exact ByteArray.ext (Array.ext' (by simpa [sE] using e))))
    have he : s.toList.isEmpty = false := by simpa using hne
    have e6 : wd.cell? ⟨O, l.length * 8 + 6, none⟩ = some x.kv := HD.out.elc 6 _ rfl
    have f6 := HD.out.elf (l.length * 8 + 6)
    have c7 := HD.out.c7
    have f7 := HD.out.f 7
    rcases last_cases x.e.kids with hks | ⟨ks, k, hks⟩
    · obtain ⟨K, ck, hkv⟩ := HD.out.kshape (x := x) (by simp)
      rw [hkv] at e6
      have HTK : textKids ([] : List Nd) s = ([.mk 2 (sE, sE) [] [] s], true) := rfl
      have HKX := hks
      have hk0 : x.e.kids.length = 0 := by rw [hks]; rfl
      by_cases hn : b.nodes = 2000
      · have hr : textX' b s = .error 3 := by
          unfold textX'; rw [hgl, hdl]; simp only [HKX, hsf, HTK]; simp [hn]
        have HR := Lib.hid hr
        rw [hn] at c7
        clear hr hgl hdl hs0 hsf HD hwd hn
        go_enter Tryz.func80, Tryz.ntmps80
        go_wp2_with fail
        refine hin.mono ?_
        rintro e w1 ⟨rfl, rfl⟩
        go_wp2
        go_ret
        exact TakeOut.bad HR.out (by decide) HB.out HBZ.out
      · have hr : textX' b s = .ok { b with nodes := b.nodes + 1, opened := l.map ElX.e ++ [x.e.more (.mk 2 (sE, sE) [] [] s)] } := by
          unfold textX'; rw [hgl, hdl]; simp only [HKX, hsf, HTK]; rw [if_neg (by decide), if_neg (by decide), if_neg hn]; unfold El.more; rw [HKX]; try rfl
        have HR := Lib.hid hr
        have hni : ((b.nodes : Int) == 2000) = false := by simpa using (show ¬ (b.nodes : Int) = 2000 by omega)
        obtain ⟨css, hcl, hown, hsfe⟩ := HD.out.kids x (by simp)
        rw [hkv] at hown
        have hc1 := HD.out.count (b.nodes + 1)
        have HOWN := Lib.hid ((own_blk (w' := wd.setCell ⟨B, 7, none⟩ (.int .i64 ((b.nodes + 1 : Nat) : Int))) hown (fun k hk => Below.heap_setCell _ _ _ _ (fun e => HD.out.d2 x (by simp) (by rw [hkv, hk, e])))).alloc (.cells #[.int .i64 2, .string sE, .string sE, .slice none 0 0, .slice none 0 0, .string s] 37))
        have HLIT0 := Lib.hid (Sl.lit (wd.setCell ⟨B, 7, none⟩ (.int .i64 ((b.nodes + 1 : Nat) : Int))) 6 [.int .i64 2, .string sE, .string sE, .slice none 0 0, .slice none 0 0, .string s] 37 1 rfl)
        have HLIT := HLIT0
        rw [show (wd.setCell ⟨B, 7, none⟩ (.int .i64 ((b.nodes + 1 : Nat) : Int))).heap.size = wd.heap.size from by simp [World.setCell]] at HLIT
        have HONE := Lib.hid (show ∀ u ∈ [Value.int .i64 2, .string sE, .string sE, .slice none 0 0, .slice none 0 0, .string s], u.oneCell' = true from fun u hu => by
          simp only [List.mem_cons, List.mem_nil_iff, or_false] at hu
          rcases hu with rfl | rfl | rfl | rfl | rfl | rfl <;> rfl)
        have HF := Lib.hid (fun (w4 : World) (v4 : Value) => new_text (s := s) (w4 := w4) (v4 := v4) HD.out hkv hcl hsfe (b.nodes + 1) (.cells #[.int .i64 2, .string sE, .string sE, .slice none 0 0, .slice none 0 0, .string s] 37))
        have HO := Lib.hid (fun (w4 : World) (hg : ((wd.setCell ⟨B, 7, none⟩ (.int .i64 ((b.nodes + 1 : Nat) : Int))).alloc (.cells #[.int .i64 2, .string sE, .string sE, .slice none 0 0, .slice none 0 0, .string s] 37)).grownBy w4 (Value.slice K x.e.kids.length ck).ownBlock) => (hc1.other ((Below.refl _ _).alloc (Nat.le_refl _) (.cells #[.int .i64 2, .string sE, .string sE, .slice none 0 0, .slice none 0 0, .string s] 37))).grownO (by rw [hkv]; exact hg) (l.length * 8 + 6))
        have HE := Lib.hid (show ((wd.setCell ⟨B, 7, none⟩ (.int .i64 ((b.nodes + 1 : Nat) : Int))).alloc (.cells #[.int .i64 2, .string sE, .string sE, .slice none 0 0, .slice none 0 0, .string s] 37)).cell? ⟨O, l.length * 8 + 6, none⟩ = some (.slice K x.e.kids.length ck) ∧ ((wd.setCell ⟨B, 7, none⟩ (.int .i64 ((b.nodes + 1 : Nat) : Int))).alloc (.cells #[.int .i64 2, .string sE, .string sE, .slice none 0 0, .slice none 0 0, .string s] 37)).frozen? ⟨O, l.length * 8 + 6, none⟩ = false from by
          have h := hc1.other ((Below.refl _ _).alloc (Nat.le_refl _) (.cells #[.int .i64 2, .string sE, .string sE, .slice none 0 0, .slice none 0 0, .string s] 37))
          exact ⟨by rw [← hkv]; exact h.elc 6 _ rfl, h.elf _⟩)
        have hsz : base ≤ wd.heap.size := Nat.le_of_lt (Nat.lt_of_le_of_lt HD.out.hB HD.out.ltB)
        rw [hk0] at HOWN HF HO HE hkx
        clear hk0 hkv
        obtain ⟨i0, hi, hz0, hz1, hz2⟩ := info_parts node_info
        have hbn : (0 : Int) ≤ (b.nodes : Int) := by omega
        have hbn2 : (b.nodes : Int) ≤ 2000 := by omega
        clear hr hgl hdl hs0 hsf HD hwd hn hcl hown hsfe hc1
        go_enter Tryz.func80, Tryz.ntmps80
        go_wp2_with fail
        refine hin.mono ?_
        rintro e w1 ⟨rfl, rfl⟩
        go_wp2_with (at_builtin; refine wpList_append_sl _ rfl (.tmp 65) (.tmp 68) _ rfl base 37 i0 _ 6 104 Tryz.underlying35 hi hz0 hz1 hz2 rfl (by omega) _ 0 css.flatten rfl HOWN.out (some ⟨w1.heap.size, 0, none⟩) 1 1 [.int .i64 2, .string sE, .string sE, .slice none 0 0, .slice none 0 0, .string s] rfl HLIT.out HONE.out (by simp only [maxLen]; omega) (by omega) (by simp; omega) ?_; intro v4 w4 hown4 hg4 hat4; obtain ⟨g4, cap4, rfl, hbg4, hgl4⟩ := hown4.form (by omega); have e64 := (HO.out w4 hg4).1.trans HE.out.1; have f64 := (HO.out w4 hg4).2.trans HE.out.2; have HFF := Lib.hid (HF.out w4 _ hown4 hg4 hat4); clear hown4 hg4 hat4)
        go_ret
        exact TakeOut.good HR.out (HB.out.trans HFF.out.1) HFF.out.2
    · obtain ⟨g, ck, hkv, k0, k5, kf⟩ := HD.out.kidc hks
      have hksl : (ks.length : Int) ≤ 2000 := by rw [hks] at hkx; simp at hkx; omega
      by_cases hkk : k.kind = 2
      · have hr : textX' b s = .ok { b with opened := l.map ElX.e ++ [{ x.e with kids := ks ++ [.mk k.kind k.name k.attrs k.kids (k.text ++ s)] }] } := by
          unfold textX'; rw [hgl, hdl]; simp only [hks, hsf, textKids_two s hkk]; rfl
        have HR := Lib.hid hr
        have HT := Lib.hid (HD.out.txt hks hkv (t := k.text ++ s))
        have HTB := Lib.hid (HB.out.trans (HD.out.below HT.out.2))
        rw [hkv] at e6
        rw [hkk] at k0
        have kf5 := kf (ks.length * 6 + 5)
        have hct : ¬ 9223372036854775807 < k.text.size + s.size := by have := htx k (by rw [hks]; simp); omega
        have b1 : (0 : Int) ≤ (ks.length : Int) := by omega
        have b2 : (ks.length : Int) < (ks.length : Int) + 1 := by omega
        clear hr hgl hdl hs0 hsf HD HB hks hkv hwd kf
        go_enter Tryz.func80, Tryz.ntmps80
        go_wp2_with fail
        refine hin.mono ?_
        rintro e w1 ⟨rfl, rfl⟩
        go_wp2
        go_ret
        exact TakeOut.good HR.out HTB.out ⟨_, _, _, HT.out.1⟩
      · have hkl1 : x.e.kids.length = ks.length + 1 := by rw [hks]; simp
        rw [← hkl1] at hkv
        rw [hkv] at e6
        have HTK := textKids_else s hkk (l := ks)
        have HKX := hks
        have hkf : (k.kind == 2) = false := by simpa using hkk
        have b1 : (0 : Int) ≤ (ks.length : Int) := by omega
        have b2 : (ks.length : Int) < (ks.length : Int) + 1 := by omega
        by_cases hn : b.nodes = 2000
        · have hr : textX' b s = .error 3 := by
            unfold textX'; rw [hgl, hdl]; simp only [HKX, hsf, HTK]; simp [hn]
          have HR := Lib.hid hr
          rw [hn] at c7
          clear hr hgl hdl hs0 hsf HD hwd hn
          go_enter Tryz.func80, Tryz.ntmps80
          go_wp2_with fail
          refine hin.mono ?_
          rintro e w1 ⟨rfl, rfl⟩
          go_wp2
          go_ret
          exact TakeOut.bad HR.out (by decide) HB.out HBZ.out
        · have hr : textX' b s = .ok { b with nodes := b.nodes + 1, opened := l.map ElX.e ++ [x.e.more (.mk 2 (sE, sE) [] [] s)] } := by
            unfold textX'; rw [hgl, hdl]; simp only [HKX, hsf, HTK]; rw [if_neg (by decide), if_neg (by decide), if_neg hn]; unfold El.more; rw [HKX]; try rfl
          have HR := Lib.hid hr
          have hni : ((b.nodes : Int) == 2000) = false := by simpa using (show ¬ (b.nodes : Int) = 2000 by omega)
          obtain ⟨css, hcl, hown, hsfe⟩ := HD.out.kids x (by simp)
          rw [hkv] at hown
          have hc1 := HD.out.count (b.nodes + 1)
          have HOWN := Lib.hid ((own_blk (w' := wd.setCell ⟨B, 7, none⟩ (.int .i64 ((b.nodes + 1 : Nat) : Int))) hown (fun k hk => Below.heap_setCell _ _ _ _ (fun e => HD.out.d2 x (by simp) (by rw [hkv, hk, e])))).alloc (.cells #[.int .i64 2, .string sE, .string sE, .slice none 0 0, .slice none 0 0, .string s] 37))
          have HLIT0 := Lib.hid (Sl.lit (wd.setCell ⟨B, 7, none⟩ (.int .i64 ((b.nodes + 1 : Nat) : Int))) 6 [.int .i64 2, .string sE, .string sE, .slice none 0 0, .slice none 0 0, .string s] 37 1 rfl)
          have HLIT := HLIT0
          rw [show (wd.setCell ⟨B, 7, none⟩ (.int .i64 ((b.nodes + 1 : Nat) : Int))).heap.size = wd.heap.size from by simp [World.setCell]] at HLIT
          have HONE := Lib.hid (show ∀ u ∈ [Value.int .i64 2, .string sE, .string sE, .slice none 0 0, .slice none 0 0, .string s], u.oneCell' = true from fun u hu => by
            simp only [List.mem_cons, List.mem_nil_iff, or_false] at hu
            rcases hu with rfl | rfl | rfl | rfl | rfl | rfl <;> rfl)
          have HF := Lib.hid (fun (w4 : World) (v4 : Value) => new_text (s := s) (w4 := w4) (v4 := v4) HD.out hkv hcl hsfe (b.nodes + 1) (.cells #[.int .i64 2, .string sE, .string sE, .slice none 0 0, .slice none 0 0, .string s] 37))
          have HO := Lib.hid (fun (w4 : World) (hg : ((wd.setCell ⟨B, 7, none⟩ (.int .i64 ((b.nodes + 1 : Nat) : Int))).alloc (.cells #[.int .i64 2, .string sE, .string sE, .slice none 0 0, .slice none 0 0, .string s] 37)).grownBy w4 (Value.slice (some ⟨g, 0, none⟩) x.e.kids.length ck).ownBlock) => (hc1.other ((Below.refl _ _).alloc (Nat.le_refl _) (.cells #[.int .i64 2, .string sE, .string sE, .slice none 0 0, .slice none 0 0, .string s] 37))).grownO (by rw [hkv]; exact hg) (l.length * 8 + 6))
          have HE := Lib.hid (show ((wd.setCell ⟨B, 7, none⟩ (.int .i64 ((b.nodes + 1 : Nat) : Int))).alloc (.cells #[.int .i64 2, .string sE, .string sE, .slice none 0 0, .slice none 0 0, .string s] 37)).cell? ⟨O, l.length * 8 + 6, none⟩ = some (.slice (some ⟨g, 0, none⟩) x.e.kids.length ck) ∧ ((wd.setCell ⟨B, 7, none⟩ (.int .i64 ((b.nodes + 1 : Nat) : Int))).alloc (.cells #[.int .i64 2, .string sE, .string sE, .slice none 0 0, .slice none 0 0, .string s] 37)).frozen? ⟨O, l.length * 8 + 6, none⟩ = false from by
            have h := hc1.other ((Below.refl _ _).alloc (Nat.le_refl _) (.cells #[.int .i64 2, .string sE, .string sE, .slice none 0 0, .slice none 0 0, .string s] 37))
            exact ⟨by rw [← hkv]; exact h.elc 6 _ rfl, h.elf _⟩)
          have hsz : base ≤ wd.heap.size := Nat.le_of_lt (Nat.lt_of_le_of_lt HD.out.hB HD.out.ltB)
          rw [hkl1] at HOWN HF HO HE hkx
          clear hkl1 hkv
          obtain ⟨i0, hi, hz0, hz1, hz2⟩ := info_parts node_info
          have hbn : (0 : Int) ≤ (b.nodes : Int) := by omega
          have hbn2 : (b.nodes : Int) ≤ 2000 := by omega
          clear hr hgl hdl hs0 hsf HD hwd hn hcl hown hsfe hc1
          go_enter Tryz.func80, Tryz.ntmps80
          go_wp2_with fail
          refine hin.mono ?_
          rintro e w1 ⟨rfl, rfl⟩
          go_wp2_with (at_builtin; refine wpList_append_sl _ rfl (.tmp 65) (.tmp 68) _ rfl base 37 i0 _ 6 104 Tryz.underlying35 hi hz0 hz1 hz2 rfl (by omega) _ (ks.length + 1) css.flatten rfl HOWN.out (some ⟨w1.heap.size, 0, none⟩) 1 1 [.int .i64 2, .string sE, .string sE, .slice none 0 0, .slice none 0 0, .string s] rfl HLIT.out HONE.out (by simp only [maxLen]; omega) (by omega) (by simp; omega) ?_; intro v4 w4 hown4 hg4 hat4; obtain ⟨g4, cap4, rfl, hbg4, hgl4⟩ := hown4.form (by omega); have e64 := (HO.out w4 hg4).1.trans HE.out.1; have f64 := (HO.out w4 hg4).2.trans HE.out.2; have HFF := Lib.hid (HF.out w4 _ hown4 hg4 hat4); clear hown4 hg4 hat4)
          go_ret
          exact TakeOut.good HR.out (HB.out.trans HFF.out.1) HFF.out.2
end
end Go.Proofs.YtjohfljkhlkjoaaGreatDoor

