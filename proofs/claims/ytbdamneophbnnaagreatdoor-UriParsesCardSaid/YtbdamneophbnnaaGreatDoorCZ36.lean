/- UcG UfB. -/
import Derived.Test.YtbdamneophbnnaaGreatDoorCZ28
import Derived.Test.YtbdamneophbnnaaGreatDoorCZ31
import Derived.Test.YtbdamneophbnnaaGreatDoorCZ33
import Derived.Test.YtbdamneophbnnaaGreatDoorCZ34
import Derived.Test.YtbdamneophbnnaaGreatDoorCZ35
namespace Go.Proofs.YtbdamneophbnnaaGreatDoor
open Go.RowKit Wb
set_option maxHeartbeats 4000000 in
set_option maxRecDepth 100000 in
theorem ruparse_any (s : ByteArray) (w : World) (hs : s.size ≤ 1000000) :
    Calls Tryz.prog 8 #[.string s] w (UriOut (uri11 s.data.toList) w) := by
  by_cases h512 : 512 < s.size
  · have hsl : s.data.toList.length = s.size := by simp
    have h3 : uri11 s.data.toList = .error 3 := by
      unfold uri11
      rw [if_pos (by omega)]
    rw [h3]
    have hk0 := OwnB.new0 w #[.string ⟨#[]⟩, .string ⟨#[]⟩, .string ⟨#[]⟩, .bool false, .slice none 0 0, .string ⟨#[]⟩, .slice none 0 0] 26
    have hb0 := (Below.refl w.heap.size w).alloc (Nat.le_refl _) (.cells #[.string ⟨#[]⟩, .string ⟨#[]⟩, .string ⟨#[]⟩, .bool false, .slice none 0 0, .string ⟨#[]⟩, .slice none 0 0] 26)
    have i1 : (512 : Int) < s.size := by omega
    clear h3 hsl
    go_enter Tryz.func8, Tryz.ntmps8
    go_upto_region 1 with fail
    generalize w.alloc (.cells #[.string ⟨#[]⟩, .string ⟨#[]⟩, .string ⟨#[]⟩, .bool false, .slice none 0 0, .string ⟨#[]⟩, .slice none 0 0] 26) = w0 at *
    have z0 := hk0.cell 0
    have zf0 := hk0.free 0
    have z1 := hk0.cell 1
    have zf1 := hk0.free 1
    have z2 := hk0.cell 2
    have zf2 := hk0.free 2
    have z3 := hk0.cell 3
    have zf3 := hk0.free 3
    have z4 := hk0.cell 4
    have zf4 := hk0.free 4
    have z5 := hk0.cell 5
    have zf5 := hk0.free 5
    have z6 := hk0.cell 6
    have zf6 := hk0.free 6
    simp only [List.getElem?_toArray, List.getElem?_cons_zero, List.getElem?_cons_succ] at z0 z1 z2 z3 z4 z5 z6
    go_wp2
    refine bodyPost_ret (results_cell2 rfl _ _ w.heap.size _ _ _ rfl (hk0.all7 _ _ _ _ _ _ _).blk Tryz.underlying26 rfl wh_info) rfl ?_
    exact UriOut.bad rfl ((((((((hb0.setCell (Nat.le_refl _) _).setCell (Nat.le_refl _) _).setCell (Nat.le_refl _) _).setCell (Nat.le_refl _) _).setCell (Nat.le_refl _) _).setCell (Nat.le_refl _) _).setCell (Nat.le_refl _) _))
  · obtain ⟨h0, q0, as0, hc1⟩ : ∃ a b c, Lib.cut s.data.toList [63] = (a, b, c) := ⟨_, _, _, rfl⟩
    obtain ⟨dc0, se0, nd0, hc2⟩ : ∃ a b c, Lib.cut h0 ssl11 = (a, b, c) := ⟨_, _, _, rfl⟩
    cases hbd : bdB (pieceF 47 dc0) as0 nd0 with
    | true => exact ruparse_bad s w h512 h0 q0 dc0 se0 as0 nd0 hc1 hc2 hbd
    | false =>
      cases hgl : glB (pieceF 47 dc0) with
      | true => exact ruparse_glob (Lib.hid rparse_any) s w h512 h0 q0 dc0 se0 as0 nd0 hc1 hc2 hbd hgl
      | false => exact ruparse_user (Lib.hid rparse_any) s w h512 h0 q0 dc0 se0 as0 nd0 hc1 hc2 hbd hgl
end Go.Proofs.YtbdamneophbnnaaGreatDoor
namespace Go.Proofs.YtbdamneophbnnaaGreatDoor
open Go.RowKit Wb
set_option maxRecDepth 100000 in
set_option maxHeartbeats 8000000 in
theorem uriparses_walk (s usage : ByteArray) (w : World) (hG : GvS w) :
    Calls Tryz.prog 3 #[.string s, .string usage] w fun e w' => e = .returned (.bool true) ∧ Below w.heap.size w w' := by
  have ha := awake11 w hG
  by_cases h0 : 5000 < s.size
  · have i0 : (5000 : Int) < s.size := by omega
    clear hG
    go_enter Tryz.func3, Tryz.ntmps3
    go_wp2_with fail
    refine ha.mono ?_
    rintro e w1 ⟨rfl, hb1⟩
    clear ha
    go_wp2
    go_ret
    exact ⟨rfl, hb1⟩
  · have i0 : ¬ (5000 : Int) < s.size := by omega
    have h1 := Lib.hid (fun v (hb : Below w.heap.size w v) => upc_of hG s v hb (by omega))
    have h2 := Lib.hid (fun v => ruparse_any s v (by omega))
    have h3 := Lib.hid (fun v => space_any usage v)
    have h4 := Lib.hid (fun v => rspace2_any usage v)
    have hbs := Lib.hid (fun v (h : uri11 s.data.toList = .ok v) => uri_size h)
    generalize uri11 s.data.toList = o at *
    obtain ⟨sp, hsp⟩ : ∃ sp : ByteArray, ⟨(spc11 usage.data.toList).toArray⟩ = sp := ⟨_, rfl⟩
    rw [hsp] at h3 h4
    clear hG hsp
    go_enter Tryz.func3, Tryz.ntmps3
    go_wp2_with fail
    refine ha.mono ?_
    rintro e w1 ⟨rfl, hb1⟩
    clear ha
    go_wp2_with fail
    refine (h1.out _ hb1).mono ?_
    clear h1
    cases o with
    | error k =>
      rintro e w2 ⟨hbx, he, -⟩
      obtain rfl := he _ rfl
      have hb2 := hb1.trans (hbx.mono hb1.size)
      clear he hbx hb1
      have hx3 := OwnB.new #[.string ⟨#[]⟩, .string ⟨#[]⟩, .string ⟨#[]⟩, .bool false, .slice none 0 0, .string ⟨#[]⟩, .slice none 0 0] 26 hb2
      have hb3 := hb2.alloc hb2.size (.cells #[.string ⟨#[]⟩, .string ⟨#[]⟩, .string ⟨#[]⟩, .bool false, .slice none 0 0, .string ⟨#[]⟩, .slice none 0 0] 26)
      clear hb2
      go_upto_region 6 with fail
      generalize w2.alloc (.cells #[.string ⟨#[]⟩, .string ⟨#[]⟩, .string ⟨#[]⟩, .bool false, .slice none 0 0, .string ⟨#[]⟩, .slice none 0 0] 26) = w3 at *
      generalize w2.heap.size = g1 at *
      go_wp2_with fail
      refine (h2.out _).mono ?_
      rintro e w4 ⟨hbx, he, -⟩
      obtain rfl := he _ rfl
      have hb4 := hb3.trans (hbx.mono hb3.size)
      have hx4 := hx3.next hbx
      have hx5 := hx4.alloc (.cells #[.string ⟨#[]⟩, .string ⟨#[]⟩, .string ⟨#[]⟩, .bool false, .slice none 0 0, .string ⟨#[]⟩, .slice none 0 0] 26)
      have hy5 := OwnB.new #[.string ⟨#[]⟩, .string ⟨#[]⟩, .string ⟨#[]⟩, .bool false, .slice none 0 0, .string ⟨#[]⟩, .slice none 0 0] 26 hb4
      have hb5 := hb4.alloc hb4.size (.cells #[.string ⟨#[]⟩, .string ⟨#[]⟩, .string ⟨#[]⟩, .bool false, .slice none 0 0, .string ⟨#[]⟩, .slice none 0 0] 26)
      clear he hbx hb3 hx3 hb4 hx4 h2
      go_upto_region 7 with fail
      generalize w4.alloc (.cells #[.string ⟨#[]⟩, .string ⟨#[]⟩, .string ⟨#[]⟩, .bool false, .slice none 0 0, .string ⟨#[]⟩, .slice none 0 0] 26) = w5 at *
      generalize w4.heap.size = g2 at *
      have x0 := hx5.cell 0
      have y0 := hy5.cell 0
      have x1 := hx5.cell 1
      have y1 := hy5.cell 1
      have x2 := hx5.cell 2
      have y2 := hy5.cell 2
      have x3 := hx5.cell 3
      have y3 := hy5.cell 3
      have x4 := hx5.cell 4
      have y4 := hy5.cell 4
      have x5 := hx5.cell 5
      have y5 := hy5.cell 5
      have x6 := hx5.cell 6
      have y6 := hy5.cell 6
      simp only [List.getElem?_toArray, List.getElem?_cons_zero, List.getElem?_cons_succ] at x0 y0 x1 y1 x2 y2 x3 y3 x4 y4 x5 y5 x6 y6
      have hsm := rsame11_eq ⟨#[]⟩ ⟨#[]⟩ ⟨#[]⟩ ⟨#[]⟩ false none none none none [] [] 0 0 0 0 w5 (Sl.nil _ 9 _) (Sl.nil _ 9 _) (Sl2.nil _ _) (Sl2.nil _ _) (by decide) (by decide)
      simp only [List.length_nil] at hsm
      go_wp2_with fail
      refine hsm.mono ?_
      rintro e w6 ⟨rfl, hbx⟩
      have hb6 := hb5.trans (hbx.mono hb5.size)
      clear hsm hbx hb5 hx5 hy5 x0 y0 x1 y1 x2 y2 x3 y3 x4 y4 x5 y5 x6 y6
      go_wp2_with fail
      refine (h3.out _).mono ?_
      rintro e w7 ⟨rfl, rfl⟩
      go_wp2_with fail
      refine (h4.out _).mono ?_
      rintro e w7 ⟨rfl, rfl⟩
      go_wp2
      go_ret
      exact ⟨rfl, hb6⟩
    | ok v =>
      have hz := hbs.out v rfl
      rintro e w2 ⟨hbx, -, he⟩
      obtain ⟨A1, ca, C1, cc, rfl, hA, hC⟩ := he _ rfl
      have hb2 := hb1.trans (hbx.mono hb1.size)
      clear he hbx hb1 hbs
      unfold whV
      have hx3 := OwnB.new #[.string v.usage, .string v.user, .string v.doc, .bool v.node, .slice A1 v.steps.length ca, .string v.raw, .slice C1 v.binds.length cc] 26 hb2
      have hb3 := hb2.alloc hb2.size (.cells #[.string v.usage, .string v.user, .string v.doc, .bool v.node, .slice A1 v.steps.length ca, .string v.raw, .slice C1 v.binds.length cc] 26)
      have hA3 := Lib.hid (Sl9.below hA ((Below.refl w2.heap.size w2).alloc (Nat.le_refl _) (.cells #[.string v.usage, .string v.user, .string v.doc, .bool v.node, .slice A1 v.steps.length ca, .string v.raw, .slice C1 v.binds.length cc] 26)))
      have hC3 := Lib.hid (Sl2.below hC ((Below.refl w2.heap.size w2).alloc (Nat.le_refl _) (.cells #[.string v.usage, .string v.user, .string v.doc, .bool v.node, .slice A1 v.steps.length ca, .string v.raw, .slice C1 v.binds.length cc] 26)))
      clear hb2 hA hC
      go_upto_region 6 with fail
      generalize w2.alloc (.cells #[.string v.usage, .string v.user, .string v.doc, .bool v.node, .slice A1 v.steps.length ca, .string v.raw, .slice C1 v.binds.length cc] 26) = w3 at *
      generalize w2.heap.size = g1 at *
      go_wp2_with fail
      refine (h2.out _).mono ?_
      rintro e w4 ⟨hbx, -, he⟩
      obtain ⟨A2, da, C2, dc, rfl, hA, hC⟩ := he _ rfl
      unfold whV
      have hb4 := hb3.trans (hbx.mono hb3.size)
      have hx4 := hx3.next hbx
      have hx5 := hx4.alloc (.cells #[.string v.usage, .string v.user, .string v.doc, .bool v.node, .slice A2 v.steps.length da, .string v.raw, .slice C2 v.binds.length dc] 26)
      have hy5 := OwnB.new #[.string v.usage, .string v.user, .string v.doc, .bool v.node, .slice A2 v.steps.length da, .string v.raw, .slice C2 v.binds.length dc] 26 hb4
      have hb5 := hb4.alloc hb4.size (.cells #[.string v.usage, .string v.user, .string v.doc, .bool v.node, .slice A2 v.steps.length da, .string v.raw, .slice C2 v.binds.length dc] 26)
      have hbw := (Below.refl w4.heap.size w4).alloc (Nat.le_refl _) (.cells #[.string v.usage, .string v.user, .string v.doc, .bool v.node, .slice A2 v.steps.length da, .string v.raw, .slice C2 v.binds.length dc] 26)
      have hA5 := Lib.hid (Sl9.below (Sl9.below hA3.out hbx) hbw)
      have hC5 := Lib.hid (Sl2.below (Sl2.below hC3.out hbx) hbw)
      have hA6 := Lib.hid (Sl9.below hA hbw)
      have hC6 := Lib.hid (Sl2.below hC hbw)
      clear he hbx hb3 hx3 hb4 hx4 h2 hA3 hC3 hA hC hbw
      go_upto_region 7 with fail
      generalize w4.alloc (.cells #[.string v.usage, .string v.user, .string v.doc, .bool v.node, .slice A2 v.steps.length da, .string v.raw, .slice C2 v.binds.length dc] 26) = w5 at *
      generalize w4.heap.size = g2 at *
      have x0 := hx5.cell 0
      have y0 := hy5.cell 0
      have x1 := hx5.cell 1
      have y1 := hy5.cell 1
      have x2 := hx5.cell 2
      have y2 := hy5.cell 2
      have x3 := hx5.cell 3
      have y3 := hy5.cell 3
      have x4 := hx5.cell 4
      have y4 := hy5.cell 4
      have x5 := hx5.cell 5
      have y5 := hy5.cell 5
      have x6 := hx5.cell 6
      have y6 := hy5.cell 6
      simp only [List.getElem?_toArray, List.getElem?_cons_zero, List.getElem?_cons_succ] at x0 y0 x1 y1 x2 y2 x3 y3 x4 y4 x5 y5 x6 y6
      have hsm := rsame11_eq v.usage v.user v.doc v.raw v.node A1 A2 C1 C2 v.steps v.binds ca da cc dc w5 hA5.out hA6.out hC5.out hC6.out (by have := hz.2.2.2.1.2.1; omega) (by have := hz.2.2.2.2; omega)
      have HSM := Lib.hid hsm
      clear hsm hz
      go_wp2_with fail
      refine HSM.out.mono ?_
      rintro e w6 ⟨rfl, hbx⟩
      have hb6 := hb5.trans (hbx.mono hb5.size)
      clear HSM hbx hb5 hx5 hy5 hA5 hC5 hA6 hC6 x0 y0 x1 y1 x2 y2 x3 y3 x4 y4 x5 y5 x6 y6
      go_wp2_with fail
      refine (h3.out _).mono ?_
      rintro e w7 ⟨rfl, rfl⟩
      go_wp2_with fail
      refine (h4.out _).mono ?_
      rintro e w7 ⟨rfl, rfl⟩
      go_wp2
      go_ret
      exact ⟨rfl, hb6⟩
end Go.Proofs.YtbdamneophbnnaaGreatDoor
