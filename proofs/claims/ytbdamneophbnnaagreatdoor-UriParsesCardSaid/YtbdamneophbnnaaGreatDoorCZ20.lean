/- UeD. -/
import Derived.Test.YtbdamneophbnnaaGreatDoorCZ17
import Derived.Test.YtbdamneophbnnaaGreatDoorCZ19
namespace Wb
end Wb
namespace Go.Proofs.YtbdamneophbnnaaGreatDoor
open Go.RowKit Wb
set_option maxHeartbeats 16000000 in
set_option maxRecDepth 100000 in
theorem uwithin_any (pu px pd U US D : ByteArray) (ow node : Bool) (sel q : List UInt8) (w : World) (hU : U.data.toList ∈ usg11) (hsel : sel.length ≤ 1000000) (hq : q.length ≤ 1000000) (hG : GvS w) :
    Calls Tryz.prog 18 #[.agg #[.string pu, .string px, .string pd, .bool ow, .bool node, .string (mkT sel), .string (mkT q)], .agg #[.string U, .string US, .string D, .bool false, .slice none 0 0, .string ⟨#[]⟩, .slice none 0 0]] w (UriOut (witE U US D sel q) w) := by
  obtain ⟨o, ho⟩ : ∃ o, witE U US D sel q = o := ⟨_, rfl⟩
  rw [ho]
  unfold witE at ho
  have k1 := fun v (hv : Below w.heap.size w v) => sbinds_any (mkT q) v (by rw [mkT_size]; omega) (hG.next hv)
  rw [mkT_list] at k1
  have hp00 := ((OwnB.new0 w #[.string pu, .string px, .string pd, .bool ow, .bool node, .string (mkT sel), .string (mkT q)] 48).alloc (.cells #[.string U, .string US, .string D, .bool false, .slice none 0 0, .string ⟨#[]⟩, .slice none 0 0] 26)).alloc (.cells #[.string ⟨#[]⟩, .string ⟨#[]⟩, .string ⟨#[]⟩, .bool false, .slice none 0 0, .string ⟨#[]⟩, .slice none 0 0] 26)
  have hb00 := (Below.refl w.heap.size w).alloc (Nat.le_refl _) (.cells #[.string pu, .string px, .string pd, .bool ow, .bool node, .string (mkT sel), .string (mkT q)] 48)
  have hw00 := (OwnB.new #[.string U, .string US, .string D, .bool false, .slice none 0 0, .string ⟨#[]⟩, .slice none 0 0] 26 hb00).alloc (.cells #[.string ⟨#[]⟩, .string ⟨#[]⟩, .string ⟨#[]⟩, .bool false, .slice none 0 0, .string ⟨#[]⟩, .slice none 0 0] 26)
  have hb01 := hb00.alloc hb00.size (.cells #[.string U, .string US, .string D, .bool false, .slice none 0 0, .string ⟨#[]⟩, .slice none 0 0] 26)
  have hr00 := OwnB.new #[.string ⟨#[]⟩, .string ⟨#[]⟩, .string ⟨#[]⟩, .bool false, .slice none 0 0, .string ⟨#[]⟩, .slice none 0 0] 26 hb01
  have hb0 := hb01.alloc hb01.size (.cells #[.string ⟨#[]⟩, .string ⟨#[]⟩, .string ⟨#[]⟩, .bool false, .slice none 0 0, .string ⟨#[]⟩, .slice none 0 0] 26)
  have sz : ∀ (v : World) (o : Obj), (v.alloc o).heap.size = v.heap.size + 1 := fun v o => by simp
  rw [sz] at hw00
  rw [sz, sz] at hr00
  clear sz hb00 hb01
  have hp0 := hp00
  have hw0 := hw00
  have hr0 := hr00
  clear hp00 hw00 hr00
  have hss := spc_len hU
  by_cases hbz : (bindsP q).2 = 0
  · obtain ⟨m, hm⟩ : ∃ m, bindsP q = (m, 0) := ⟨(bindsP q).1, by rw [← hbz]⟩
    obtain ⟨c1, c2⟩ := binds_size hm
    rw [hm] at ho k1
    simp only at ho k1
    rw [if_neg (by decide)] at ho
    obtain ⟨S, hS⟩ : ∃ S : ByteArray, ⟨(spc11 U.data.toList).toArray⟩ = S := ⟨_, rfl⟩
    have hSz : S.size ≤ 1000000 := by
      rw [← hS]
      show _root_.Array.size _ ≤ _
      rw [List.size_toArray]
      omega
    have k2 := fun v => space_any U v
    rw [hS] at k2 ho
    have k3 := fun v (hv : Below w.heap.size w v) C cc hC => sparse_any (mkT sel) S C m cc v hC (by rw [mkT_size]; omega) hSz (by omega) (fun b hb => by have := c2 b hb; omega) (hG.next hv)
    rw [mkT_list] at k3
    have k4 := fun v => sclone_any (mkT sel) v (by rw [mkT_size]; omega)
    have HK1 := Lib.hid k1
    have HK2 := Lib.hid k2
    have HK3 := Lib.hid k3
    have HK4 := Lib.hid k4
    have HO := Lib.hid ho
    have HNZ := Lib.hid (binds_ne hm)
    clear k1 k2 k3 k4 ho hm hbz c1 c2 hS hSz hss hU hsel hq hG
    go_enter Tryz.func18, Tryz.ntmps18
    go_upto_region 1 with fail
    generalize ((w.alloc (.cells #[.string pu, .string px, .string pd, .bool ow, .bool node, .string (mkT sel), .string (mkT q)] 48)).alloc (.cells #[.string U, .string US, .string D, .bool false, .slice none 0 0, .string ⟨#[]⟩, .slice none 0 0] 26)).alloc (.cells #[.string ⟨#[]⟩, .string ⟨#[]⟩, .string ⟨#[]⟩, .bool false, .slice none 0 0, .string ⟨#[]⟩, .slice none 0 0] 26) = w0 at *
    have q6 : w0.cell? ⟨w.heap.size, 6, none⟩ = some (.string (mkT q)) := hp0.cell 6
    go_wp2_with fail
    refine (HK1.out _ hb0).mono ?_
    rintro e w1 ⟨C, cc, rfl, hC, hbx⟩
    simp only at hC
    have hp1 := hp0.next hbx
    have hw1 := hw0.next hbx
    have hr1 := hr0.next hbx
    have hb1 := hb0.trans (hbx.mono hb0.size)
    clear hp0 hw0 hr0 hb0 hbx q6 HK1
    have q5 : w1.cell? ⟨w.heap.size, 5, none⟩ = some (.string (mkT sel)) := hp1.cell 5
    have w00 : w1.cell? ⟨w.heap.size + 1, 0, none⟩ = some (.string U) := hw1.cell 0
    have HC := Lib.hid hC
    have HP := Lib.hid hp1
    have HW := Lib.hid hw1
    have HR := Lib.hid hr1
    have HB := Lib.hid hb1
    have HQ : Hid (w1.drew.cell? ⟨w.heap.size, 5, none⟩ = some (.string (mkT sel)) ∧ w1.drew.cell? ⟨w.heap.size + 1, 0, none⟩ = some (.string U)) := Lib.hid ⟨q5, w00⟩
    clear hC hp1 hw1 hr1 hb1 q5 w00
    go_wp2_with fail
    (try simp only [List.append])
    refine wp_region_held_drew (S := (fun v => v.cell? ⟨w.heap.size, 5, none⟩ = some (.string (mkT sel)) ∧ v.cell? ⟨w.heap.size + 1, 0, none⟩ = some (.string U))) (by kernel_rfl) (HQ.out) (fun hHeld => ?_)
    refine takeW 0 ?_
    refine takeW 1 ?_
    refine takeW 2 ?_
    refine takeW 3 ?_
    (try simp only [Act.put, List.setIfInBounds_toArray, List.set_cons_zero, List.set_cons_succ])
    refine takeW 5 ?_
    (try simp only [Act.put, List.setIfInBounds_toArray, List.set_cons_zero, List.set_cons_succ])
    refine wpAnyH_ready (rs := [4]) (by kernel_rfl) (by simp) ?_
    refine AllReadyH.cons rfl (fun K2 hK2 => ?_) AllReadyH.nil
    go_simp
    refine (HK2.out _).mono ?_
    rintro e w2 ⟨rfl, rfl⟩
    clear HK2
    refine hK2.out _ _ (by assumption) (fun hHeld2 => ?_)
    (try simp only [Act.put, List.setIfInBounds_toArray, List.set_cons_zero, List.set_cons_succ])
    refine wpAnyH_ready (rs := [6]) (by kernel_rfl) (by simp) ?_
    refine AllReadyH.cons rfl (fun K2 hK2 => ?_) AllReadyH.nil
    go_simp
    have hbd : Below w.heap.size w w1.drew := HB.out.drew
    refine (HK3.out _ hbd _ _ (HC.out.below (Below.refl _ _).drew)).mono ?_
    rintro e w3 hso
    obtain ⟨E, ee, l, ek, rfl, hE, hbx, hl0, hl1⟩ := so_form hso fun k hk => parse_nz hk
    have HE := Lib.hid hE
    have HL0 := Lib.hid hl0
    have HL1 := Lib.hid hl1
    have HX := Lib.hid hbx
    have hs3 : w3.cell? ⟨w.heap.size, 5, none⟩ = some (.string (mkT sel)) ∧ w3.cell? ⟨w.heap.size + 1, 0, none⟩ = some (.string U) := by
      have h1 := (OwnB.next (w1 := w1.drew) ⟨HP.out.blk, HP.out.low⟩ hbx).cell 5
      have h2 := (OwnB.next (w1 := w1.drew) ⟨HW.out.blk, HW.out.low⟩ hbx).cell 0
      exact ⟨h1, h2⟩
    clear hso hE hbx hl0 hl1 HK3
    refine hK2.out _ _ hs3 (fun hHeld2 => ?_)
    refine takeW 7 ?_
    refine takeW 8 ?_
    refine takeW 9 ?_
    (try simp only [Act.put, List.setIfInBounds_toArray, List.set_cons_zero, List.set_cons_succ])
    refine takeW 10 ?_
    refine takeW 11 ?_
    (try simp only [Act.put, List.setIfInBounds_toArray, List.set_cons_zero, List.set_cons_succ])
    refine wpAnyH_done (by kernel_rfl) ?_ _
    have hbd : Below w.heap.size w w1.drew := HB.out.drew
    have hp3 : OwnB w.heap.size w w3 #[.string pu, .string px, .string pd, .bool ow, .bool node, .string (mkT sel), .string (mkT q)] 48 := OwnB.next (w1 := w1.drew) ⟨HP.out.blk, HP.out.low⟩ HX.out
    have hw3 : OwnB (w.heap.size + 1) w w3 #[.string U, .string US, .string D, .bool false, .slice none 0 0, .string ⟨#[]⟩, .slice none 0 0] 26 := OwnB.next (w1 := w1.drew) ⟨HW.out.blk, HW.out.low⟩ HX.out
    have hr3 : OwnB (w.heap.size + 1 + 1) w w3 #[.string ⟨#[]⟩, .string ⟨#[]⟩, .string ⟨#[]⟩, .bool false, .slice none 0 0, .string ⟨#[]⟩, .slice none 0 0] 26 := OwnB.next (w1 := w1.drew) ⟨HR.out.blk, HR.out.low⟩ HX.out
    have hb3 : Below w.heap.size w w3 := hbd.trans (HX.out.mono hbd.size)
    have HC3 := Lib.hid ((HC.out.below (w' := w1.drew) (Below.refl _ _).drew).below HX.out)
    clear HP HW HR HB HC HQ HX hbd
    by_cases hek : ek = 0
    · subst hek
      have hO := HO.out
      rw [HL0.out rfl] at hO
      simp only at hO
      have hOo := Lib.hid hO
      clear hO HO HL0 HL1 hHeld2 hHeld
      have q5 : w3.cell? ⟨w.heap.size, 5, none⟩ = some (.string (mkT sel)) := hp3.cell 5
      have hlw := hb3.size
      go_wp2_with fail
      refine (HK4.out _).mono ?_
      rintro e w4 ⟨rfl, hbx⟩
      have hw4 := hw3.next hbx
      have hr4 := hr3.next hbx
      have hb4 := hb3.trans (hbx.mono hb3.size)
      have HC4 := Lib.hid (HC3.out.below hbx)
      have HE4 := Lib.hid (HE.out.below hbx)
      have hne : w.heap.size + 1 + 1 ≠ w.heap.size + 1 := by omega
      clear hp3 hw3 hr3 hb3 HC3 HE hbx q5 HK4
      have y3 := hw4.cell 3
      have yf3 := hw4.free 3
      have y4 := hw4.cell 4
      have yf4 := hw4.free 4
      have y5 := hw4.cell 5
      have yf5 := hw4.free 5
      have y6 := hw4.cell 6
      have yf6 := hw4.free 6
      simp only [List.getElem?_toArray, List.getElem?_cons_zero, List.getElem?_cons_succ] at y3 y4 y5 y6
      go_upto_region 8 with fail
      have hw5 := ((((hw4.put7_3 (.bool true)).put7_4 (.slice E l.length ee)).put7_5 (.string (mkT sel))).put7_6 (.slice C m.length cc))
      have hr5 := ((((hr4.other hne 3 (.bool true)).other hne 4 (.slice E l.length ee)).other hne 5 (.string (mkT sel))).other hne 6 (.slice C m.length cc))
      have hb5 := ((((hw4.put7_3 (.bool true)).put7_4 (.slice E l.length ee)).put7_5 (.string (mkT sel))).below (((hw4.put7_3 (.bool true)).put7_4 (.slice E l.length ee)).below ((hw4.put7_3 (.bool true)).below (hw4.below hb4 3 (.bool true)) 4 (.slice E l.length ee)) 5 (.string (mkT sel))) 6 (.slice C m.length cc))
      have noi : ∀ (i : Nat) (k : IntKind) (v : Int), (#[.string U, .string US, .string D, .bool false, .slice none 0 0, .string ⟨#[]⟩, .slice none 0 0] : Array Value)[i]? ≠ some (Value.int k v) := noint7 _ _ _ _ _ _ _ (by simp) (by simp) (by simp) (by simp) (by simp) (by simp) (by simp)
      have ha1 := sl9_ne HE4.out hw4 noi
      have hnz := HNZ.out
      have s3 := HC4.out.nostr y3 (by simp) (.bool true)
      have s4 := s3.nostr ((hw4.put7_3 (.bool true)).cell 4) (by simp) (.slice E l.length ee)
      have s5 := s4.mid (k := 4) (((hw4.put7_3 (.bool true)).put7_4 (.slice E l.length ee)).cell 5) rfl (((hw4.put7_3 (.bool true)).put7_4 (.slice E l.length ee)).cell 4) (by simp) hnz (.string (mkT sel))
      have hsc5 := s5.nostr ((((hw4.put7_3 (.bool true)).put7_4 (.slice E l.length ee)).put7_5 (.string (mkT sel))).cell 6) (by simp) (.slice C m.length cc)
      have hsl5 := (((HE4.out.aw ha1 3 (.bool true)).aw ha1 4 (.slice E l.length ee)).aw ha1 5 (.string (mkT sel))).aw ha1 6 (.slice C m.length cc)
      generalize ((((w4.setCell ⟨w.heap.size + 1, 3, none⟩ (.bool true)).setCell ⟨w.heap.size + 1, 4, none⟩ (.slice E l.length ee)).setCell ⟨w.heap.size + 1, 5, none⟩ (.string (mkT sel))).setCell ⟨w.heap.size + 1, 6, none⟩ (.slice C m.length cc)) = w5 at *
      clear hw4 hr4 hb4 HC4 HE4 y3 yf3 y4 yf4 y5 yf5 y6 yf6 s3 s4 s5 ha1 noi
      have ha2 := sl9_ne hsl5 hr5 (noint7 _ _ _ _ _ _ _ (by simp) (by simp) (by simp) (by simp) (by simp) (by simp) (by simp))
      have hb2 := sl2_ne hsc5 hr5 (empty7 _ _ _) hnz
      have hsl6 := Lib.hid hsl5
      have hsc6 := Lib.hid hsc5
      clear hsl5 hsc5 hnz
      have z0 := hw5.cell 0
      have z1 := hw5.cell 1
      have z2 := hw5.cell 2
      have z3 := hw5.cell 3
      have z4 := hw5.cell 4
      have z5 := hw5.cell 5
      have z6 := hw5.cell 6
      simp only [List.getElem?_toArray, List.getElem?_cons_zero, List.getElem?_cons_succ] at z0 z1 z2 z3 z4 z5 z6
      have x0 := hr5.cell 0
      have xf0 := hr5.free 0
      have x1 := hr5.cell 1
      have xf1 := hr5.free 1
      have x2 := hr5.cell 2
      have xf2 := hr5.free 2
      have x3 := hr5.cell 3
      have xf3 := hr5.free 3
      have x4 := hr5.cell 4
      have xf4 := hr5.free 4
      have x5 := hr5.cell 5
      have xf5 := hr5.free 5
      have x6 := hr5.cell 6
      have xf6 := hr5.free 6
      simp only [List.getElem?_toArray, List.getElem?_cons_zero, List.getElem?_cons_succ] at x0 x1 x2 x3 x4 x5 x6
      go_wp2
      refine bodyPost_ret (results_cell2 rfl _ _ (w.heap.size + 1 + 1) _ _ _ rfl (hr5.all7 _ _ _ _ _ _ _).blk Tryz.underlying26 rfl wh_info) rfl ?_
      exact UriOut.good (v := ⟨U, US, D, true, l, mkT sel, m⟩) hOo.out.symm ((((((((hb5.setCell (Nat.le_trans (Nat.le_succ _) (Nat.le_succ _)) _).setCell (Nat.le_trans (Nat.le_succ _) (Nat.le_succ _)) _).setCell (Nat.le_trans (Nat.le_succ _) (Nat.le_succ _)) _).setCell (Nat.le_trans (Nat.le_succ _) (Nat.le_succ _)) _).setCell (Nat.le_trans (Nat.le_succ _) (Nat.le_succ _)) _).setCell (Nat.le_trans (Nat.le_succ _) (Nat.le_succ _)) _).setCell (Nat.le_trans (Nat.le_succ _) (Nat.le_succ _)) _)) (Sl9.aw7 (A := E) (l := l) hsl6.out ha2 _ _ _ _ _ _ _) (Sl2.aw7 (A := C) (l := m) hsc6.out hb2 _ _ _ _ _ _ _)
    · have hek2 : (ek == 0) = false := by simpa using hek
      have hO := HO.out
      rw [HL1.out hek] at hO
      simp only at hO
      have hOo := Lib.hid hO
      clear hO HO HL0 HL1 HK4 HC3 HE hp3 hw3 hHeld2 hHeld
      have x0 := hr3.cell 0
      have xf0 := hr3.free 0
      have x1 := hr3.cell 1
      have xf1 := hr3.free 1
      have x2 := hr3.cell 2
      have xf2 := hr3.free 2
      have x3 := hr3.cell 3
      have xf3 := hr3.free 3
      have x4 := hr3.cell 4
      have xf4 := hr3.free 4
      have x5 := hr3.cell 5
      have xf5 := hr3.free 5
      have x6 := hr3.cell 6
      have xf6 := hr3.free 6
      simp only [List.getElem?_toArray, List.getElem?_cons_zero, List.getElem?_cons_succ] at x0 x1 x2 x3 x4 x5 x6
      go_wp2
      refine bodyPost_ret (results_cell2 rfl _ _ (w.heap.size + 1 + 1) _ _ _ rfl (hr3.all7 _ _ _ _ _ _ _).blk Tryz.underlying26 rfl wh_info) rfl ?_
      exact UriOut.bad hOo.out.symm ((((((((hb3.setCell (Nat.le_trans (Nat.le_succ _) (Nat.le_succ _)) _).setCell (Nat.le_trans (Nat.le_succ _) (Nat.le_succ _)) _).setCell (Nat.le_trans (Nat.le_succ _) (Nat.le_succ _)) _).setCell (Nat.le_trans (Nat.le_succ _) (Nat.le_succ _)) _).setCell (Nat.le_trans (Nat.le_succ _) (Nat.le_succ _)) _).setCell (Nat.le_trans (Nat.le_succ _) (Nat.le_succ _)) _).setCell (Nat.le_trans (Nat.le_succ _) (Nat.le_succ _)) _))
  · have hk : ((bindsP q).2 == 0) = false := by simpa using hbz
    rw [if_pos hbz] at ho
    obtain rfl := ho
    have hm := bindsP_bad q hbz
    have HK1 := Lib.hid k1
    clear k1 hbz hss hU hsel hq hG hw0
    go_enter Tryz.func18, Tryz.ntmps18
    go_upto_region 1 with fail
    generalize ((w.alloc (.cells #[.string pu, .string px, .string pd, .bool ow, .bool node, .string (mkT sel), .string (mkT q)] 48)).alloc (.cells #[.string U, .string US, .string D, .bool false, .slice none 0 0, .string ⟨#[]⟩, .slice none 0 0] 26)).alloc (.cells #[.string ⟨#[]⟩, .string ⟨#[]⟩, .string ⟨#[]⟩, .bool false, .slice none 0 0, .string ⟨#[]⟩, .slice none 0 0] 26) = w0 at *
    have q6 : w0.cell? ⟨w.heap.size, 6, none⟩ = some (.string (mkT q)) := hp0.cell 6
    go_wp2_with fail
    refine (HK1.out _ hb0).mono ?_
    rintro e w1 ⟨C, cc, rfl, hC, hbx⟩
    have hr1 := hr0.next hbx
    have hb1 := hb0.trans (hbx.mono hb0.size)
    clear hr0 hb0 hbx q6 HK1 hC hp0
    have x0 := hr1.cell 0
    have xf0 := hr1.free 0
    have x1 := hr1.cell 1
    have xf1 := hr1.free 1
    have x2 := hr1.cell 2
    have xf2 := hr1.free 2
    have x3 := hr1.cell 3
    have xf3 := hr1.free 3
    have x4 := hr1.cell 4
    have xf4 := hr1.free 4
    have x5 := hr1.cell 5
    have xf5 := hr1.free 5
    have x6 := hr1.cell 6
    have xf6 := hr1.free 6
    simp only [List.getElem?_toArray, List.getElem?_cons_zero, List.getElem?_cons_succ] at x0 x1 x2 x3 x4 x5 x6
    go_wp2
    refine bodyPost_ret (results_cell2 rfl _ _ (w.heap.size + 1 + 1) _ _ _ rfl (hr1.all7 _ _ _ _ _ _ _).blk Tryz.underlying26 rfl wh_info) rfl ?_
    exact UriOut.bad rfl ((((((((hb1.setCell (Nat.le_trans (Nat.le_succ _) (Nat.le_succ _)) _).setCell (Nat.le_trans (Nat.le_succ _) (Nat.le_succ _)) _).setCell (Nat.le_trans (Nat.le_succ _) (Nat.le_succ _)) _).setCell (Nat.le_trans (Nat.le_succ _) (Nat.le_succ _)) _).setCell (Nat.le_trans (Nat.le_succ _) (Nat.le_succ _)) _).setCell (Nat.le_trans (Nat.le_succ _) (Nat.le_succ _)) _).setCell (Nat.le_trans (Nat.le_succ _) (Nat.le_succ _)) _))
end Go.Proofs.YtbdamneophbnnaaGreatDoor
