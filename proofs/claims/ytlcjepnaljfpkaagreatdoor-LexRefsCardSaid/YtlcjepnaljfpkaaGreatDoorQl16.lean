/- LeO. -/
import Derived.Test.YtlcjepnaljfpkaaGreatDoorQl15
namespace Go.Proofs.YtlcjepnaljfpkaaGreatDoor
open Go.RowKit Wb
def AttrOut (D : Nat) (s : ByteArray) (fr : Nat) (m : Er ((List UInt8 × List UInt8) × Nat)) (w : World) (e : Ending) (w' : World) : Prop :=
  Keeps D w w' ∧ match m with
  | .ok ((n, v), a) => e = .returned (.agg #[.string ⟨n.toArray⟩, .string ⟨v.toArray⟩]) ∧ DocW w' D s fr a
  | .error (p, c) => e = .panicked [flt p c]
theorem attribute_any (D : Nat) (s : ByteArray) (fr at_ others : Nat) (apart : Bool) (w : World) (h : DocW w D s fr at_) (hG : Gv w) (hD : 11 ≤ D) (hat : at_ ≤ s.size) (hs : s.size ≤ 1000000) (ho : others ≤ 1000000) :
    Calls Tryz.prog 113 #[.pointer (some ⟨D, 0, none⟩), .int .i64 others, .bool apart] w fun e w' => AttrOut D s fr (attributeX s.data.toList fr at_ others apart) w e w' := by
  obtain ⟨r, hr⟩ : ∃ r, attributeX s.data.toList fr at_ others apart = r := ⟨_, rfl⟩
  rw [hr]
  unfold attributeX at hr
  have hb0 : Below w.heap.size w (w.alloc (.cells #[.string ⟨#[]⟩, .string ⟨#[]⟩] 54)) := (Below.refl _ w).alloc (Nat.le_refl _) _
  have hw := word_k D s fr at_ _ (h.below hb0) hat hs
  have HK := Lib.hid (Keeps.of_below (D := D) hb0)
  have HBL := Lib.hid (show (w.alloc (.cells #[.string ⟨#[]⟩, .string ⟨#[]⟩] 54)).heap[w.heap.size]? = some (.cells #[.string ⟨#[]⟩, .string ⟨#[]⟩] 54 (0, 0)) from kept_block (Below.refl _ _))
  have hDl := h.lt
  have hxl := wordX_le s at_ hat
  clear h hb0
  generalize wordX s.data.toList at_ = x at *
  by_cases hx : x = []
  · rw [if_pos hx] at hr
    subst hx hr
    have z0 : (⟨([] : List UInt8).toArray⟩ : ByteArray).toList = [] := by rw [ByteArray.toList_eq]
    have z1 : (⟨([] : List UInt8).toArray⟩ : ByteArray).toList.isEmpty = true := by rw [ByteArray.toList_eq]; rfl
    go_enter Tryz.func113, Tryz.ntmps113
    go_wp2_with fail
    refine hw.mono ?_
    rintro e w1 ⟨rfl, hd1, hk1⟩
    replace HK := Lib.hid (HK.out.trans hk1)
    have c2 := hd1.c2
    clear hk1 hd1
    go_wp2_with fail
    refine (fail_any _ 4 _).mono ?_
    rintro e w3 ⟨rfl, rfl⟩
    exact ⟨rfl, HK.out, rfl⟩
  · rw [if_neg hx] at hr
    have z0 : ¬ (⟨x.toArray⟩ : ByteArray).toList = [] := by rw [ByteArray.toList_eq]; exact hx
    have z1 : (⟨x.toArray⟩ : ByteArray).toList.isEmpty = false := by rw [ByteArray.toList_eq]; simpa using hx
    have hz : (⟨x.toArray⟩ : ByteArray).size = x.length := by rw [Lib.size_eq]
    obtain ⟨z, hze⟩ : ∃ z : ByteArray, (⟨x.toArray⟩ : ByteArray) = z := ⟨_, rfl⟩
    rw [hze] at z0 z1 hz hw
    have HZ := Lib.hid hze
    have HX := Lib.hid hz
    clear hze hx hz
    by_cases h65 : others = 65
    · rw [if_pos h65] at hr
      subst hr h65
      go_enter Tryz.func113, Tryz.ntmps113
      go_wp2_with fail
      refine hw.mono ?_
      rintro e w1 ⟨rfl, hd1, hk1⟩
      replace HK := Lib.hid (HK.out.trans hk1)
      have c2 := hd1.c2
      clear hk1 hd1
      go_wp2_with fail
      refine (fail_any _ 3 _).mono ?_
      rintro e w3 ⟨rfl, rfl⟩
      exact ⟨rfl, HK.out, rfl⟩
    · rw [if_neg h65] at hr
      have i65 : ((others : Int) == 65) = false := by simp; omega
      clear h65
      cases apart
      · rw [if_pos rfl] at hr
        subst hr
        go_enter Tryz.func113, Tryz.ntmps113
        go_wp2_with fail
        refine hw.mono ?_
        rintro e w1 ⟨rfl, hd1, hk1⟩
        replace HK := Lib.hid (HK.out.trans hk1)
        have c2 := hd1.c2
        clear hk1 hd1
        go_wp2_with fail
        refine (fail_any _ 4 _).mono ?_
        rintro e w3 ⟨rfl, rfl⟩
        exact ⟨rfl, HK.out, rfl⟩
      · rw [if_neg (by decide)] at hr
        have b1 : (z.size : Int) ≤ 1000000 := by have := HX.out; omega
        obtain ⟨a1, ha1⟩ : ∃ a1, at_ + x.length = a1 := ⟨_, rfl⟩
        rw [ha1] at hr hxl
        have HA1 := Lib.hid (show (at_ : Int) + (z.size : Int) = (a1 : Int) by have := HX.out; omega)
        have hbl := blankN_le s.data.toList a1 (by rw [lenL]; exact hxl)
        rw [lenL] at hbl
        have HBK := Lib.hid fun a w2 (hw : DocW w2 D s fr a) (ha : a ≤ s.size) => blanks_any D s fr a w2 hw ha hs
        have HTK := Lib.hid fun a w2 (hw : DocW w2 D s fr a) (ha : a ≤ s.size) => take_any D s fr a 61 w2 hw ha hs
        have HVL := Lib.hid fun a w2 (hw : DocW w2 D s fr a) (hg : Gv w2) (ha : a ≤ s.size) => dvalue_any D s fr a w2 hw hg hD ha hs
        have HDl := Lib.hid hDl
        clear ha1 hDl
        go_enter Tryz.func113, Tryz.ntmps113
        go_wp2_with fail
        refine hw.mono ?_
        rintro e w1 ⟨rfl, hd1, hk1⟩
        replace HBL := Lib.hid ((hk1.block _ (by simp) (by have := HDl.out; omega)).trans HBL.out)
        replace HK := Lib.hid (HK.out.trans hk1)
        have hsz : w.heap.size < w1.heap.size := by have := hk1.size; simp at this; omega
        have c2 := hd1.c2
        have f2 := hd1.f 2
        have HD := Lib.hid hd1
        clear hk1 hd1 hw
        go_wp2_with fail
        replace HBL := Lib.hid (show (w1.setCell ⟨D, 2, none⟩ (.int .i64 ((at_ : Int) + (z.size : Int)))).heap[w.heap.size]? = _ from (Below.heap_setCell _ _ _ _ (by have := HDl.out; simp; omega)).trans HBL.out)
        replace HK := Lib.hid (HK.out.setCell 2 (.int .i64 ((at_ : Int) + (z.size : Int))))
        refine (HBK.out a1 _ (HD.out.set2' HA1.out) hxl).mono ?_
        rintro e w2 ⟨rfl, hk2, hd2⟩
        have hsz2 : w.heap.size < w2.heap.size := Nat.lt_of_lt_of_le (by simpa [World.setCell] using hsz) hk2.size
        replace HBL := Lib.hid ((hk2.block _ (by simpa [World.setCell] using hsz) (by have := HDl.out; omega)).trans HBL.out)
        replace HK := Lib.hid (HK.out.trans hk2)
        replace HD := Lib.hid hd2
        clear hk2 hd2 c2 f2 hsz
        go_wp2_with fail
        refine (HTK.out _ _ HD.out hbl).mono ?_
        rintro e w3 ⟨hk3, he⟩
        replace HBL := Lib.hid ((hk3.block _ hsz2 (by have := HDl.out; omega)).trans HBL.out)
        have hsz3 : w.heap.size < w3.heap.size := Nat.lt_of_lt_of_le hsz2 hk3.size
        replace HK := Lib.hid (HK.out.trans hk3)
        clear hk3 hsz2 HD
        cases hT : takeX s.data.toList fr (a1 + blankN s.data.toList a1) 61 with
        | error pe =>
          obtain ⟨p, c⟩ := pe
          rw [hT] at he hr
          obtain rfl := he
          subst hr
          exact ⟨rfl, HK.out, rfl⟩
        | ok a2 =>
          rw [hT] at he hr
          obtain ⟨rfl, hd3⟩ := he
          simp only at hr
          have ha2 : a2 ≤ s.size := by
            unfold takeX at hT
            split at hT
            · cases hT
            · rename_i hdc
              have := drop_cons_len hdc
              rw [lenL] at this
              split at hT
              · simp only [Except.ok.injEq] at hT
                omega
              · cases hT
          have hbl2 := blankN_le s.data.toList a2 (by rw [lenL]; exact ha2)
          rw [lenL] at hbl2
          clear hT hbl
          go_wp2_with fail
          refine (HBK.out _ _ hd3 ha2).mono ?_
          rintro e w4 ⟨rfl, hk4, hd4⟩
          replace HBL := Lib.hid ((hk4.block _ hsz3 (by have := HDl.out; omega)).trans HBL.out)
          have hsz4 : w.heap.size < w4.heap.size := Nat.lt_of_lt_of_le hsz3 hk4.size
          replace HK := Lib.hid (HK.out.trans hk4)
          clear hk4 hsz3 hd3
          go_wp2_with fail
          refine (HVL.out _ _ hd4 (HK.out.gv hG hD) hbl2).mono ?_
          rintro e w5 ⟨hk5, he⟩
          replace HBL := Lib.hid ((hk5.block _ hsz4 (by have := HDl.out; omega)).trans HBL.out)
          replace HK := Lib.hid (HK.out.trans hk5)
          clear hk5 hsz4 hd4
          cases hV : valueX s.data.toList fr (a2 + blankN s.data.toList a2) with
          | error pe =>
            obtain ⟨p, c⟩ := pe
            rw [hV] at he hr
            obtain rfl := he
            subst hr
            exact ⟨rfl, HK.out, rfl⟩
          | ok vb =>
            obtain ⟨v, b⟩ := vb
            rw [hV] at he hr
            obtain ⟨rfl, hd5⟩ := he
            simp only at hr
            subst hr
            have q0 : w5.cell? ⟨w.heap.size, 0, none⟩ = some (.string ⟨#[]⟩) := blk_cell HBL.out 0
            have q1 : w5.cell? ⟨w.heap.size, 1, none⟩ = some (.string ⟨#[]⟩) := blk_cell HBL.out 1
            have q2 := blk_free HBL.out 0
            have q3 := blk_free HBL.out 1
            have HD5 := Lib.hid hd5
            clear hV hd5
            go_wp2
            have hb6 := blk_set (blk_set HBL.out 0 (.string z)) 1 (.string ⟨v.toArray⟩)
            refine bodyPost_ret (results_cell_row Tryz.results113 _ _ w.heap.size 54 _ (0, 0) _ rfl hb6 Tryz.underlying54 rfl (by kernel_rfl)) rfl ?_
            have hne : D ≠ w.heap.size := by have := HDl.out; omega
            refine ⟨?_, by rw [HZ.out]; rfl, ?_⟩
            · have hset : ∀ (wx : World) (o : Nat) (u : Value), Keeps D w wx → Keeps D w (wx.setCell ⟨w.heap.size, o, none⟩ u) := fun wx o u hk =>
                ⟨hk.os, hk.tape, hk.output, Nat.le_trans hk.size (by simp [World.setCell]), fun k hk1 hk2 => (Below.heap_setCell _ _ _ _ (by simp; omega)).trans (hk.block k hk1 hk2)⟩
              exact hset _ _ _ (hset _ _ _ HK.out)
            · have hs5 : ∀ (wx : World) (o : Nat) (u : Value), DocW wx D s fr b → DocW (wx.setCell ⟨w.heap.size, o, none⟩ u) D s fr b := fun wx o u hd => (Below.heap_setCell _ _ _ _ (by simpa using hne)).trans hd
              exact hs5 _ _ _ (hs5 _ _ _ HD5.out)
end Go.Proofs.YtlcjepnaljfpkaaGreatDoor
