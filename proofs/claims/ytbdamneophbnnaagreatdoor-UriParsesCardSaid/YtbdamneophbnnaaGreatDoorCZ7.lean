/- QdA QdC QdD OwnC. -/
import Derived.Test.YtbdamneophbnnaaGreatDoorCZ1
import Derived.Test.YtbdamneophbnnaaGreatDoorCZ3
import Derived.Test.YtbdamneophbnnaaGreatDoorCZ6
namespace Go.Proofs.YtbdamneophbnnaaGreatDoor
open Go.RowKit Wb
set_option maxRecDepth 100000 in
set_option maxHeartbeats 4000000 in
theorem rdigit_any (c : UInt8) (w : World) :
    Calls Tryz.prog 40 #[.int .u8 c.toNat] w fun e w' => e = .returned (.int .i64 (dgV c)) ∧ w = w' := by
  have hr : (dgV c = c.toNat - 48 ∧ 48 ≤ c.toNat ∧ c.toNat ≤ 57) ∨ (dgV c = c.toNat - 55 ∧ 65 ≤ c.toNat ∧ c.toNat ≤ 70) ∨ (dgV c = c.toNat - 87 ∧ 97 ≤ c.toNat ∧ c.toNat ≤ 102) ∨
      (dgV c = -1 ∧ c.toNat < 48) ∨ (dgV c = -1 ∧ 57 < c.toNat ∧ c.toNat < 65) ∨ (dgV c = -1 ∧ 70 < c.toNat ∧ c.toNat < 97) ∨ (dgV c = -1 ∧ 102 < c.toNat) := by
    unfold dgV
    repeat' split
    all_goals omega
  have hk := c.toNat_lt
  go_enter Tryz.func40, Tryz.ntmps40
  rcases hr with ⟨hr, h1, h2⟩ | ⟨hr, h1, h2⟩ | ⟨hr, h1, h2⟩ | ⟨hr, h1⟩ | ⟨hr, h1, h2⟩ | ⟨hr, h1, h2⟩ | ⟨hr, h1⟩
  all_goals
    rw [hr]
    clear hr
    go_wp2
    go_ret
  all_goals first
    | exact ⟨rfl, rfl⟩
    | (refine ⟨?_, rfl⟩; go_num)
end Go.Proofs.YtbdamneophbnnaaGreatDoor
namespace Wb
theorem hex_byte (a b : Int) (ha : 0 ≤ a) (ha2 : a ≤ 15) (hb : 0 ≤ b) (hb2 : b ≤ 15) : ∃ v : UInt8, UInt8.ofNat (a * 16 + b).toNat = v ∧ (v.toNat : Int) = a * 16 + b := by
  refine ⟨_, rfl, ?_⟩
  rw [UInt8.toNat_ofNat']
  omega
end Wb
namespace Go.Proofs.YtbdamneophbnnaaGreatDoor
open Go.RowKit Wb
set_option maxRecDepth 100000 in
set_option maxHeartbeats 8000000 in
theorem rdecode_any (s : ByteArray) (w : World) (hs : s.size ≤ 1000000) :
    Calls Tryz.prog 21 #[.string s] w fun e w' => e = .returned (.tuple #[.string ⟨(decP s.data.toList).1.toArray⟩, .int .i64 (decP s.data.toList).2]) ∧ Below w.heap.size w w' := by
  obtain ⟨i0, hi, hz0, hz1, hz2⟩ := info_parts txt_byte
  go_enter Tryz.func21, Tryz.ntmps21
  go_wp2
  go_loopw [4, 5] (fun v4 v5 wr => ∃ (i : Nat) (out : List UInt8), i ≤ s.size ∧ v5 = .int .i64 i ∧ out.length ≤ i ∧ Hid (DecAt s.data.toList out i) ∧ Hid (wr.ownsRow w.heap.size 5 1 v4 out.length (cellsB out)) ∧ Hid (Below w.heap.size w wr)) (fun _ v5 _ => ((s.size : Int) - intOf v5).toNat)
  case atStart => exact ⟨0, [], by omega, rfl, by simp, Lib.hid (decAt_zero _), Lib.hid (World.ownsRow_nil _ _ _ _), Lib.hid (Below.refl _ _)⟩
  case round =>
    obtain ⟨i, out, hil, rfl, hol, HD, HW, HB⟩ := hrel
    have hbs := HB.out.size
    by_cases h0 : i < s.size
    · have h0l : i < s.data.toList.length := by simpa using h0
      cases h37 : (s[i] == 37)
      · have hne : s.data.toList[i] ≠ 37 := fun h => by
          rw [beq_eq_false_iff_ne] at h37
          exact h37 h
        have HD2 := Lib.hid (decAt_one HD.out h0l hne)
        have HDc : Hid (DecAt s.data.toList (out ++ [s[i]]) (i + 1)) := HD2
        have hp := u8_is37 _ _ h37
        clear HD HD2 hne h37
        go_upto_region 5 with fail
        go_wp2_with (at_builtin; apply Classical.byContradiction; intro hNG)
        refine hNG ?_
        refine wpList_append_sl _ rfl (.tmp 14) (.tmp 18) _ rfl w.heap.size 5 i0 _ 1 1 Tryz.underlying74 hi hz0 hz1 hz2 rfl (by omega) _ out.length (cellsB out) rfl (HW.out.alloc _) (some ⟨wr.heap.size, 0, none⟩) 1 1 [.int .u8 (s[i].toNat : Int)] rfl (Sl.lit wr 1 [.int .u8 (s[i].toNat : Int)] _ 1 rfl) (cellsB_one [s[i]]) (by simp only [maxLen]; omega) (by omega) (HB.out.alloc HB.out.size _).size ?_
        intro v4 w4 hown4 hg4 hat4
        have HB4 := Lib.hid ((HB.out.alloc HB.out.size _).grown hg4 (HB.out.alloc HB.out.size _).size (fun g hg => (HW.out.lt g hg).1))
        have HOWN := Lib.hid hown4
        clear hown4 hg4 hat4
        go_wp2
        go_roundw
        case rel => exact ⟨i + 1, out ++ [s[i]], by omega, by go_num, by rw [List.length_append]; simp; omega, HDc, Lib.hid (by rw [List.length_append, cellsB_append]; exact HOWN.out), HB4⟩
        case measure => simp [intOf]; omega
      · have he : s.data.toList[i] = 37 := by
          rw [beq_iff_eq] at h37
          exact h37
        have hp := u8_is37 _ _ h37
        clear h37
        have wr2 : IntKind.i64.wrap ((i : Int) + 2) = (i : Int) + 2 := by rw [IntKind.wrap_i64]; omega
        by_cases hl : i + 2 < s.size
        · have h2l : i + 2 < s.data.toList.length := by simpa using hl
          have wr1 : IntKind.i64.wrap ((i : Int) + 1) = (i : Int) + 1 := by rw [IntKind.wrap_i64]; omega
          have hl2 : ¬ ((s.size : Int) ≤ (i : Int) + 2) := by omega
          have hl1 : (i : Int) + 1 < (s.size : Int) := by omega
          have hl3 : (i : Int) + 2 < (s.size : Int) := by omega
          have hl4 : (0 : Int) ≤ (i : Int) + 1 := by omega
          have hl5 : (0 : Int) ≤ (i : Int) + 2 := by omega
          have HBD := Lib.hid (fun h => decAt_bad HD.out h0l he (.inr ⟨h2l, h⟩))
          have HES := Lib.hid (fun h1 h2 => decAt_esc HD.out h2l he h1 h2)
          obtain ⟨x, hx⟩ : ∃ x, s[i + 1] = x := ⟨_, rfl⟩
          obtain ⟨y, hy⟩ : ∃ y, s[i + 2] = y := ⟨_, rfl⟩
          have hx' : s.data.toList[i + 1] = x := hx
          have hy' : s.data.toList[i + 2] = y := hy
          rw [hx', hy'] at HBD HES
          clear hx' hy' HD he
          have bx := dgV_bd x
          have by_ := dgV_bd y
          go_wp2_with fail
          refine (rdigit_any x _).mono ?_
          rintro e w2 ⟨rfl, rfl⟩
          by_cases nx : dgV x < 0
          · have HE : Hid (decP s.data.toList = ([], 32)) := Lib.hid (by
              unfold decP
              rw [HBD.out (.inl nx)])
            clear HBD HES bx by_
            go_wp2
            go_ret2
            rw [HE.out]
            exact ⟨rfl, HB.out⟩
          · have nd := decide_eq_false nx
            go_wp2_with fail
            refine (rdigit_any y _).mono ?_
            rintro e w2 ⟨rfl, rfl⟩
            by_cases ny : dgV y < 0
            · have HE : Hid (decP s.data.toList = ([], 32)) := Lib.hid (by
                unfold decP
                rw [HBD.out (.inr ny)])
              clear HBD HES bx by_
              go_wp2
              go_ret2
              rw [HE.out]
              exact ⟨rfl, HB.out⟩
            · have ne := decide_eq_false ny
              obtain ⟨v, hv, hvn⟩ := hex_byte (dgV x) (dgV y) (by omega) (by omega) (by omega) (by omega)
              have HD2 := Lib.hid (HES.out (by omega) (by omega))
              rw [hv] at HD2
              have c1 : IntKind.i64.wrap (dgV x * 16) = dgV x * 16 := by rw [IntKind.wrap_i64]; omega
              have c2 : IntKind.i64.wrap (dgV x * 16 + dgV y) = dgV x * 16 + dgV y := by rw [IntKind.wrap_i64]; omega
              have c3 : IntKind.u8.wrap (dgV x * 16 + dgV y) = (v.toNat : Int) := by rw [IntKind.wrap_u8, hvn]; omega
              have hy9 : s[((i : Int) + 2).toNat]'(by omega) = y := hy
              have KX := Lib.hid (fun u => rdigit_any x u)
              have KY := Lib.hid (fun u => rdigit_any y u)
              clear hv hvn HBD HES bx by_ nx ny
              generalize dgV x = dx at *
              generalize dgV y = dy at *
              obtain ⟨m, hm⟩ : ∃ m, dx * 16 = m := ⟨_, rfl⟩
              obtain ⟨z, hz⟩ : ∃ z, m + dy = z := ⟨_, rfl⟩
              rw [hm] at c2 c3
              rw [hz] at c3
              replace c1 := c1.trans hm
              replace c2 := c2.trans hz
              clear hm hz
              go_upto_region 9 with fail
              have HRd : Hid (wr.drew.ownsRow w.heap.size 5 1 u4 out.length (cellsB out)) := Lib.hid HW.out
              have HBd : Hid (Below w.heap.size w wr.drew) := Lib.hid HB.out.drew
              have hwz : w.heap.size ≤ wr.drew.heap.size := HBd.out.size
              (try simp only [List.append])
              refine wp_region_held_drew (S := (fun _ => True)) (by kernel_rfl) (trivial) (fun hHeld => ?_)
              refine takeW 0 ?_
              refine takeW 1 ?_
              refine takeW 2 ?_
              refine takeW 3 ?_
              (try simp only [Act.put, List.setIfInBounds_toArray, List.set_cons_zero, List.set_cons_succ])
              refine takeW 4 ?_
              refine takeW 7 ?_
              refine takeW 8 ?_
              refine takeW 9 ?_
              (try simp only [Act.put, List.setIfInBounds_toArray, List.set_cons_zero, List.set_cons_succ])
              refine takeW 10 ?_
              (try simp only [Act.put, List.setIfInBounds_toArray, List.set_cons_zero, List.set_cons_succ])
              refine wpAnyH_ready (rs := [5]) (by kernel_rfl) (by simp) ?_
              refine AllReadyH.cons rfl (fun K2 hK2 => ?_) AllReadyH.nil
              go_simp
              refine (KX.out _).mono ?_
              rintro e w6 ⟨rfl, rfl⟩
              refine hK2.out _ _ trivial (fun _ => ?_)
              refine takeW 6 ?_
              (try simp only [Act.put, List.setIfInBounds_toArray, List.set_cons_zero, List.set_cons_succ])
              refine wpAnyH_ready (rs := [11]) (by kernel_rfl) (by simp) ?_
              refine AllReadyH.cons rfl (fun K2 hK2 => ?_) AllReadyH.nil
              go_simp
              (try simp only [hy9])
              refine (KY.out _).mono ?_
              rintro e w6 ⟨rfl, rfl⟩
              refine hK2.out _ _ trivial (fun _ => ?_)
              refine takeW 12 ?_
              refine takeW 13 ?_
              (try simp only [Act.put, List.setIfInBounds_toArray, List.set_cons_zero, List.set_cons_succ])
              refine wpAnyH_ready (rs := [14]) (by kernel_rfl) (by simp) ?_
              refine AllReadyH.cons rfl (fun K2 hK2 => ?_) AllReadyH.nil
              go_simp
              refine hK2.out _ _ trivial (fun _ => ?_)
              (try simp only [Act.put, List.setIfInBounds_toArray, List.set_cons_zero, List.set_cons_succ])
              refine wpAnyH_ready (rs := [15]) (by kernel_rfl) (by simp) ?_
              refine AllReadyH.cons rfl (fun K2 hK2 => ?_) AllReadyH.nil
              skip
              refine step_append_sl _ rfl (.tmp 43) (.tmp 57) _ rfl w.heap.size 5 i0 _ 1 1 Tryz.underlying74 hi hz0 hz1 hz2 rfl (by omega) _ out.length (cellsB out) rfl (HRd.out.alloc _) (some ⟨wr.drew.heap.size, 0, none⟩) 1 1 [.int .u8 (v.toNat : Int)] rfl (Sl.lit wr.drew 1 [.int .u8 (v.toNat : Int)] _ 1 rfl) (cellsB_one [v]) (by simp only [maxLen]; omega) (by omega) (by simp; omega) ?_
              intro v5 w5 hown5 hg5 hat5
              change K2 (Act.put _ (some 58) v5) w5
              refine hK2.out _ _ trivial (fun _ => ?_)
              (try simp only [Act.put, List.setIfInBounds_toArray, List.set_cons_zero, List.set_cons_succ])
              refine takeW 16 ?_
              (try simp only [Act.put, List.setIfInBounds_toArray, List.set_cons_zero, List.set_cons_succ])
              refine wpAnyH_done (by kernel_rfl) ?_ _
              have HB4 := Lib.hid ((HBd.out.alloc hwz _).grown hg5 (by simp; omega) (fun g hg => (HRd.out.lt g hg).1))
              have HOWN := Lib.hid hown5
              clear hown5 hg5 hat5
              have wr3 : IntKind.i64.wrap ((i : Int) + 3) = (i : Int) + 3 := by rw [IntKind.wrap_i64]; omega
              go_wp2
              go_roundw
              case rel => exact ⟨i + 3, out ++ [v], by omega, by go_num, by rw [List.length_append]; simp; omega, HD2, Lib.hid (by rw [List.length_append, cellsB_append]; exact HOWN.out), HB4⟩
              case measure => simp [intOf]; omega
        · have hl2 : (s.size : Int) ≤ (i : Int) + 2 := by omega
          have HE : Hid (decP s.data.toList = ([], 32)) := Lib.hid (by
            unfold decP
            rw [decAt_bad HD.out h0l he (.inl (by simp; omega))])
          clear HD he
          go_wp2
          go_ret2
          rw [HE.out]
          exact ⟨rfl, HB.out⟩
    · have HE : Hid (decP s.data.toList = if 0 ≤ chk out then ([], 10) else (out, 0)) := Lib.hid (by
        unfold decP
        rw [decAt_end HD.out (by simp; omega)])
      clear HD
      have hconv := run_txt out HW.out
      have hsz : (ByteArray.mk out.toArray).size ≤ 1000000000 := by
        show out.toArray.size ≤ _
        rw [List.size_toArray]; omega
      go_wp2_with fail
      refine (rcheck_any _ _ hsz).mono ?_
      rintro e w2 ⟨rfl, hb⟩
      have hconv2 := run_txt out (own_below HW.out hb)
      have HB2 := Lib.hid (HB.out.trans (hb.mono hbs))
      rw [show (ByteArray.mk out.toArray).data.toList = out from by simp]
      by_cases hk : 0 ≤ chk out
      · rw [if_pos hk] at HE
        go_wp2
        go_ret2
        rw [HE.out]
        exact ⟨rfl, HB2.out⟩
      · rw [if_neg hk] at HE
        go_wp2
        go_ret2
        rw [HE.out]
        exact ⟨rfl, HB2.out⟩
end Go.Proofs.YtbdamneophbnnaaGreatDoor
namespace Wb
open Go Go.RowKit
def PieB (c : UInt8) (s : ByteArray) (O : List ByteArray) (fr i : Nat) : Prop :=
  (i ≤ s.size ∧ fr ≤ i ∧ PieAt c s.data.toList (O.map fun x => x.data.toList) fr i) ∨ (i = s.size + 1 ∧ pcsB c s = O)
theorem pieB_zero (c : UInt8) (s : ByteArray) : PieB c s [] 0 0 := .inl ⟨by omega, by omega, pieAt_zero _ _⟩
theorem pieB_by {c : UInt8} {s : ByteArray} {O : List ByteArray} {fr i : Nat} (h : PieB c s O fr i) (hi : i < s.size) (hc : s[i] = c) : PieB c s (O ++ [s.extract fr i]) (i + 1) (i + 1) := by
  rcases h with ⟨_, h2, h⟩ | ⟨h, _⟩
  · refine .inl ⟨by omega, by omega, ?_⟩
    have := pieAt_by h (by simpa using hi) hc
    rw [List.map_append, List.map_singleton, ext_sub]
    exact this
  · omega
theorem pieB_go {c : UInt8} {s : ByteArray} {O : List ByteArray} {fr i : Nat} (h : PieB c s O fr i) (hi : i < s.size) (hc : s[i] ≠ c) : PieB c s O fr (i + 1) := by
  rcases h with ⟨_, h2, h⟩ | ⟨h, _⟩
  · exact .inl ⟨by omega, by omega, pieAt_go h (by simpa using hi) h2 hc⟩
  · omega
theorem pieB_last {c : UInt8} {s : ByteArray} {O : List ByteArray} {fr i : Nat} (h : PieB c s O fr i) (hi : i = s.size) : PieB c s (O ++ [s.extract fr i]) (i + 1) (i + 1) := by
  rcases h with ⟨_, h2, h⟩ | ⟨h, _⟩
  · refine .inr ⟨by omega, ?_⟩
    have := pieAt_end h (by simp; omega)
    unfold pcsB
    rw [this, List.map_append, List.map_map]
    congr 1
    · have : ((fun l : List UInt8 => (⟨l.toArray⟩ : ByteArray)) ∘ fun x : ByteArray => x.data.toList) = id := by
        funext x
        simp
      rw [this, List.map_id]
    · rw [List.map_singleton]
      congr 1
      apply ByteArray.ext
      apply Array.toList_inj.1
      rw [ext_sub, List.take_of_length_le (by simp; omega)]
  · omega
theorem pieB_out {c : UInt8} {s : ByteArray} {O : List ByteArray} {fr i : Nat} (h : PieB c s O fr i) (hi : ¬ i ≤ s.size) : O = pcsB c s := by
  rcases h with ⟨h, _⟩ | ⟨_, h⟩
  · omega
  · exact h.symm
theorem pieB_fr {c : UInt8} {s : ByteArray} {O : List ByteArray} {fr i : Nat} (h : PieB c s O fr i) (hi : i ≤ s.size) : fr ≤ i := by
  rcases h with ⟨_, h, _⟩ | ⟨h, _⟩ <;> omega
end Wb
namespace Go.Proofs.YtbdamneophbnnaaGreatDoor
open Go.RowKit Wb
set_option maxRecDepth 100000 in
set_option maxHeartbeats 8000000 in
theorem rpieces_any (s : ByteArray) (c : UInt8) (w : World) (hs : s.size ≤ 1000000) :
    Calls Tryz.prog 20 #[.string s, .int .u8 c.toNat] w (PieOut (pcsB c s) w) := by
  obtain ⟨i0, hi, hz0, hz1, hz2⟩ := info_parts txt_string
  go_enter Tryz.func20, Tryz.ntmps20
  go_wp2
  go_loopw [5, 6, 7] (fun v5 v6 v7 wr => ∃ (i fr : Nat) (out : List ByteArray), i ≤ s.size + 1 ∧ v6 = .int .i64 fr ∧ v7 = .int .i64 i ∧ out.length ≤ i ∧ Hid (PieB c s out fr i) ∧ Hid (wr.ownsRow w.heap.size 9 1 v5 out.length (Wb.cells1 out)) ∧ Hid (Below w.heap.size w wr)) (fun _ _ v7 _ => ((s.size : Int) + 1 - intOf v7).toNat)
  case atStart => exact ⟨0, 0, [], by omega, rfl, rfl, by simp, Lib.hid (pieB_zero _ _), Lib.hid (World.ownsRow_nil _ _ _ _), Lib.hid (Below.refl _ _)⟩
  case round =>
    obtain ⟨i, fr, out, hil, rfl, rfl, hol, HP, HW, HB⟩ := hrel
    have hbs := HB.out.size
    by_cases h0 : i ≤ s.size
    · have hfr := pieB_fr HP.out h0
      by_cases h1 : i < s.size
      · have hne : ((i : Int) == (s.size : Int)) = false := by rw [beq_eq_false_iff_ne]; omega
        have hq : ∀ b, (s[i] == c) = b → ((s[i].toNat : Int) == (c.toNat : Int)) = b := fun b h => by rw [u8_eqn, h]
        cases hc : (s[i] == c)
        · have hq2 := hq _ hc
          rw [beq_eq_false_iff_ne] at hc
          have HP2 := Lib.hid (pieB_go HP.out h1 hc)
          clear hq HP hc
          go_wp2
          go_roundw
          case rel => exact ⟨i + 1, fr, out, by omega, rfl, by go_num, by omega, HP2, HW, HB⟩
          case measure => simp [intOf]; omega
        · have hq2 := hq _ hc
          rw [beq_iff_eq] at hc
          have HP2 := Lib.hid (pieB_by HP.out h1 hc)
          clear hq HP hc
          go_upto_region 7 with fail
          go_wp2_with (at_builtin; apply Classical.byContradiction; intro hNG)
          refine hNG ?_
          refine wpList_append_sl _ rfl (.tmp 25) (.tmp 30) _ rfl w.heap.size 9 i0 _ 1 16 Tryz.underlying54 hi hz0 hz1 hz2 rfl (by omega) _ out.length (Wb.cells1 out) rfl (HW.out.alloc _) (some ⟨wr.heap.size, 0, none⟩) 1 1 [.string (s.extract fr i)] rfl (Sl.lit wr 1 [.string (s.extract fr i)] _ 1 rfl) (cells1_one [s.extract fr i]) (by simp only [maxLen]; omega) (by omega) (HB.out.alloc HB.out.size _).size ?_
          intro v4 w4 hown4 hg4 hat4
          have HB4 := Lib.hid ((HB.out.alloc HB.out.size _).grown hg4 (HB.out.alloc HB.out.size _).size (fun g hg => (HW.out.lt g hg).1))
          have HOWN := Lib.hid hown4
          clear hown4 hg4 hat4
          go_wp2
          go_roundw
          case rel => exact ⟨i + 1, i + 1, out ++ [s.extract fr i], by omega, by go_num, by go_num, by rw [List.length_append]; simp; omega, HP2, Lib.hid (by rw [List.length_append, cells1_append]; exact HOWN.out), HB4⟩
          case measure => simp [intOf]; omega
      · have hne : ((i : Int) == (s.size : Int)) = true := by rw [beq_iff_eq]; omega
        have HP2 := Lib.hid (pieB_last HP.out (by omega))
        clear HP
        go_upto_region 7 with fail
        go_wp2_with (at_builtin; apply Classical.byContradiction; intro hNG)
        refine hNG ?_
        refine wpList_append_sl _ rfl (.tmp 25) (.tmp 30) _ rfl w.heap.size 9 i0 _ 1 16 Tryz.underlying54 hi hz0 hz1 hz2 rfl (by omega) _ out.length (Wb.cells1 out) rfl (HW.out.alloc _) (some ⟨wr.heap.size, 0, none⟩) 1 1 [.string (s.extract fr i)] rfl (Sl.lit wr 1 [.string (s.extract fr i)] _ 1 rfl) (cells1_one [s.extract fr i]) (by simp only [maxLen]; omega) (by omega) (HB.out.alloc HB.out.size _).size ?_
        intro v4 w4 hown4 hg4 hat4
        have HB4 := Lib.hid ((HB.out.alloc HB.out.size _).grown hg4 (HB.out.alloc HB.out.size _).size (fun g hg => (HW.out.lt g hg).1))
        have HOWN := Lib.hid hown4
        clear hown4 hg4 hat4
        go_wp2
        go_roundw
        case rel => exact ⟨i + 1, i + 1, out ++ [s.extract fr i], by omega, by go_num, by go_num, by rw [List.length_append]; simp; omega, HP2, Lib.hid (by rw [List.length_append, cells1_append]; exact HOWN.out), HB4⟩
        case measure => simp [intOf]; omega
    · have HO := Lib.hid (pieB_out HP.out h0)
      clear HP
      go_wp2
      go_ret
      rw [← HO.out]
      exact ⟨_, rfl, HW.out, HB.out⟩
end Go.Proofs.YtbdamneophbnnaaGreatDoor
namespace Wb
open Go Go.RowKit
theorem OwnB.put7_0 {g : Nat} {w w1 : World} {v0 v1 v2 v3 v4 v5 v6 : Value} {t : TypeId} (h : OwnB g w w1 #[v0, v1, v2, v3, v4, v5, v6] t) (u : Value) : OwnB g w (w1.setCell ⟨g, 0, none⟩ u) #[u, v1, v2, v3, v4, v5, v6] t := h.set 0 u rfl
theorem OwnB.put7_1 {g : Nat} {w w1 : World} {v0 v1 v2 v3 v4 v5 v6 : Value} {t : TypeId} (h : OwnB g w w1 #[v0, v1, v2, v3, v4, v5, v6] t) (u : Value) : OwnB g w (w1.setCell ⟨g, 1, none⟩ u) #[v0, u, v2, v3, v4, v5, v6] t := h.set 1 u rfl
theorem OwnB.put7_2 {g : Nat} {w w1 : World} {v0 v1 v2 v3 v4 v5 v6 : Value} {t : TypeId} (h : OwnB g w w1 #[v0, v1, v2, v3, v4, v5, v6] t) (u : Value) : OwnB g w (w1.setCell ⟨g, 2, none⟩ u) #[v0, v1, u, v3, v4, v5, v6] t := h.set 2 u rfl
theorem OwnB.put7_3 {g : Nat} {w w1 : World} {v0 v1 v2 v3 v4 v5 v6 : Value} {t : TypeId} (h : OwnB g w w1 #[v0, v1, v2, v3, v4, v5, v6] t) (u : Value) : OwnB g w (w1.setCell ⟨g, 3, none⟩ u) #[v0, v1, v2, u, v4, v5, v6] t := h.set 3 u rfl
theorem OwnB.put7_4 {g : Nat} {w w1 : World} {v0 v1 v2 v3 v4 v5 v6 : Value} {t : TypeId} (h : OwnB g w w1 #[v0, v1, v2, v3, v4, v5, v6] t) (u : Value) : OwnB g w (w1.setCell ⟨g, 4, none⟩ u) #[v0, v1, v2, v3, u, v5, v6] t := h.set 4 u rfl
theorem OwnB.put7_5 {g : Nat} {w w1 : World} {v0 v1 v2 v3 v4 v5 v6 : Value} {t : TypeId} (h : OwnB g w w1 #[v0, v1, v2, v3, v4, v5, v6] t) (u : Value) : OwnB g w (w1.setCell ⟨g, 5, none⟩ u) #[v0, v1, v2, v3, v4, u, v6] t := h.set 5 u rfl
theorem OwnB.put7_6 {g : Nat} {w w1 : World} {v0 v1 v2 v3 v4 v5 v6 : Value} {t : TypeId} (h : OwnB g w w1 #[v0, v1, v2, v3, v4, v5, v6] t) (u : Value) : OwnB g w (w1.setCell ⟨g, 6, none⟩ u) #[v0, v1, v2, v3, v4, v5, u] t := h.set 6 u rfl
theorem OwnB.all7 {g : Nat} {w w1 : World} {v0 v1 v2 v3 v4 v5 v6 : Value} {t : TypeId} (h : OwnB g w w1 #[v0, v1, v2, v3, v4, v5, v6] t) (u0 u1 u2 u3 u4 u5 u6 : Value) : OwnB g w (((((((w1.setCell ⟨g, 0, none⟩ u0).setCell ⟨g, 1, none⟩ u1).setCell ⟨g, 2, none⟩ u2).setCell ⟨g, 3, none⟩ u3).setCell ⟨g, 4, none⟩ u4).setCell ⟨g, 5, none⟩ u5).setCell ⟨g, 6, none⟩ u6) #[u0, u1, u2, u3, u4, u5, u6] t := (((((((h.put7_0 u0).put7_1 u1).put7_2 u2).put7_3 u3).put7_4 u4).put7_5 u5).put7_6 u6)
end Wb
