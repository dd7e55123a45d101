/- QdC QdD SbA SbB. -/
import Derived.Deep.Draws
import Derived.Test.YtbeglliabpflpaaGreatDoorCU6
import Derived.Test.YtbeglliabpflpaaGreatDoorCU8
import Derived.Test.YtbeglliabpflpaaGreatDoorCU11
namespace Wb
theorem u8_is37 (c : UInt8) (b : Bool) (h : (c == 37) = b) : ((c.toNat : Int) == 37) = b := by
  rw [show (37 : Int) = ((37 : UInt8).toNat : Int) from rfl, u8_eqn, h]
theorem hex_byte (a b : Int) (ha : 0 ≤ a) (ha2 : a ≤ 15) (hb : 0 ≤ b) (hb2 : b ≤ 15) : ∃ v : UInt8, UInt8.ofNat (a * 16 + b).toNat = v ∧ (v.toNat : Int) = a * 16 + b := by
  refine ⟨_, rfl, ?_⟩
  rw [UInt8.toNat_ofNat']
  omega
end Wb
namespace Go.Proofs.YtbeglliabpflpaaGreatDoor
open Go.RowKit Wb
set_option maxRecDepth 100000 in
set_option maxHeartbeats 8000000 in
theorem rdecode_any (s : ByteArray) (w : World) (hs : s.size ≤ 1000000) :
    Calls Tryz.prog 21 #[.string s] w fun e w' => e = .returned (.tuple #[.string ⟨(decP s.data.toList).1.toArray⟩, .int .i64 (decP s.data.toList).2]) ∧ Below w.heap.size w w' := by
  obtain ⟨i0, hi, hz0, hz1, hz2⟩ := info_parts txt_byte
  go_enter Tryz.func21, Tryz.ntmps21
  go_wp2
  go_loopw [4, 5] (fun v4 v5 wr => ∃ (i : Nat) (out : List UInt8), i ≤ s.size ∧ v5 = .int .i64 i ∧ out.length ≤ i ∧ Hid (DecAt s.data.toList out i) ∧ Hid (wr.ownsRow w.heap.size 5 1 v4 out.length (cellsB out)) ∧ Hid (Below w.heap.size w wr)) (fun _ v5 _ => ((s.size : Int) - intOf v5).toNat)
  case atStart => exact ⟨0, [], by omega, rfl, by simp, Lib.hid (decAt_zero _), Lib.hid (World.ownsRow_nil _ _ _ _), Lib.hid (Below.refl _ _)⟩
  case round =>
    obtain ⟨i, out, hil, rfl, hol, HD, HW, HB⟩ := hrel
    have hbs := HB.out.size
    by_cases h0 : i < s.size
    · have h0l : i < s.data.toList.length := by simpa using h0
      cases h37 : (s[i] == 37)
      · have hne : s.data.toList[i] ≠ 37 := fun h => by
          rw [beq_eq_false_iff_ne] at h37
          exact h37 h
        have HD2 := Lib.hid (decAt_one HD.out h0l hne)
        have HDc : Hid (DecAt s.data.toList (out ++ [s[i]]) (i + 1)) := HD2
        have hp := u8_is37 _ _ h37
        clear HD HD2 hne h37
        go_upto_region 5 with fail
        go_wp2_with (at_builtin; apply Classical.byContradiction; intro hNG)
        refine hNG ?_
        refine wpList_append_sl _ rfl (.tmp 14) (.tmp 18) _ rfl w.heap.size 5 i0 _ 1 1 Tryz.underlying78 hi hz0 hz1 hz2 rfl (by omega) _ out.length (cellsB out) rfl (HW.out.alloc _) (some ⟨wr.heap.size, 0, none⟩) 1 1 [.int .u8 (s[i].toNat : Int)] rfl (Sl.lit wr 1 [.int .u8 (s[i].toNat : Int)] _ 1 rfl) (cellsB_one [s[i]]) (by simp only [maxLen]; omega) (by omega) (HB.out.alloc HB.out.size _).size ?_
        intro v4 w4 hown4 hg4 hat4
        have HB4 := Lib.hid ((HB.out.alloc HB.out.size _).grown hg4 (HB.out.alloc HB.out.size _).size (fun g hg => (HW.out.lt g hg).1))
        have HOWN := Lib.hid hown4
        clear hown4 hg4 hat4
        go_wp2
        go_roundw
        case rel => exact ⟨i + 1, out ++ [s[i]], by omega, by go_num, by rw [List.length_append]; simp; omega, HDc, Lib.hid (by rw [List.length_append, cellsB_append]; exact HOWN.out), HB4⟩
        case measure => simp [intOf]; omega
      · have he : s.data.toList[i] = 37 := by
          rw [beq_iff_eq] at h37
          exact h37
        have hp := u8_is37 _ _ h37
        clear h37
        have wr2 : IntKind.i64.wrap ((i : Int) + 2) = (i : Int) + 2 := by rw [IntKind.wrap_i64]; omega
        by_cases hl : i + 2 < s.size
        · have h2l : i + 2 < s.data.toList.length := by simpa using hl
          have wr1 : IntKind.i64.wrap ((i : Int) + 1) = (i : Int) + 1 := by rw [IntKind.wrap_i64]; omega
          have hl2 : ¬ ((s.size : Int) ≤ (i : Int) + 2) := by omega
          have hl1 : (i : Int) + 1 < (s.size : Int) := by omega
          have hl3 : (i : Int) + 2 < (s.size : Int) := by omega
          have hl4 : (0 : Int) ≤ (i : Int) + 1 := by omega
          have hl5 : (0 : Int) ≤ (i : Int) + 2 := by omega
          have HBD := Lib.hid (fun h => decAt_bad HD.out h0l he (.inr ⟨h2l, h⟩))
          have HES := Lib.hid (fun h1 h2 => decAt_esc HD.out h2l he h1 h2)
          obtain ⟨x, hx⟩ : ∃ x, s[i + 1] = x := ⟨_, rfl⟩
          obtain ⟨y, hy⟩ : ∃ y, s[i + 2] = y := ⟨_, rfl⟩
          have hx' : s.data.toList[i + 1] = x := hx
          have hy' : s.data.toList[i + 2] = y := hy
          rw [hx', hy'] at HBD HES
          clear hx' hy' HD he
          have bx := dgV_bd x
          have by_ := dgV_bd y
          go_wp2_with fail
          refine (rdigit_any x _).mono ?_
          rintro e w2 ⟨rfl, rfl⟩
          by_cases nx : dgV x < 0
          · have HE : Hid (decP s.data.toList = ([], 32)) := Lib.hid (by
              unfold decP
              rw [HBD.out (.inl nx)])
            clear HBD HES bx by_
            go_wp2
            go_ret2
            rw [HE.out]
            exact ⟨rfl, HB.out⟩
          · have nd := decide_eq_false nx
            go_wp2_with fail
            refine (rdigit_any y _).mono ?_
            rintro e w2 ⟨rfl, rfl⟩
            by_cases ny : dgV y < 0
            · have HE : Hid (decP s.data.toList = ([], 32)) := Lib.hid (by
                unfold decP
                rw [HBD.out (.inr ny)])
              clear HBD HES bx by_
              go_wp2
              go_ret2
              rw [HE.out]
              exact ⟨rfl, HB.out⟩
            · have ne := decide_eq_false ny
              obtain ⟨v, hv, hvn⟩ := hex_byte (dgV x) (dgV y) (by omega) (by omega) (by omega) (by omega)
              have HD2 := Lib.hid (HES.out (by omega) (by omega))
              rw [hv] at HD2
              have c1 : IntKind.i64.wrap (dgV x * 16) = dgV x * 16 := by rw [IntKind.wrap_i64]; omega
              have c2 : IntKind.i64.wrap (dgV x * 16 + dgV y) = dgV x * 16 + dgV y := by rw [IntKind.wrap_i64]; omega
              have c3 : IntKind.u8.wrap (dgV x * 16 + dgV y) = (v.toNat : Int) := by rw [IntKind.wrap_u8, hvn]; omega
              have hy9 : s[((i : Int) + 2).toNat]'(by omega) = y := hy
              have KX := Lib.hid (fun u => rdigit_any x u)
              have KY := Lib.hid (fun u => rdigit_any y u)
              clear hv hvn HBD HES bx by_ nx ny
              generalize dgV x = dx at *
              generalize dgV y = dy at *
              obtain ⟨m, hm⟩ : ∃ m, dx * 16 = m := ⟨_, rfl⟩
              obtain ⟨z, hz⟩ : ∃ z, m + dy = z := ⟨_, rfl⟩
              rw [hm] at c2 c3
              rw [hz] at c3
              replace c1 := c1.trans hm
              replace c2 := c2.trans hz
              clear hm hz
              go_upto_region 9 with fail
              have HRd : Hid (wr.drew.ownsRow w.heap.size 5 1 u4 out.length (cellsB out)) := Lib.hid HW.out
              have HBd : Hid (Below w.heap.size w wr.drew) := Lib.hid HB.out.drew
              have hwz : w.heap.size ≤ wr.drew.heap.size := HBd.out.size
              (try simp only [List.append])
              refine wp_region_held_drew (S := (fun _ => True)) (by kernel_rfl) (trivial) (fun hHeld => ?_)
              refine takeW 0 ?_
              refine takeW 1 ?_
              refine takeW 2 ?_
              refine takeW 3 ?_
              (try simp only [Act.put, List.setIfInBounds_toArray, List.set_cons_zero, List.set_cons_succ])
              refine takeW 4 ?_
              refine takeW 7 ?_
              refine takeW 8 ?_
              refine takeW 9 ?_
              (try simp only [Act.put, List.setIfInBounds_toArray, List.set_cons_zero, List.set_cons_succ])
              refine takeW 10 ?_
              (try simp only [Act.put, List.setIfInBounds_toArray, List.set_cons_zero, List.set_cons_succ])
              refine wpAnyH_ready (rs := [5]) (by kernel_rfl) (by simp) ?_
              refine AllReadyH.cons rfl (fun K2 hK2 => ?_) AllReadyH.nil
              go_simp
              refine (KX.out _).mono ?_
              rintro e w6 ⟨rfl, rfl⟩
              refine hK2.out _ _ trivial (fun _ => ?_)
              refine takeW 6 ?_
              (try simp only [Act.put, List.setIfInBounds_toArray, List.set_cons_zero, List.set_cons_succ])
              refine wpAnyH_ready (rs := [11]) (by kernel_rfl) (by simp) ?_
              refine AllReadyH.cons rfl (fun K2 hK2 => ?_) AllReadyH.nil
              go_simp
              (try simp only [hy9])
              refine (KY.out _).mono ?_
              rintro e w6 ⟨rfl, rfl⟩
              refine hK2.out _ _ trivial (fun _ => ?_)
              refine takeW 12 ?_
              refine takeW 13 ?_
              (try simp only [Act.put, List.setIfInBounds_toArray, List.set_cons_zero, List.set_cons_succ])
              refine wpAnyH_ready (rs := [14]) (by kernel_rfl) (by simp) ?_
              refine AllReadyH.cons rfl (fun K2 hK2 => ?_) AllReadyH.nil
              go_simp
              refine hK2.out _ _ trivial (fun _ => ?_)
              (try simp only [Act.put, List.setIfInBounds_toArray, List.set_cons_zero, List.set_cons_succ])
              refine wpAnyH_ready (rs := [15]) (by kernel_rfl) (by simp) ?_
              refine AllReadyH.cons rfl (fun K2 hK2 => ?_) AllReadyH.nil
              skip
              refine step_append_sl _ rfl (.tmp 43) (.tmp 57) _ rfl w.heap.size 5 i0 _ 1 1 Tryz.underlying78 hi hz0 hz1 hz2 rfl (by omega) _ out.length (cellsB out) rfl (HRd.out.alloc _) (some ⟨wr.drew.heap.size, 0, none⟩) 1 1 [.int .u8 (v.toNat : Int)] rfl (Sl.lit wr.drew 1 [.int .u8 (v.toNat : Int)] _ 1 rfl) (cellsB_one [v]) (by simp only [maxLen]; omega) (by omega) (by simp; omega) ?_
              intro v5 w5 hown5 hg5 hat5
              change K2 (Act.put _ (some 58) v5) w5
              refine hK2.out _ _ trivial (fun _ => ?_)
              (try simp only [Act.put, List.setIfInBounds_toArray, List.set_cons_zero, List.set_cons_succ])
              refine takeW 16 ?_
              (try simp only [Act.put, List.setIfInBounds_toArray, List.set_cons_zero, List.set_cons_succ])
              refine wpAnyH_done (by kernel_rfl) ?_ _
              have HB4 := Lib.hid ((HBd.out.alloc hwz _).grown hg5 (by simp; omega) (fun g hg => (HRd.out.lt g hg).1))
              have HOWN := Lib.hid hown5
              clear hown5 hg5 hat5
              have wr3 : IntKind.i64.wrap ((i : Int) + 3) = (i : Int) + 3 := by rw [IntKind.wrap_i64]; omega
              go_wp2
              go_roundw
              case rel => exact ⟨i + 3, out ++ [v], by omega, by go_num, by rw [List.length_append]; simp; omega, HD2, Lib.hid (by rw [List.length_append, cellsB_append]; exact HOWN.out), HB4⟩
              case measure => simp [intOf]; omega
        · have hl2 : (s.size : Int) ≤ (i : Int) + 2 := by omega
          have HE : Hid (decP s.data.toList = ([], 32)) := Lib.hid (by
            unfold decP
            rw [decAt_bad HD.out h0l he (.inl (by simp; omega))])
          clear HD he
          go_wp2
          go_ret2
          rw [HE.out]
          exact ⟨rfl, HB.out⟩
    · have HE : Hid (decP s.data.toList = if 0 ≤ chk out then ([], 10) else (out, 0)) := Lib.hid (by
        unfold decP
        rw [decAt_end HD.out (by simp; omega)])
      clear HD
      have hconv := run_txt out HW.out
      have hsz : (ByteArray.mk out.toArray).size ≤ 1000000000 := by
        show out.toArray.size ≤ _
        rw [List.size_toArray]; omega
      go_wp2_with fail
      refine (rcheck_any _ _ hsz).mono ?_
      rintro e w2 ⟨rfl, hb⟩
      have hconv2 := run_txt out (own_below HW.out hb)
      have HB2 := Lib.hid (HB.out.trans (hb.mono hbs))
      rw [show (ByteArray.mk out.toArray).data.toList = out from by simp]
      by_cases hk : 0 ≤ chk out
      · rw [if_pos hk] at HE
        go_wp2
        go_ret2
        rw [HE.out]
        exact ⟨rfl, HB2.out⟩
      · rw [if_neg hk] at HE
        go_wp2
        go_ret2
        rw [HE.out]
        exact ⟨rfl, HB2.out⟩
end Go.Proofs.YtbeglliabpflpaaGreatDoor
namespace Wb
open Go Go.RowKit
def pcsB (c : UInt8) (s : ByteArray) : List ByteArray := (pieceF c s.data.toList).map fun l => ⟨l.toArray⟩
theorem ext_sub (s : ByteArray) (a b : Nat) : (s.extract a b).data.toList = (s.data.toList.take b).drop a := by
  rw [ByteArray.data_extract, Array.toList_extract]
  unfold List.extract
  rw [List.drop_take]
end Wb
namespace Go.Proofs.YtbeglliabpflpaaGreatDoor
open Go.RowKit Wb
theorem txt_string : (Tryz.prog.info? 9).map (fun i => (i.zero, i.size, i.bytes)) = some (some (.string ⟨#[]⟩), 1, 16) := by kernel_rfl
def PieOut (L : List ByteArray) (w : World) (e : Ending) (w' : World) : Prop := ∃ v, e = .returned v ∧ w'.ownsRow w.heap.size 9 1 v L.length (cells1 L) ∧ Below w.heap.size w w'
end Go.Proofs.YtbeglliabpflpaaGreatDoor
namespace Go.Proofs.YtbeglliabpflpaaGreatDoor
open Go.RowKit Wb
theorem beg_list {s t : ByteArray} {i : Nat} : begAt s i t = decide ((s.data.toList.drop i).take t.size = t.data.toList) := by
  unfold begAt
  rw [ByteArray.toList_eq, ByteArray.toList_eq, ext_list, Nat.add_sub_cancel_left, Bool.eq_iff_iff, beq_iff_eq, decide_eq_true_eq]
theorem beg_one {s : ByteArray} {c : UInt8} {i : Nat} (h : i < s.data.toList.length) : begAt s i ⟨#[c]⟩ = decide (s.data.toList[i] = c) := by
  rw [beg_list]
  have e : (⟨#[c]⟩ : ByteArray).size = 1 := rfl
  have e2 : (⟨#[c]⟩ : ByteArray).data.toList = [c] := rfl
  rw [e, e2, List.drop_eq_getElem_cons h, List.take_succ_cons, List.take_zero]
  simp
theorem drop_two (s : ByteArray) {a k : Nat} (h1 : a ≤ k) (h2 : k < s.data.toList.length) : s.data.toList.drop a = (s.extract a k).data.toList ++ s.data.toList[k] :: s.data.toList.drop (k + 1) := by
  rw [ext_list, ← List.drop_eq_getElem_cons h2]
  have : s.data.toList.drop k = (s.data.toList.drop a).drop (k - a) := by rw [List.drop_drop]; congr 1; omega
  rw [this, List.take_append_drop]
theorem idx_list {s : ByteArray} {a : Nat} {c : UInt8} {r : Int} (h : IdxIs s a ⟨#[c]⟩ r) :
    (r = -1 ∧ ∀ x ∈ s.data.toList.drop a, x ≠ c) ∨ ∃ k : Nat, r = k ∧ a ≤ k ∧ k < s.size ∧ s.data.toList.drop a = (s.extract a k).data.toList ++ c :: s.data.toList.drop (k + 1) ∧ ∀ x ∈ (s.extract a k).data.toList, x ≠ c := by
  have e1 : (⟨#[c]⟩ : ByteArray).size = 1 := rfl
  have hsz : s.data.toList.length = s.size := by simp
  rcases h with ⟨h1, h2⟩ | ⟨k, h1, h2, h3, h4, h5⟩
  · refine .inl ⟨h1, fun x hx e => ?_⟩
    obtain ⟨i, hi, hxi⟩ := List.getElem_of_mem hx
    rw [List.length_drop] at hi
    have := h2 (a + i) (by omega) (by omega)
    rw [beg_one (by omega), decide_eq_false_iff_not] at this
    apply this
    rw [List.getElem_drop] at hxi
    rw [hxi]
    exact e
  · rw [e1] at h3
    rw [beg_one (by omega), decide_eq_true_eq] at h4
    refine .inr ⟨k, h1, h2, by omega, ?_, fun x hx e => ?_⟩
    · have := drop_two s h2 (k := k) (by omega)
      rw [h4] at this
      exact this
    · obtain ⟨i, hi, hxi⟩ := List.getElem_of_mem hx
      have hl : i < k - a := by
        rw [ext_list, List.length_take, List.length_drop] at hi
        omega
      have := h5 (a + i) (by omega) (by omega)
      rw [beg_one (by omega), decide_eq_false_iff_not] at this
      apply this
      have hg : (s.extract a k).data.toList[i] = s.data.toList[a + i] := by
        simp only [ext_list, List.getElem_take, List.getElem_drop]
      rw [← hg, hxi]
      exact e
theorem bind_facts {s : ByteArray} {a : Nat} {b : Bool} {re rq : Int} (ha : a < s.size) (he : IdxIs s a ⟨#[41]⟩ re) (hq : IdxIs s a ⟨#[61]⟩ rq) (hb : begB s a ⟨#[120, 109, 108, 110, 115, 40]⟩ = b) :
    (bind1 (s.data.toList.drop a) = none ∧ (b = false ∨ (b = true ∧ re = -1) ∨ (b = true ∧ 0 ≤ re ∧ rq = -1) ∨ (b = true ∧ 0 ≤ re ∧ 0 ≤ rq ∧ re < rq) ∨
      (∃ k1 k2 : Nat, b = true ∧ re = k1 ∧ rq = k2 ∧ a + 6 ≤ k2 ∧ k2 < k1 ∧ k1 < s.size ∧ nameB (s.extract (a + 6) k2).data.toList = false))) ∨
    (∃ k1 k2 : Nat, b = true ∧ re = k1 ∧ rq = k2 ∧ a + 6 ≤ k2 ∧ k2 < k1 ∧ k1 < s.size ∧ nameB (s.extract (a + 6) k2).data.toList = true ∧
      bind1 (s.data.toList.drop a) = some (((s.extract (a + 6) k2).data.toList, (s.extract (k2 + 1) k1).data.toList), s.data.toList.drop (k1 + 1))) := by
  have hsz : s.data.toList.length = s.size := by simp
  have hb2 : b = decide ((s.data.toList.drop a).take 6 = sBindK) := by
    rw [← hb]
    unfold begB
    rw [beg_list]
    have e6 : (⟨#[120, 109, 108, 110, 115, 40]⟩ : ByteArray).size = 6 := rfl
    rw [e6]
    show (decide ((0 : Int) ≤ a) && (decide ((a : Int) + (6 : Nat) ≤ s.size) && decide (List.take 6 (List.drop (a : Int).toNat s.data.toList) = sBindK))) = _
    rw [Int.toNat_natCast, decide_eq_true (show (0 : Int) ≤ a by omega), Bool.true_and, Bool.eq_iff_iff, Bool.and_eq_true, decide_eq_true_eq, decide_eq_true_eq]
    refine ⟨fun h => h.2, fun h => ⟨?_, h⟩⟩
    have := congrArg List.length h
    rw [List.length_take, List.length_drop] at this
    have e : sBindK.length = 6 := rfl
    omega
  by_cases h6 : (s.data.toList.drop a).take 6 = sBindK
  · have hbt : b = true := by rw [hb2, decide_eq_true h6]
    have h6a : a + 6 ≤ s.size := by
      have := congrArg List.length h6
      rw [List.length_take, List.length_drop] at this
      have e : sBindK.length = 6 := rfl
      omega
    have hd6 : (s.data.toList.drop a).drop 6 = s.data.toList.drop (a + 6) := by rw [List.drop_drop]
    have hsplit : s.data.toList.drop a = sBindK ++ s.data.toList.drop (a + 6) := by rw [← h6, ← hd6, List.take_append_drop]
    -- the places lie behind the word
    have behind : ∀ (c : UInt8) (k : Nat), c ∉ sBindK → a ≤ k → k < s.size → s.data.toList.drop a = (s.extract a k).data.toList ++ c :: s.data.toList.drop (k + 1) →
        (∀ x ∈ (s.extract a k).data.toList, x ≠ c) → a + 6 ≤ k ∧ s.data.toList.drop (a + 6) = (s.extract (a + 6) k).data.toList ++ c :: s.data.toList.drop (k + 1) ∧ ∀ x ∈ (s.extract (a + 6) k).data.toList, x ≠ c := by
      intro c k hc h1 h2 h3 h4
      have hk6 : a + 6 ≤ k := by
        apply Classical.byContradiction
        intro hlt
        have hm : c ∈ (s.data.toList.drop a).take 6 := by
          rw [h3, List.take_append]
          refine List.mem_append_right _ ?_
          have hl : (s.extract a k).data.toList.length = k - a := by rw [ext_list, List.length_take, List.length_drop]; omega
          rw [hl]
          obtain ⟨m, hm⟩ : ∃ m, 6 - (k - a) = m + 1 := ⟨5 - (k - a), by omega⟩
          rw [hm, List.take_succ_cons]
          simp
        rw [h6] at hm
        exact hc hm
      have hck : s.data.toList[k]'(by omega) = c := by
        have e1 := drop_two s h1 (k := k) (by omega)
        rw [h3] at e1
        have := List.append_cancel_left e1
        injection this with this _
        exact this.symm
      refine ⟨hk6, ?_, fun x hx => ?_⟩
      · have := drop_two s hk6 (k := k) (by omega)
        rw [hck] at this
        exact this
      · refine h4 x ?_
        rw [ext_list] at hx ⊢
        have e : (s.data.toList.drop a).take (k - a) = (s.data.toList.drop a).take 6 ++ ((s.data.toList.drop a).drop 6).take (k - (a + 6)) := by
          rw [show k - a = 6 + (k - (a + 6)) by omega, List.take_add]
        rw [e, hd6]
        exact List.mem_append_right _ hx
    have b1 : bind1 (s.data.toList.drop a) = match cutC 41 (s.data.toList.drop (a + 6)) with
        | none => none
        | some (g, r) => match cutC 61 g with
          | none => none
          | some (n, sp) => if nameB n = true then some ((n, sp), r) else none := by
      conv => lhs; unfold bind1
      rw [if_pos h6, hd6]
      rfl
    rcases idx_list he with ⟨e1, e2⟩ | ⟨k1, e1, e2, e3, e4, e5⟩
    · refine .inl ⟨?_, .inr (.inl ⟨hbt, e1⟩)⟩
      rw [b1, cutC_none fun x hx => e2 x (by rw [hsplit]; exact List.mem_append_right _ hx)]
    · obtain ⟨f1, f2, f3⟩ := behind 41 k1 (by decide) e2 e3 e4 e5
      rw [f2, cutC_at _ f3] at b1
      simp only at b1
      rcases idx_list hq with ⟨q1, q2⟩ | ⟨k2, q1, q2, q3, q4, q5⟩
      · refine .inl ⟨?_, .inr (.inr (.inl ⟨hbt, by omega, q1⟩))⟩
        rw [b1, cutC_none fun x hx => q2 x (by rw [hsplit, f2]; exact List.mem_append_right _ (List.mem_append_left _ hx))]
      · obtain ⟨g1, g2, g3⟩ := behind 61 k2 (by decide) q2 q3 q4 q5
        by_cases hlt : k2 < k1
        · have hseg : (s.extract (a + 6) k1).data.toList = (s.extract (a + 6) k2).data.toList ++ 61 :: (s.extract (k2 + 1) k1).data.toList := by
            have : (s.data.toList.drop (a + 6)).take (k1 - (a + 6)) = ((s.extract (a + 6) k2).data.toList ++ 61 :: s.data.toList.drop (k2 + 1)).take (k1 - (a + 6)) := by rw [← g2]
            rw [ext_list s (a + 6) k1, this]
            have hl : (s.extract (a + 6) k2).data.toList.length = k2 - (a + 6) := by rw [ext_list, List.length_take, List.length_drop]; omega
            rw [List.take_append, List.take_of_length_le (by rw [hl]; omega), hl]
            obtain ⟨m, hm⟩ : ∃ m, k1 - (a + 6) - (k2 - (a + 6)) = m + 1 := ⟨k1 - k2 - 1, by omega⟩
            rw [hm, List.take_succ_cons, ext_list s (k2 + 1) k1, show k1 - (k2 + 1) = m by omega]
          rw [hseg, cutC_at _ g3] at b1
          simp only at b1
          cases hn : nameB (s.extract (a + 6) k2).data.toList with
          | true =>
            rw [hn, if_pos rfl] at b1
            exact .inr ⟨k1, k2, hbt, e1, q1, g1, hlt, e3, hn, b1⟩
          | false =>
            rw [hn, if_neg (by decide)] at b1
            exact .inl ⟨b1, .inr (.inr (.inr (.inr ⟨k1, k2, hbt, e1, q1, g1, hlt, e3, hn⟩)))⟩
        · have hne : k1 ≠ k2 := by
            intro e
            subst e
            rw [e4] at q4
            have := List.append_cancel_left q4
            injection this with this _
            revert this
            decide
          refine .inl ⟨?_, .inr (.inr (.inr (.inl ⟨hbt, by omega, by omega, by omega⟩)))⟩
          rw [b1, cutC_none fun x hx => q5 x (by
            have e : (s.extract a k2).data.toList = ((s.data.toList.drop a).take 6 ++ (s.data.toList.drop (a + 6)).take (k2 - (a + 6))) := by
              rw [ext_list, show k2 - a = 6 + (k2 - (a + 6)) by omega, List.take_add, hd6]
            rw [e]
            refine List.mem_append_right _ ?_
            rw [ext_list] at hx
            have : k1 - (a + 6) ≤ k2 - (a + 6) := by omega
            exact List.mem_of_mem_take (by rw [List.take_take, Nat.min_eq_left this]; exact hx))]
  · refine .inl ⟨?_, .inl (by rw [hb2, decide_eq_false h6])⟩
    unfold bind1
    rw [if_neg h6]
end Go.Proofs.YtbeglliabpflpaaGreatDoor
namespace Wb
theorem bindsL_none {f : Nat} {s : List UInt8} {out : List Pr} (hne : s.dropWhile blkU ≠ []) (h : bind1 (s.dropWhile blkU) = none) : bindsL (f + 1) s out = ([], 4) := by
  rw [bindsL]
  split
  · rename_i e; exact absurd e hne
  · rename_i c l e
    rw [← e, h]
theorem bindsL_some {f : Nat} {s n sp r : List UInt8} {out : List Pr} (hne : s.dropWhile blkU ≠ []) (h : bind1 (s.dropWhile blkU) = some ((n, sp), r)) :
    bindsL (f + 1) s out = if 16 ≤ out.length then ([], 3) else if bindB ⟨n.toArray⟩ ⟨sp.toArray⟩ = 0 then bindsL f r (out ++ [(⟨n.toArray⟩, ⟨sp.toArray⟩)]) else ([], bindB ⟨n.toArray⟩ ⟨sp.toArray⟩) := by
  rw [bindsL]
  split
  · rename_i e; exact absurd e hne
  · rename_i c l e
    rw [← e, h]
theorem bindsL_end {f : Nat} {s : List UInt8} {out : List Pr} (h : s.dropWhile blkU = []) : bindsL (f + 1) s out = (out, 0) := by
  rw [bindsL, h]
theorem ext_to (s : ByteArray) (a b : Nat) : (⟨(s.extract a b).data.toList.toArray⟩ : ByteArray) = s.extract a b := to_list _
end Wb
namespace Go.Proofs.YtbeglliabpflpaaGreatDoor
open Go.RowKit Wb
def BindsOut (m : List Pr × Int) (w : World) (e : Ending) (w' : World) : Prop := ∃ A c, e = .returned (.tuple #[.slice A m.1.length c, .int .i64 m.2]) ∧ Sl2 w' A m.1 ∧ Below w.heap.size w w'
theorem BindsOut.bad {k : Int} {w w' : World} (hb : Below w.heap.size w w') : BindsOut ([], k) w (.returned (.tuple #[.slice none 0 0, .int .i64 k])) w' := ⟨none, 0, rfl, Sl2.nil _ _, hb⟩
set_option maxRecDepth 100000 in
set_option maxHeartbeats 8000000 in
theorem rbinds_any (q : ByteArray) (w : World) (hq : q.size ≤ 1000000) :
    Calls Tryz.prog 9 #[.string q] w (BindsOut (bindsP q.data.toList) w) := by
  obtain ⟨o, ho⟩ : ∃ o, bindsP q.data.toList = o := ⟨_, rfl⟩
  rw [ho]
  unfold bindsP at ho
  have hd := fun v => rdecode_any q v hq
  obtain ⟨s, e0, hse⟩ : ∃ s e0, decP q.data.toList = (s, e0) := ⟨_, _, rfl⟩
  have hsl : s.length ≤ q.size := by
    have := decP_len q.data.toList
    rw [hse] at this
    simpa using this
  rw [hse] at ho hd
  simp only at ho hd
  obtain ⟨S, hS⟩ : ∃ S : ByteArray, ⟨s.toArray⟩ = S := ⟨_, rfl⟩
  have hSl : S.data.toList = s := by rw [← hS]
  have hSz : S.size = s.length := by rw [← hS]; show s.toArray.size = _; simp
  rw [hS] at hd
  clear hse hS
  by_cases h0 : e0 = 0
  · subst h0
    rw [if_pos rfl] at ho
    have HO := Lib.hid ho
    have hSq : S.size ≤ 1000000 := by omega
    have HSL := Lib.hid hSl
    have HSZ := Lib.hid hSz
    clear ho hSl hSz hsl
    go_enter Tryz.func9, Tryz.ntmps9
    go_wp2_with fail
    refine (hd _).mono ?_
    rintro e w1 ⟨rfl, hb1⟩
    have HB1 := Lib.hid hb1
    clear hd hb1
    go_wp2
    go_loopw [6, 7] (fun v6 v7 wr => ∃ (f i : Nat) (out : List Pr) (A : Option Addr) (c : Nat), i ≤ S.size ∧ S.size - i < f ∧ v6 = .slice A out.length c ∧ v7 = .int .i64 i ∧ out.length ≤ 16 ∧ Hid (bindsL f (S.data.toList.drop i) out = o) ∧ Hid (Sl2 wr A out) ∧ Hid (Below w.heap.size w wr)) (fun _ v7 _ => ((S.size : Int) - intOf v7).toNat)
    case atStart => exact ⟨s.length + 1, 0, [], none, 0, by omega, by rw [HSZ.out]; omega, rfl, rfl, by simp, Lib.hid (by rw [List.drop_zero, HSL.out]; exact HO.out), Lib.hid (Sl2.nil _ _), HB1⟩
    case round =>
      clear HO HB1
      obtain ⟨f, i, out, A, c, hi, hf, rfl, rfl, hol, HL, HA, HB⟩ := hrel
      obtain ⟨f, rfl⟩ : ∃ g, f = g + 1 := ⟨f - 1, by omega⟩
      go_wp2
      go_loopw [7] (fun v7 wq => ∃ j : Nat, i ≤ j ∧ j ≤ S.size ∧ v7 = .int .i64 j ∧ Hid ((S.data.toList.drop j).dropWhile blkU = (S.data.toList.drop i).dropWhile blkU) ∧ wq = wr) (fun v7 _ => ((S.size : Int) - intOf v7).toNat)
      case atStart => exact ⟨i, by omega, hi, rfl, Lib.hid rfl, rfl⟩
      case round =>
        obtain ⟨j, hij, hj, rfl, HD, rfl⟩ := hrel
        by_cases hjs : j < S.size
        · have hjl : j < S.data.toList.length := by simpa using hjs
          have hdc : S.data.toList.drop j = S[j] :: S.data.toList.drop (j + 1) := List.drop_eq_getElem_cons hjl
          have hbl := fun v => rblank_any (S[j].toNat : Int) v
          have w1 : IntKind.i64.wrap ((j : Int) + 1) = (j : Int) + 1 := by rw [IntKind.wrap_i64]; omega
          cases hb : blk (S[j].toNat : Int) with
          | true =>
            rw [hb] at hbl
            have HD2 : Hid ((S.data.toList.drop (j + 1)).dropWhile blkU = (S.data.toList.drop i).dropWhile blkU) := Lib.hid (by
              rw [← HD.out, hdc, List.dropWhile_cons, if_pos (by exact hb)])
            clear hb hdc HD
            go_wp2_with fail
            refine (hbl _).mono ?_
            rintro e w2 ⟨rfl, rfl⟩
            clear hbl
            go_wp2
            go_roundw
            case rel => exact ⟨j + 1, by omega, by omega, by go_num, HD2, by first | rfl | trivial⟩
            case measure => simp [intOf]; omega
          | false =>
            rw [hb] at hbl
            have hdw : (S.data.toList.drop i).dropWhile blkU = S.data.toList.drop j := by
              rw [← HD.out, hdc, List.dropWhile_cons, if_neg (by show ¬ blk _ = true; rw [hb]; decide)]
            have hne : (S.data.toList.drop i).dropWhile blkU ≠ [] := by rw [hdw, hdc]; simp
            have i1 := fun v => index_any S ⟨#[41]⟩ j v (by omega) (by decide) (by omega)
            have i2 := fun v => index_any S ⟨#[61]⟩ j v (by omega) (by decide) (by omega)
            have i3 := fun v => begins_any S ⟨#[120, 109, 108, 110, 115, 40]⟩ (j : Int) v (by omega) (by decide) (by omega) (by omega)
            have I2 := Lib.hid i2
            have I3 := Lib.hid i3
            clear hb hdc HD i2 i3
            go_wp2_with fail
            refine (hbl _).mono ?_
            rintro e w2 ⟨rfl, rfl⟩
            clear hbl
            go_wp2_with fail
            refine (i1 _).mono ?_
            rintro e w2 ⟨re, rfl, hre, rfl⟩
            have HRE := Lib.hid hre
            clear i1 hre
            go_wp2_with fail
            refine (I2.out _).mono ?_
            rintro e w2 ⟨rq, rfl, hrq, rfl⟩
            have HRQ := Lib.hid hrq
            clear I2 hrq
            go_wp2_with fail
            refine (I3.out _).mono ?_
            rintro e w2 ⟨rfl, rfl⟩
            clear I3
            obtain ⟨b, hb⟩ : ∃ b, begB S j ⟨#[120, 109, 108, 110, 115, 40]⟩ = b := ⟨_, rfl⟩
            have hfa := bind_facts hjs HRE.out HRQ.out hb
            rw [hb]
            rw [← hdw] at hfa
            clear HRE HRQ hb
            rcases hfa with ⟨hb1, hcase⟩ | ⟨k1, k2, rfl, rfl, rfl, h6, hk, hk1, hn, hb1⟩
            · have HE : Hid (o = ([], 4)) := Lib.hid (HL.out.symm.trans (bindsL_none hne hb1))
              clear hb1 hdw hne HL
              rcases hcase with rfl | ⟨rfl, rfl⟩ | ⟨rfl, h1, rfl⟩ | ⟨rfl, h1, h2, h3⟩ | ⟨k1, k2, rfl, rfl, rfl, h6, hk, hk1, hn⟩
              · go_wp2
                go_ret2
                rw [HE.out]
                exact BindsOut.bad HB.out
              · go_wp2
                go_ret2
                rw [HE.out]
                exact BindsOut.bad HB.out
              · have h1' : ¬ re < 0 := by omega
                go_wp2
                go_ret2
                rw [HE.out]
                exact BindsOut.bad HB.out
              · have h1' : ¬ re < 0 := by omega
                have h2' : ¬ rq < 0 := by omega
                go_wp2
                go_ret2
                rw [HE.out]
                exact BindsOut.bad HB.out
              · have hnm := fun v => rname_any (S.extract (j + 6) k2) v (by rw [ByteArray.size_extract]; omega)
                rw [hn] at hnm
                have g1 : ¬ ((k1 : Int) < (k2 : Int)) := by omega
                have g2 : (j : Int) + 6 ≤ (k2 : Int) := by omega
                have g3 : (k2 : Int) ≤ (S.size : Int) := by omega
                have w6 : IntKind.i64.wrap ((j : Int) + 6) = (j : Int) + 6 := by rw [IntKind.wrap_i64]; omega
                go_wp2_with fail
                refine (hnm _).mono ?_
                rintro e w3 ⟨rfl, hb3⟩
                have HB3 := Lib.hid (HB.out.trans (hb3.mono HB.out.size))
                clear hnm hb3
                go_wp2
                go_ret2
                rw [HE.out]
                exact BindsOut.bad HB3.out
            · have HS := Lib.hid (HL.out.symm.trans (bindsL_some hne hb1))
              clear hb1 hdw hne HL
              have hnm := fun v => rname_any (S.extract (j + 6) k2) v (by rw [ByteArray.size_extract]; omega)
              rw [hn] at hnm
              have g1 : ¬ ((k1 : Int) < (k2 : Int)) := by omega
              have g2 : (j : Int) + 6 ≤ (k2 : Int) := by omega
              have g3 : (k2 : Int) ≤ (S.size : Int) := by omega
              have w6 : IntKind.i64.wrap ((j : Int) + 6) = (j : Int) + 6 := by rw [IntKind.wrap_i64]; omega
              by_cases h16 : 16 ≤ out.length
              · rw [if_pos h16] at HS
                have h17 : ((out.length : Int) == 16) = true := by rw [beq_iff_eq]; omega
                go_wp2_with fail
                refine (hnm _).mono ?_
                rintro e w3 ⟨rfl, hb3⟩
                have HB3 := Lib.hid (HB.out.trans (hb3.mono HB.out.size))
                clear hnm hb3
                go_wp2
                go_ret2
                rw [HS.out]
                exact BindsOut.bad HB3.out
              · rw [if_neg h16] at HS
                have h17 : ((out.length : Int) == 16) = false := by rw [beq_eq_false_iff_ne]; omega
                have g4 : (k2 : Int) + 1 ≤ (k1 : Int) := by omega
                have g5 : (k1 : Int) ≤ (S.size : Int) := by omega
                have g6 : (0 : Int) ≤ (k2 : Int) + 1 := by omega
                have w7 : IntKind.i64.wrap ((k2 : Int) + 1) = (k2 : Int) + 1 := by rw [IntKind.wrap_i64]; omega
                have w8 : IntKind.i64.wrap ((k1 : Int) + 1) = (k1 : Int) + 1 := by rw [IntKind.wrap_i64]; omega
                rw [ext_to, ext_to] at HS
                obtain ⟨P, hP⟩ : ∃ P, S.extract (j + 6) k2 = P := ⟨_, rfl⟩
                obtain ⟨X, hX⟩ : ∃ X, S.extract (k2 + 1) k1 = X := ⟨_, rfl⟩
                have hPs : P.size ≤ 1000000 := by rw [← hP, ByteArray.size_extract]; omega
                have hP2 : S.extract ((j : Int) + 6).toNat k2 = P := by
                  rw [show ((j : Int) + 6).toNat = j + 6 by omega]
                  exact hP
                rw [hP, hX] at HS
                rw [hP] at hnm
                obtain ⟨B, hB⟩ : ∃ B, bindB P X = B := ⟨_, rfl⟩
                rw [hB] at HS
                have HBB := Lib.hid hB
                clear hB
                go_wp2_with fail
                (try rw [hP])
                refine (hnm _).mono ?_
                rintro e w3 ⟨rfl, hb3⟩
                have HB3 := Lib.hid (HB.out.trans (hb3.mono HB.out.size))
                have HA3 := Lib.hid (HA.out.below hb3)
                clear hnm hb3 HA HB
                by_cases hB0 : B = 0
                · subst hB0
                  rw [if_pos rfl] at HS
                  go_upto_region 16 with fail
                  (try simp only [List.append])
                  refine wp_region_held_drew (S := (fun _ => True)) (by kernel_rfl) (trivial) (fun hHeld => ?_)
                  refine takeW 0 ?_
                  refine takeW 1 ?_
                  refine takeW 2 ?_
                  refine takeW 3 ?_
                  (try simp only [Act.put, List.setIfInBounds_toArray, List.set_cons_zero, List.set_cons_succ])
                  refine takeW 4 ?_
                  refine takeW 5 ?_
                  refine takeW 6 ?_
                  refine takeW 7 ?_
                  (try simp only [Act.put, List.setIfInBounds_toArray, List.set_cons_zero, List.set_cons_succ])
                  refine takeW 8 ?_
                  refine takeW 9 ?_
                  refine takeW 10 ?_
                  (try simp only [Act.put, List.setIfInBounds_toArray, List.set_cons_zero, List.set_cons_succ])
                  refine wpAnyH_ready (rs := [11]) (by kernel_rfl) (by simp) ?_
                  refine AllReadyH.cons rfl (fun K2 hK2 => ?_) AllReadyH.nil
                  go_simp
                  (try rw [hP])
                  (try rw [hP2])
                  (try rw [hX])
                  refine (radd_any A out c P X _ (by omega) (by omega) (show Sl2 w3.drew A out from HA3.out)).mono ?_
                  rintro e w4 ⟨hb4, hE⟩
                  have hE2 := hE _ HBB.out.symm
                  have HB4 : Hid (Below w.heap.size w w4) := Lib.hid (HB3.out.drew.trans (hb4.mono HB3.out.drew.size))
                  clear hb4 hE HBB HB3
                  rw [if_pos rfl] at hE2
                  obtain ⟨C, kk, rfl, hC, _⟩ := hE2
                  have HC := Lib.hid hC
                  clear hC
                  refine hK2.out _ _ trivial (fun _ => ?_)
                  refine takeW 12 ?_
                  (try simp only [Act.put, List.setIfInBounds_toArray, List.set_cons_zero, List.set_cons_succ])
                  refine takeW 13 ?_
                  refine takeW 14 ?_
                  refine takeW 15 ?_
                  refine takeW 16 ?_
                  (try simp only [Act.put, List.setIfInBounds_toArray, List.set_cons_zero, List.set_cons_succ])
                  refine wpAnyH_done (by kernel_rfl) ?_ _
                  rw [List.length_append, List.length_singleton] at *
                  go_wp2
                  go_roundw
                  case rel => exact ⟨f, k1 + 1, out ++ [(P, X)], C, kk, by omega, by omega, by simp, by go_num, by simp; omega, Lib.hid HS.out.symm, HC, HB4⟩
                  case measure => simp [intOf]; omega
                · rw [if_neg hB0] at HS
                  have h1b : (B != 0) = true := by simpa using hB0
                  go_upto_region 16 with fail
                  (try simp only [List.append])
                  refine wp_region_held_drew (S := (fun _ => True)) (by kernel_rfl) (trivial) (fun hHeld => ?_)
                  refine takeW 0 ?_
                  refine takeW 1 ?_
                  refine takeW 2 ?_
                  refine takeW 3 ?_
                  (try simp only [Act.put, List.setIfInBounds_toArray, List.set_cons_zero, List.set_cons_succ])
                  refine takeW 4 ?_
                  refine takeW 5 ?_
                  refine takeW 6 ?_
                  refine takeW 7 ?_
                  (try simp only [Act.put, List.setIfInBounds_toArray, List.set_cons_zero, List.set_cons_succ])
                  refine takeW 8 ?_
                  refine takeW 9 ?_
                  refine takeW 10 ?_
                  (try simp only [Act.put, List.setIfInBounds_toArray, List.set_cons_zero, List.set_cons_succ])
                  refine wpAnyH_ready (rs := [11]) (by kernel_rfl) (by simp) ?_
                  refine AllReadyH.cons rfl (fun K2 hK2 => ?_) AllReadyH.nil
                  go_simp
                  (try rw [hP])
                  (try rw [hP2])
                  (try rw [hX])
                  refine (radd_any A out c P X _ (by omega) (by omega) (show Sl2 w3.drew A out from HA3.out)).mono ?_
                  rintro e w4 ⟨hb4, hE⟩
                  have hE2 := hE _ HBB.out.symm
                  have HB4 : Hid (Below w.heap.size w w4) := Lib.hid (HB3.out.drew.trans (hb4.mono HB3.out.drew.size))
                  clear hb4 hE HBB HB3
                  rw [if_neg hB0] at hE2
                  subst hE2
                  refine hK2.out _ _ trivial (fun _ => ?_)
                  refine takeW 12 ?_
                  (try simp only [Act.put, List.setIfInBounds_toArray, List.set_cons_zero, List.set_cons_succ])
                  refine takeW 13 ?_
                  refine takeW 14 ?_
                  refine takeW 15 ?_
                  refine takeW 16 ?_
                  (try simp only [Act.put, List.setIfInBounds_toArray, List.set_cons_zero, List.set_cons_succ])
                  refine wpAnyH_done (by kernel_rfl) ?_ _
                  go_wp2
                  go_ret2
                  rw [HS.out]
                  exact BindsOut.bad HB4.out
        · obtain rfl : j = S.size := by omega
          have hnil : (S.data.toList.drop i).dropWhile blkU = [] := by
            rw [← HD.out, List.drop_eq_nil_of_le (by simp)]
            rfl
          have HE := Lib.hid (HL.out.symm.trans (bindsL_end hnil))
          clear hnil HD HL
          go_wp2
          go_ret2
          rw [HE.out]
          exact ⟨A, c, rfl, HA.out, HB.out⟩
  · rw [if_neg h0] at ho
    have HO := Lib.hid ho
    have h1 : (e0 != 0) = true := by simpa using h0
    clear ho
    go_enter Tryz.func9, Tryz.ntmps9
    go_wp2_with fail
    refine (hd _).mono ?_
    rintro e w1 ⟨rfl, hb1⟩
    have HB1 := Lib.hid hb1
    clear hd hb1
    go_wp2
    go_ret2
    rw [← HO.out]
    exact BindsOut.bad HB1.out
end Go.Proofs.YtbeglliabpflpaaGreatDoor
