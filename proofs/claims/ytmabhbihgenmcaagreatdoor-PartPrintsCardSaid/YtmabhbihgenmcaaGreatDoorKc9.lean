/- FeM FeN. -/
import Derived.Shelf.Strings.SlTrimAscii
import Derived.Test.YtmabhbihgenmcaaGreatDoorKc8
namespace Go.Proofs.YtmabhbihgenmcaaGreatDoor
open Go.RowKit Wb
set_option maxRecDepth 100000 in
set_option maxHeartbeats 8000000 in
theorem print_any (A : Option Addr) (l : List Pr) (c : Nat) (w : World) (hA : Sl2 w A l) (hl : l.length ≤ 1000000000) (hsz : ∀ x ∈ l, x.1.size ≤ 900000000 ∧ x.2.size ≤ 900000000) (hG : GvF w) :
    Calls Tryz.prog 23 #[.slice A l.length c] w fun e w' => StrOut (printX l) e ∧ Below w.heap.size w w' := by
  obtain ⟨o, ho⟩ : ∃ o, printX l = o := ⟨_, rfl⟩
  rw [ho]
  unfold printX at ho
  have HB0 := Lib.hid (Below.refl w.heap.size w)
  by_cases h8 : 8 < l.length
  · rw [if_pos h8] at ho
    have HO := Lib.hid ho
    clear ho hsz hG hA
    go_enter Tryz.func23, Tryz.ntmps23
    go_wp2
    go_ret2
    rw [← HO.out]
    exact ⟨rfl, HB0.out⟩
  · rw [if_neg h8] at ho
    have HO := Lib.hid ho
    have HA := Lib.hid hA
    have HS := Lib.hid hsz
    have hb0 := (Below.refl w.heap.size w).alloc (Nat.le_refl _) (.cells #[.pointer none, .slice none 0 0] 51)
    have HG := Lib.hid (hG.next hb0)
    have HB1 := Lib.hid hb0
    have HF := Lib.hid (Lib.fresh_isBuilder 51 5 w)
    have hwz : w.heap.size ≤ (w.alloc (.cells #[.pointer none, .slice none 0 0] 51)).heap.size := hb0.size
    clear ho hsz hA hb0
    go_enter Tryz.func23, Tryz.ntmps23
    go_wp2
    go_loopw [16] (fun vi wr => ∃ (i : Nat) (acc : List UInt8), i ≤ l.length ∧ vi = .int .i64 i ∧ acc.length ≤ i * 4000000000 ∧ Hid (o = preE acc (printFs ((l.drop i).map ofPr))) ∧ Hid (Lib.IsBuilder 51 5 w.heap.size w.heap.size (Lib.byteCells acc) wr) ∧ Hid (Below w.heap.size w wr)) (fun vi _ => l.length - (intOf vi).toNat)
    case atStart => exact ⟨0, [], by omega, rfl, by simp, Lib.hid (by rw [preE_nil, List.drop_zero, HO.out]), HF, HB1⟩
    case round =>
      obtain ⟨i, acc, hi, rfl, hacc, HQ, HB, HW⟩ := hrel
      have hws := HW.out.size
      by_cases h0 : i < l.length
      · obtain ⟨⟨n, v⟩, hx⟩ : ∃ x, l[i]? = some x := ⟨l[i], List.getElem?_eq_getElem h0⟩
        obtain ⟨ad, rfl, had, d0, d1⟩ := (HA.out.below HW.out).at_ hx
        obtain ⟨hzn, hzv⟩ := HS.out _ (List.mem_of_getElem? hx)
        have hst := HQ.out
        rw [printFs_step l i _ hx] at hst
        have hba := (Below.refl wr.heap.size wr).alloc (Nat.le_refl _) (.cells #[.string n, .string v] 61)
        have HWA := Lib.hid (HW.out.trans (hba.mono hws))
        have HBA := Lib.hid (isb_below' HB.out hba)
        have h1 := printed_any n v (wr.alloc (.cells #[.string n, .string v] 61)) (by simp at hzn; omega) (by simp at hzv; omega) (hG.next HWA.out)
        have hofp : ofPr (n, v) = (n.data.toList, v.data.toList) := rfl
        rw [hofp] at hst
        simp only at hzn hzv
        clear hx hba hofp HQ HB HW
        cases hlo : linesOf (n.data.toList, v.data.toList) with
        | error k =>
          rw [hlo] at hst h1
          have HST : Hid (o = .error k) := Lib.hid hst
          have hk0 : k = 12 ∨ k = 4 ∨ k = 3 := by
            unfold linesOf at hlo
            split at hlo
            · injection hlo with e; exact .inl e.symm
            split at hlo
            · injection hlo with e; exact .inr (.inl e.symm)
            split at hlo
            · injection hlo with e; exact .inr (.inr e.symm)
            · cases hlo
          clear hst hlo
          rcases hk0 with rfl | rfl | rfl
          all_goals
            go_wp2_with fail
            refine h1.mono ?_
            rintro e w3 ⟨he, hb3⟩
            obtain rfl : e = _ := he
            have HW3 := Lib.hid (HWA.out.trans (hb3.mono HWA.out.size))
            clear hb3 h1
            go_wp2
            go_ret2
            rw [HST.out]
            exact ⟨rfl, HW3.out⟩
        | ok ls =>
          rw [hlo] at hst h1
          have hes := endL_size hlo
          have hln := lines_num (ls := ls)
          simp only at hes
          rw [← ba_size, ← ba_size] at hes
          have HST : Hid (o = preE (acc ++ endL ls) (printFs ((l.drop (i + 1)).map ofPr))) := Lib.hid (by rw [hst]; simp only; rw [preE_app])
          have hnn := (linesOf_ok hlo).2.1
          have hn64 := (named_facts _ hnn).2.1
          simp only at hn64
          rw [← ba_size] at hn64
          clear hst hlo hnn
          go_wp2_with fail
          refine h1.mono ?_
          rintro e w3 ⟨⟨B, cb, he, hB⟩, hb3⟩
          obtain rfl : e = _ := he
          have HW3 := Lib.hid (HWA.out.trans (hb3.mono HWA.out.size))
          have HB3 := Lib.hid (isb_below' HBA.out hb3)
          have HSB := Lib.hid hB
          clear hb3 h1 hB
          go_wp2
          go_loopw [30] (fun vj wq => ∃ j : Nat, j ≤ ls.length ∧ vj = .int .i64 j ∧ Hid (Lib.IsBuilder 51 5 w.heap.size w.heap.size (Lib.byteCells (acc ++ endL (ls.take j))) wq) ∧ Hid (Below w.heap.size w wq) ∧ Hid (OwnS wq B cb (ls.map mkB))) (fun vj _ => ls.length - (intOf vj).toNat)
          case atStart => exact ⟨0, by omega, rfl, Lib.hid (by have := HB3.out; simpa [endL] using this), HW3, HSB⟩
          case round =>
            obtain ⟨j, hj, rfl, HQ2, HW4, HSC⟩ := hrel
            have hws4 := HW4.out.size
            by_cases h1 : j < ls.length
            · obtain ⟨x, hx⟩ : ∃ x, ls[j]? = some x := ⟨ls[j], List.getElem?_eq_getElem h1⟩
              have hxm : (ls.map mkB)[j]? = some (mkB x) := by rw [List.getElem?_map, hx]; rfl
              have e0 := HSC.out.cells hxm
              have het := endL_take hx
              have hle := endL_le ls (j + 1)
              rw [het, List.length_append, List.length_append] at hle
              simp only [List.length_cons, List.length_nil] at hle
              have happ : mkB x ++ (⟨#[13, 10]⟩ : ByteArray) = mkB (x ++ [13, 10]) := mkB_app x [13, 10]
              have hmx : (mkB x).size = x.length := mkB_size x
              have hmy : (mkB (x ++ [13, 10])).size = x.length + 2 := by rw [mkB_size, List.length_append]; rfl
              have g1 : ¬ 9223372036854775807 < (mkB x).size + (⟨#[13, 10]⟩ : ByteArray).size := by have : (⟨#[13, 10]⟩ : ByteArray).size = 2 := rfl; omega
              have hwr := qtwrite_any w.heap.size w.heap.size _ (mkB x ++ (⟨#[13, 10]⟩ : ByteArray)) _ HQ2.out (by rw [Lib.byteCells_length, List.length_append, happ, hmy]; omega) hws4
              have HCE : Hid (Lib.byteCells (acc ++ endL (ls.take j)) ++ Lib.strCells (mkB x ++ (⟨#[13, 10]⟩ : ByteArray)) = Lib.byteCells (acc ++ endL (ls.take (j + 1)))) := Lib.hid (by rw [happ, Lib.strCells_eq, ← Lib.byteCells_append, mkB_list, het, List.append_assoc])
              clear hx hxm het hle happ hmy
              generalize mkB x = bx at *
              go_wp2_with fail
              refine hwr.mono ?_
              rintro e w5 ⟨⟨vv, rfl⟩, hB5, hb5, ht5⟩
              have HW5 := Lib.hid (HW4.out.trans hb5)
              rw [HCE.out] at hB5
              have HB5 := Lib.hid hB5
              have HSD : Hid (OwnS w5 B cb (ls.map mkB)) := Lib.hid (by
                obtain ⟨cur, k1, k2⟩ := HSC.out
                exact OwnS.keep ⟨cur, k1, k2⟩ (ht5 _ _ _ _ (by decide) (by decide) k1))
              clear hwr hb5 hB5 ht5
              go_wp2
              go_roundw
              case rel => exact ⟨j + 1, by omega, by go_num, HB5, HW5, HSD⟩
              case measure => simp [intOf]; omega
            · obtain rfl : j = ls.length := by omega
              rw [List.take_length] at HQ2
              go_wp2
              go_roundw
              case rel => exact ⟨i + 1, acc ++ endL ls, by omega, by go_num, by rw [List.length_append]; omega, HST, HQ2, HW4⟩
              case measure => simp [intOf]; omega
      · obtain rfl : i = l.length := by omega
        have HE : Hid (o = .ok (acc ++ [13, 10])) := Lib.hid (by rw [HQ.out, List.drop_length]; rfl)
        have hwr := qwrite_any w.heap.size w.heap.size _ ⟨#[13, 10]⟩ wr HB.out (by rw [Lib.byteCells_length]; have : (⟨#[13, 10]⟩ : ByteArray).size = 2 := rfl; omega) hws
        clear HQ
        go_wp2_with fail
        refine hwr.mono ?_
        rintro e w3 ⟨⟨vv, rfl⟩, hB3, hb3⟩
        have HW3 := Lib.hid (HW.out.trans hb3)
        have hws3 : w.heap.size ≤ w3.heap.size := HW3.out.size
        have e1 : Lib.byteCells acc ++ Lib.strCells ⟨#[13, 10]⟩ = Lib.byteCells (acc ++ [13, 10]) := by rw [Lib.strCells_eq, ← Lib.byteCells_append]
        rw [e1] at hB3
        have k5 := Tryz.Builder_String_any w.heap.size w.heap.size _ w3 hB3 hws3
        clear hb3 hB3 hwr e1
        go_wp2_with fail
        refine k5.mono ?_
        rintro e w4 ⟨rfl, hb4⟩
        have HW4 := Lib.hid (HW3.out.trans hb4)
        clear hb4 k5
        go_wp2
        go_ret2
        rw [HE.out]
        exact ⟨rfl, HW4.out⟩
end Go.Proofs.YtmabhbihgenmcaaGreatDoor
namespace Wb
open Go
def prepL (a : List (List UInt8)) (o : Option (List (List UInt8) × List UInt8)) : Option (List (List UInt8) × List UInt8) := o.map fun p => (a ++ p.1, p.2)
theorem prepL_nil (o : Option (List (List UInt8) × List UInt8)) : prepL [] o = o := by cases o <;> rfl
theorem prepL_next (acc : List (List UInt8)) (a : List UInt8) (o : Option (List (List UInt8) × List UInt8)) : prepL acc (o.map fun p => (a :: p.1, p.2)) = prepL (acc ++ [a]) o := by
  cases o with
  | none => rfl
  | some p => simp [prepL]
theorem skip_eq (s : ByteArray) : ((spanR blankB s).toList == s.toList) = !headB s.data.toList := by
  rw [Lib.toList_data, Lib.toList_data, spanR_list, Bool.eq_iff_iff, beq_iff_eq, skip_self]
  cases headB s.data.toList <;> simp
end Wb
namespace Go.Proofs.YtmabhbihgenmcaaGreatDoor
open Go.RowKit Wb
def CutLOut (o : Option (List (List UInt8) × List UInt8)) (e : Ending) (w' : World) : Prop :=
  match o with
  | some (ls, r) => ∃ g c, e = .returned (.tuple #[.slice (some ⟨g, 0, none⟩) ls.length c, .string (mkB r), .bool true]) ∧ OwnS w' g c (ls.map mkB)
  | none => e = .returned (.tuple #[.slice none 0 0, .string ⟨#[]⟩, .bool false])
set_option maxRecDepth 100000 in
set_option maxHeartbeats 4000000 in
theorem cutField_any (s : ByteArray) (w : World) (hs : s.size ≤ 1000000000) (hG : GvF w) :
    Calls Tryz.prog 58 #[.string s] w fun e w' => CutLOut (cutL (s.size + 1) s.data.toList) e w' ∧ Below w.heap.size w w' := by
  obtain ⟨i2, hk0, hu0, hu1, hu2⟩ := info_parts strinfo
  obtain ⟨o, ho⟩ : ∃ o, cutL (s.size + 1) s.data.toList = o := ⟨_, rfl⟩
  rw [ho]
  have HO := Lib.hid (show o = prepL [] (cutL (s.size + 1) s.data.toList) by rw [prepL_nil, ho])
  have HG := Lib.hid hG
  clear ho hG
  have e0 : w.ownsRow w.heap.size 9 1 (.slice none 0 0) ([] : List (List UInt8)).length (cells1 (([] : List (List UInt8)).map mkB)) := World.ownsRow_nil _ _ _ _
  have E0 := Lib.hid e0
  clear e0
  go_enter Tryz.func58, Tryz.ntmps58
  go_wp2
  go_loopw [0, 2] (fun v0 v2 wr => ∃ (u : ByteArray) (acc : List (List UInt8)) (f : Nat), v0 = .string u ∧ u.size < f ∧ acc.length + u.size ≤ s.size ∧ Hid (o = prepL acc (cutL f u.data.toList)) ∧ Hid (wr.ownsRow w.heap.size 9 1 v2 acc.length (cells1 (acc.map mkB))) ∧ Hid (Below w.heap.size w wr)) (fun v0 _ _ => Lib.strSize v0)
  case atStart => exact ⟨s, [], s.size + 1, rfl, by omega, by simp, HO, E0, Lib.hid (Below.refl _ _)⟩
  case round =>
    obtain ⟨u, acc, f, rfl, hf, hsz, HQ, HR, HB⟩ := hrel
    obtain ⟨⟨m, hm⟩, _⟩ := HG.out.next HB.out
    have h1 := Tryz.strings_Cut u ⟨#[13, 10]⟩ m wr (by omega) hm
    have e1 : (⟨#[13, 10]⟩ : ByteArray).data.toList = [13, 10] := rfl
    rw [e1, cut_line] at h1
    clear hm e1
    cases hl : lineC u.data.toList with
    | none =>
      rw [hl] at h1
      have HE : Hid (o = none) := Lib.hid (by rw [HQ.out, cutL_stop f _ hl]; rfl)
      clear hl HQ
      go_wp2_with fail
      refine h1.mono ?_
      rintro e w1 ⟨rfl, n, rfl⟩
      clear h1
      go_wp2
      go_ret3
      rw [HE.out]
      exact ⟨rfl, below_drewN HB.out n⟩
    | some p =>
      obtain ⟨a, r⟩ := p
      rw [hl] at h1
      have hlen := lineC_len _ _ _ hl
      rw [← ba_size] at hlen
      obtain ⟨g, hg, hst⟩ := cutL_step f u.data.toList a r hl (by rw [← ba_size]; exact hf)
      have HST := Lib.hid hst
      have hrs : (mkB r).size = r.length := mkB_size r
      have h2 := fun v => skip_any (mkB r) v (by omega)
      have hse := skip_eq (mkB r)
      rw [mkB_list] at hse
      obtain ⟨vA, vc, rfl⟩ := own_shape HR.out
      have hz := HB.out.size
      have h1 : Calls Tryz.prog 87 #[.string u, .string ⟨#[13, 10]⟩] wr fun e w' => e = .returned (.tuple #[.string (mkB a), .string (mkB r), .bool true]) ∧ Below wr.heap.size wr w' := h1.mono fun e w' h => ⟨h.1, by obtain ⟨_, n, rfl⟩ := h; exact below_drewN (Below.refl _ _) n⟩
      have HAB := Lib.hid (show acc.map mkB ++ [mkB a] = (acc ++ [a]).map mkB by rw [List.map_append]; rfl)
      have HRB := Lib.hid (show (mkB r).data.toList = r from rfl)
      obtain ⟨br, hbr⟩ : ∃ b, mkB r = b := ⟨_, rfl⟩
      have HBRR := Lib.hid hbr
      rw [hbr] at h1 h2 hse hrs HRB
      clear hbr
      clear hl hst
      generalize mkB a = ba at *
      generalize spanR blankB br = sk at *
      have fin : ∀ (w1 w5 : World) (v5 : Value), Below wr.heap.size wr w1 → w5.ownsRow w.heap.size 9 1 v5 (acc.length + 1) (cells1 (acc.map mkB) ++ [.string ba]) → (w1.alloc (.cells #[.string ba] 9)).grownBy w5 (Value.slice vA acc.length vc).ownBlock → Below w.heap.size w w5 := fun w1 w5 v5 hb _ hg => by
        have h1 := (HB.out.trans (hb.mono hz)).alloc (by have := hb.size; omega) (.cells #[.string ba] 9)
        exact h1.grown hg (by have := hb.size; simp; omega) (fun k hk => (HR.out.lt k hk).1)
      have FIN := Lib.hid fin
      clear fin
      by_cases hh : headB r = true
      · rw [hh] at hse
        have HQ2 : Hid (o = prepL (acc ++ [a]) (cutL g r)) := Lib.hid (by rw [HQ.out, HST.out, if_pos hh, prepL_next])
        clear HQ HST hh
        go_wp2_with (first
          | (go_at_call 87; refine h1.mono ?_; rintro e w1 ⟨rfl, hb1⟩)
          | (at_builtin; apply Classical.byContradiction; intro hNG))
        have HR1 := own_below HR.out hb1
        have hz1 := hb1.size
        refine hNG ?_
        refine wpList_append_sl _ rfl _ _ _ rfl w.heap.size 9 i2 _ 1 16 Tryz.underlying65 hk0 hu0 hu1 hu2 rfl (by omega) _ acc.length (cells1 (acc.map mkB)) rfl (HR1.alloc _) (some ⟨w1.heap.size, 0, none⟩) 1 1 [.string ba] rfl (Sl.lit w1 1 [.string ba] _ 1 rfl) (cells1_one [ba]) (by simp only [maxLen]; omega) (by omega) (by simp; omega) ?_
        intro v5 w5 hown5 hg5 hat5
        have HB5 := Lib.hid (FIN.out w1 w5 v5 hb1 hown5 hg5)
        have HR5 := Lib.hid hown5
        clear hown5 hg5 hat5 hNG h1 hb1 HR1
        have k2 := h2 w5
        clear h2
        go_wp2_with fail
        refine k2.mono ?_
        rintro e w6 ⟨rfl, hb6⟩
        have HB6 := Lib.hid (HB5.out.trans (hb6.mono HB5.out.size))
        have HR6 := Lib.hid (own_below HR5.out hb6)
        clear hb6 k2
        go_wp2
        go_roundw
        case rel => exact ⟨br, acc ++ [a], g, rfl, by omega, by rw [List.length_append, List.length_singleton]; omega, by rw [HRB.out]; exact HQ2, Lib.hid (by
          have := HR6.out
          rw [List.length_append, List.length_singleton, ← HAB.out, cells1_append]
          exact this), HB6⟩
        case measure =>
          show br.size < u.size
          omega
      · have hh : headB r = false := by simpa using hh
        rw [hh] at hse
        have HE : Hid (o = some (acc ++ [a], r)) := Lib.hid (by rw [HQ.out, HST.out, if_neg (by rw [hh]; simp)]; rfl)
        clear HQ HST hh
        go_wp2_with (first
          | (go_at_call 87; refine h1.mono ?_; rintro e w1 ⟨rfl, hb1⟩)
          | (at_builtin; apply Classical.byContradiction; intro hNG))
        have HR1 := own_below HR.out hb1
        have hz1 := hb1.size
        refine hNG ?_
        refine wpList_append_sl _ rfl _ _ _ rfl w.heap.size 9 i2 _ 1 16 Tryz.underlying65 hk0 hu0 hu1 hu2 rfl (by omega) _ acc.length (cells1 (acc.map mkB)) rfl (HR1.alloc _) (some ⟨w1.heap.size, 0, none⟩) 1 1 [.string ba] rfl (Sl.lit w1 1 [.string ba] _ 1 rfl) (cells1_one [ba]) (by simp only [maxLen]; omega) (by omega) (by simp; omega) ?_
        intro v5 w5 hown5 hg5 hat5
        have HB5 := Lib.hid (FIN.out w1 w5 v5 hb1 hown5 hg5)
        obtain ⟨gg, vd, rfl, HS5⟩ : ∃ g cap, v5 = .slice (some ⟨g, 0, none⟩) (acc.length + 1) cap ∧ OwnS w5 g cap ((acc ++ [a]).map mkB) := by
          rcases hown5.2 with ⟨_, hx⟩ | ⟨g, cap, cur, hv, _, hg, hle, _, _, htk⟩
          · omega
          · refine ⟨g, cap, hv, cur, hg, by rw [List.length_map, List.length_append, List.length_singleton]; exact hle, ?_⟩
            rw [← HAB.out, List.length_append, List.length_singleton, List.length_map, cells1_append]
            rw [Nat.mul_one] at htk
            exact htk
        have HS6 := Lib.hid HS5
        clear hown5 hg5 hat5 hNG h1 hb1 HR1 HS5
        have k2 := h2 w5
        clear h2
        go_wp2_with fail
        refine k2.mono ?_
        rintro e w6 ⟨rfl, hb6⟩
        have HB6 := Lib.hid (HB5.out.trans (hb6.mono HB5.out.size))
        have HS7 := Lib.hid (HS6.out.below hb6)
        clear hb6 k2
        go_wp2
        go_ret3
        rw [HE.out]
        refine ⟨⟨gg, vd, ?_, HS7.out⟩, HB6.out⟩
        rw [List.length_append, List.length_singleton]
        have hbr : mkB r = br := HBRR.out
        rw [hbr]
        rfl
end Go.Proofs.YtmabhbihgenmcaaGreatDoor
