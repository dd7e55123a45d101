/- SbF SbH. -/
import Derived.Test.YtbdamneophbnnaaGreatDoorCU18
namespace Wb
open Go Go.RowKit
theorem cells9_len (x : StV) : (Go.Proofs.YtbdamneophbnnaaGreatDoor.cells9 x).length = 9 := rfl
end Wb
namespace Go.Proofs.YtbdamneophbnnaaGreatDoor
open Go.RowKit Wb
theorem emp_or (p : ByteArray) : (p = sE ∧ p.toList = []) ∨ (p ≠ sE ∧ ¬ p.toList = []) := by
  by_cases h : p = sE
  · exact .inl ⟨h, nil_of p ((eqT_iff _ _).2 h)⟩
  · exact .inr ⟨h, ne_nil p (eqT_false.2 h)⟩
theorem nE_iff (a b : ByteArray) : ((a, b) : Pr) = nE ↔ a = sE ∧ b = sE := by unfold nE; rw [Prod.mk.injEq]
def cells9L (l : List StV) : List Value := l.flatMap cells9
theorem cells9L_len : ∀ l : List StV, (cells9L l).length = l.length * 9
  | [] => rfl
  | x :: l => by
    unfold cells9L
    rw [List.flatMap_cons, List.length_append, cells9_len]
    have := cells9L_len l
    unfold cells9L at this
    rw [this, List.length_cons]
    omega
theorem cells9L_at : ∀ (l : List StV) (k : Nat) (x : StV) (j : Nat), l[k]? = some x → j < 9 → (cells9L l)[k * 9 + j]? = (cells9 x)[j]?
  | [], k, x, j, h, _ => by simp at h
  | y :: l, 0, x, j, h, hj => by
    simp only [List.getElem?_cons_zero, Option.some.injEq] at h
    subst h
    unfold cells9L
    rw [List.flatMap_cons, List.getElem?_append_left (by rw [cells9_len]; omega), Nat.zero_mul, Nat.zero_add]
  | y :: l, k + 1, x, j, h, hj => by
    unfold cells9L
    rw [List.flatMap_cons, List.getElem?_append_right (by rw [cells9_len]; omega), cells9_len]
    have := cells9L_at l k x j (by simpa using h) hj
    unfold cells9L at this
    rw [← this]
    congr 1
    omega
theorem cells9L_one (l : List StV) : ∀ u ∈ cells9L l, u.oneCell' = true := by
  intro u hu
  obtain ⟨x, _, hx⟩ := List.mem_flatMap.1 hu
  unfold cells9 at hx
  simp only [List.mem_cons, List.not_mem_nil, or_false] at hx
  rcases hx with rfl | rfl | rfl | rfl | rfl | rfl | rfl | rfl | rfl <;> rfl
def Sl9 (w : World) (A : Option Addr) (l : List StV) : Prop := Sl w 9 A l.length (cells9L l)
theorem Sl9.below {w w' : World} {A : Option Addr} {l : List StV} (h : Sl9 w A l) (hb : Below w.heap.size w w') : Sl9 w' A l := Sl.below h hb
theorem Sl9.at_ {w : World} {A : Option Addr} {l : List StV} (h : Sl9 w A l) {k : Nat} {x : StV} (hx : l[k]? = some x) :
    ∃ ad, A = some ad ∧ ad.block < w.heap.size ∧ w.cell? (ad.add (k * 9)) = some (.int .i64 x.kind) ∧ ∀ j v, 0 < j → (cells9 x)[j]? = some v → w.cell? ⟨(ad.add (k * 9)).block, (ad.add (k * 9)).off + j, none⟩ = some v := by
  have hk : k < l.length := (List.getElem?_eq_some_iff.1 hx).1
  obtain ⟨ad, e, hb, hc⟩ := h.2 (by omega)
  refine ⟨ad, e, hb, ?_, fun j v hj hv => ?_⟩
  · have := cells9L_at l k x 0 hx (by omega)
    exact hc _ _ (by rw [Nat.add_zero] at this; rw [this]; rfl)
  · have hj9 : j < 9 := (List.getElem?_eq_some_iff.1 hv).1
    have := cells9L_at l k x j hx hj9
    rw [← add_succ _ _ j hj]
    exact hc _ _ (by rw [this]; exact hv)
set_option maxRecDepth 100000 in
set_option maxHeartbeats 8000000 in
theorem rshape_any (A : Option Addr) (l : List StV) (c : Nat) (w : World) (hA : Sl9 w A l) (hl : l.length ≤ 1000000) :
    Calls Tryz.prog 54 #[.slice A l.length c] w fun e w' => e = .returned (.bool (shapeS l)) ∧ Below w.heap.size w w' := by
  have HA := Lib.hid hA
  clear hA
  go_enter Tryz.func54, Tryz.ntmps54
  go_wp2
  go_loopw [3] (fun v3 wr => ∃ i : Nat, i ≤ l.length ∧ v3 = .int .i64 i ∧ Hid (shapeL true l = shapeL (decide (i = 0)) (l.drop i)) ∧ Hid (Below w.heap.size w wr)) (fun v3 _ => l.length - (intOf v3).toNat)
  case atStart => exact ⟨0, by omega, rfl, Lib.hid (by simp), Lib.hid (Below.refl _ _)⟩
  case round =>
    obtain ⟨i, hi, rfl, HS, HB⟩ := hrel
    by_cases h0 : i < l.length
    · obtain ⟨x, hx⟩ : ∃ x, l[i]? = some x := ⟨l[i], List.getElem?_eq_getElem h0⟩
      obtain ⟨ad, rfl, had, c0, cj⟩ := (HA.out.below HB.out).at_ hx
      have c1 := cj 1 _ (by omega) rfl
      have c2 := cj 2 _ (by omega) rfl
      have c3 := cj 3 _ (by omega) rfl
      have c4 := cj 4 _ (by omega) rfl
      have c5 := cj 5 _ (by omega) rfl
      have c6 := cj 6 _ (by omega) rfl
      have c7 := cj 7 _ (by omega) rfl
      have c8 := cj 8 _ (by omega) rfl
      clear cj
      obtain ⟨kind, any, ⟨n1, n2⟩, pos, by_, ⟨a1, a2⟩, val⟩ := x
      simp only at c0 c1 c2 c3 c4 c5 c6 c7 c8
      go_upto_region 5 with fail
      have hnew := heap_alloc_new wr (.cells #[.int .i64 kind, .bool any, .string n1, .string n2, .int .i64 pos, .bool by_, .string a1, .string a2, .string val] 46)
      have HBn := Lib.hid (HB.out.alloc HB.out.size (.cells #[.int .i64 kind, .bool any, .string n1, .string n2, .int .i64 pos, .bool by_, .string a1, .string a2, .string val] 46))
      clear c0 c1 c2 c3 c4 c5 c6 c7 c8
      generalize wr.alloc (.cells #[.int .i64 kind, .bool any, .string n1, .string n2, .int .i64 pos, .bool by_, .string a1, .string a2, .string val] 46) = wx at *
      generalize wr.heap.size = g at *
      have c0 : wx.cell? ⟨g, 0, none⟩ = some (.int .i64 kind) := blk_cell hnew 0
      have c1 : wx.cell? ⟨g, 1, none⟩ = some (.bool any) := blk_cell hnew 1
      have c2 : wx.cell? ⟨g, 2, none⟩ = some (.string n1) := blk_cell hnew 2
      have c3 : wx.cell? ⟨g, 3, none⟩ = some (.string n2) := blk_cell hnew 3
      have c4 : wx.cell? ⟨g, 4, none⟩ = some (.int .i64 pos) := blk_cell hnew 4
      have c5 : wx.cell? ⟨g, 5, none⟩ = some (.bool by_) := blk_cell hnew 5
      have c6 : wx.cell? ⟨g, 6, none⟩ = some (.string a1) := blk_cell hnew 6
      have c7 : wx.cell? ⟨g, 7, none⟩ = some (.string a2) := blk_cell hnew 7
      have c8 : wx.cell? ⟨g, 8, none⟩ = some (.string val) := blk_cell hnew 8
      clear hnew HB
      obtain ⟨N, hN⟩ : ∃ N, decide (((n1, n2) : Pr) = nE) = N := ⟨_, rfl⟩
      obtain ⟨M, hM⟩ : ∃ M, decide (((a1, a2) : Pr) = nE) = M := ⟨_, rfl⟩
      obtain ⟨V, hV⟩ : ∃ V, decide (val = sE) = V := ⟨_, rfl⟩
      go_upto_region 5 with fail
      go_cut [5] from 19 to 22 (fun v5 wy => v5 = .bool N ∧ wy = wx)
      case first =>
        rcases emp_or n1 with ⟨e1, p1⟩ | ⟨e1, p1⟩
        · rcases emp_or n2 with ⟨e2, p2⟩ | ⟨e2, p2⟩
          · obtain rfl : true = N := by rw [← hN]; exact (decide_eq_true ((nE_iff _ _).2 ⟨e1, e2⟩)).symm
            clear e1 e2 hN
            go_wp2
            go_meet
            case rel => exact ⟨rfl, rfl⟩
          · obtain rfl : false = N := by rw [← hN]; exact (decide_eq_false fun h => e2 ((nE_iff _ _).1 h).2).symm
            clear e1 e2 hN
            go_wp2
            go_meet
            case rel => exact ⟨rfl, rfl⟩
        · obtain rfl : false = N := by rw [← hN]; exact (decide_eq_false fun h => e1 ((nE_iff _ _).1 h).1).symm
          clear e1 hN
          go_wp2
          go_meet
          case rel => exact ⟨rfl, rfl⟩
      case rest =>
        obtain ⟨rfl, rfl⟩ := hcut
        rename World => wy
        obtain ⟨B, hB⟩ : ∃ B, (!any && decide (pos = 0) && !by_ && M && V) = B := ⟨_, rfl⟩
        obtain ⟨E, hE⟩ : ∃ E, ((any == N) && decide (0 ≤ pos) && decide (pos ≤ 9999) && (by_ || (M && V))) = E := ⟨_, rfl⟩
        have HE := Lib.hid hE
        have HB' := Lib.hid hB
        have HM := Lib.hid hM
        have HV := Lib.hid hV
        have HN := Lib.hid hN
        go_upto_region 6 with fail
        go_cut [6] from 23 to 46 (fun v6 wz => v6 = .bool B ∧ wz = wy)
        case first =>
          clear hE hN
          -- BEGIN BARE
          cases any with
          | true =>
            obtain rfl : false = B := by rw [← hB]; simp
            clear hB
            go_wp2
            go_meet
            case rel => exact ⟨rfl, rfl⟩
          | false =>
            by_cases hp : pos = 0
            · subst hp
              cases by_ with
              | true =>
                obtain rfl : false = B := by rw [← hB]; simp
                clear hB
                go_wp2
                go_meet
                case rel => exact ⟨rfl, rfl⟩
              | false =>
                rcases emp_or a1 with ⟨e1, p1⟩ | ⟨e1, p1⟩
                · rcases emp_or a2 with ⟨e2, p2⟩ | ⟨e2, p2⟩
                  · obtain rfl : true = M := by rw [← hM]; exact (decide_eq_true ((nE_iff _ _).2 ⟨e1, e2⟩)).symm
                    clear e1 e2 hM
                    rcases emp_or val with ⟨e3, p3⟩ | ⟨e3, p3⟩
                    · obtain rfl : true = V := by rw [← hV]; exact (decide_eq_true e3).symm
                      have p4 : val.toList.isEmpty = true := by rw [p3]; rfl
                      clear e3 hV
                      obtain rfl : true = B := by rw [← hB]; simp
                      clear hB
                      go_wp2
                      go_meet
                      case rel => exact ⟨rfl, rfl⟩
                    · obtain rfl : false = V := by rw [← hV]; exact (decide_eq_false e3).symm
                      have p4 := ne_empty val (eqT_false.2 e3)
                      clear e3 hV
                      obtain rfl : false = B := by rw [← hB]; simp
                      clear hB
                      go_wp2
                      go_meet
                      case rel => exact ⟨rfl, rfl⟩
                  · obtain rfl : false = M := by rw [← hM]; exact (decide_eq_false fun h => e2 ((nE_iff _ _).1 h).2).symm
                    clear e1 e2 hM
                    obtain rfl : false = B := by rw [← hB]; simp
                    clear hB
                    go_wp2
                    go_meet
                    case rel => exact ⟨rfl, rfl⟩
                · obtain rfl : false = M := by rw [← hM]; exact (decide_eq_false fun h => e1 ((nE_iff _ _).1 h).1).symm
                  clear e1 hM
                  obtain rfl : false = B := by rw [← hB]; simp
                  clear hB
                  go_wp2
                  go_meet
                  case rel => exact ⟨rfl, rfl⟩
            · have hp2 : (pos == 0) = false := by simpa using hp
              obtain rfl : false = B := by rw [← hB]; simp [hp]
              clear hB
              go_wp2
              go_meet
              case rel => exact ⟨rfl, rfl⟩
          -- END BARE
        case rest =>
          obtain ⟨rfl, rfl⟩ := hcut
          rename World => wz
          obtain ⟨L, hL⟩ : ∃ L, (decide (0 < i) && decide (i + 1 = l.length)) = L := ⟨_, rfl⟩
          have HL := Lib.hid hL
          have HST : Hid (shapeL true l = (shape1 L ⟨kind, any, (n1, n2), pos, by_, (a1, a2), val⟩ && shapeL false (l.drop (i + 1)))) := Lib.hid (by
            rw [HS.out, List.drop_eq_getElem_cons h0, (List.getElem?_eq_some_iff.1 hx).2, shapeL, ← hL]
            congr 2
            rw [Bool.eq_iff_iff]
            simp only [Bool.and_eq_true, Bool.not_eq_true', decide_eq_false_iff_not, List.isEmpty_iff, List.drop_eq_nil_iff, decide_eq_true_eq]
            omega)
          clear hx hB hE hM hV hN
          go_upto_region 7 with fail
          go_cut [7] from 47 to 55 (fun v7 wv => v7 = .bool L ∧ wv = wz)
          case first =>
            by_cases hi0 : i = 0
            · obtain rfl : false = L := by rw [← hL]; simp [hi0]
              have q0 : ¬ (0 : Int) < (i : Int) := by omega
              clear hL hi0
              go_wp2
              go_meet
              case rel => exact ⟨rfl, rfl⟩
            · have q0 : (0 : Int) < (i : Int) := by omega
              have q1 : IntKind.i64.wrap ((l.length : Int) - 1) = (l.length : Int) - 1 := by rw [IntKind.wrap_i64]; omega
              by_cases hl1 : i + 1 = l.length
              · obtain rfl : true = L := by rw [← hL]; simp [hl1]; omega
                have q2 : ((i : Int) == (l.length : Int) - 1) = true := by rw [beq_iff_eq]; omega
                clear hL hi0 hl1
                go_wp2
                go_meet
                case rel => exact ⟨rfl, rfl⟩
              · obtain rfl : false = L := by rw [← hL]; simp [hl1]
                have q2 : ((i : Int) == (l.length : Int) - 1) = false := by rw [beq_eq_false_iff_ne]; omega
                clear hL hi0 hl1
                go_wp2
                go_meet
                case rel => exact ⟨rfl, rfl⟩
          case rest =>
            obtain ⟨rfl, rfl⟩ := hcut
            rename World => wv
            clear hL
            by_cases k1 : kind = 1
            · subst k1
              have hE := HE.out
              have hM := HM.out
              have hV := HV.out
              have HSH : Hid (shape1 L ⟨1, any, (n1, n2), pos, by_, (a1, a2), val⟩ = E) := Lib.hid (by
                rw [← HE.out, ← HN.out, ← HM.out, ← HV.out]
                unfold shape1
                simp)
              clear HE HN HM HV HB' HL
              -- BEGIN EL
              cases any with
              | true =>
                cases N with
                | true =>
                  by_cases hp : 0 ≤ pos
                  · by_cases hq : pos ≤ 9999
                    · cases by_ with
                      | true =>
                        obtain rfl : true = E := by rw [← hE]; simp [hp, hq]
                        clear hE
                        have HS2 : Hid (shapeL true l = shapeL (decide (i + 1 = 0)) (l.drop (i + 1))) := Lib.hid (by rw [HST.out, HSH.out, Bool.true_and, decide_eq_false (show ¬ i + 1 = 0 by omega)])
                        clear HST HS
                        go_wp2
                        go_roundw
                        case rel => exact ⟨i + 1, by omega, by go_num, HS2, HBn⟩
                        case measure => simp [intOf]; omega
                      | false =>
                        rcases emp_or a1 with ⟨e1, p1⟩ | ⟨e1, p1⟩
                        · rcases emp_or a2 with ⟨e2, p2⟩ | ⟨e2, p2⟩
                          · obtain rfl : true = M := by rw [← hM]; exact (decide_eq_true ((nE_iff _ _).2 ⟨e1, e2⟩)).symm
                            clear e1 e2 hM
                            rcases emp_or val with ⟨e3, p3⟩ | ⟨e3, p3⟩
                            · obtain rfl : true = V := by rw [← hV]; exact (decide_eq_true e3).symm
                              have p4 : val.toList.isEmpty = true := by rw [p3]; rfl
                              clear e3 hV
                              obtain rfl : true = E := by rw [← hE]; simp [hp, hq]
                              clear hE
                              have HS2 : Hid (shapeL true l = shapeL (decide (i + 1 = 0)) (l.drop (i + 1))) := Lib.hid (by rw [HST.out, HSH.out, Bool.true_and, decide_eq_false (show ¬ i + 1 = 0 by omega)])
                              clear HST HS
                              go_wp2
                              go_roundw
                              case rel => exact ⟨i + 1, by omega, by go_num, HS2, HBn⟩
                              case measure => simp [intOf]; omega
                            · obtain rfl : false = V := by rw [← hV]; exact (decide_eq_false e3).symm
                              have p4 := ne_empty val (eqT_false.2 e3)
                              clear e3 hV
                              obtain rfl : false = E := by rw [← hE]; simp
                              clear hE
                              have hsf : shapeL true l = false := by rw [HST.out, HSH.out]; rfl
                              have hfin : shapeS l = false := by unfold shapeS; rw [hsf]; rfl
                              have HF := Lib.hid hfin
                              clear hsf hfin HST HS
                              go_wp2
                              go_ret
                              rw [HF.out]
                              exact ⟨rfl, HBn.out⟩
                          · obtain rfl : false = M := by rw [← hM]; exact (decide_eq_false fun h => e2 ((nE_iff _ _).1 h).2).symm
                            clear e1 e2 hM
                            obtain rfl : false = E := by rw [← hE]; simp
                            clear hE
                            have hsf : shapeL true l = false := by rw [HST.out, HSH.out]; rfl
                            have hfin : shapeS l = false := by unfold shapeS; rw [hsf]; rfl
                            have HF := Lib.hid hfin
                            clear hsf hfin HST HS
                            go_wp2
                            go_ret
                            rw [HF.out]
                            exact ⟨rfl, HBn.out⟩
                        · obtain rfl : false = M := by rw [← hM]; exact (decide_eq_false fun h => e1 ((nE_iff _ _).1 h).1).symm
                          clear e1 hM
                          obtain rfl : false = E := by rw [← hE]; simp
                          clear hE
                          have hsf : shapeL true l = false := by rw [HST.out, HSH.out]; rfl
                          have hfin : shapeS l = false := by unfold shapeS; rw [hsf]; rfl
                          have HF := Lib.hid hfin
                          clear hsf hfin HST HS
                          go_wp2
                          go_ret
                          rw [HF.out]
                          exact ⟨rfl, HBn.out⟩
                    · have hq2 : 9999 < pos := by omega
                      obtain rfl : false = E := by rw [← hE]; simp [hq]
                      clear hE
                      have hsf : shapeL true l = false := by rw [HST.out, HSH.out]; rfl
                      have hfin : shapeS l = false := by unfold shapeS; rw [hsf]; rfl
                      have HF := Lib.hid hfin
                      clear hsf hfin HST HS
                      go_wp2
                      go_ret
                      rw [HF.out]
                      exact ⟨rfl, HBn.out⟩
                  · have hp2 : pos < 0 := by omega
                    obtain rfl : false = E := by rw [← hE]; simp [hp]
                    clear hE
                    have hsf : shapeL true l = false := by rw [HST.out, HSH.out]; rfl
                    have hfin : shapeS l = false := by unfold shapeS; rw [hsf]; rfl
                    have HF := Lib.hid hfin
                    clear hsf hfin HST HS
                    go_wp2
                    go_ret
                    rw [HF.out]
                    exact ⟨rfl, HBn.out⟩
                | false =>
                  obtain rfl : false = E := by rw [← hE]; simp
                  clear hE
                  have hsf : shapeL true l = false := by rw [HST.out, HSH.out]; rfl
                  have hfin : shapeS l = false := by unfold shapeS; rw [hsf]; rfl
                  have HF := Lib.hid hfin
                  clear hsf hfin HST HS
                  go_wp2
                  go_ret
                  rw [HF.out]
                  exact ⟨rfl, HBn.out⟩
              | false =>
                cases N with
                | true =>
                  obtain rfl : false = E := by rw [← hE]; simp
                  clear hE
                  have hsf : shapeL true l = false := by rw [HST.out, HSH.out]; rfl
                  have hfin : shapeS l = false := by unfold shapeS; rw [hsf]; rfl
                  have HF := Lib.hid hfin
                  clear hsf hfin HST HS
                  go_wp2
                  go_ret
                  rw [HF.out]
                  exact ⟨rfl, HBn.out⟩
                | false =>
                  by_cases hp : 0 ≤ pos
                  · by_cases hq : pos ≤ 9999
                    · cases by_ with
                      | true =>
                        obtain rfl : true = E := by rw [← hE]; simp [hp, hq]
                        clear hE
                        have HS2 : Hid (shapeL true l = shapeL (decide (i + 1 = 0)) (l.drop (i + 1))) := Lib.hid (by rw [HST.out, HSH.out, Bool.true_and, decide_eq_false (show ¬ i + 1 = 0 by omega)])
                        clear HST HS
                        go_wp2
                        go_roundw
                        case rel => exact ⟨i + 1, by omega, by go_num, HS2, HBn⟩
                        case measure => simp [intOf]; omega
                      | false =>
                        rcases emp_or a1 with ⟨e1, p1⟩ | ⟨e1, p1⟩
                        · rcases emp_or a2 with ⟨e2, p2⟩ | ⟨e2, p2⟩
                          · obtain rfl : true = M := by rw [← hM]; exact (decide_eq_true ((nE_iff _ _).2 ⟨e1, e2⟩)).symm
                            clear e1 e2 hM
                            rcases emp_or val with ⟨e3, p3⟩ | ⟨e3, p3⟩
                            · obtain rfl : true = V := by rw [← hV]; exact (decide_eq_true e3).symm
                              have p4 : val.toList.isEmpty = true := by rw [p3]; rfl
                              clear e3 hV
                              obtain rfl : true = E := by rw [← hE]; simp [hp, hq]
                              clear hE
                              have HS2 : Hid (shapeL true l = shapeL (decide (i + 1 = 0)) (l.drop (i + 1))) := Lib.hid (by rw [HST.out, HSH.out, Bool.true_and, decide_eq_false (show ¬ i + 1 = 0 by omega)])
                              clear HST HS
                              go_wp2
                              go_roundw
                              case rel => exact ⟨i + 1, by omega, by go_num, HS2, HBn⟩
                              case measure => simp [intOf]; omega
                            · obtain rfl : false = V := by rw [← hV]; exact (decide_eq_false e3).symm
                              have p4 := ne_empty val (eqT_false.2 e3)
                              clear e3 hV
                              obtain rfl : false = E := by rw [← hE]; simp
                              clear hE
                              have hsf : shapeL true l = false := by rw [HST.out, HSH.out]; rfl
                              have hfin : shapeS l = false := by unfold shapeS; rw [hsf]; rfl
                              have HF := Lib.hid hfin
                              clear hsf hfin HST HS
                              go_wp2
                              go_ret
                              rw [HF.out]
                              exact ⟨rfl, HBn.out⟩
                          · obtain rfl : false = M := by rw [← hM]; exact (decide_eq_false fun h => e2 ((nE_iff _ _).1 h).2).symm
                            clear e1 e2 hM
                            obtain rfl : false = E := by rw [← hE]; simp
                            clear hE
                            have hsf : shapeL true l = false := by rw [HST.out, HSH.out]; rfl
                            have hfin : shapeS l = false := by unfold shapeS; rw [hsf]; rfl
                            have HF := Lib.hid hfin
                            clear hsf hfin HST HS
                            go_wp2
                            go_ret
                            rw [HF.out]
                            exact ⟨rfl, HBn.out⟩
                        · obtain rfl : false = M := by rw [← hM]; exact (decide_eq_false fun h => e1 ((nE_iff _ _).1 h).1).symm
                          clear e1 hM
                          obtain rfl : false = E := by rw [← hE]; simp
                          clear hE
                          have hsf : shapeL true l = false := by rw [HST.out, HSH.out]; rfl
                          have hfin : shapeS l = false := by unfold shapeS; rw [hsf]; rfl
                          have HF := Lib.hid hfin
                          clear hsf hfin HST HS
                          go_wp2
                          go_ret
                          rw [HF.out]
                          exact ⟨rfl, HBn.out⟩
                    · have hq2 : 9999 < pos := by omega
                      obtain rfl : false = E := by rw [← hE]; simp [hq]
                      clear hE
                      have hsf : shapeL true l = false := by rw [HST.out, HSH.out]; rfl
                      have hfin : shapeS l = false := by unfold shapeS; rw [hsf]; rfl
                      have HF := Lib.hid hfin
                      clear hsf hfin HST HS
                      go_wp2
                      go_ret
                      rw [HF.out]
                      exact ⟨rfl, HBn.out⟩
                  · have hp2 : pos < 0 := by omega
                    obtain rfl : false = E := by rw [← hE]; simp [hp]
                    clear hE
                    have hsf : shapeL true l = false := by rw [HST.out, HSH.out]; rfl
                    have hfin : shapeS l = false := by unfold shapeS; rw [hsf]; rfl
                    have HF := Lib.hid hfin
                    clear hsf hfin HST HS
                    go_wp2
                    go_ret
                    rw [HF.out]
                    exact ⟨rfl, HBn.out⟩
              -- END EL
            · have t1 : (kind == 1) = false := by simpa using k1
              by_cases k2 : kind = 2
              · subst k2
                have HSH : Hid (shape1 L ⟨2, any, (n1, n2), pos, by_, (a1, a2), val⟩ = (L && B)) := Lib.hid (by
                  rw [← HB'.out, ← HM.out, ← HV.out]
                  unfold shape1
                  simp)
                clear HE HN HM HV HB' HL
                cases L with
                | true =>
                  cases B with
                  | true =>
                    have HS2 : Hid (shapeL true l = shapeL (decide (i + 1 = 0)) (l.drop (i + 1))) := Lib.hid (by
                      rw [HST.out, HSH.out, show (true && true) = true from rfl, Bool.true_and, decide_eq_false (show ¬ i + 1 = 0 by omega)])
                    clear HST HS
                    go_wp2
                    go_roundw
                    case rel => exact ⟨i + 1, by omega, by go_num, HS2, HBn⟩
                    case measure => simp [intOf]; omega
                  | false =>
                    have hsf : shapeL true l = false := by rw [HST.out, HSH.out]; rfl
                    have hfin : shapeS l = false := by unfold shapeS; rw [hsf]; rfl
                    have HF := Lib.hid hfin
                    clear hsf hfin HST HS
                    go_wp2
                    go_ret
                    rw [HF.out]
                    exact ⟨rfl, HBn.out⟩
                | false =>
                  have hsf : shapeL true l = false := by rw [HST.out, HSH.out]; rfl
                  have hfin : shapeS l = false := by unfold shapeS; rw [hsf]; rfl
                  have HF := Lib.hid hfin
                  clear hsf hfin HST HS
                  go_wp2
                  go_ret
                  rw [HF.out]
                  exact ⟨rfl, HBn.out⟩
              · have t2 : (kind == 2) = false := by simpa using k2
                by_cases k3 : kind = 3
                · subst k3
                  have HSH : Hid (shape1 L ⟨3, any, (n1, n2), pos, by_, (a1, a2), val⟩ = (L && B && N)) := Lib.hid (by
                    rw [← HB'.out, ← HM.out, ← HV.out, ← HN.out]
                    unfold shape1
                    simp)
                  clear HE HN HM HV HB' HL
                  cases L with
                  | true =>
                    cases B with
                    | true =>
                      cases N with
                      | true =>
                        have HS2 : Hid (shapeL true l = shapeL (decide (i + 1 = 0)) (l.drop (i + 1))) := Lib.hid (by
                          rw [HST.out, HSH.out, show (true && true && true) = true from rfl, Bool.true_and, decide_eq_false (show ¬ i + 1 = 0 by omega)])
                        clear HST HS
                        go_wp2
                        go_roundw
                        case rel => exact ⟨i + 1, by omega, by go_num, HS2, HBn⟩
                        case measure => simp [intOf]; omega
                      | false =>
                        have hsf : shapeL true l = false := by rw [HST.out, HSH.out]; rfl
                        have hfin : shapeS l = false := by unfold shapeS; rw [hsf]; rfl
                        have HF := Lib.hid hfin
                        clear hsf hfin HST HS
                        go_wp2
                        go_ret
                        rw [HF.out]
                        exact ⟨rfl, HBn.out⟩
                    | false =>
                      have hsf : shapeL true l = false := by rw [HST.out, HSH.out]; rfl
                      have hfin : shapeS l = false := by unfold shapeS; rw [hsf]; rfl
                      have HF := Lib.hid hfin
                      clear hsf hfin HST HS
                      go_wp2
                      go_ret
                      rw [HF.out]
                      exact ⟨rfl, HBn.out⟩
                  | false =>
                    have hsf : shapeL true l = false := by rw [HST.out, HSH.out]; rfl
                    have hfin : shapeS l = false := by unfold shapeS; rw [hsf]; rfl
                    have HF := Lib.hid hfin
                    clear hsf hfin HST HS
                    go_wp2
                    go_ret
                    rw [HF.out]
                    exact ⟨rfl, HBn.out⟩
                · have t3 : (kind == 3) = false := by simpa using k3
                  have HSH : Hid (shape1 L ⟨kind, any, (n1, n2), pos, by_, (a1, a2), val⟩ = false) := Lib.hid (by
                    unfold shape1
                    simp [k1, k2, k3])
                  clear HE HN HM HV HB' HL
                  have hsf : shapeL true l = false := by rw [HST.out, HSH.out]; rfl
                  have hfin : shapeS l = false := by unfold shapeS; rw [hsf]; rfl
                  have HF := Lib.hid hfin
                  clear hsf hfin HST HS
                  go_wp2
                  go_ret
                  rw [HF.out]
                  exact ⟨rfl, HBn.out⟩
    · have hst : shapeL true l = true := by rw [HS.out, List.drop_eq_nil_of_le (by omega)]; unfold shapeL; rfl
      obtain ⟨Z, hZ⟩ : ∃ Z, shapeS l = Z := ⟨_, rfl⟩
      have HZ : Hid (shapeS l = (decide (1 ≤ l.length) && decide (l.length ≤ 16))) := Lib.hid (by unfold shapeS; rw [hst, Bool.true_and])
      clear hst hZ HS
      by_cases z1 : 1 ≤ l.length
      · have q1 : (1 : Int) ≤ (l.length : Int) := by omega
        by_cases z2 : l.length ≤ 16
        · have q2 : (l.length : Int) ≤ 16 := by omega
          rw [decide_eq_true z1, decide_eq_true z2] at HZ
          go_wp2
          go_ret
          rw [HZ.out]
          exact ⟨rfl, HB.out⟩
        · have q2 : ¬ (l.length : Int) ≤ 16 := by omega
          rw [decide_eq_true z1, decide_eq_false z2] at HZ
          go_wp2
          go_ret
          rw [HZ.out]
          exact ⟨rfl, HB.out⟩
      · have q1 : ¬ (1 : Int) ≤ (l.length : Int) := by omega
        rw [decide_eq_false z1] at HZ
        go_wp2
        go_ret
        rw [HZ.out]
        exact ⟨rfl, HB.out⟩
end Go.Proofs.YtbdamneophbnnaaGreatDoor
namespace Wb
def siz9 (x : StV) : Nat := x.name.1.size + x.name.2.size + x.attr.1.size + x.attr.2.size + x.val.size
def tot10 (l : List StV) : Nat := (l.map siz9).sum
theorem tot10_step {l : List StV} {k : Nat} {x : StV} (h : l[k]? = some x) : tot10 (l.take (k + 1)) = tot10 (l.take k) + siz9 x := by
  have hk : k < l.length := (List.getElem?_eq_some_iff.1 h).1
  have he : l[k] = x := (List.getElem?_eq_some_iff.1 h).2
  unfold tot10
  rw [List.take_succ_eq_append_getElem hk, he]
  simp
theorem tot10_mem : ∀ {l : List StV} {x : StV}, x ∈ l → siz9 x ≤ tot10 l
  | [], x, h => by simp at h
  | y :: l, x, h => by
    have e : tot10 (y :: l) = siz9 y + tot10 l := rfl
    rw [e]
    rcases List.mem_cons.1 h with rfl | h
    · omega
    · have := tot10_mem h
      omega
theorem min5 (s : ByteArray) : ∃ m : Nat, min (s.size : Int) 5000 = (m : Int) ∧ m ≤ 5000 ∧ (m < 5000 → m = s.size) := by
  refine ⟨min s.size 5000, by omega, by omega, by omega⟩
end Wb
namespace Go.Proofs.YtbdamneophbnnaaGreatDoor
open Go.RowKit Wb
def FewPost10 (l : List StV) (w : World) (e : Ending) (w' : World) : Prop :=
  Below w.heap.size w w' ∧ ∃ b, e = .returned (.bool b) ∧ (b = true → l.length + tot10 l < 5000)
set_option maxRecDepth 100000 in
set_option maxHeartbeats 4000000 in
theorem rssame_eq (A B : Option Addr) (l : List StV) (ca cb : Nat) (w : World) (hA : Sl9 w A l) (hB : Sl9 w B l) (hl : l.length ≤ 1000000) :
    Calls Tryz.prog 15 #[.slice A l.length ca, .slice B l.length cb] w fun e w' => e = .returned (.bool true) ∧ Below w.heap.size w w' := by
  have HA := Lib.hid hA
  have HB := Lib.hid hB
  clear hA hB
  go_enter Tryz.func15, Tryz.ntmps15
  go_wp2
  go_loopw [5] (fun vi wr => ∃ i : Nat, i ≤ l.length ∧ vi = .int .i64 i ∧ Hid (Below w.heap.size w wr)) (fun vi _ => ((l.length : Int) - intOf vi).toNat)
  case atStart => exact ⟨0, by omega, rfl, Lib.hid (Below.refl _ _)⟩
  case round =>
    obtain ⟨i, hi, rfl, HW⟩ := hrel
    by_cases h0 : i < l.length
    · obtain ⟨x, hx⟩ : ∃ x, l[i]? = some x := ⟨l[i], List.getElem?_eq_getElem h0⟩
      obtain ⟨ad, rfl, had, c0, cj⟩ := (HA.out.below HW.out).at_ hx
      obtain ⟨bd, rfl, hbd, e0, ej⟩ := (HB.out.below HW.out).at_ hx
      have c1 := cj 1 _ (by omega) rfl
      have c2 := cj 2 _ (by omega) rfl
      have c3 := cj 3 _ (by omega) rfl
      have c4 := cj 4 _ (by omega) rfl
      have c5 := cj 5 _ (by omega) rfl
      have c6 := cj 6 _ (by omega) rfl
      have c7 := cj 7 _ (by omega) rfl
      have c8 := cj 8 _ (by omega) rfl
      have e1 := ej 1 _ (by omega) rfl
      have e2 := ej 2 _ (by omega) rfl
      have e3 := ej 3 _ (by omega) rfl
      have e4 := ej 4 _ (by omega) rfl
      have e5 := ej 5 _ (by omega) rfl
      have e6 := ej 6 _ (by omega) rfl
      have e7 := ej 7 _ (by omega) rfl
      have e8 := ej 8 _ (by omega) rfl
      have hi0 : (0 : Int) ≤ (i : Int) := by omega
      have hi1 : (i : Int) < (l.length : Int) := by omega
      clear hx had hbd HA HB cj ej
      obtain ⟨kind, any, ⟨n1, n2⟩, pos, by_, ⟨a1, a2⟩, val⟩ := x
      simp only at c0 c1 c2 c3 c4 c5 c6 c7 c8 e0 e1 e2 e3 e4 e5 e6 e7 e8
      go_wp2_with fail
      go_region
      go_wp2
      go_roundw
      case rel => exact ⟨i + 1, by omega, by go_num, Lib.hid HW.out.drew⟩
      case measure => simp [intOf]; omega
    · go_wp2
      go_ret
      exact ⟨rfl, HW.out⟩
set_option maxHeartbeats 8000000 in
set_option maxRecDepth 100000 in
theorem few10_any (A : Option Addr) (l : List StV) (c : Nat) (w : World) (hA : Sl9 w A l) :
    Calls Tryz.prog 12 #[.slice A l.length c] w (FewPost10 l w) := by
  have HA := Lib.hid hA
  clear hA
  by_cases hlen : (l.length : Int) ≤ 5000
  · go_enter Tryz.func12, Tryz.ntmps12
    go_wp2
    go_loopw [3, 4] (fun n i wr => ∃ (k N : Nat), k ≤ l.length ∧ n = .int .i64 N ∧ i = .int .i64 k ∧ N ≤ 30000 ∧ Hid (N < 5000 → l.length + tot10 (l.take k) = N) ∧ Hid (Below w.heap.size w wr)) (fun _ i _ => ((l.length : Int) - intOf i).toNat)
    case atStart => exact ⟨0, l.length, by omega, by rw [show min (l.length : Int) 5000 = (l.length : Int) from by omega], rfl, by omega, Lib.hid (fun _ => by simp [tot10]), Lib.hid (Below.refl _ _)⟩
    case round =>
      obtain ⟨k, N, hk, rfl, rfl, hN, HT, HB⟩ := hrel
      by_cases h1 : (N : Int) < 5000
      · by_cases h0 : (k : Int) < l.length
        · obtain ⟨x, hx⟩ : ∃ x, l[k]? = some x := ⟨l[k], List.getElem?_eq_getElem (by omega)⟩
          obtain ⟨ad, rfl, had, c0, cj⟩ := (HA.out.below HB.out).at_ hx
          have c1 := cj 1 _ (by omega) rfl
          have c2 := cj 2 _ (by omega) rfl
          have c3 := cj 3 _ (by omega) rfl
          have c4 := cj 4 _ (by omega) rfl
          have c5 := cj 5 _ (by omega) rfl
          have c6 := cj 6 _ (by omega) rfl
          have c7 := cj 7 _ (by omega) rfl
          have c8 := cj 8 _ (by omega) rfl
          clear cj
          obtain ⟨m1, q1, b1, s1⟩ := min5 x.name.1
          obtain ⟨m2, q2, b2, s2⟩ := min5 x.name.2
          obtain ⟨m3, q3, b3, s3⟩ := min5 x.attr.1
          obtain ⟨m4, q4, b4, s4⟩ := min5 x.attr.2
          obtain ⟨m5, q5, b5, s5⟩ := min5 x.val
          have HN : Hid (N + m1 + m2 + m3 + m4 + m5 < 5000 → l.length + tot10 (l.take (k + 1)) = N + m1 + m2 + m3 + m4 + m5) := Lib.hid fun h => by
            have t1 := HT.out (by omega)
            have u1 := s1 (by omega)
            have u2 := s2 (by omega)
            have u3 := s3 (by omega)
            have u4 := s4 (by omega)
            have u5 := s5 (by omega)
            rw [tot10_step hx]
            unfold siz9
            omega
          clear hx HT s1 s2 s3 s4 s5
          obtain ⟨kind, any, ⟨n1, n2⟩, pos, by_, ⟨a1, a2⟩, val⟩ := x
          simp only at c0 c1 c2 c3 c4 c5 c6 c7 c8 q1 q2 q3 q4 q5
          have h1b : decide ((N : Int) < 5000) = true := decide_eq_true h1
          go_upto_region 6 with fail
          have hnew := heap_alloc_new wr (.cells #[.int .i64 kind, .bool any, .string n1, .string n2, .int .i64 pos, .bool by_, .string a1, .string a2, .string val] 46)
          have HBn := Lib.hid (HB.out.alloc HB.out.size (.cells #[.int .i64 kind, .bool any, .string n1, .string n2, .int .i64 pos, .bool by_, .string a1, .string a2, .string val] 46))
          clear c0 c1 c2 c3 c4 c5 c6 c7 c8
          generalize wr.alloc (.cells #[.int .i64 kind, .bool any, .string n1, .string n2, .int .i64 pos, .bool by_, .string a1, .string a2, .string val] 46) = wx at *
          generalize wr.heap.size = g at *
          have c2 : wx.cell? ⟨g, 2, none⟩ = some (.string n1) := blk_cell hnew 2
          have c3 : wx.cell? ⟨g, 3, none⟩ = some (.string n2) := blk_cell hnew 3
          have c6 : wx.cell? ⟨g, 6, none⟩ = some (.string a1) := blk_cell hnew 6
          have c7 : wx.cell? ⟨g, 7, none⟩ = some (.string a2) := blk_cell hnew 7
          have c8 : wx.cell? ⟨g, 8, none⟩ = some (.string val) := blk_cell hnew 8
          clear hnew HB
          go_wp2
          go_roundw
          case rel => exact ⟨k + 1, N + m1 + m2 + m3 + m4 + m5, by omega, by go_num, by go_num, by omega, HN, HBn⟩
          case measure => simp [intOf]; omega
        · have hd : decide ((N : Int) < 5000) = true := decide_eq_true h1
          go_wp2
          go_ret
          refine ⟨HB.out, _, rfl, fun _ => ?_⟩
          have := HT.out (by omega)
          rw [List.take_of_length_le (by omega)] at this
          omega
      · go_wp2
        all_goals
          go_ret
          exact ⟨HB.out, _, rfl, fun h => absurd h (by simp)⟩
  · go_enter Tryz.func12, Tryz.ntmps12
    go_wp2
    go_loopw [3, 4] (fun n i wr => n = .int .i64 5000 ∧ i = .int .i64 0 ∧ wr = w) (fun _ _ _ => 0)
    case atStart => exact ⟨by rw [show min (l.length : Int) 5000 = 5000 from by omega], rfl, rfl⟩
    case round =>
      obtain ⟨rfl, rfl, rfl⟩ := hrel
      go_wp2
      all_goals
        go_ret
        exact ⟨Below.refl _ _, _, rfl, fun h => absurd h (by simp)⟩
end Go.Proofs.YtbdamneophbnnaaGreatDoor
