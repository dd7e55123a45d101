/- SbF SaG. -/
import Derived.Test.YtbeglliabpflpaaGreatDoorCU19
namespace Wb
open Go Go.RowKit
theorem cells9_len (x : StV) : (Go.Proofs.YtbeglliabpflpaaGreatDoor.cells9 x).length = 9 := rfl
end Wb
namespace Go.Proofs.YtbeglliabpflpaaGreatDoor
open Go.RowKit Wb
theorem emp_or (p : ByteArray) : (p = sE ∧ p.toList = []) ∨ (p ≠ sE ∧ ¬ p.toList = []) := by
  by_cases h : p = sE
  · exact .inl ⟨h, nil_of p ((eqT_iff _ _).2 h)⟩
  · exact .inr ⟨h, ne_nil p (eqT_false.2 h)⟩
theorem nE_iff (a b : ByteArray) : ((a, b) : Pr) = nE ↔ a = sE ∧ b = sE := by unfold nE; rw [Prod.mk.injEq]
def cells9L (l : List StV) : List Value := l.flatMap cells9
theorem cells9L_len : ∀ l : List StV, (cells9L l).length = l.length * 9
  | [] => rfl
  | x :: l => by
    unfold cells9L
    rw [List.flatMap_cons, List.length_append, cells9_len]
    have := cells9L_len l
    unfold cells9L at this
    rw [this, List.length_cons]
    omega
theorem cells9L_at : ∀ (l : List StV) (k : Nat) (x : StV) (j : Nat), l[k]? = some x → j < 9 → (cells9L l)[k * 9 + j]? = (cells9 x)[j]?
  | [], k, x, j, h, _ => by simp at h
  | y :: l, 0, x, j, h, hj => by
    simp only [List.getElem?_cons_zero, Option.some.injEq] at h
    subst h
    unfold cells9L
    rw [List.flatMap_cons, List.getElem?_append_left (by rw [cells9_len]; omega), Nat.zero_mul, Nat.zero_add]
  | y :: l, k + 1, x, j, h, hj => by
    unfold cells9L
    rw [List.flatMap_cons, List.getElem?_append_right (by rw [cells9_len]; omega), cells9_len]
    have := cells9L_at l k x j (by simpa using h) hj
    unfold cells9L at this
    rw [← this]
    congr 1
    omega
theorem cells9L_one (l : List StV) : ∀ u ∈ cells9L l, u.oneCell' = true := by
  intro u hu
  obtain ⟨x, _, hx⟩ := List.mem_flatMap.1 hu
  unfold cells9 at hx
  simp only [List.mem_cons, List.not_mem_nil, or_false] at hx
  rcases hx with rfl | rfl | rfl | rfl | rfl | rfl | rfl | rfl | rfl <;> rfl
def Sl9 (w : World) (A : Option Addr) (l : List StV) : Prop := Sl w 9 A l.length (cells9L l)
theorem Sl9.below {w w' : World} {A : Option Addr} {l : List StV} (h : Sl9 w A l) (hb : Below w.heap.size w w') : Sl9 w' A l := Sl.below h hb
theorem Sl9.at_ {w : World} {A : Option Addr} {l : List StV} (h : Sl9 w A l) {k : Nat} {x : StV} (hx : l[k]? = some x) :
    ∃ ad, A = some ad ∧ ad.block < w.heap.size ∧ w.cell? (ad.add (k * 9)) = some (.int .i64 x.kind) ∧ ∀ j v, 0 < j → (cells9 x)[j]? = some v → w.cell? ⟨(ad.add (k * 9)).block, (ad.add (k * 9)).off + j, none⟩ = some v := by
  have hk : k < l.length := (List.getElem?_eq_some_iff.1 hx).1
  obtain ⟨ad, e, hb, hc⟩ := h.2 (by omega)
  refine ⟨ad, e, hb, ?_, fun j v hj hv => ?_⟩
  · have := cells9L_at l k x 0 hx (by omega)
    exact hc _ _ (by rw [Nat.add_zero] at this; rw [this]; rfl)
  · have hj9 : j < 9 := (List.getElem?_eq_some_iff.1 hv).1
    have := cells9L_at l k x j hx hj9
    rw [← add_succ _ _ j hj]
    exact hc _ _ (by rw [this]; exact hv)
set_option maxRecDepth 100000 in
set_option maxHeartbeats 8000000 in
theorem rshape_any (A : Option Addr) (l : List StV) (c : Nat) (w : World) (hA : Sl9 w A l) (hl : l.length ≤ 1000000) :
    Calls Tryz.prog 32 #[.slice A l.length c] w fun e w' => e = .returned (.bool (shapeS l)) ∧ Below w.heap.size w w' := by
  have HA := Lib.hid hA
  clear hA
  go_enter Tryz.func32, Tryz.ntmps32
  go_wp2
  go_loopw [3] (fun v3 wr => ∃ i : Nat, i ≤ l.length ∧ v3 = .int .i64 i ∧ Hid (shapeL true l = shapeL (decide (i = 0)) (l.drop i)) ∧ Hid (Below w.heap.size w wr)) (fun v3 _ => l.length - (intOf v3).toNat)
  case atStart => exact ⟨0, by omega, rfl, Lib.hid (by simp), Lib.hid (Below.refl _ _)⟩
  case round =>
    obtain ⟨i, hi, rfl, HS, HB⟩ := hrel
    by_cases h0 : i < l.length
    · obtain ⟨x, hx⟩ : ∃ x, l[i]? = some x := ⟨l[i], List.getElem?_eq_getElem h0⟩
      obtain ⟨ad, rfl, had, c0, cj⟩ := (HA.out.below HB.out).at_ hx
      have c1 := cj 1 _ (by omega) rfl
      have c2 := cj 2 _ (by omega) rfl
      have c3 := cj 3 _ (by omega) rfl
      have c4 := cj 4 _ (by omega) rfl
      have c5 := cj 5 _ (by omega) rfl
      have c6 := cj 6 _ (by omega) rfl
      have c7 := cj 7 _ (by omega) rfl
      have c8 := cj 8 _ (by omega) rfl
      clear cj
      obtain ⟨kind, any, ⟨n1, n2⟩, pos, by_, ⟨a1, a2⟩, val⟩ := x
      simp only at c0 c1 c2 c3 c4 c5 c6 c7 c8
      go_upto_region 5 with fail
      have hnew := heap_alloc_new wr (.cells #[.int .i64 kind, .bool any, .string n1, .string n2, .int .i64 pos, .bool by_, .string a1, .string a2, .string val] 47)
      have HBn := Lib.hid (HB.out.alloc HB.out.size (.cells #[.int .i64 kind, .bool any, .string n1, .string n2, .int .i64 pos, .bool by_, .string a1, .string a2, .string val] 47))
      clear c0 c1 c2 c3 c4 c5 c6 c7 c8
      generalize wr.alloc (.cells #[.int .i64 kind, .bool any, .string n1, .string n2, .int .i64 pos, .bool by_, .string a1, .string a2, .string val] 47) = wx at *
      generalize wr.heap.size = g at *
      have c0 : wx.cell? ⟨g, 0, none⟩ = some (.int .i64 kind) := blk_cell hnew 0
      have c1 : wx.cell? ⟨g, 1, none⟩ = some (.bool any) := blk_cell hnew 1
      have c2 : wx.cell? ⟨g, 2, none⟩ = some (.string n1) := blk_cell hnew 2
      have c3 : wx.cell? ⟨g, 3, none⟩ = some (.string n2) := blk_cell hnew 3
      have c4 : wx.cell? ⟨g, 4, none⟩ = some (.int .i64 pos) := blk_cell hnew 4
      have c5 : wx.cell? ⟨g, 5, none⟩ = some (.bool by_) := blk_cell hnew 5
      have c6 : wx.cell? ⟨g, 6, none⟩ = some (.string a1) := blk_cell hnew 6
      have c7 : wx.cell? ⟨g, 7, none⟩ = some (.string a2) := blk_cell hnew 7
      have c8 : wx.cell? ⟨g, 8, none⟩ = some (.string val) := blk_cell hnew 8
      clear hnew HB
      obtain ⟨N, hN⟩ : ∃ N, decide (((n1, n2) : Pr) = nE) = N := ⟨_, rfl⟩
      obtain ⟨M, hM⟩ : ∃ M, decide (((a1, a2) : Pr) = nE) = M := ⟨_, rfl⟩
      obtain ⟨V, hV⟩ : ∃ V, decide (val = sE) = V := ⟨_, rfl⟩
      go_upto_region 5 with fail
      go_cut [5] from 19 to 22 (fun v5 wy => v5 = .bool N ∧ wy = wx)
      case first =>
        rcases emp_or n1 with ⟨e1, p1⟩ | ⟨e1, p1⟩
        · rcases emp_or n2 with ⟨e2, p2⟩ | ⟨e2, p2⟩
          · obtain rfl : true = N := by rw [← hN]; exact (decide_eq_true ((nE_iff _ _).2 ⟨e1, e2⟩)).symm
            clear e1 e2 hN
            go_wp2
            go_meet
            case rel => exact ⟨rfl, rfl⟩
          · obtain rfl : false = N := by rw [← hN]; exact (decide_eq_false fun h => e2 ((nE_iff _ _).1 h).2).symm
            clear e1 e2 hN
            go_wp2
            go_meet
            case rel => exact ⟨rfl, rfl⟩
        · obtain rfl : false = N := by rw [← hN]; exact (decide_eq_false fun h => e1 ((nE_iff _ _).1 h).1).symm
          clear e1 hN
          go_wp2
          go_meet
          case rel => exact ⟨rfl, rfl⟩
      case rest =>
        obtain ⟨rfl, rfl⟩ := hcut
        rename World => wy
        obtain ⟨B, hB⟩ : ∃ B, (!any && decide (pos = 0) && !by_ && M && V) = B := ⟨_, rfl⟩
        obtain ⟨E, hE⟩ : ∃ E, ((any == N) && decide (0 ≤ pos) && decide (pos ≤ 9999) && (by_ || (M && V))) = E := ⟨_, rfl⟩
        have HE := Lib.hid hE
        have HB' := Lib.hid hB
        have HM := Lib.hid hM
        have HV := Lib.hid hV
        have HN := Lib.hid hN
        go_upto_region 6 with fail
        go_cut [6] from 23 to 46 (fun v6 wz => v6 = .bool B ∧ wz = wy)
        case first =>
          clear hE hN
          -- BEGIN BARE
          cases any with
          | true =>
            obtain rfl : false = B := by rw [← hB]; simp
            clear hB
            go_wp2
            go_meet
            case rel => exact ⟨rfl, rfl⟩
          | false =>
            by_cases hp : pos = 0
            · subst hp
              cases by_ with
              | true =>
                obtain rfl : false = B := by rw [← hB]; simp
                clear hB
                go_wp2
                go_meet
                case rel => exact ⟨rfl, rfl⟩
              | false =>
                rcases emp_or a1 with ⟨e1, p1⟩ | ⟨e1, p1⟩
                · rcases emp_or a2 with ⟨e2, p2⟩ | ⟨e2, p2⟩
                  · obtain rfl : true = M := by rw [← hM]; exact (decide_eq_true ((nE_iff _ _).2 ⟨e1, e2⟩)).symm
                    clear e1 e2 hM
                    rcases emp_or val with ⟨e3, p3⟩ | ⟨e3, p3⟩
                    · obtain rfl : true = V := by rw [← hV]; exact (decide_eq_true e3).symm
                      have p4 : val.toList.isEmpty = true := by rw [p3]; rfl
                      clear e3 hV
                      obtain rfl : true = B := by rw [← hB]; simp
                      clear hB
                      go_wp2
                      go_meet
                      case rel => exact ⟨rfl, rfl⟩
                    · obtain rfl : false = V := by rw [← hV]; exact (decide_eq_false e3).symm
                      have p4 := ne_empty val (eqT_false.2 e3)
                      clear e3 hV
                      obtain rfl : false = B := by rw [← hB]; simp
                      clear hB
                      go_wp2
                      go_meet
                      case rel => exact ⟨rfl, rfl⟩
                  · obtain rfl : false = M := by rw [← hM]; exact (decide_eq_false fun h => e2 ((nE_iff _ _).1 h).2).symm
                    clear e1 e2 hM
                    obtain rfl : false = B := by rw [← hB]; simp
                    clear hB
                    go_wp2
                    go_meet
                    case rel => exact ⟨rfl, rfl⟩
                · obtain rfl : false = M := by rw [← hM]; exact (decide_eq_false fun h => e1 ((nE_iff _ _).1 h).1).symm
                  clear e1 hM
                  obtain rfl : false = B := by rw [← hB]; simp
                  clear hB
                  go_wp2
                  go_meet
                  case rel => exact ⟨rfl, rfl⟩
            · have hp2 : (pos == 0) = false := by simpa using hp
              obtain rfl : false = B := by rw [← hB]; simp [hp]
              clear hB
              go_wp2
              go_meet
              case rel => exact ⟨rfl, rfl⟩
          -- END BARE
        case rest =>
          obtain ⟨rfl, rfl⟩ := hcut
          rename World => wz
          obtain ⟨L, hL⟩ : ∃ L, (decide (0 < i) && decide (i + 1 = l.length)) = L := ⟨_, rfl⟩
          have HL := Lib.hid hL
          have HST : Hid (shapeL true l = (shape1 L ⟨kind, any, (n1, n2), pos, by_, (a1, a2), val⟩ && shapeL false (l.drop (i + 1)))) := Lib.hid (by
            rw [HS.out, List.drop_eq_getElem_cons h0, (List.getElem?_eq_some_iff.1 hx).2, shapeL, ← hL]
            congr 2
            rw [Bool.eq_iff_iff]
            simp only [Bool.and_eq_true, Bool.not_eq_true', decide_eq_false_iff_not, List.isEmpty_iff, List.drop_eq_nil_iff, decide_eq_true_eq]
            omega)
          clear hx hB hE hM hV hN
          go_upto_region 7 with fail
          go_cut [7] from 47 to 55 (fun v7 wv => v7 = .bool L ∧ wv = wz)
          case first =>
            by_cases hi0 : i = 0
            · obtain rfl : false = L := by rw [← hL]; simp [hi0]
              have q0 : ¬ (0 : Int) < (i : Int) := by omega
              clear hL hi0
              go_wp2
              go_meet
              case rel => exact ⟨rfl, rfl⟩
            · have q0 : (0 : Int) < (i : Int) := by omega
              have q1 : IntKind.i64.wrap ((l.length : Int) - 1) = (l.length : Int) - 1 := by rw [IntKind.wrap_i64]; omega
              by_cases hl1 : i + 1 = l.length
              · obtain rfl : true = L := by rw [← hL]; simp [hl1]; omega
                have q2 : ((i : Int) == (l.length : Int) - 1) = true := by rw [beq_iff_eq]; omega
                clear hL hi0 hl1
                go_wp2
                go_meet
                case rel => exact ⟨rfl, rfl⟩
              · obtain rfl : false = L := by rw [← hL]; simp [hl1]
                have q2 : ((i : Int) == (l.length : Int) - 1) = false := by rw [beq_eq_false_iff_ne]; omega
                clear hL hi0 hl1
                go_wp2
                go_meet
                case rel => exact ⟨rfl, rfl⟩
          case rest =>
            obtain ⟨rfl, rfl⟩ := hcut
            rename World => wv
            clear hL
            by_cases k1 : kind = 1
            · subst k1
              have hE := HE.out
              have hM := HM.out
              have hV := HV.out
              have HSH : Hid (shape1 L ⟨1, any, (n1, n2), pos, by_, (a1, a2), val⟩ = E) := Lib.hid (by
                rw [← HE.out, ← HN.out, ← HM.out, ← HV.out]
                unfold shape1
                simp)
              clear HE HN HM HV HB' HL
              -- BEGIN EL
              cases any with
              | true =>
                cases N with
                | true =>
                  by_cases hp : 0 ≤ pos
                  · by_cases hq : pos ≤ 9999
                    · cases by_ with
                      | true =>
                        obtain rfl : true = E := by rw [← hE]; simp [hp, hq]
                        clear hE
                        have HS2 : Hid (shapeL true l = shapeL (decide (i + 1 = 0)) (l.drop (i + 1))) := Lib.hid (by rw [HST.out, HSH.out, Bool.true_and, decide_eq_false (show ¬ i + 1 = 0 by omega)])
                        clear HST HS
                        go_wp2
                        go_roundw
                        case rel => exact ⟨i + 1, by omega, by go_num, HS2, HBn⟩
                        case measure => simp [intOf]; omega
                      | false =>
                        rcases emp_or a1 with ⟨e1, p1⟩ | ⟨e1, p1⟩
                        · rcases emp_or a2 with ⟨e2, p2⟩ | ⟨e2, p2⟩
                          · obtain rfl : true = M := by rw [← hM]; exact (decide_eq_true ((nE_iff _ _).2 ⟨e1, e2⟩)).symm
                            clear e1 e2 hM
                            rcases emp_or val with ⟨e3, p3⟩ | ⟨e3, p3⟩
                            · obtain rfl : true = V := by rw [← hV]; exact (decide_eq_true e3).symm
                              have p4 : val.toList.isEmpty = true := by rw [p3]; rfl
                              clear e3 hV
                              obtain rfl : true = E := by rw [← hE]; simp [hp, hq]
                              clear hE
                              have HS2 : Hid (shapeL true l = shapeL (decide (i + 1 = 0)) (l.drop (i + 1))) := Lib.hid (by rw [HST.out, HSH.out, Bool.true_and, decide_eq_false (show ¬ i + 1 = 0 by omega)])
                              clear HST HS
                              go_wp2
                              go_roundw
                              case rel => exact ⟨i + 1, by omega, by go_num, HS2, HBn⟩
                              case measure => simp [intOf]; omega
                            · obtain rfl : false = V := by rw [← hV]; exact (decide_eq_false e3).symm
                              have p4 := ne_empty val (eqT_false.2 e3)
                              clear e3 hV
                              obtain rfl : false = E := by rw [← hE]; simp
                              clear hE
                              have hsf : shapeL true l = false := by rw [HST.out, HSH.out]; rfl
                              have hfin : shapeS l = false := by unfold shapeS; rw [hsf]; rfl
                              have HF := Lib.hid hfin
                              clear hsf hfin HST HS
                              go_wp2
                              go_ret
                              rw [HF.out]
                              exact ⟨rfl, HBn.out⟩
                          · obtain rfl : false = M := by rw [← hM]; exact (decide_eq_false fun h => e2 ((nE_iff _ _).1 h).2).symm
                            clear e1 e2 hM
                            obtain rfl : false = E := by rw [← hE]; simp
                            clear hE
                            have hsf : shapeL true l = false := by rw [HST.out, HSH.out]; rfl
                            have hfin : shapeS l = false := by unfold shapeS; rw [hsf]; rfl
                            have HF := Lib.hid hfin
                            clear hsf hfin HST HS
                            go_wp2
                            go_ret
                            rw [HF.out]
                            exact ⟨rfl, HBn.out⟩
                        · obtain rfl : false = M := by rw [← hM]; exact (decide_eq_false fun h => e1 ((nE_iff _ _).1 h).1).symm
                          clear e1 hM
                          obtain rfl : false = E := by rw [← hE]; simp
                          clear hE
                          have hsf : shapeL true l = false := by rw [HST.out, HSH.out]; rfl
                          have hfin : shapeS l = false := by unfold shapeS; rw [hsf]; rfl
                          have HF := Lib.hid hfin
                          clear hsf hfin HST HS
                          go_wp2
                          go_ret
                          rw [HF.out]
                          exact ⟨rfl, HBn.out⟩
                    · have hq2 : 9999 < pos := by omega
                      obtain rfl : false = E := by rw [← hE]; simp [hq]
                      clear hE
                      have hsf : shapeL true l = false := by rw [HST.out, HSH.out]; rfl
                      have hfin : shapeS l = false := by unfold shapeS; rw [hsf]; rfl
                      have HF := Lib.hid hfin
                      clear hsf hfin HST HS
                      go_wp2
                      go_ret
                      rw [HF.out]
                      exact ⟨rfl, HBn.out⟩
                  · have hp2 : pos < 0 := by omega
                    obtain rfl : false = E := by rw [← hE]; simp [hp]
                    clear hE
                    have hsf : shapeL true l = false := by rw [HST.out, HSH.out]; rfl
                    have hfin : shapeS l = false := by unfold shapeS; rw [hsf]; rfl
                    have HF := Lib.hid hfin
                    clear hsf hfin HST HS
                    go_wp2
                    go_ret
                    rw [HF.out]
                    exact ⟨rfl, HBn.out⟩
                | false =>
                  obtain rfl : false = E := by rw [← hE]; simp
                  clear hE
                  have hsf : shapeL true l = false := by rw [HST.out, HSH.out]; rfl
                  have hfin : shapeS l = false := by unfold shapeS; rw [hsf]; rfl
                  have HF := Lib.hid hfin
                  clear hsf hfin HST HS
                  go_wp2
                  go_ret
                  rw [HF.out]
                  exact ⟨rfl, HBn.out⟩
              | false =>
                cases N with
                | true =>
                  obtain rfl : false = E := by rw [← hE]; simp
                  clear hE
                  have hsf : shapeL true l = false := by rw [HST.out, HSH.out]; rfl
                  have hfin : shapeS l = false := by unfold shapeS; rw [hsf]; rfl
                  have HF := Lib.hid hfin
                  clear hsf hfin HST HS
                  go_wp2
                  go_ret
                  rw [HF.out]
                  exact ⟨rfl, HBn.out⟩
                | false =>
                  by_cases hp : 0 ≤ pos
                  · by_cases hq : pos ≤ 9999
                    · cases by_ with
                      | true =>
                        obtain rfl : true = E := by rw [← hE]; simp [hp, hq]
                        clear hE
                        have HS2 : Hid (shapeL true l = shapeL (decide (i + 1 = 0)) (l.drop (i + 1))) := Lib.hid (by rw [HST.out, HSH.out, Bool.true_and, decide_eq_false (show ¬ i + 1 = 0 by omega)])
                        clear HST HS
                        go_wp2
                        go_roundw
                        case rel => exact ⟨i + 1, by omega, by go_num, HS2, HBn⟩
                        case measure => simp [intOf]; omega
                      | false =>
                        rcases emp_or a1 with ⟨e1, p1⟩ | ⟨e1, p1⟩
                        · rcases emp_or a2 with ⟨e2, p2⟩ | ⟨e2, p2⟩
                          · obtain rfl : true = M := by rw [← hM]; exact (decide_eq_true ((nE_iff _ _).2 ⟨e1, e2⟩)).symm
                            clear e1 e2 hM
                            rcases emp_or val with ⟨e3, p3⟩ | ⟨e3, p3⟩
                            · obtain rfl : true = V := by rw [← hV]; exact (decide_eq_true e3).symm
                              have p4 : val.toList.isEmpty = true := by rw [p3]; rfl
                              clear e3 hV
                              obtain rfl : true = E := by rw [← hE]; simp [hp, hq]
                              clear hE
                              have HS2 : Hid (shapeL true l = shapeL (decide (i + 1 = 0)) (l.drop (i + 1))) := Lib.hid (by rw [HST.out, HSH.out, Bool.true_and, decide_eq_false (show ¬ i + 1 = 0 by omega)])
                              clear HST HS
                              go_wp2
                              go_roundw
                              case rel => exact ⟨i + 1, by omega, by go_num, HS2, HBn⟩
                              case measure => simp [intOf]; omega
                            · obtain rfl : false = V := by rw [← hV]; exact (decide_eq_false e3).symm
                              have p4 := ne_empty val (eqT_false.2 e3)
                              clear e3 hV
                              obtain rfl : false = E := by rw [← hE]; simp
                              clear hE
                              have hsf : shapeL true l = false := by rw [HST.out, HSH.out]; rfl
                              have hfin : shapeS l = false := by unfold shapeS; rw [hsf]; rfl
                              have HF := Lib.hid hfin
                              clear hsf hfin HST HS
                              go_wp2
                              go_ret
                              rw [HF.out]
                              exact ⟨rfl, HBn.out⟩
                          · obtain rfl : false = M := by rw [← hM]; exact (decide_eq_false fun h => e2 ((nE_iff _ _).1 h).2).symm
                            clear e1 e2 hM
                            obtain rfl : false = E := by rw [← hE]; simp
                            clear hE
                            have hsf : shapeL true l = false := by rw [HST.out, HSH.out]; rfl
                            have hfin : shapeS l = false := by unfold shapeS; rw [hsf]; rfl
                            have HF := Lib.hid hfin
                            clear hsf hfin HST HS
                            go_wp2
                            go_ret
                            rw [HF.out]
                            exact ⟨rfl, HBn.out⟩
                        · obtain rfl : false = M := by rw [← hM]; exact (decide_eq_false fun h => e1 ((nE_iff _ _).1 h).1).symm
                          clear e1 hM
                          obtain rfl : false = E := by rw [← hE]; simp
                          clear hE
                          have hsf : shapeL true l = false := by rw [HST.out, HSH.out]; rfl
                          have hfin : shapeS l = false := by unfold shapeS; rw [hsf]; rfl
                          have HF := Lib.hid hfin
                          clear hsf hfin HST HS
                          go_wp2
                          go_ret
                          rw [HF.out]
                          exact ⟨rfl, HBn.out⟩
                    · have hq2 : 9999 < pos := by omega
                      obtain rfl : false = E := by rw [← hE]; simp [hq]
                      clear hE
                      have hsf : shapeL true l = false := by rw [HST.out, HSH.out]; rfl
                      have hfin : shapeS l = false := by unfold shapeS; rw [hsf]; rfl
                      have HF := Lib.hid hfin
                      clear hsf hfin HST HS
                      go_wp2
                      go_ret
                      rw [HF.out]
                      exact ⟨rfl, HBn.out⟩
                  · have hp2 : pos < 0 := by omega
                    obtain rfl : false = E := by rw [← hE]; simp [hp]
                    clear hE
                    have hsf : shapeL true l = false := by rw [HST.out, HSH.out]; rfl
                    have hfin : shapeS l = false := by unfold shapeS; rw [hsf]; rfl
                    have HF := Lib.hid hfin
                    clear hsf hfin HST HS
                    go_wp2
                    go_ret
                    rw [HF.out]
                    exact ⟨rfl, HBn.out⟩
              -- END EL
            · have t1 : (kind == 1) = false := by simpa using k1
              by_cases k2 : kind = 2
              · subst k2
                have HSH : Hid (shape1 L ⟨2, any, (n1, n2), pos, by_, (a1, a2), val⟩ = (L && B)) := Lib.hid (by
                  rw [← HB'.out, ← HM.out, ← HV.out]
                  unfold shape1
                  simp)
                clear HE HN HM HV HB' HL
                cases L with
                | true =>
                  cases B with
                  | true =>
                    have HS2 : Hid (shapeL true l = shapeL (decide (i + 1 = 0)) (l.drop (i + 1))) := Lib.hid (by
                      rw [HST.out, HSH.out, show (true && true) = true from rfl, Bool.true_and, decide_eq_false (show ¬ i + 1 = 0 by omega)])
                    clear HST HS
                    go_wp2
                    go_roundw
                    case rel => exact ⟨i + 1, by omega, by go_num, HS2, HBn⟩
                    case measure => simp [intOf]; omega
                  | false =>
                    have hsf : shapeL true l = false := by rw [HST.out, HSH.out]; rfl
                    have hfin : shapeS l = false := by unfold shapeS; rw [hsf]; rfl
                    have HF := Lib.hid hfin
                    clear hsf hfin HST HS
                    go_wp2
                    go_ret
                    rw [HF.out]
                    exact ⟨rfl, HBn.out⟩
                | false =>
                  have hsf : shapeL true l = false := by rw [HST.out, HSH.out]; rfl
                  have hfin : shapeS l = false := by unfold shapeS; rw [hsf]; rfl
                  have HF := Lib.hid hfin
                  clear hsf hfin HST HS
                  go_wp2
                  go_ret
                  rw [HF.out]
                  exact ⟨rfl, HBn.out⟩
              · have t2 : (kind == 2) = false := by simpa using k2
                by_cases k3 : kind = 3
                · subst k3
                  have HSH : Hid (shape1 L ⟨3, any, (n1, n2), pos, by_, (a1, a2), val⟩ = (L && B && N)) := Lib.hid (by
                    rw [← HB'.out, ← HM.out, ← HV.out, ← HN.out]
                    unfold shape1
                    simp)
                  clear HE HN HM HV HB' HL
                  cases L with
                  | true =>
                    cases B with
                    | true =>
                      cases N with
                      | true =>
                        have HS2 : Hid (shapeL true l = shapeL (decide (i + 1 = 0)) (l.drop (i + 1))) := Lib.hid (by
                          rw [HST.out, HSH.out, show (true && true && true) = true from rfl, Bool.true_and, decide_eq_false (show ¬ i + 1 = 0 by omega)])
                        clear HST HS
                        go_wp2
                        go_roundw
                        case rel => exact ⟨i + 1, by omega, by go_num, HS2, HBn⟩
                        case measure => simp [intOf]; omega
                      | false =>
                        have hsf : shapeL true l = false := by rw [HST.out, HSH.out]; rfl
                        have hfin : shapeS l = false := by unfold shapeS; rw [hsf]; rfl
                        have HF := Lib.hid hfin
                        clear hsf hfin HST HS
                        go_wp2
                        go_ret
                        rw [HF.out]
                        exact ⟨rfl, HBn.out⟩
                    | false =>
                      have hsf : shapeL true l = false := by rw [HST.out, HSH.out]; rfl
                      have hfin : shapeS l = false := by unfold shapeS; rw [hsf]; rfl
                      have HF := Lib.hid hfin
                      clear hsf hfin HST HS
                      go_wp2
                      go_ret
                      rw [HF.out]
                      exact ⟨rfl, HBn.out⟩
                  | false =>
                    have hsf : shapeL true l = false := by rw [HST.out, HSH.out]; rfl
                    have hfin : shapeS l = false := by unfold shapeS; rw [hsf]; rfl
                    have HF := Lib.hid hfin
                    clear hsf hfin HST HS
                    go_wp2
                    go_ret
                    rw [HF.out]
                    exact ⟨rfl, HBn.out⟩
                · have t3 : (kind == 3) = false := by simpa using k3
                  have HSH : Hid (shape1 L ⟨kind, any, (n1, n2), pos, by_, (a1, a2), val⟩ = false) := Lib.hid (by
                    unfold shape1
                    simp [k1, k2, k3])
                  clear HE HN HM HV HB' HL
                  have hsf : shapeL true l = false := by rw [HST.out, HSH.out]; rfl
                  have hfin : shapeS l = false := by unfold shapeS; rw [hsf]; rfl
                  have HF := Lib.hid hfin
                  clear hsf hfin HST HS
                  go_wp2
                  go_ret
                  rw [HF.out]
                  exact ⟨rfl, HBn.out⟩
    · have hst : shapeL true l = true := by rw [HS.out, List.drop_eq_nil_of_le (by omega)]; unfold shapeL; rfl
      obtain ⟨Z, hZ⟩ : ∃ Z, shapeS l = Z := ⟨_, rfl⟩
      have HZ : Hid (shapeS l = (decide (1 ≤ l.length) && decide (l.length ≤ 16))) := Lib.hid (by unfold shapeS; rw [hst, Bool.true_and])
      clear hst hZ HS
      by_cases z1 : 1 ≤ l.length
      · have q1 : (1 : Int) ≤ (l.length : Int) := by omega
        by_cases z2 : l.length ≤ 16
        · have q2 : (l.length : Int) ≤ 16 := by omega
          rw [decide_eq_true z1, decide_eq_true z2] at HZ
          go_wp2
          go_ret
          rw [HZ.out]
          exact ⟨rfl, HB.out⟩
        · have q2 : ¬ (l.length : Int) ≤ 16 := by omega
          rw [decide_eq_true z1, decide_eq_false z2] at HZ
          go_wp2
          go_ret
          rw [HZ.out]
          exact ⟨rfl, HB.out⟩
      · have q1 : ¬ (1 : Int) ≤ (l.length : Int) := by omega
        rw [decide_eq_false z1] at HZ
        go_wp2
        go_ret
        rw [HZ.out]
        exact ⟨rfl, HB.out⟩
end Go.Proofs.YtbeglliabpflpaaGreatDoor
namespace Wb
def contT (ts : List (List UInt8)) : Except Int (List (List UInt8) × List ByteArray) → Except Int (List (List UInt8) × List ByteArray)
  | .error e => .error e
  | .ok (a, l) => .ok (ts ++ a, l)
theorem contT_nil : ∀ o, contT [] o = o
  | .error _ => rfl
  | .ok (_, _) => rfl
theorem contT_bad {space : ByteArray} {x : StV} {r : List StV} {sp : List ByteArray} {k : Int} (ts : List (List UInt8)) (h : stpT x space sp = .error k) : contT ts (stpsT space (x :: r) sp) = .error k := by
  rw [stpsT, h]
  rfl
theorem contT_good {space : ByteArray} {x : StV} {r : List StV} {sp sp' : List ByteArray} {t : List UInt8} (ts : List (List UInt8)) (h : stpT x space sp = .ok (t, sp')) : contT ts (stpsT space (x :: r) sp) = contT (ts ++ [t]) (stpsT space r sp') := by
  rw [stpsT, h]
  simp only
  cases stpsT space r sp' with
  | error e => rfl
  | ok p =>
    obtain ⟨a, l⟩ := p
    simp [contT]
def StSm (x : StV) : Prop := x.name.1.size ≤ 50000 ∧ x.name.2.size ≤ 50000 ∧ x.attr.1.size ≤ 50000 ∧ x.attr.2.size ≤ 50000 ∧ x.val.size ≤ 50000 ∧ x.pos ≤ 9999
def SpSm (l : List ByteArray) : Prop := l.length ≤ 16 ∧ ∀ s ∈ l, s.size ≤ 50000
theorem SpSm.nil : SpSm [] := ⟨by simp, fun s h => by simp at h⟩
theorem nameT_sm {n : Pr} {plain : ByteArray} {l l' : List ByteArray} {t : List UInt8} (h : nameT n plain l = .ok (t, l')) (hl : SpSm l) (h1 : n.1.size ≤ 50000) (h2 : n.2.size ≤ 50000) : t.length ≤ 50008 ∧ SpSm l' := by
  obtain ⟨a1, a2⟩ := nameT_len h hl.1
  refine ⟨by omega, a2, ?_⟩
  obtain ⟨_, ⟨_, _, rfl⟩ | ⟨_, _, _, rfl⟩ | ⟨_, _, _, _, _, rfl | ⟨rfl, _⟩⟩⟩ := nameT_cases h
  · exact hl.2
  · exact hl.2
  · exact hl.2
  · intro s hs
    rcases List.mem_append.1 hs with hs | hs
    · exact hl.2 s hs
    · rw [List.mem_singleton.1 hs]
      exact h1
theorem stp_sm {x : StV} {space : ByteArray} {l l' : List ByteArray} {t : List UInt8} (h : stpT x space l = .ok (t, l')) (hl : SpSm l) (hx : StSm x) : t.length ≤ 1000000 ∧ SpSm l' := by
  obtain ⟨kind, any, n, pos, by_, a, val⟩ := x
  obtain ⟨s1, s2, s3, s4, s5, s6⟩ := hx
  simp only at s1 s2 s3 s4 s5 s6
  unfold stpT at h
  simp only at h
  split at h
  · injection h with h
    injection h with h1 h2
    subst h1 h2
    exact ⟨by decide, hl⟩
  split at h
  · split at h
    · cases h
    · rename_i t' l2 hn
      injection h with h
      injection h with h1 h2
      subst h1 h2
      obtain ⟨b1, b2⟩ := nameT_sm hn hl s1 s2
      exact ⟨by rw [List.length_cons]; omega, b2⟩
  split at h
  · cases h
  rename_i t0 l0 he
  have h0 : t0.length ≤ 50008 ∧ SpSm l0 := by
    unfold elemT at he
    simp only at he
    split at he
    · injection he with he
      injection he with h1 h2
      subst h1 h2
      exact ⟨by decide, hl⟩
    · exact nameT_sm he hl s1 s2
  have hp : (posT pos).length ≤ 6 := by
    unfold posT
    split
    · have := dgN_le pos.toNat 4 (by omega)
      simp
      omega
    · simp
  split at h
  · injection h with h
    injection h with h1 h2
    subst h1 h2
    exact ⟨by rw [List.length_append]; omega, h0.2⟩
  split at h
  · cases h
  rename_i ta l2 ha
  obtain ⟨b1, b2⟩ := nameT_sm ha h0.2 s3 s4
  split at h
  · cases h
  injection h with h
  injection h with h1 h2
  subst h1 h2
  refine ⟨?_, b2⟩
  have hz : val.data.toList.length = val.size := by simp
  have := (escL_len true val.data.toList).2
  unfold testT
  simp only [List.length_append, List.length_cons, List.length_nil]
  omega
theorem query_more : ∀ (sp : List ByteArray) (k i : Nat) (s : ByteArray), sp[i]? = some s → queryT k (sp.take (i + 1)) = queryT k (sp.take i) ++ (sBindK ++ (numT (k + i) ++ 61 :: s.data.toList) ++ [41])
  | [], k, i, s, h => by simp at h
  | x :: sp, k, 0, s, h => by
    simp only [List.getElem?_cons_zero, Option.some.injEq] at h
    subst h
    simp [queryT]
  | x :: sp, k, i + 1, s, h => by
    rw [List.take_succ_cons, List.take_succ_cons, queryT, queryT, query_more sp (k + 1) i s (by simpa using h)]
    rw [show k + 1 + i = k + (i + 1) by omega]
    simp
theorem query_len : ∀ (sp : List ByteArray) (k : Nat), k + sp.length ≤ 32 → (∀ s ∈ sp, s.size ≤ 50000) → (queryT k sp).length ≤ sp.length * 50020
  | [], _, _, _ => by simp [queryT]
  | s :: sp, k, hk, h => by
    rw [List.length_cons] at hk
    have h1 := query_len sp (k + 1) (by omega) fun x hx => h x (by simp [hx])
    have h2 := num_len ⟨k, by omega⟩
    have h3 := h s (by simp)
    have hz : s.data.toList.length = s.size := by simp
    have h4 : sBindK.length = 6 := rfl
    simp only at h2
    rw [queryT]
    simp only [List.length_append, List.length_cons, hz, h4]
    omega
def prV : Except Int (List UInt8 × List UInt8) → Int × List UInt8 × List UInt8
  | .error k => (k, [], [])
  | .ok (s, q) => (0, s, q)
theorem printS_no {space : ByteArray} {l : List StV} (h : shapeS l = false) : printS space l = .error 33 := by unfold printS; rw [if_pos h]
theorem printS_bad {space : ByteArray} {l : List StV} {k : Int} (h : shapeS l = true) (hs : stpsT space l [] = .error k) : printS space l = .error k := by unfold printS; rw [if_neg (by rw [h]; decide), hs]
theorem printS_ok {space : ByteArray} {l : List StV} {ts : List (List UInt8)} {sp : List ByteArray} (h : shapeS l = true) (hs : stpsT space l [] = .ok (ts, sp)) : printS space l = .ok (joinB 47 (ts.map (pctE [])), pctE [] (queryT 0 sp)) := by unfold printS; rw [if_neg (by rw [h]; decide), hs]
theorem shapeS_len {l : List StV} (h : shapeS l = true) : 1 ≤ l.length ∧ l.length ≤ 16 := by
  unfold shapeS at h
  simp only [Bool.and_eq_true, decide_eq_true_eq] at h
  exact h.2
theorem contT_end (ts : List (List UInt8)) (space : ByteArray) (sp : List ByteArray) : contT ts (stpsT space [] sp) = .ok (ts, sp) := by
  rw [stpsT]
  simp [contT]
end Wb
namespace Wb
theorem nameT_nz {n : Pr} {plain : ByteArray} {l : List ByteArray} {k : Int} (h : nameT n plain l = .error k) : k ≠ 0 := by
  unfold nameT at h
  repeat' (split at h)
  all_goals first
    | (injection h with h; subst h; decide)
    | cases h
theorem stp_err {x : StV} {space : ByteArray} {l : List ByteArray} {k : Int} (h : stpT x space l = .error k) : k ≠ 0 := by
  unfold stpT elemT at h
  repeat' (split at h)
  all_goals first
    | cases h; done
    | (rename_i hn; injection h with h; subst h; exact nameT_nz hn)
    | (injection h with h; subst h; decide)
    | (rename_i hn; injection h with h; subst h; split at hn; exact nameT_nz hn)
    | (rename_i hn; injection h with h; subst h; split at hn <;> first | (cases hn; done) | exact nameT_nz hn)
theorem shapeL_pos : ∀ (l : List StV) (f : Bool), shapeL f l = true → ∀ x ∈ l, x.pos ≤ 9999
  | [], _, _ => fun x hx => by simp at hx
  | y :: l, f, h => by
    rw [shapeL, Bool.and_eq_true] at h
    intro x hx
    rcases List.mem_cons.1 hx with rfl | hx
    · have h1 := h.1
      unfold shape1 at h1
      repeat' (split at h1)
      all_goals simp at h1
      · omega
      · omega
      · omega
    · exact shapeL_pos l false h.2 x hx
theorem shapeS_pos {l : List StV} (h : shapeS l = true) : ∀ x ∈ l, x.pos ≤ 9999 := by
  unfold shapeS at h
  rw [Bool.and_eq_true] at h
  exact shapeL_pos l true h.1
end Wb
