/- SdG SdH QdI BldF. -/
import Derived.Deep.WholeRow
import Derived.Deep.MidRow
import Derived.Lib.ConvBytes
import Derived.Lib.SmallJoins
import Derived.Laws.CopyOwn
import Derived.Deep.Cut
import Derived.Test.YtbeglliabpflpaaGreatDoorCU13
import Derived.Test.YtbeglliabpflpaaGreatDoorCU14
import Derived.Test.YtbeglliabpflpaaGreatDoorCU20
import Derived.Test.YtbeglliabpflpaaGreatDoorCU24
namespace Go.Proofs.YtbeglliabpflpaaGreatDoor
open Go.RowKit Wb
set_option maxHeartbeats 16000000 in
set_option maxRecDepth 100000 in
theorem rightStep_any (kind : Int) (any : Bool) (n1 n2 : ByteArray) (pos : Int) (by_ : Bool) (a1 a2 val : ByteArray) (last : Bool) (w : World) :
    Calls Tryz.prog 54 #[.agg #[.int .i64 kind, .bool any, .string n1, .string n2, .int .i64 pos, .bool by_, .string a1, .string a2, .string val], .bool last] w fun e w' => e = .returned (.bool (shape1 last ⟨kind, any, (n1, n2), pos, by_, (a1, a2), val⟩)) ∧ Below w.heap.size w w' := by
  have hk0 := OwnB.new0 w #[.int .i64 kind, .bool any, .string n1, .string n2, .int .i64 pos, .bool by_, .string a1, .string a2, .string val] 47
  have hb0 := (Below.refl w.heap.size w).alloc (Nat.le_refl _) (.cells #[.int .i64 kind, .bool any, .string n1, .string n2, .int .i64 pos, .bool by_, .string a1, .string a2, .string val] 47)
  obtain ⟨o, ho⟩ : ∃ o, shape1 last ⟨kind, any, (n1, n2), pos, by_, (a1, a2), val⟩ = o := ⟨_, rfl⟩
  rw [ho]
  unfold shape1 at ho
  simp only at ho
  go_enter Tryz.func54, Tryz.ntmps54
  go_upto_region 1 with fail
  generalize w.alloc (.cells #[.int .i64 kind, .bool any, .string n1, .string n2, .int .i64 pos, .bool by_, .string a1, .string a2, .string val] 47) = w0 at *
  have x0 : w0.cell? ⟨w.heap.size, 0, none⟩ = some (.int .i64 kind) := hk0.cell 0
  have x1 : w0.cell? ⟨w.heap.size, 1, none⟩ = some (.bool any) := hk0.cell 1
  have x2 : w0.cell? ⟨w.heap.size, 2, none⟩ = some (.string n1) := hk0.cell 2
  have x3 : w0.cell? ⟨w.heap.size, 3, none⟩ = some (.string n2) := hk0.cell 3
  have x4 : w0.cell? ⟨w.heap.size, 4, none⟩ = some (.int .i64 pos) := hk0.cell 4
  have x5 : w0.cell? ⟨w.heap.size, 5, none⟩ = some (.bool by_) := hk0.cell 5
  have x6 : w0.cell? ⟨w.heap.size, 6, none⟩ = some (.string a1) := hk0.cell 6
  have x7 : w0.cell? ⟨w.heap.size, 7, none⟩ = some (.string a2) := hk0.cell 7
  have x8 : w0.cell? ⟨w.heap.size, 8, none⟩ = some (.string val) := hk0.cell 8
  clear hk0
  by_cases k1 : kind = 1
  · rw [if_pos k1] at ho
    subst k1
    obtain ⟨N, hN⟩ : ∃ N, decide (((n1, n2) : Pr) = nE) = N := ⟨_, rfl⟩
    obtain ⟨M, hM⟩ : ∃ M, (decide (((a1, a2) : Pr) = nE) && decide (val = sE)) = M := ⟨_, rfl⟩
    rw [hN, hM] at ho
    have HO := Lib.hid ho
    have HM := Lib.hid hM
    clear ho hM
    go_upto_region 3 with fail
    go_cut [5] from 11 to 14 (fun v5 wy => v5 = .bool (!N) ∧ wy = w0)
    case first =>
      clear HO HM
      rcases emp_or n1 with ⟨e1, p1⟩ | ⟨e1, p1⟩
      · rcases emp_or n2 with ⟨e2, p2⟩ | ⟨e2, p2⟩
        · obtain rfl : true = N := by rw [← hN]; exact (decide_eq_true ((nE_iff _ _).2 ⟨e1, e2⟩)).symm
          clear e1 e2 hN
          go_wp2
          go_meet
          case rel => exact ⟨rfl, rfl⟩
        · obtain rfl : false = N := by rw [← hN]; exact (decide_eq_false fun h => e2 ((nE_iff _ _).1 h).2).symm
          clear e1 e2 hN
          go_wp2
          go_meet
          case rel => exact ⟨rfl, rfl⟩
      · obtain rfl : false = N := by rw [← hN]; exact (decide_eq_false fun h => e1 ((nE_iff _ _).1 h).1).symm
        clear e1 hN
        go_wp2
        go_meet
        case rel => exact ⟨rfl, rfl⟩
    case rest =>
      obtain ⟨rfl, rfl⟩ := hcut
      rename World => wy
      clear hN
      go_upto_region 4 with fail
      go_cut [6] from 15 to 23 (fun v6 wz => v6 = .bool M ∧ wz = wy)
      case first =>
        have hM := HM.out
        clear HO HM
        rcases emp_or a1 with ⟨e1, p1⟩ | ⟨e1, p1⟩
        · rcases emp_or a2 with ⟨e2, p2⟩ | ⟨e2, p2⟩
          · rcases emp_or val with ⟨e3, p3⟩ | ⟨e3, p3⟩
            · obtain rfl : true = M := by rw [← hM, decide_eq_true ((nE_iff _ _).2 ⟨e1, e2⟩), decide_eq_true e3]; rfl
              have q3 : val.toList.isEmpty = true := by rw [p3]; rfl
              clear e1 e2 e3 hM
              go_wp2
              go_meet
              case rel => exact ⟨rfl, rfl⟩
            · obtain rfl : false = M := by rw [← hM, decide_eq_false e3, Bool.and_false]
              have q3 : val.toList.isEmpty = false := by simpa using p3
              clear e1 e2 e3 hM
              go_wp2
              go_meet
              case rel => exact ⟨rfl, rfl⟩
          · obtain rfl : false = M := by rw [← hM, decide_eq_false fun h => e2 ((nE_iff _ _).1 h).2]; rfl
            clear e1 e2 hM
            go_wp2
            go_meet
            case rel => exact ⟨rfl, rfl⟩
        · obtain rfl : false = M := by rw [← hM, decide_eq_false fun h => e1 ((nE_iff _ _).1 h).1]; rfl
          clear e1 hM
          go_wp2
          go_meet
          case rel => exact ⟨rfl, rfl⟩
      case rest =>
        obtain ⟨rfl, rfl⟩ := hcut
        rename World => wz
        have ho := HO.out
        clear HO HM
        have hc : (any == N) = false ∨ ((any == N) = true ∧ ¬ 0 ≤ pos) ∨ ((any == N) = true ∧ 0 ≤ pos ∧ ¬ pos ≤ 9999) ∨ ((any == N) = true ∧ 0 ≤ pos ∧ pos ≤ 9999 ∧ by_ = true) ∨ ((any == N) = true ∧ 0 ≤ pos ∧ pos ≤ 9999 ∧ by_ = false) := by
          cases any <;> cases N <;> cases by_ <;> simp <;> omega
        rcases hc with h | ⟨h, p1⟩ | ⟨h, p1, p2⟩ | ⟨h, p1, p2, rfl⟩ | ⟨h, p1, p2, rfl⟩
        · obtain rfl : false = o := by rw [← ho, h]; rfl
          clear ho
          cases any <;> cases N
          · cases h
          · go_wp2
            go_ret
            exact ⟨rfl, hb0⟩
          · go_wp2
            go_ret
            exact ⟨rfl, hb0⟩
          · cases h
        · obtain rfl : false = o := by rw [← ho, h, decide_eq_false p1]; rfl
          have d1 : decide (0 ≤ pos) = false := decide_eq_false p1
          clear ho
          cases any <;> cases N
          · go_wp2
            go_ret
            exact ⟨rfl, hb0⟩
          · cases h
          · cases h
          · go_wp2
            go_ret
            exact ⟨rfl, hb0⟩
        · obtain rfl : false = o := by rw [← ho, h, decide_eq_true p1, decide_eq_false p2]; rfl
          have d1 : decide (0 ≤ pos) = true := decide_eq_true p1
          have d2 : decide (pos ≤ 9999) = false := decide_eq_false p2
          clear ho
          cases any <;> cases N
          · go_wp2
            go_ret
            exact ⟨rfl, hb0⟩
          · cases h
          · cases h
          · go_wp2
            go_ret
            exact ⟨rfl, hb0⟩
        · obtain rfl : true = o := by rw [← ho, h, decide_eq_true p1, decide_eq_true p2]; rfl
          have d1 : decide (0 ≤ pos) = true := decide_eq_true p1
          have d2 : decide (pos ≤ 9999) = true := decide_eq_true p2
          clear ho
          cases any <;> cases N
          · go_wp2
            go_ret
            exact ⟨rfl, hb0⟩
          · cases h
          · cases h
          · go_wp2
            go_ret
            exact ⟨rfl, hb0⟩
        · obtain rfl : M = o := by rw [← ho, h, decide_eq_true p1, decide_eq_true p2]; simp
          have d1 : decide (0 ≤ pos) = true := decide_eq_true p1
          have d2 : decide (pos ≤ 9999) = true := decide_eq_true p2
          clear ho
          cases any <;> cases N
          · go_wp2
            go_ret
            exact ⟨rfl, hb0⟩
          · cases h
          · cases h
          · go_wp2
            go_ret
            exact ⟨rfl, hb0⟩
  · rw [if_neg k1] at ho
    have hk1 : (kind == 1) = false := by simpa using k1
    by_cases k2 : kind = 2
    · rw [if_pos k2] at ho
      subst k2
      go_upto_region 7 with fail
      cases last with
      | false =>
        obtain rfl : false = o := by rw [← ho]; rfl
        clear ho
        go_wp2
        go_ret
        exact ⟨rfl, hb0⟩
      | true =>
        clear k1
        cases any with
        | true =>
          obtain rfl : false = o := by rw [← ho]; simp
          clear ho
          go_wp2
          go_ret
          exact ⟨rfl, hb0⟩
        | false =>
          by_cases hp : pos = 0
          · subst hp
            cases by_ with
            | true =>
              obtain rfl : false = o := by rw [← ho]; simp
              clear ho
              go_wp2
              go_ret
              exact ⟨rfl, hb0⟩
            | false =>
              rcases emp_or a1 with ⟨e_a1, p_a1⟩ | ⟨e_a1, p_a1⟩
              · rcases emp_or a2 with ⟨e_a2, p_a2⟩ | ⟨e_a2, p_a2⟩
                · rcases emp_or val with ⟨e_val, p_val⟩ | ⟨e_val, p_val⟩
                  · obtain rfl : true = o := by rw [← ho]; simp [nE, e_a1, e_a2, e_val]
                    clear ho e_a1 e_a2 e_val
                    go_wp2
                    go_ret
                    exact ⟨rfl, hb0⟩
                  · obtain rfl : false = o := by rw [← ho]; simp [e_val, nE]
                    clear ho e_val e_a1 e_a2
                    go_wp2
                    go_ret
                    exact ⟨rfl, hb0⟩
                · obtain rfl : false = o := by rw [← ho]; simp [e_a2, nE]
                  clear ho e_a2 e_a1
                  go_wp2
                  go_ret
                  exact ⟨rfl, hb0⟩
              · obtain rfl : false = o := by rw [← ho]; simp [e_a1, nE]
                clear ho e_a1
                go_wp2
                go_ret
                exact ⟨rfl, hb0⟩
          · obtain rfl : false = o := by rw [← ho]; simp [hp]
            clear ho
            go_wp2
            go_ret
            exact ⟨rfl, hb0⟩
    · rw [if_neg k2] at ho
      have hk2 : (kind == 2) = false := by simpa using k2
      by_cases k3 : kind = 3
      · rw [if_pos k3] at ho
        subst k3
        go_upto_region 9 with fail
        cases last with
        | false =>
          obtain rfl : false = o := by rw [← ho]; rfl
          clear ho
          go_wp2
          go_ret
          exact ⟨rfl, hb0⟩
        | true =>
          clear k1 k2
          cases any with
          | true =>
            obtain rfl : false = o := by rw [← ho]; simp
            clear ho
            go_wp2
            go_ret
            exact ⟨rfl, hb0⟩
          | false =>
            rcases emp_or n1 with ⟨e_n1, p_n1⟩ | ⟨e_n1, p_n1⟩
            · rcases emp_or n2 with ⟨e_n2, p_n2⟩ | ⟨e_n2, p_n2⟩
              · by_cases hp : pos = 0
                · subst hp
                  cases by_ with
                  | true =>
                    obtain rfl : false = o := by rw [← ho]; simp
                    clear ho e_n1 e_n2
                    go_wp2
                    go_ret
                    exact ⟨rfl, hb0⟩
                  | false =>
                    rcases emp_or a1 with ⟨e_a1, p_a1⟩ | ⟨e_a1, p_a1⟩
                    · rcases emp_or a2 with ⟨e_a2, p_a2⟩ | ⟨e_a2, p_a2⟩
                      · rcases emp_or val with ⟨e_val, p_val⟩ | ⟨e_val, p_val⟩
                        · obtain rfl : true = o := by rw [← ho]; simp [nE, e_n1, e_n2, e_a1, e_a2, e_val]
                          clear ho e_n1 e_n2 e_a1 e_a2 e_val
                          go_wp2
                          go_ret
                          exact ⟨rfl, hb0⟩
                        · obtain rfl : false = o := by rw [← ho]; simp [e_val, nE]
                          clear ho e_val e_n1 e_n2 e_a1 e_a2
                          go_wp2
                          go_ret
                          exact ⟨rfl, hb0⟩
                      · obtain rfl : false = o := by rw [← ho]; simp [e_a2, nE]
                        clear ho e_a2 e_n1 e_n2 e_a1
                        go_wp2
                        go_ret
                        exact ⟨rfl, hb0⟩
                    · obtain rfl : false = o := by rw [← ho]; simp [e_a1, nE]
                      clear ho e_a1 e_n1 e_n2
                      go_wp2
                      go_ret
                      exact ⟨rfl, hb0⟩
                · obtain rfl : false = o := by rw [← ho]; simp [hp]
                  clear ho e_n1 e_n2
                  go_wp2
                  go_ret
                  exact ⟨rfl, hb0⟩
              · obtain rfl : false = o := by rw [← ho]; simp [e_n2, nE]
                clear ho e_n2 e_n1
                go_wp2
                go_ret
                exact ⟨rfl, hb0⟩
            · obtain rfl : false = o := by rw [← ho]; simp [e_n1, nE]
              clear ho e_n1
              go_wp2
              go_ret
              exact ⟨rfl, hb0⟩
      · rw [if_neg k3] at ho
        subst ho
        have hk3 : (kind == 3) = false := by simpa using k3
        go_wp2
        go_ret
        exact ⟨rfl, hb0⟩
end Go.Proofs.YtbeglliabpflpaaGreatDoor
namespace Go.Proofs.YtbeglliabpflpaaGreatDoor
open Go.RowKit Wb
set_option maxHeartbeats 16000000 in
set_option maxRecDepth 100000 in
theorem sright_any (A : Option Addr) (l : List StV) (c : Nat) (w : World) (hA : Sl9 w A l) (hl : l.length ≤ 1000000) :
    Calls Tryz.prog 27 #[.slice A l.length c] w fun e w' => e = .returned (.bool (shapeS l)) ∧ Below w.heap.size w w' := by
  have HA := Lib.hid hA
  clear hA
  go_enter Tryz.func27, Tryz.ntmps27
  go_wp2
  go_loopw [3, 4, 7] (fun _ _ v7 wr => ∃ i : Nat, i ≤ l.length ∧ v7 = .int .i64 i ∧ Hid (shapeL true l = shapeL (decide (i = 0)) (l.drop i)) ∧ Hid (Below w.heap.size w wr)) (fun _ _ v7 _ => l.length - (intOf v7).toNat)
  case atStart => exact ⟨0, by omega, rfl, Lib.hid (by simp), Lib.hid (Below.refl _ _)⟩
  case round =>
    obtain ⟨i, hi, rfl, HS, HB⟩ := hrel
    by_cases h0 : i < l.length
    · obtain ⟨x, hx⟩ : ∃ x, l[i]? = some x := ⟨l[i], List.getElem?_eq_getElem h0⟩
      have hdr : l.drop i = x :: l.drop (i + 1) := by
        rw [List.drop_eq_getElem_cons h0]
        rw [List.getElem?_eq_getElem h0] at hx
        injection hx with hx
        rw [hx]
      obtain ⟨ad, rfl, had, c0, cj⟩ := (HA.out.below HB.out).at_ hx
      have c1 := cj 1 _ (by omega) rfl
      have c2 := cj 2 _ (by omega) rfl
      have c3 := cj 3 _ (by omega) rfl
      have c4 := cj 4 _ (by omega) rfl
      have c5 := cj 5 _ (by omega) rfl
      have c6 := cj 6 _ (by omega) rfl
      have c7 := cj 7 _ (by omega) rfl
      have c8 := cj 8 _ (by omega) rfl
      clear cj
      have hemp : (l.drop (i + 1)).isEmpty = decide (i + 1 = l.length) := by
        rw [Bool.eq_iff_iff, List.isEmpty_iff, List.drop_eq_nil_iff, decide_eq_true_eq]
        omega
      obtain ⟨last, hlast⟩ : ∃ b, (!decide (i = 0) && (l.drop (i + 1)).isEmpty) = b := ⟨_, rfl⟩
      have hsh : shapeL true l = (shape1 last x && shapeL false (l.drop (i + 1))) := by rw [HS.out, hdr, shapeL, hlast]
      have hcase : (i = 0 ∧ last = false) ∨ (0 < i ∧ i + 1 = l.length ∧ last = true) ∨ (0 < i ∧ i + 1 ≠ l.length ∧ last = false) := by
        rw [hemp] at hlast
        by_cases e0 : i = 0
        · exact .inl ⟨e0, by rw [← hlast, decide_eq_true e0]; rfl⟩
        · by_cases e1 : i + 1 = l.length
          · exact .inr (.inl ⟨by omega, e1, by rw [← hlast, decide_eq_false e0, decide_eq_true e1]; rfl⟩)
          · exact .inr (.inr ⟨by omega, e1, by rw [← hlast, decide_eq_false e0, decide_eq_false e1]; rfl⟩)
      have hwr1 : IntKind.i64.wrap ((l.length : Int) - 1) = (l.length : Int) - 1 := by rw [IntKind.wrap_i64]; omega
      have hwr2 : IntKind.i64.wrap ((i : Int) + 1) = (i : Int) + 1 := by rw [IntKind.wrap_i64]; omega
      have hfacts : (decide ((0 : Int) < (i : Int)) = false ∧ ¬ (0 : Int) < (i : Int) ∧ last = false) ∨ (decide ((0 : Int) < (i : Int)) = true ∧ (0 : Int) < (i : Int) ∧ ((i : Int) == (l.length : Int) - 1) = true ∧ last = true) ∨ (decide ((0 : Int) < (i : Int)) = true ∧ (0 : Int) < (i : Int) ∧ ((i : Int) == (l.length : Int) - 1) = false ∧ last = false) := by
        rcases hcase with ⟨e0, e1⟩ | ⟨e0, e1, e2⟩ | ⟨e0, e1, e2⟩
        · exact .inl ⟨decide_eq_false (by omega), by omega, e1⟩
        · exact .inr (.inl ⟨decide_eq_true (by omega), by omega, by rw [beq_iff_eq]; omega, e2⟩)
        · exact .inr (.inr ⟨decide_eq_true (by omega), by omega, by rw [beq_eq_false_iff_ne]; omega, e2⟩)
      clear hcase hlast hemp
      obtain ⟨kind, any, ⟨n1, n2⟩, pos, by_, ⟨a1, a2⟩, val⟩ := x
      simp only at c0 c1 c2 c3 c4 c5 c6 c7 c8
      have hstep := fun v => rightStep_any kind any n1 n2 pos by_ a1 a2 val last v
      obtain ⟨b, hb⟩ : ∃ b, shape1 last ⟨kind, any, (n1, n2), pos, by_, (a1, a2), val⟩ = b := ⟨_, rfl⟩
      rw [hb] at hstep hsh
      have HQ := Lib.hid hsh
      clear hb hsh hdr hx HS
      go_upto_region 4 with fail
      have hxx := OwnB.new #[.int .i64 kind, .bool any, .string n1, .string n2, .int .i64 pos, .bool by_, .string a1, .string a2, .string val] 47 HB.out
      have HBn := Lib.hid (HB.out.alloc HB.out.size (.cells #[.int .i64 kind, .bool any, .string n1, .string n2, .int .i64 pos, .bool by_, .string a1, .string a2, .string val] 47))
      clear c0 c1 c2 c3 c4 c5 c6 c7 c8 had
      generalize wr.alloc (.cells #[.int .i64 kind, .bool any, .string n1, .string n2, .int .i64 pos, .bool by_, .string a1, .string a2, .string val] 47) = wx at *
      generalize wr.heap.size = g at *
      have y0 : wx.cell? ⟨g, 0, none⟩ = some (.int .i64 kind) := hxx.cell 0
      have y1 : wx.cell? ⟨g, 1, none⟩ = some (.bool any) := hxx.cell 1
      have y2 : wx.cell? ⟨g, 2, none⟩ = some (.string n1) := hxx.cell 2
      have y3 : wx.cell? ⟨g, 3, none⟩ = some (.string n2) := hxx.cell 3
      have y4 : wx.cell? ⟨g, 4, none⟩ = some (.int .i64 pos) := hxx.cell 4
      have y5 : wx.cell? ⟨g, 5, none⟩ = some (.bool by_) := hxx.cell 5
      have y6 : wx.cell? ⟨g, 6, none⟩ = some (.string a1) := hxx.cell 6
      have y7 : wx.cell? ⟨g, 7, none⟩ = some (.string a2) := hxx.cell 7
      have y8 : wx.cell? ⟨g, 8, none⟩ = some (.string val) := hxx.cell 8
      clear hxx HB
      rcases hfacts with ⟨hd1, hd2, rfl⟩ | ⟨hd1, hd3, hd2, rfl⟩ | ⟨hd1, hd3, hd2, rfl⟩
      · go_wp2_with fail
        refine (hstep _).mono ?_
        rintro e w2 ⟨rfl, hb2⟩
        have HB2 := Lib.hid (HBn.out.trans (hb2.mono HBn.out.size))
        clear hb2 hstep y0 y1 y2 y3 y4 y5 y6 y7 y8
        cases b with
        | false =>
          have hz : shapeS l = false := by
            unfold shapeS
            rw [HQ.out]
            rfl
          clear HQ
          go_wp2
          go_ret
          exact ⟨by rw [hz]; rfl, HB2.out⟩
        | true =>
          have HQ2 : Hid (shapeL true l = shapeL (decide (i + 1 = 0)) (l.drop (i + 1))) := Lib.hid (by
            rw [HQ.out, decide_eq_false (Nat.succ_ne_zero i), Bool.true_and])
          clear HQ
          go_wp2
          go_roundw
          case rel => exact ⟨i + 1, by omega, by go_num, HQ2, HB2⟩
          case measure => simp [intOf]; omega
      · go_wp2_with fail
        refine (hstep _).mono ?_
        rintro e w2 ⟨rfl, hb2⟩
        have HB2 := Lib.hid (HBn.out.trans (hb2.mono HBn.out.size))
        clear hb2 hstep y0 y1 y2 y3 y4 y5 y6 y7 y8
        cases b with
        | false =>
          have hz : shapeS l = false := by
            unfold shapeS
            rw [HQ.out]
            rfl
          clear HQ
          go_wp2
          go_ret
          exact ⟨by rw [hz]; rfl, HB2.out⟩
        | true =>
          have HQ2 : Hid (shapeL true l = shapeL (decide (i + 1 = 0)) (l.drop (i + 1))) := Lib.hid (by
            rw [HQ.out, decide_eq_false (Nat.succ_ne_zero i), Bool.true_and])
          clear HQ
          go_wp2
          go_roundw
          case rel => exact ⟨i + 1, by omega, by go_num, HQ2, HB2⟩
          case measure => simp [intOf]; omega
      · go_wp2_with fail
        refine (hstep _).mono ?_
        rintro e w2 ⟨rfl, hb2⟩
        have HB2 := Lib.hid (HBn.out.trans (hb2.mono HBn.out.size))
        clear hb2 hstep y0 y1 y2 y3 y4 y5 y6 y7 y8
        cases b with
        | false =>
          have hz : shapeS l = false := by
            unfold shapeS
            rw [HQ.out]
            rfl
          clear HQ
          go_wp2
          go_ret
          exact ⟨by rw [hz]; rfl, HB2.out⟩
        | true =>
          have HQ2 : Hid (shapeL true l = shapeL (decide (i + 1 = 0)) (l.drop (i + 1))) := Lib.hid (by
            rw [HQ.out, decide_eq_false (Nat.succ_ne_zero i), Bool.true_and])
          clear HQ
          go_wp2
          go_roundw
          case rel => exact ⟨i + 1, by omega, by go_num, HQ2, HB2⟩
          case measure => simp [intOf]; omega
    · have hend : i = l.length := by omega
      have hq : shapeL true l = true := by
        rw [HS.out, hend, List.drop_length]
        rfl
      have hz : shapeS l = (decide (1 ≤ l.length) && decide (l.length ≤ 16)) := by
        unfold shapeS
        rw [hq]
        rfl
      have hi0 : ¬ (i : Int) < (l.length : Int) := by omega
      clear hq hend h0 HS
      by_cases z1 : 1 ≤ l.length
      · have e1 : decide ((0 : Int) < (l.length : Int)) = true := decide_eq_true (by omega)
        have e1' : (0 : Int) < (l.length : Int) := by omega
        by_cases z2 : l.length ≤ 16
        · have e2 : decide ((l.length : Int) ≤ 16) = true := decide_eq_true (by omega)
          have HZ := Lib.hid (show shapeS l = true from by rw [hz, decide_eq_true z1, decide_eq_true z2]; rfl)
          clear z1 z2 hz
          go_wp2
          go_ret
          exact ⟨by rw [HZ.out]; rfl, HB.out⟩
        · have e2 : decide ((l.length : Int) ≤ 16) = false := decide_eq_false (by omega)
          have HZ := Lib.hid (show shapeS l = false from by rw [hz, decide_eq_true z1, decide_eq_false z2]; rfl)
          clear z1 z2 hz
          go_wp2
          go_ret
          exact ⟨by rw [HZ.out]; rfl, HB.out⟩
      · have e1 : decide ((0 : Int) < (l.length : Int)) = false := decide_eq_false (by omega)
        have e1' : ¬ (0 : Int) < (l.length : Int) := by omega
        have HZ := Lib.hid (show shapeS l = false from by rw [hz, decide_eq_false z1]; rfl)
        clear z1 hz
        go_wp2
        go_ret
        exact ⟨by rw [HZ.out]; rfl, HB.out⟩
end Go.Proofs.YtbeglliabpflpaaGreatDoor
namespace Go.Proofs.YtbeglliabpflpaaGreatDoor
open Go.RowKit Wb
theorem arr256_info : (Tryz.prog.info? 101).map (fun i => (i.zero, i.size)) = some (some (.agg (Array.replicate 256 (.bool false))), 256) := by kernel_rfl
set_option maxRecDepth 100000 in
set_option maxHeartbeats 8000000 in
theorem keeping_any (keep : ByteArray) (w : World) (hk : keep.size ≤ 1000000) :
    Calls Tryz.prog 60 #[.string keep] w fun e w' => e = .returned (.agg (arrB (fA keep.data.toList))) ∧ Below w.heap.size w w' := by
  have hz := (zero_of_info arr256_info).1
  have hi256 := (zero_of_info arr256_info).2
  obtain ⟨ka, hka⟩ : ∃ ka, arrB (fA keep.data.toList) = ka := ⟨_, rfl⟩
  rw [hka]
  have HKA := Lib.hid hka
  clear hka
  have HB0 := Lib.hid (((Below.refl w.heap.size w).alloc (Nat.le_refl _) (.cells (Array.replicate 256 (.bool false)) 101)).alloc (by simp) (.cells (Array.replicate 256 (.bool false)) 101))
  have HR0 := Lib.hid (heap_alloc2_old w (.cells (Array.replicate 256 (.bool false)) 101) (.cells (Array.replicate 256 (.bool false)) 101))
  have HK0 := Lib.hid (heap_alloc2_new w (.cells (Array.replicate 256 (.bool false)) 101) (.cells (Array.replicate 256 (.bool false)) 101))
  go_enter Tryz.func60, Tryz.ntmps60
  go_wp2
  go_loopw [7] (fun v7 wr => ∃ i : Nat, i ≤ 256 ∧ v7 = .int .i64 i ∧ Hid (wr.heap[w.heap.size + 1]? = some (.cells (arrB (fP i)) 101 (0, 0))) ∧ Hid (wr.heap[w.heap.size]? = some (.cells (Array.replicate 256 (.bool false)) 101 (0, 0))) ∧ Hid (Below w.heap.size w wr)) (fun v7 _ => (256 - intOf v7).toNat)
  case atStart => exact ⟨0, by omega, rfl, Lib.hid (by rw [fP_zero]; exact HK0.out), HR0, HB0⟩
  case round =>
    obtain ⟨i, hi, rfl, HK, HR, HB⟩ := hrel
    by_cases h0 : i < 256
    · have hp := pplain_any (UInt8.ofNat i) wr
      have e1 : ((UInt8.ofNat i).toNat : Int) = (i : Int) := by rw [UInt8.toNat_ofNat']; omega
      have e2 : IntKind.u8.wrap (i : Int) = (i : Int) := by rw [IntKind.wrap_u8]; omega
      rw [e1] at hp
      have c1 : wr.cell? ⟨w.heap.size + 1, i, none⟩ = some (.bool (fP i i)) := by rw [blk_cell HK.out, arrB_at _ h0]
      have f1 := blk_free HK.out i
      have HK2 := Lib.hid (blk_set HK.out i (.bool (plC (UInt8.ofNat i))))
      have HR2 : Hid ((wr.setCell ⟨w.heap.size + 1, i, none⟩ (.bool (plC (UInt8.ofNat i)))).heap[w.heap.size]? = some (.cells (Array.replicate 256 (.bool false)) 101 (0, 0))) := Lib.hid (by
        rw [heap_setCell_other _ _ _ _ (by show w.heap.size ≠ w.heap.size + 1; omega)]
        exact HR.out)
      have HB2 := Lib.hid (HB.out.setCell (p := ⟨w.heap.size + 1, i, none⟩) (by show w.heap.size ≤ w.heap.size + 1; omega) (.bool (plC (UInt8.ofNat i))))
      have HS := Lib.hid (fP_step h0)
      generalize plC (UInt8.ofNat i) = pl at *
      generalize fP i i = p0 at *
      have h0i : (i : Int) < 256 := by omega
      clear e1 HK HR HB
      go_wp2_with fail
      refine hp.mono ?_
      rintro e w2 ⟨rfl, rfl⟩
      clear hp
      go_wp2
      go_roundw
      case rel => exact ⟨i + 1, by omega, by go_num, Lib.hid (by rw [← HS.out]; exact HK2.out), HR2, HB2⟩
      case measure => simp [intOf]; omega
    · obtain rfl : i = 256 := by omega
      clear hi h0 HB0 HR0 HK0
      have hlt := (Array.getElem?_eq_some_iff.1 HK.out).1
      have hcv := Lib.run_convert_string_bytes (P := Tryz.prog) wr 9 78 5 keep (u := .string) Tryz.underlying9 Tryz.underlying78 Tryz.underlying5
      have hb1 := Go.Joins.below_bytesWorld wr.heap.size wr 5 keep (Nat.le_refl _)
      have HCL := Lib.hid (fun (i : Nat) (c : UInt8) (h : keep.data.toList[i]? = some c) => (show (Lib.bytesWorld wr 5 keep).cell? ⟨wr.heap.size, i, none⟩ = some (.int .u8 (c.toNat : Int)) from by
        have hi := (List.getElem?_eq_some_iff.1 h).1
        rw [Lib.bytesWorld_cell wr 5 keep i (by simpa using hi), List.getD, h]
        rfl))
      have HK1 := Lib.hid (still_block HK.out hb1)
      have HR1 := Lib.hid (still_block HR.out hb1)
      have HB1 := Lib.hid (HB.out.trans (hb1.mono HB.out.size))
      rw [fP_end keep.data.toList] at HK1
      generalize Lib.bytesWorld wr 5 keep = w1 at *
      generalize grownCap wr keep.size 0 5 = cp at *
      clear hb1 HK HR HB
      go_wp2
      generalize wr.heap.size = bk at *
      go_loopw [19] (fun v19 wq => ∃ i : Nat, i ≤ keep.size ∧ v19 = .int .i64 i ∧ Hid (wq.heap[w.heap.size + 1]? = some (.cells (arrB (fK keep.data.toList i)) 101 (0, 0))) ∧ Hid (wq.heap[w.heap.size]? = some (.cells (Array.replicate 256 (.bool false)) 101 (0, 0))) ∧ Hid (Below w.heap.size w wq) ∧ Hid (∀ (i : Nat) (c : UInt8), keep.data.toList[i]? = some c → wq.cell? ⟨bk, i, none⟩ = some (.int .u8 (c.toNat : Int)))) (fun v19 _ => ((keep.size : Int) - intOf v19).toNat)
      case atStart => exact ⟨0, by omega, rfl, HK1, HR1, HB1, HCL⟩
      case round =>
        clear HK1 HR1 HB1 HCL
        obtain ⟨i, hi, rfl, HK, HR, HB, HC⟩ := hrel
        by_cases h0 : i < keep.size
        · obtain ⟨c, hc⟩ : ∃ c, keep.data.toList[i]? = some c := ⟨keep.data.toList[i]'(by simpa using h0), List.getElem?_eq_getElem _⟩
          have hcl := HC.out i c hc
          have c1 : wr.cell? ⟨w.heap.size + 1, c.toNat, none⟩ = some (.bool (fK keep.data.toList i c.toNat)) := by rw [blk_cell HK.out, arrB_at _ c.toNat_lt]
          have f1 := blk_free HK.out c.toNat
          have HK2 := Lib.hid (blk_set HK.out c.toNat (.bool true))
          have HS := Lib.hid (fK_step hc)
          have HR2 : Hid ((wr.setCell ⟨w.heap.size + 1, c.toNat, none⟩ (.bool true)).heap[w.heap.size]? = some (.cells (Array.replicate 256 (.bool false)) 101 (0, 0))) := Lib.hid (by
            rw [heap_setCell_other _ _ _ _ (by show w.heap.size ≠ w.heap.size + 1; omega)]
            exact HR.out)
          have HB2 := Lib.hid (HB.out.setCell (p := ⟨w.heap.size + 1, c.toNat, none⟩) (by show w.heap.size ≤ w.heap.size + 1; omega) (.bool true))
          have HC2 : Hid (∀ (k : Nat) (x : UInt8), keep.data.toList[k]? = some x → (wr.setCell ⟨w.heap.size + 1, c.toNat, none⟩ (.bool true)).cell? ⟨bk, k, none⟩ = some (.int .u8 (x.toNat : Int))) := Lib.hid (fun k x hx => by
            have hh := heap_setCell_other wr ⟨w.heap.size + 1, c.toNat, none⟩ bk (.bool true) (by show bk ≠ w.heap.size + 1; omega)
            rw [← HC.out k x hx]
            simp [World.cell?, hh])
          have hc256 : (c.toNat : Int) < 256 := by have := c.toNat_lt; omega
          generalize fK keep.data.toList i c.toNat = b0 at *
          clear hc HK HR HB HC
          go_wp2
          go_roundw
          case rel => exact ⟨i + 1, by omega, by go_num, Lib.hid (by rw [← HS.out]; exact HK2.out), HR2, HB2, HC2⟩
          case measure => simp [intOf]; omega
        · obtain rfl : i = keep.size := by omega
          clear hi h0
          rw [show keep.size = keep.data.toList.length by simp] at HK
          have c1 : wr.cell? ⟨w.heap.size + 1, 37, none⟩ = some (.bool (fK keep.data.toList keep.data.toList.length 37)) := by rw [blk_cell HK.out, arrB_at _ (by omega)]
          have f1 := blk_free HK.out 37
          have hk2 := blk_set HK.out 37 (.bool false)
          rw [fA_step] at hk2
          have HK2 := Lib.hid hk2
          have HR2 : Hid ((wr.setCell ⟨w.heap.size + 1, 37, none⟩ (.bool false)).heap[w.heap.size]? = some (.cells (Array.replicate 256 (.bool false)) 101 (0, 0))) := Lib.hid (by
            rw [heap_setCell_other _ _ _ _ (by show w.heap.size ≠ w.heap.size + 1; omega)]
            exact HR.out)
          have HB2 := Lib.hid (HB.out.setCell (p := ⟨w.heap.size + 1, 37, none⟩) (by show w.heap.size ≤ w.heap.size + 1; omega) (.bool false))
          generalize fK keep.data.toList keep.data.toList.length 37 = b0 at *
          clear hk2 HK HR HB HC
          have hsz := arrB_size (fA keep.data.toList)
          have hon := arrB_one (fA keep.data.toList)
          rw [HKA.out] at HK2 hsz hon
          go_upto_region 13 with fail
          generalize wr.setCell ⟨w.heap.size + 1, 37, none⟩ (.bool false) = wz at *
          refine wp_region_list ?_
          refine wpList_load_row rfl 101 (.tmp 3) rfl (w.heap.size + 1) rfl 101 ka (0, 0) _ HK2.out Tryz.underlying101 rfl (by rw [hsz]; exact hi256) ?_
          refine wpList_store_row rfl 101 (.tmp 2) (.tmp 27) rfl w.heap.size ka rfl rfl 101 _ HR2.out (by rw [hsz]; exact hi256) (by rw [hsz]; simp) hon ?_
          have HF := Lib.hid (setRow_heap wz w.heap.size _ ka _ _ HR2.out)
          have HB3 := Lib.hid (Go.below_setRow HB2.out (Nat.le_refl _) ka)
          generalize wz.setRow w.heap.size ka = wy at *
          clear HR2 HB2 HK2 c1 f1
          simp only [wpList, Act.put]
          go_wp2
          refine bodyPost_ret (results_cell_row rfl _ _ w.heap.size 101 ka (0, 0) _ rfl HF.out Tryz.underlying101 rfl (by rw [hsz]; exact hi256)) rfl ?_
          exact ⟨rfl, HB3.out⟩
end Go.Proofs.YtbeglliabpflpaaGreatDoor
namespace Go.Proofs.YtbeglliabpflpaaGreatDoor
open Go.RowKit Wb
def KeepF (w w' : World) : Prop := ∀ (k : Nat) (cs : Array Value) (t : TypeId) (fr : Nat × Nat), fr ≠ (0, 0) → w.heap[k]? = some (Obj.cells cs t fr) → w'.heap[k]? = w.heap[k]?
theorem KeepF.refl (w : World) : KeepF w w := fun _ _ _ _ _ _ => rfl
theorem KeepF.trans {w w' w2 : World} (h : KeepF w w') (k : KeepF w' w2) : KeepF w w2 := fun i cs t fr h1 h3 => by
  have e := h i cs t fr h1 h3
  exact (k i cs t fr h1 (e.trans h3)).trans e
theorem KeepF.of_below {w w' : World} (h : Below w.heap.size w w') : KeepF w w' := fun _ _ _ _ _ h3 => h.block _ (Array.getElem?_eq_some_iff.1 h3).1
theorem KeepF.set {w : World} {b : Nat} {cs : Array Value} {t : TypeId} (h : w.heap[b]? = some (.cells cs t (0, 0))) (i : Nat) (u : Value) : KeepF w (w.setCell ⟨b, i, none⟩ u) := fun k cs' t fr h2 h3 => by
  refine Below.heap_setCell _ _ _ _ (fun e => ?_)
  subst e
  rw [h] at h3
  injection h3 with h3
  injection h3 with _ _ h4
  exact h2 h4.symm
theorem KeepF.grown {w w2 : World} {base n sz : Nat} {e : TypeId} {v : Value} {xs : List Value} (h : w.ownsRow base e sz v n xs) (hg : w.grownBy w2 v.ownBlock) : KeepF w w2 := fun k cs' t fr h1 h3 => by
  refine hg.block k (Array.getElem?_eq_some_iff.1 h3).1 (fun e => ?_)
  rcases h.2 with ⟨rfl, _⟩ | ⟨g, cap, cur, rfl, _, hb, _⟩
  · simp [Value.ownBlock] at e
  · simp only [Value.ownBlock, Option.some.injEq] at e
    subst e
    rw [hb] at h3
    injection h3 with h3
    injection h3 with _ _ h4
    exact h1 h4.symm
def Marked (w : World) (k : Nat) (s : ByteArray) : Prop := ∃ cs fr, w.heap[k]? = some (Obj.cells cs 5 fr) ∧ fr ≠ (0, 0) ∧ ∀ (i : Nat) (c : UInt8), s.data.toList[i]? = some c → cs[i]? = some (.int .u8 (c.toNat : Int))
theorem Marked.new (w : World) (s : ByteArray) : Marked (Lib.bytesWorld w 5 s) w.heap.size s := by
  refine ⟨_, _, Lib.bytesWorld_at_new w 5 s, by simp, fun i c h => ?_⟩
  have hi := (List.getElem?_eq_some_iff.1 h).1
  have := Lib.bytesWorld_cell w 5 s i (by simpa using hi)
  rw [List.getD, h] at this
  unfold World.cell? at this
  rw [Lib.bytesWorld_at_new w 5 s] at this
  simpa using this
theorem Marked.keep {w w' : World} {k : Nat} {s : ByteArray} (h : Marked w k s) (hk : KeepF w w') : Marked w' k s := by
  obtain ⟨cs, fr, h1, h2, h3⟩ := h
  exact ⟨cs, fr, (hk k cs _ fr h2 h1).trans h1, h2, h3⟩
theorem Marked.cell {w : World} {k : Nat} {s : ByteArray} (h : Marked w k s) {i : Nat} {c : UInt8} (hc : s.data.toList[i]? = some c) : w.cell? ⟨k, i, none⟩ = some (.int .u8 (c.toNat : Int)) := by
  obtain ⟨cs, fr, h1, h2, h3⟩ := h
  rw [cell_of_row w k i cs _ fr h1]
  exact h3 i c hc
set_option maxHeartbeats 1000000 in
set_option maxRecDepth 100000 in
theorem qf_check {B b : Nat} {bs : List Value} {w : World} (h : Lib.IsBuilder 80 5 B b bs w) :
    Calls Tryz.prog 76 #[.pointer (some ⟨b, 0, none⟩)] w fun e w' => e = .returned (.tuple #[]) ∧ Lib.BuilderAt 80 5 B b (.pointer (some ⟨b, 0, none⟩)) bs w' ∧ Below B w w' ∧ KeepF w w' := by
  obtain ⟨j, hj, hjs⟩ := Option.map_eq_some_iff.1 qw_size
  rcases h with ⟨h1, v, h2, h3, h4⟩ | ⟨h1, v, h2, h3, h4⟩
  · have h0 : w.cell? ⟨b, 0, none⟩ = some (.pointer none) := blk_cell h2 0
    have hfz := blk_free h2 0
    have hsh : w.shape? b = some (80, 2) := by simp [World.shape?, h2]
    have e1 : (convert 77 132 (.pointer (some ⟨b, 0, none⟩))).run Tryz.prog w = .ok (.pointer (some ⟨b, 0, none⟩)) w := Lib.run_to_unsafe w ⟨b, 0, none⟩ Tryz.underlying77 Tryz.underlying132 hj (by rw [hjs]; decide) hsh (by show 0 < 2; omega)
    have e2 : (convert 132 77 (.pointer (some ⟨b, 0, none⟩))).run Tryz.prog w = .ok (.pointer (some ⟨b, 0, none⟩)) w := Lib.run_from_unsafe w ⟨b, 0, none⟩ Tryz.underlying132 Tryz.underlying77 hj hsh qw_lies
    have e3 := qw_esc
    have hfin : Lib.BuilderAt 80 5 B b (.pointer (some ⟨b, 0, none⟩)) bs (w.setCell ⟨b, 0, none⟩ (.pointer (some ⟨b, 0, none⟩))) ∧ Below B w (w.setCell ⟨b, 0, none⟩ (.pointer (some ⟨b, 0, none⟩))) ∧ KeepF w (w.setCell ⟨b, 0, none⟩ (.pointer (some ⟨b, 0, none⟩))) := by
      refine ⟨⟨h1, v, by simpa using blk_set h2 0 (.pointer (some ⟨b, 0, none⟩)), own_blk' h3 fun k hv => Below.heap_setCell _ _ _ _ (fun e => h4 (by rw [hv]; simpa using e)), h4⟩, (Below.refl B w).setCell (p := ⟨b, 0, none⟩) h1 _, KeepF.set h2 0 _⟩
    have HF := Lib.hid hfin
    clear hfin h3 h4 hsh hj hjs h2
    go_enter Tryz.func76, Tryz.ntmps76
    go_wp2
    go_end0
    exact ⟨rfl, HF.out⟩
  · have h0 : w.cell? ⟨b, 0, none⟩ = some (.pointer (some ⟨b, 0, none⟩)) := blk_cell h2 0
    have hfin : Lib.BuilderAt 80 5 B b (.pointer (some ⟨b, 0, none⟩)) bs w ∧ Below B w w ∧ KeepF w w := ⟨⟨h1, v, h2, h3, h4⟩, Below.refl _ _, KeepF.refl w⟩
    have HF := Lib.hid hfin
    have hpe := fun (v : World) => Lib.run_neq_ptr_same (P := Tryz.prog) v ⟨b, 0, none⟩ Tryz.underlying77 hj
    clear hfin h3 h4 hj hjs h2
    go_enter Tryz.func76, Tryz.ntmps76
    go_wp2
    go_end0
    exact ⟨rfl, HF.out⟩
set_option maxHeartbeats 2000000 in
set_option maxRecDepth 100000 in
theorem qfbyte_any (B b : Nat) (bs : List Value) (c : Int) (w : World) (h : Lib.IsBuilder 80 5 B b bs w) (hlen : bs.length + 1 ≤ 140737488355328) (_hBw : B ≤ w.heap.size) :
    Calls Tryz.prog 40 #[.pointer (some ⟨b, 0, none⟩), .int .u8 c] w fun e w' => (∃ v, e = .returned v) ∧ Lib.IsBuilder 80 5 B b (bs ++ [.int .u8 c]) w' ∧ Below B w w' ∧ KeepF w w' := by
  obtain ⟨i0, hi, hz0, hz1, hz2⟩ := info_parts qw_byte
  have hc := qf_check h
  clear h
  go_enter Tryz.func40, Tryz.ntmps40
  go_wp2_with fail
  refine hc.mono ?_
  rintro e w1 ⟨rfl, ⟨hB, v, hbk, hown, hne⟩, hb1, ht1⟩
  have c0 : w1.cell? ⟨b, 0, none⟩ = some (.pointer (some ⟨b, 0, none⟩)) := blk_cell hbk 0
  have c1 : w1.cell? ⟨b, 1, none⟩ = some v := blk_cell hbk 1
  have hlt := blk_in' hbk
  have hbw : B ≤ w1.heap.size := by omega
  go_wp2_with (at_builtin; refine wpList_append_own _ rfl _ _ 78 rfl B 5 i0 (.int .u8 0) 1 1 Tryz.underlying78 hi hz0 hz1 hz2 rfl (by decide) _ _ _ rfl (hown.alloc _) ⟨w1.heap.size, 0, none⟩ 1 1 [.int .u8 c] rfl rfl ?c1 ?c2 ?c3 ?c4 ?c5 ?_)
  case c1 =>
    intro j u hj
    match j, hj with
    | 0, hj => simp at hj; subst hj; simp [Addr.add]
  case c2 => intro u hu; simp at hu; subst hu; rfl
  case c3 => unfold maxLen; omega
  case c4 => omega
  case c5 => simp; omega
  intro v' w2 hown' hgrow _
  have hb2 : w2.heap[b]? = some (.cells #[.pointer (some ⟨b, 0, none⟩), v] 80 (0, 0)) := by
    rw [hgrow.block b (by simp; omega) (fun e => hne e.symm), Lib.alloc_old w1 _ b hlt]
    exact hbk
  have d0 : w2.cell? ⟨b, 0, none⟩ = some (.pointer (some ⟨b, 0, none⟩)) := blk_cell hb2 0
  have d1 : w2.cell? ⟨b, 1, none⟩ = some v := blk_cell hb2 1
  have f1 := blk_free hb2 1
  obtain ⟨g, cap, rfl⟩ : ∃ g cap, v' = .slice (some ⟨g, 0, none⟩) (bs.length + 1) cap := by
    rcases hown'.2 with ⟨_, h0⟩ | ⟨g, cap, cur, hv, _⟩
    · omega
    · exact ⟨g, cap, hv⟩
  have hfin : Lib.IsBuilder 80 5 B b (bs ++ [.int .u8 c]) (w2.setCell ⟨b, 1, none⟩ (.slice (some ⟨g, 0, none⟩) (bs.length + 1) cap)) :=
    .inr (Lib.BuilderAt.put (T := 80) (e := 5) hB hb2 (bs' := bs ++ [.int .u8 c]) (by simpa using hown') (by decide))
  have HF := Lib.hid hfin
  have HT := Lib.hid (ht1.trans (((KeepF.of_below ((Below.refl w1.heap.size w1).alloc (Nat.le_refl _) (.cells #[.int .u8 c] 5))).trans (KeepF.grown (hown.alloc _) hgrow)).trans (KeepF.set hb2 1 (.slice (some ⟨g, 0, none⟩) (bs.length + 1) cap))))
  have HK := Lib.hid (((hb1.alloc (by omega) _).grown hgrow (by simp; omega) (fun k hk => (hown.lt k hk).1)).setCell (p := ⟨b, 1, none⟩) hB (.slice (some ⟨g, 0, none⟩) (bs.length + 1) cap))
  clear hfin hown' hgrow hown hc ht1
  go_wp2
  go_ret
  exact ⟨⟨_, rfl⟩, HF.out, HK.out, HT.out⟩
end Go.Proofs.YtbeglliabpflpaaGreatDoor
