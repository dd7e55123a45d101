/- SdG SdH. -/
import Derived.Test.YtbdamneophbnnaaGreatDoorCU18
import Derived.Test.YtbdamneophbnnaaGreatDoorCU19
import Derived.Test.YtbdamneophbnnaaGreatDoorCU23
namespace Go.Proofs.YtbdamneophbnnaaGreatDoor
open Go.RowKit Wb
set_option maxHeartbeats 16000000 in
set_option maxRecDepth 100000 in
theorem rightStep_any (kind : Int) (any : Bool) (n1 n2 : ByteArray) (pos : Int) (by_ : Bool) (a1 a2 val : ByteArray) (last : Bool) (w : World) :
    Calls Tryz.prog 104 #[.agg #[.int .i64 kind, .bool any, .string n1, .string n2, .int .i64 pos, .bool by_, .string a1, .string a2, .string val], .bool last] w fun e w' => e = .returned (.bool (shape1 last ⟨kind, any, (n1, n2), pos, by_, (a1, a2), val⟩)) ∧ Below w.heap.size w w' := by
  have hk0 := OwnB.new0 w #[.int .i64 kind, .bool any, .string n1, .string n2, .int .i64 pos, .bool by_, .string a1, .string a2, .string val] 46
  have hb0 := (Below.refl w.heap.size w).alloc (Nat.le_refl _) (.cells #[.int .i64 kind, .bool any, .string n1, .string n2, .int .i64 pos, .bool by_, .string a1, .string a2, .string val] 46)
  obtain ⟨o, ho⟩ : ∃ o, shape1 last ⟨kind, any, (n1, n2), pos, by_, (a1, a2), val⟩ = o := ⟨_, rfl⟩
  rw [ho]
  unfold shape1 at ho
  simp only at ho
  go_enter Tryz.func104, Tryz.ntmps104
  go_upto_region 1 with fail
  generalize w.alloc (.cells #[.int .i64 kind, .bool any, .string n1, .string n2, .int .i64 pos, .bool by_, .string a1, .string a2, .string val] 46) = w0 at *
  have x0 : w0.cell? ⟨w.heap.size, 0, none⟩ = some (.int .i64 kind) := hk0.cell 0
  have x1 : w0.cell? ⟨w.heap.size, 1, none⟩ = some (.bool any) := hk0.cell 1
  have x2 : w0.cell? ⟨w.heap.size, 2, none⟩ = some (.string n1) := hk0.cell 2
  have x3 : w0.cell? ⟨w.heap.size, 3, none⟩ = some (.string n2) := hk0.cell 3
  have x4 : w0.cell? ⟨w.heap.size, 4, none⟩ = some (.int .i64 pos) := hk0.cell 4
  have x5 : w0.cell? ⟨w.heap.size, 5, none⟩ = some (.bool by_) := hk0.cell 5
  have x6 : w0.cell? ⟨w.heap.size, 6, none⟩ = some (.string a1) := hk0.cell 6
  have x7 : w0.cell? ⟨w.heap.size, 7, none⟩ = some (.string a2) := hk0.cell 7
  have x8 : w0.cell? ⟨w.heap.size, 8, none⟩ = some (.string val) := hk0.cell 8
  clear hk0
  by_cases k1 : kind = 1
  · rw [if_pos k1] at ho
    subst k1
    obtain ⟨N, hN⟩ : ∃ N, decide (((n1, n2) : Pr) = nE) = N := ⟨_, rfl⟩
    obtain ⟨M, hM⟩ : ∃ M, (decide (((a1, a2) : Pr) = nE) && decide (val = sE)) = M := ⟨_, rfl⟩
    rw [hN, hM] at ho
    have HO := Lib.hid ho
    have HM := Lib.hid hM
    clear ho hM
    go_upto_region 3 with fail
    go_cut [5] from 11 to 14 (fun v5 wy => v5 = .bool (!N) ∧ wy = w0)
    case first =>
      clear HO HM
      rcases emp_or n1 with ⟨e1, p1⟩ | ⟨e1, p1⟩
      · rcases emp_or n2 with ⟨e2, p2⟩ | ⟨e2, p2⟩
        · obtain rfl : true = N := by rw [← hN]; exact (decide_eq_true ((nE_iff _ _).2 ⟨e1, e2⟩)).symm
          clear e1 e2 hN
          go_wp2
          go_meet
          case rel => exact ⟨rfl, rfl⟩
        · obtain rfl : false = N := by rw [← hN]; exact (decide_eq_false fun h => e2 ((nE_iff _ _).1 h).2).symm
          clear e1 e2 hN
          go_wp2
          go_meet
          case rel => exact ⟨rfl, rfl⟩
      · obtain rfl : false = N := by rw [← hN]; exact (decide_eq_false fun h => e1 ((nE_iff _ _).1 h).1).symm
        clear e1 hN
        go_wp2
        go_meet
        case rel => exact ⟨rfl, rfl⟩
    case rest =>
      obtain ⟨rfl, rfl⟩ := hcut
      rename World => wy
      clear hN
      go_upto_region 4 with fail
      go_cut [6] from 15 to 23 (fun v6 wz => v6 = .bool M ∧ wz = wy)
      case first =>
        have hM := HM.out
        clear HO HM
        rcases emp_or a1 with ⟨e1, p1⟩ | ⟨e1, p1⟩
        · rcases emp_or a2 with ⟨e2, p2⟩ | ⟨e2, p2⟩
          · rcases emp_or val with ⟨e3, p3⟩ | ⟨e3, p3⟩
            · obtain rfl : true = M := by rw [← hM, decide_eq_true ((nE_iff _ _).2 ⟨e1, e2⟩), decide_eq_true e3]; rfl
              have q3 : val.toList.isEmpty = true := by rw [p3]; rfl
              clear e1 e2 e3 hM
              go_wp2
              go_meet
              case rel => exact ⟨rfl, rfl⟩
            · obtain rfl : false = M := by rw [← hM, decide_eq_false e3, Bool.and_false]
              have q3 : val.toList.isEmpty = false := by simpa using p3
              clear e1 e2 e3 hM
              go_wp2
              go_meet
              case rel => exact ⟨rfl, rfl⟩
          · obtain rfl : false = M := by rw [← hM, decide_eq_false fun h => e2 ((nE_iff _ _).1 h).2]; rfl
            clear e1 e2 hM
            go_wp2
            go_meet
            case rel => exact ⟨rfl, rfl⟩
        · obtain rfl : false = M := by rw [← hM, decide_eq_false fun h => e1 ((nE_iff _ _).1 h).1]; rfl
          clear e1 hM
          go_wp2
          go_meet
          case rel => exact ⟨rfl, rfl⟩
      case rest =>
        obtain ⟨rfl, rfl⟩ := hcut
        rename World => wz
        have ho := HO.out
        clear HO HM
        have hc : (any == N) = false ∨ ((any == N) = true ∧ ¬ 0 ≤ pos) ∨ ((any == N) = true ∧ 0 ≤ pos ∧ ¬ pos ≤ 9999) ∨ ((any == N) = true ∧ 0 ≤ pos ∧ pos ≤ 9999 ∧ by_ = true) ∨ ((any == N) = true ∧ 0 ≤ pos ∧ pos ≤ 9999 ∧ by_ = false) := by
          cases any <;> cases N <;> cases by_ <;> simp <;> omega
        rcases hc with h | ⟨h, p1⟩ | ⟨h, p1, p2⟩ | ⟨h, p1, p2, rfl⟩ | ⟨h, p1, p2, rfl⟩
        · obtain rfl : false = o := by rw [← ho, h]; rfl
          clear ho
          cases any <;> cases N
          · cases h
          · go_wp2
            go_ret
            exact ⟨rfl, hb0⟩
          · go_wp2
            go_ret
            exact ⟨rfl, hb0⟩
          · cases h
        · obtain rfl : false = o := by rw [← ho, h, decide_eq_false p1]; rfl
          have d1 : decide (0 ≤ pos) = false := decide_eq_false p1
          clear ho
          cases any <;> cases N
          · go_wp2
            go_ret
            exact ⟨rfl, hb0⟩
          · cases h
          · cases h
          · go_wp2
            go_ret
            exact ⟨rfl, hb0⟩
        · obtain rfl : false = o := by rw [← ho, h, decide_eq_true p1, decide_eq_false p2]; rfl
          have d1 : decide (0 ≤ pos) = true := decide_eq_true p1
          have d2 : decide (pos ≤ 9999) = false := decide_eq_false p2
          clear ho
          cases any <;> cases N
          · go_wp2
            go_ret
            exact ⟨rfl, hb0⟩
          · cases h
          · cases h
          · go_wp2
            go_ret
            exact ⟨rfl, hb0⟩
        · obtain rfl : true = o := by rw [← ho, h, decide_eq_true p1, decide_eq_true p2]; rfl
          have d1 : decide (0 ≤ pos) = true := decide_eq_true p1
          have d2 : decide (pos ≤ 9999) = true := decide_eq_true p2
          clear ho
          cases any <;> cases N
          · go_wp2
            go_ret
            exact ⟨rfl, hb0⟩
          · cases h
          · cases h
          · go_wp2
            go_ret
            exact ⟨rfl, hb0⟩
        · obtain rfl : M = o := by rw [← ho, h, decide_eq_true p1, decide_eq_true p2]; simp
          have d1 : decide (0 ≤ pos) = true := decide_eq_true p1
          have d2 : decide (pos ≤ 9999) = true := decide_eq_true p2
          clear ho
          cases any <;> cases N
          · go_wp2
            go_ret
            exact ⟨rfl, hb0⟩
          · cases h
          · cases h
          · go_wp2
            go_ret
            exact ⟨rfl, hb0⟩
  · rw [if_neg k1] at ho
    have hk1 : (kind == 1) = false := by simpa using k1
    by_cases k2 : kind = 2
    · rw [if_pos k2] at ho
      subst k2
      go_upto_region 7 with fail
      cases last with
      | false =>
        obtain rfl : false = o := by rw [← ho]; rfl
        clear ho
        go_wp2
        go_ret
        exact ⟨rfl, hb0⟩
      | true =>
        clear k1
        cases any with
        | true =>
          obtain rfl : false = o := by rw [← ho]; simp
          clear ho
          go_wp2
          go_ret
          exact ⟨rfl, hb0⟩
        | false =>
          by_cases hp : pos = 0
          · subst hp
            cases by_ with
            | true =>
              obtain rfl : false = o := by rw [← ho]; simp
              clear ho
              go_wp2
              go_ret
              exact ⟨rfl, hb0⟩
            | false =>
              rcases emp_or a1 with ⟨e_a1, p_a1⟩ | ⟨e_a1, p_a1⟩
              · rcases emp_or a2 with ⟨e_a2, p_a2⟩ | ⟨e_a2, p_a2⟩
                · rcases emp_or val with ⟨e_val, p_val⟩ | ⟨e_val, p_val⟩
                  · obtain rfl : true = o := by rw [← ho]; simp [nE, e_a1, e_a2, e_val]
                    clear ho e_a1 e_a2 e_val
                    go_wp2
                    go_ret
                    exact ⟨rfl, hb0⟩
                  · obtain rfl : false = o := by rw [← ho]; simp [e_val, nE]
                    clear ho e_val e_a1 e_a2
                    go_wp2
                    go_ret
                    exact ⟨rfl, hb0⟩
                · obtain rfl : false = o := by rw [← ho]; simp [e_a2, nE]
                  clear ho e_a2 e_a1
                  go_wp2
                  go_ret
                  exact ⟨rfl, hb0⟩
              · obtain rfl : false = o := by rw [← ho]; simp [e_a1, nE]
                clear ho e_a1
                go_wp2
                go_ret
                exact ⟨rfl, hb0⟩
          · obtain rfl : false = o := by rw [← ho]; simp [hp]
            clear ho
            go_wp2
            go_ret
            exact ⟨rfl, hb0⟩
    · rw [if_neg k2] at ho
      have hk2 : (kind == 2) = false := by simpa using k2
      by_cases k3 : kind = 3
      · rw [if_pos k3] at ho
        subst k3
        go_upto_region 9 with fail
        cases last with
        | false =>
          obtain rfl : false = o := by rw [← ho]; rfl
          clear ho
          go_wp2
          go_ret
          exact ⟨rfl, hb0⟩
        | true =>
          clear k1 k2
          cases any with
          | true =>
            obtain rfl : false = o := by rw [← ho]; simp
            clear ho
            go_wp2
            go_ret
            exact ⟨rfl, hb0⟩
          | false =>
            rcases emp_or n1 with ⟨e_n1, p_n1⟩ | ⟨e_n1, p_n1⟩
            · rcases emp_or n2 with ⟨e_n2, p_n2⟩ | ⟨e_n2, p_n2⟩
              · by_cases hp : pos = 0
                · subst hp
                  cases by_ with
                  | true =>
                    obtain rfl : false = o := by rw [← ho]; simp
                    clear ho e_n1 e_n2
                    go_wp2
                    go_ret
                    exact ⟨rfl, hb0⟩
                  | false =>
                    rcases emp_or a1 with ⟨e_a1, p_a1⟩ | ⟨e_a1, p_a1⟩
                    · rcases emp_or a2 with ⟨e_a2, p_a2⟩ | ⟨e_a2, p_a2⟩
                      · rcases emp_or val with ⟨e_val, p_val⟩ | ⟨e_val, p_val⟩
                        · obtain rfl : true = o := by rw [← ho]; simp [nE, e_n1, e_n2, e_a1, e_a2, e_val]
                          clear ho e_n1 e_n2 e_a1 e_a2 e_val
                          go_wp2
                          go_ret
                          exact ⟨rfl, hb0⟩
                        · obtain rfl : false = o := by rw [← ho]; simp [e_val, nE]
                          clear ho e_val e_n1 e_n2 e_a1 e_a2
                          go_wp2
                          go_ret
                          exact ⟨rfl, hb0⟩
                      · obtain rfl : false = o := by rw [← ho]; simp [e_a2, nE]
                        clear ho e_a2 e_n1 e_n2 e_a1
                        go_wp2
                        go_ret
                        exact ⟨rfl, hb0⟩
                    · obtain rfl : false = o := by rw [← ho]; simp [e_a1, nE]
                      clear ho e_a1 e_n1 e_n2
                      go_wp2
                      go_ret
                      exact ⟨rfl, hb0⟩
                · obtain rfl : false = o := by rw [← ho]; simp [hp]
                  clear ho e_n1 e_n2
                  go_wp2
                  go_ret
                  exact ⟨rfl, hb0⟩
              · obtain rfl : false = o := by rw [← ho]; simp [e_n2, nE]
                clear ho e_n2 e_n1
                go_wp2
                go_ret
                exact ⟨rfl, hb0⟩
            · obtain rfl : false = o := by rw [← ho]; simp [e_n1, nE]
              clear ho e_n1
              go_wp2
              go_ret
              exact ⟨rfl, hb0⟩
      · rw [if_neg k3] at ho
        subst ho
        have hk3 : (kind == 3) = false := by simpa using k3
        go_wp2
        go_ret
        exact ⟨rfl, hb0⟩
end Go.Proofs.YtbdamneophbnnaaGreatDoor
namespace Go.Proofs.YtbdamneophbnnaaGreatDoor
open Go.RowKit Wb
set_option maxHeartbeats 16000000 in
set_option maxRecDepth 100000 in
theorem sright_any (A : Option Addr) (l : List StV) (c : Nat) (w : World) (hA : Sl9 w A l) (hl : l.length ≤ 1000000) :
    Calls Tryz.prog 76 #[.slice A l.length c] w fun e w' => e = .returned (.bool (shapeS l)) ∧ Below w.heap.size w w' := by
  have HA := Lib.hid hA
  clear hA
  go_enter Tryz.func76, Tryz.ntmps76
  go_wp2
  go_loopw [3, 4, 7] (fun _ _ v7 wr => ∃ i : Nat, i ≤ l.length ∧ v7 = .int .i64 i ∧ Hid (shapeL true l = shapeL (decide (i = 0)) (l.drop i)) ∧ Hid (Below w.heap.size w wr)) (fun _ _ v7 _ => l.length - (intOf v7).toNat)
  case atStart => exact ⟨0, by omega, rfl, Lib.hid (by simp), Lib.hid (Below.refl _ _)⟩
  case round =>
    obtain ⟨i, hi, rfl, HS, HB⟩ := hrel
    by_cases h0 : i < l.length
    · obtain ⟨x, hx⟩ : ∃ x, l[i]? = some x := ⟨l[i], List.getElem?_eq_getElem h0⟩
      have hdr : l.drop i = x :: l.drop (i + 1) := by
        rw [List.drop_eq_getElem_cons h0]
        rw [List.getElem?_eq_getElem h0] at hx
        injection hx with hx
        rw [hx]
      obtain ⟨ad, rfl, had, c0, cj⟩ := (HA.out.below HB.out).at_ hx
      have c1 := cj 1 _ (by omega) rfl
      have c2 := cj 2 _ (by omega) rfl
      have c3 := cj 3 _ (by omega) rfl
      have c4 := cj 4 _ (by omega) rfl
      have c5 := cj 5 _ (by omega) rfl
      have c6 := cj 6 _ (by omega) rfl
      have c7 := cj 7 _ (by omega) rfl
      have c8 := cj 8 _ (by omega) rfl
      clear cj
      have hemp : (l.drop (i + 1)).isEmpty = decide (i + 1 = l.length) := by
        rw [Bool.eq_iff_iff, List.isEmpty_iff, List.drop_eq_nil_iff, decide_eq_true_eq]
        omega
      obtain ⟨last, hlast⟩ : ∃ b, (!decide (i = 0) && (l.drop (i + 1)).isEmpty) = b := ⟨_, rfl⟩
      have hsh : shapeL true l = (shape1 last x && shapeL false (l.drop (i + 1))) := by rw [HS.out, hdr, shapeL, hlast]
      have hcase : (i = 0 ∧ last = false) ∨ (0 < i ∧ i + 1 = l.length ∧ last = true) ∨ (0 < i ∧ i + 1 ≠ l.length ∧ last = false) := by
        rw [hemp] at hlast
        by_cases e0 : i = 0
        · exact .inl ⟨e0, by rw [← hlast, decide_eq_true e0]; rfl⟩
        · by_cases e1 : i + 1 = l.length
          · exact .inr (.inl ⟨by omega, e1, by rw [← hlast, decide_eq_false e0, decide_eq_true e1]; rfl⟩)
          · exact .inr (.inr ⟨by omega, e1, by rw [← hlast, decide_eq_false e0, decide_eq_false e1]; rfl⟩)
      have hwr1 : IntKind.i64.wrap ((l.length : Int) - 1) = (l.length : Int) - 1 := by rw [IntKind.wrap_i64]; omega
      have hwr2 : IntKind.i64.wrap ((i : Int) + 1) = (i : Int) + 1 := by rw [IntKind.wrap_i64]; omega
      have hfacts : (decide ((0 : Int) < (i : Int)) = false ∧ ¬ (0 : Int) < (i : Int) ∧ last = false) ∨ (decide ((0 : Int) < (i : Int)) = true ∧ (0 : Int) < (i : Int) ∧ ((i : Int) == (l.length : Int) - 1) = true ∧ last = true) ∨ (decide ((0 : Int) < (i : Int)) = true ∧ (0 : Int) < (i : Int) ∧ ((i : Int) == (l.length : Int) - 1) = false ∧ last = false) := by
        rcases hcase with ⟨e0, e1⟩ | ⟨e0, e1, e2⟩ | ⟨e0, e1, e2⟩
        · exact .inl ⟨decide_eq_false (by omega), by omega, e1⟩
        · exact .inr (.inl ⟨decide_eq_true (by omega), by omega, by rw [beq_iff_eq]; omega, e2⟩)
        · exact .inr (.inr ⟨decide_eq_true (by omega), by omega, by rw [beq_eq_false_iff_ne]; omega, e2⟩)
      clear hcase hlast hemp
      obtain ⟨kind, any, ⟨n1, n2⟩, pos, by_, ⟨a1, a2⟩, val⟩ := x
      simp only at c0 c1 c2 c3 c4 c5 c6 c7 c8
      have hstep := fun v => rightStep_any kind any n1 n2 pos by_ a1 a2 val last v
      obtain ⟨b, hb⟩ : ∃ b, shape1 last ⟨kind, any, (n1, n2), pos, by_, (a1, a2), val⟩ = b := ⟨_, rfl⟩
      rw [hb] at hstep hsh
      have HQ := Lib.hid hsh
      clear hb hsh hdr hx HS
      go_upto_region 4 with fail
      have hxx := OwnB.new #[.int .i64 kind, .bool any, .string n1, .string n2, .int .i64 pos, .bool by_, .string a1, .string a2, .string val] 46 HB.out
      have HBn := Lib.hid (HB.out.alloc HB.out.size (.cells #[.int .i64 kind, .bool any, .string n1, .string n2, .int .i64 pos, .bool by_, .string a1, .string a2, .string val] 46))
      clear c0 c1 c2 c3 c4 c5 c6 c7 c8 had
      generalize wr.alloc (.cells #[.int .i64 kind, .bool any, .string n1, .string n2, .int .i64 pos, .bool by_, .string a1, .string a2, .string val] 46) = wx at *
      generalize wr.heap.size = g at *
      have y0 : wx.cell? ⟨g, 0, none⟩ = some (.int .i64 kind) := hxx.cell 0
      have y1 : wx.cell? ⟨g, 1, none⟩ = some (.bool any) := hxx.cell 1
      have y2 : wx.cell? ⟨g, 2, none⟩ = some (.string n1) := hxx.cell 2
      have y3 : wx.cell? ⟨g, 3, none⟩ = some (.string n2) := hxx.cell 3
      have y4 : wx.cell? ⟨g, 4, none⟩ = some (.int .i64 pos) := hxx.cell 4
      have y5 : wx.cell? ⟨g, 5, none⟩ = some (.bool by_) := hxx.cell 5
      have y6 : wx.cell? ⟨g, 6, none⟩ = some (.string a1) := hxx.cell 6
      have y7 : wx.cell? ⟨g, 7, none⟩ = some (.string a2) := hxx.cell 7
      have y8 : wx.cell? ⟨g, 8, none⟩ = some (.string val) := hxx.cell 8
      clear hxx HB
      rcases hfacts with ⟨hd1, hd2, rfl⟩ | ⟨hd1, hd3, hd2, rfl⟩ | ⟨hd1, hd3, hd2, rfl⟩
      · go_wp2_with fail
        refine (hstep _).mono ?_
        rintro e w2 ⟨rfl, hb2⟩
        have HB2 := Lib.hid (HBn.out.trans (hb2.mono HBn.out.size))
        clear hb2 hstep y0 y1 y2 y3 y4 y5 y6 y7 y8
        cases b with
        | false =>
          have hz : shapeS l = false := by
            unfold shapeS
            rw [HQ.out]
            rfl
          clear HQ
          go_wp2
          go_ret
          exact ⟨by rw [hz]; rfl, HB2.out⟩
        | true =>
          have HQ2 : Hid (shapeL true l = shapeL (decide (i + 1 = 0)) (l.drop (i + 1))) := Lib.hid (by
            rw [HQ.out, decide_eq_false (Nat.succ_ne_zero i), Bool.true_and])
          clear HQ
          go_wp2
          go_roundw
          case rel => exact ⟨i + 1, by omega, by go_num, HQ2, HB2⟩
          case measure => simp [intOf]; omega
      · go_wp2_with fail
        refine (hstep _).mono ?_
        rintro e w2 ⟨rfl, hb2⟩
        have HB2 := Lib.hid (HBn.out.trans (hb2.mono HBn.out.size))
        clear hb2 hstep y0 y1 y2 y3 y4 y5 y6 y7 y8
        cases b with
        | false =>
          have hz : shapeS l = false := by
            unfold shapeS
            rw [HQ.out]
            rfl
          clear HQ
          go_wp2
          go_ret
          exact ⟨by rw [hz]; rfl, HB2.out⟩
        | true =>
          have HQ2 : Hid (shapeL true l = shapeL (decide (i + 1 = 0)) (l.drop (i + 1))) := Lib.hid (by
            rw [HQ.out, decide_eq_false (Nat.succ_ne_zero i), Bool.true_and])
          clear HQ
          go_wp2
          go_roundw
          case rel => exact ⟨i + 1, by omega, by go_num, HQ2, HB2⟩
          case measure => simp [intOf]; omega
      · go_wp2_with fail
        refine (hstep _).mono ?_
        rintro e w2 ⟨rfl, hb2⟩
        have HB2 := Lib.hid (HBn.out.trans (hb2.mono HBn.out.size))
        clear hb2 hstep y0 y1 y2 y3 y4 y5 y6 y7 y8
        cases b with
        | false =>
          have hz : shapeS l = false := by
            unfold shapeS
            rw [HQ.out]
            rfl
          clear HQ
          go_wp2
          go_ret
          exact ⟨by rw [hz]; rfl, HB2.out⟩
        | true =>
          have HQ2 : Hid (shapeL true l = shapeL (decide (i + 1 = 0)) (l.drop (i + 1))) := Lib.hid (by
            rw [HQ.out, decide_eq_false (Nat.succ_ne_zero i), Bool.true_and])
          clear HQ
          go_wp2
          go_roundw
          case rel => exact ⟨i + 1, by omega, by go_num, HQ2, HB2⟩
          case measure => simp [intOf]; omega
    · have hend : i = l.length := by omega
      have hq : shapeL true l = true := by
        rw [HS.out, hend, List.drop_length]
        rfl
      have hz : shapeS l = (decide (1 ≤ l.length) && decide (l.length ≤ 16)) := by
        unfold shapeS
        rw [hq]
        rfl
      have hi0 : ¬ (i : Int) < (l.length : Int) := by omega
      clear hq hend h0 HS
      by_cases z1 : 1 ≤ l.length
      · have e1 : decide ((0 : Int) < (l.length : Int)) = true := decide_eq_true (by omega)
        have e1' : (0 : Int) < (l.length : Int) := by omega
        by_cases z2 : l.length ≤ 16
        · have e2 : decide ((l.length : Int) ≤ 16) = true := decide_eq_true (by omega)
          have HZ := Lib.hid (show shapeS l = true from by rw [hz, decide_eq_true z1, decide_eq_true z2]; rfl)
          clear z1 z2 hz
          go_wp2
          go_ret
          exact ⟨by rw [HZ.out]; rfl, HB.out⟩
        · have e2 : decide ((l.length : Int) ≤ 16) = false := decide_eq_false (by omega)
          have HZ := Lib.hid (show shapeS l = false from by rw [hz, decide_eq_true z1, decide_eq_false z2]; rfl)
          clear z1 z2 hz
          go_wp2
          go_ret
          exact ⟨by rw [HZ.out]; rfl, HB.out⟩
      · have e1 : decide ((0 : Int) < (l.length : Int)) = false := decide_eq_false (by omega)
        have e1' : ¬ (0 : Int) < (l.length : Int) := by omega
        have HZ := Lib.hid (show shapeS l = false from by rw [hz, decide_eq_false z1]; rfl)
        clear z1 hz
        go_wp2
        go_ret
        exact ⟨by rw [HZ.out]; rfl, HB.out⟩
end Go.Proofs.YtbdamneophbnnaaGreatDoor
