/- SdG. -/
import Derived.Test.YtbdamneophbnnaaGreatDoorCZ10
namespace Go.Proofs.YtbdamneophbnnaaGreatDoor
open Go.RowKit Wb
set_option maxHeartbeats 16000000 in
set_option maxRecDepth 100000 in
theorem rightStep_any (kind : Int) (any : Bool) (n1 n2 : ByteArray) (pos : Int) (by_ : Bool) (a1 a2 val : ByteArray) (last : Bool) (w : World) :
    Calls Tryz.prog 104 #[.agg #[.int .i64 kind, .bool any, .string n1, .string n2, .int .i64 pos, .bool by_, .string a1, .string a2, .string val], .bool last] w fun e w' => e = .returned (.bool (shape1 last ⟨kind, any, (n1, n2), pos, by_, (a1, a2), val⟩)) ∧ Below w.heap.size w w' := by
  have hk0 := OwnB.new0 w #[.int .i64 kind, .bool any, .string n1, .string n2, .int .i64 pos, .bool by_, .string a1, .string a2, .string val] 46
  have hb0 := (Below.refl w.heap.size w).alloc (Nat.le_refl _) (.cells #[.int .i64 kind, .bool any, .string n1, .string n2, .int .i64 pos, .bool by_, .string a1, .string a2, .string val] 46)
  obtain ⟨o, ho⟩ : ∃ o, shape1 last ⟨kind, any, (n1, n2), pos, by_, (a1, a2), val⟩ = o := ⟨_, rfl⟩
  rw [ho]
  unfold shape1 at ho
  simp only at ho
  go_enter Tryz.func104, Tryz.ntmps104
  go_upto_region 1 with fail
  generalize w.alloc (.cells #[.int .i64 kind, .bool any, .string n1, .string n2, .int .i64 pos, .bool by_, .string a1, .string a2, .string val] 46) = w0 at *
  have x0 : w0.cell? ⟨w.heap.size, 0, none⟩ = some (.int .i64 kind) := hk0.cell 0
  have x1 : w0.cell? ⟨w.heap.size, 1, none⟩ = some (.bool any) := hk0.cell 1
  have x2 : w0.cell? ⟨w.heap.size, 2, none⟩ = some (.string n1) := hk0.cell 2
  have x3 : w0.cell? ⟨w.heap.size, 3, none⟩ = some (.string n2) := hk0.cell 3
  have x4 : w0.cell? ⟨w.heap.size, 4, none⟩ = some (.int .i64 pos) := hk0.cell 4
  have x5 : w0.cell? ⟨w.heap.size, 5, none⟩ = some (.bool by_) := hk0.cell 5
  have x6 : w0.cell? ⟨w.heap.size, 6, none⟩ = some (.string a1) := hk0.cell 6
  have x7 : w0.cell? ⟨w.heap.size, 7, none⟩ = some (.string a2) := hk0.cell 7
  have x8 : w0.cell? ⟨w.heap.size, 8, none⟩ = some (.string val) := hk0.cell 8
  clear hk0
  by_cases k1 : kind = 1
  · rw [if_pos k1] at ho
    subst k1
    obtain ⟨N, hN⟩ : ∃ N, decide (((n1, n2) : Pr) = nE) = N := ⟨_, rfl⟩
    obtain ⟨M, hM⟩ : ∃ M, (decide (((a1, a2) : Pr) = nE) && decide (val = sE)) = M := ⟨_, rfl⟩
    rw [hN, hM] at ho
    have HO := Lib.hid ho
    have HM := Lib.hid hM
    clear ho hM
    go_upto_region 3 with fail
    go_cut [5] from 11 to 14 (fun v5 wy => v5 = .bool (!N) ∧ wy = w0)
    case first =>
      clear HO HM
      rcases emp_or n1 with ⟨e1, p1⟩ | ⟨e1, p1⟩
      · rcases emp_or n2 with ⟨e2, p2⟩ | ⟨e2, p2⟩
        · obtain rfl : true = N := by rw [← hN]; exact (decide_eq_true ((nE_iff _ _).2 ⟨e1, e2⟩)).symm
          clear e1 e2 hN
          go_wp2
          go_meet
          case rel => exact ⟨rfl, rfl⟩
        · obtain rfl : false = N := by rw [← hN]; exact (decide_eq_false fun h => e2 ((nE_iff _ _).1 h).2).symm
          clear e1 e2 hN
          go_wp2
          go_meet
          case rel => exact ⟨rfl, rfl⟩
      · obtain rfl : false = N := by rw [← hN]; exact (decide_eq_false fun h => e1 ((nE_iff _ _).1 h).1).symm
        clear e1 hN
        go_wp2
        go_meet
        case rel => exact ⟨rfl, rfl⟩
    case rest =>
      obtain ⟨rfl, rfl⟩ := hcut
      rename World => wy
      clear hN
      go_upto_region 4 with fail
      go_cut [6] from 15 to 23 (fun v6 wz => v6 = .bool M ∧ wz = wy)
      case first =>
        have hM := HM.out
        clear HO HM
        rcases emp_or a1 with ⟨e1, p1⟩ | ⟨e1, p1⟩
        · rcases emp_or a2 with ⟨e2, p2⟩ | ⟨e2, p2⟩
          · rcases emp_or val with ⟨e3, p3⟩ | ⟨e3, p3⟩
            · obtain rfl : true = M := by rw [← hM, decide_eq_true ((nE_iff _ _).2 ⟨e1, e2⟩), decide_eq_true e3]; rfl
              have q3 : val.toList.isEmpty = true := by rw [p3]; rfl
              clear e1 e2 e3 hM
              go_wp2
              go_meet
              case rel => exact ⟨rfl, rfl⟩
            · obtain rfl : false = M := by rw [← hM, decide_eq_false e3, Bool.and_false]
              have q3 : val.toList.isEmpty = false := by simpa using p3
              clear e1 e2 e3 hM
              go_wp2
              go_meet
              case rel => exact ⟨rfl, rfl⟩
          · obtain rfl : false = M := by rw [← hM, decide_eq_false fun h => e2 ((nE_iff _ _).1 h).2]; rfl
            clear e1 e2 hM
            go_wp2
            go_meet
            case rel => exact ⟨rfl, rfl⟩
        · obtain rfl : false = M := by rw [← hM, decide_eq_false fun h => e1 ((nE_iff _ _).1 h).1]; rfl
          clear e1 hM
          go_wp2
          go_meet
          case rel => exact ⟨rfl, rfl⟩
      case rest =>
        obtain ⟨rfl, rfl⟩ := hcut
        rename World => wz
        have ho := HO.out
        clear HO HM
        have hc : (any == N) = false ∨ ((any == N) = true ∧ ¬ 0 ≤ pos) ∨ ((any == N) = true ∧ 0 ≤ pos ∧ ¬ pos ≤ 9999) ∨ ((any == N) = true ∧ 0 ≤ pos ∧ pos ≤ 9999 ∧ by_ = true) ∨ ((any == N) = true ∧ 0 ≤ pos ∧ pos ≤ 9999 ∧ by_ = false) := by
          cases any <;> cases N <;> cases by_ <;> simp <;> omega
        rcases hc with h | ⟨h, p1⟩ | ⟨h, p1, p2⟩ | ⟨h, p1, p2, rfl⟩ | ⟨h, p1, p2, rfl⟩
        · obtain rfl : false = o := by rw [← ho, h]; rfl
          clear ho
          cases any <;> cases N
          · cases h
          · go_wp2
            go_ret
            exact ⟨rfl, hb0⟩
          · go_wp2
            go_ret
            exact ⟨rfl, hb0⟩
          · cases h
        · obtain rfl : false = o := by rw [← ho, h, decide_eq_false p1]; rfl
          have d1 : decide (0 ≤ pos) = false := decide_eq_false p1
          clear ho
          cases any <;> cases N
          · go_wp2
            go_ret
            exact ⟨rfl, hb0⟩
          · cases h
          · cases h
          · go_wp2
            go_ret
            exact ⟨rfl, hb0⟩
        · obtain rfl : false = o := by rw [← ho, h, decide_eq_true p1, decide_eq_false p2]; rfl
          have d1 : decide (0 ≤ pos) = true := decide_eq_true p1
          have d2 : decide (pos ≤ 9999) = false := decide_eq_false p2
          clear ho
          cases any <;> cases N
          · go_wp2
            go_ret
            exact ⟨rfl, hb0⟩
          · cases h
          · cases h
          · go_wp2
            go_ret
            exact ⟨rfl, hb0⟩
        · obtain rfl : true = o := by rw [← ho, h, decide_eq_true p1, decide_eq_true p2]; rfl
          have d1 : decide (0 ≤ pos) = true := decide_eq_true p1
          have d2 : decide (pos ≤ 9999) = true := decide_eq_true p2
          clear ho
          cases any <;> cases N
          · go_wp2
            go_ret
            exact ⟨rfl, hb0⟩
          · cases h
          · cases h
          · go_wp2
            go_ret
            exact ⟨rfl, hb0⟩
        · obtain rfl : M = o := by rw [← ho, h, decide_eq_true p1, decide_eq_true p2]; simp
          have d1 : decide (0 ≤ pos) = true := decide_eq_true p1
          have d2 : decide (pos ≤ 9999) = true := decide_eq_true p2
          clear ho
          cases any <;> cases N
          · go_wp2
            go_ret
            exact ⟨rfl, hb0⟩
          · cases h
          · cases h
          · go_wp2
            go_ret
            exact ⟨rfl, hb0⟩
  · rw [if_neg k1] at ho
    have hk1 : (kind == 1) = false := by simpa using k1
    by_cases k2 : kind = 2
    · rw [if_pos k2] at ho
      subst k2
      go_upto_region 7 with fail
      cases last with
      | false =>
        obtain rfl : false = o := by rw [← ho]; rfl
        clear ho
        go_wp2
        go_ret
        exact ⟨rfl, hb0⟩
      | true =>
        clear k1
        cases any with
        | true =>
          obtain rfl : false = o := by rw [← ho]; simp
          clear ho
          go_wp2
          go_ret
          exact ⟨rfl, hb0⟩
        | false =>
          by_cases hp : pos = 0
          · subst hp
            cases by_ with
            | true =>
              obtain rfl : false = o := by rw [← ho]; simp
              clear ho
              go_wp2
              go_ret
              exact ⟨rfl, hb0⟩
            | false =>
              rcases emp_or a1 with ⟨e_a1, p_a1⟩ | ⟨e_a1, p_a1⟩
              · rcases emp_or a2 with ⟨e_a2, p_a2⟩ | ⟨e_a2, p_a2⟩
                · rcases emp_or val with ⟨e_val, p_val⟩ | ⟨e_val, p_val⟩
                  · obtain rfl : true = o := by rw [← ho]; simp [nE, e_a1, e_a2, e_val]
                    clear ho e_a1 e_a2 e_val
                    go_wp2
                    go_ret
                    exact ⟨rfl, hb0⟩
                  · obtain rfl : false = o := by rw [← ho]; simp [e_val, nE]
                    clear ho e_val e_a1 e_a2
                    go_wp2
                    go_ret
                    exact ⟨rfl, hb0⟩
                · obtain rfl : false = o := by rw [← ho]; simp [e_a2, nE]
                  clear ho e_a2 e_a1
                  go_wp2
                  go_ret
                  exact ⟨rfl, hb0⟩
              · obtain rfl : false = o := by rw [← ho]; simp [e_a1, nE]
                clear ho e_a1
                go_wp2
                go_ret
                exact ⟨rfl, hb0⟩
          · obtain rfl : false = o := by rw [← ho]; simp [hp]
            clear ho
            go_wp2
            go_ret
            exact ⟨rfl, hb0⟩
    · rw [if_neg k2] at ho
      have hk2 : (kind == 2) = false := by simpa using k2
      by_cases k3 : kind = 3
      · rw [if_pos k3] at ho
        subst k3
        go_upto_region 9 with fail
        cases last with
        | false =>
          obtain rfl : false = o := by rw [← ho]; rfl
          clear ho
          go_wp2
          go_ret
          exact ⟨rfl, hb0⟩
        | true =>
          clear k1 k2
          cases any with
          | true =>
            obtain rfl : false = o := by rw [← ho]; simp
            clear ho
            go_wp2
            go_ret
            exact ⟨rfl, hb0⟩
          | false =>
            rcases emp_or n1 with ⟨e_n1, p_n1⟩ | ⟨e_n1, p_n1⟩
            · rcases emp_or n2 with ⟨e_n2, p_n2⟩ | ⟨e_n2, p_n2⟩
              · by_cases hp : pos = 0
                · subst hp
                  cases by_ with
                  | true =>
                    obtain rfl : false = o := by rw [← ho]; simp
                    clear ho e_n1 e_n2
                    go_wp2
                    go_ret
                    exact ⟨rfl, hb0⟩
                  | false =>
                    rcases emp_or a1 with ⟨e_a1, p_a1⟩ | ⟨e_a1, p_a1⟩
                    · rcases emp_or a2 with ⟨e_a2, p_a2⟩ | ⟨e_a2, p_a2⟩
                      · rcases emp_or val with ⟨e_val, p_val⟩ | ⟨e_val, p_val⟩
                        · obtain rfl : true = o := by rw [← ho]; simp [nE, e_n1, e_n2, e_a1, e_a2, e_val]
                          clear ho e_n1 e_n2 e_a1 e_a2 e_val
                          go_wp2
                          go_ret
                          exact ⟨rfl, hb0⟩
                        · obtain rfl : false = o := by rw [← ho]; simp [e_val, nE]
                          clear ho e_val e_n1 e_n2 e_a1 e_a2
                          go_wp2
                          go_ret
                          exact ⟨rfl, hb0⟩
                      · obtain rfl : false = o := by rw [← ho]; simp [e_a2, nE]
                        clear ho e_a2 e_n1 e_n2 e_a1
                        go_wp2
                        go_ret
                        exact ⟨rfl, hb0⟩
                    · obtain rfl : false = o := by rw [← ho]; simp [e_a1, nE]
                      clear ho e_a1 e_n1 e_n2
                      go_wp2
                      go_ret
                      exact ⟨rfl, hb0⟩
                · obtain rfl : false = o := by rw [← ho]; simp [hp]
                  clear ho e_n1 e_n2
                  go_wp2
                  go_ret
                  exact ⟨rfl, hb0⟩
              · obtain rfl : false = o := by rw [← ho]; simp [e_n2, nE]
                clear ho e_n2 e_n1
                go_wp2
                go_ret
                exact ⟨rfl, hb0⟩
            · obtain rfl : false = o := by rw [← ho]; simp [e_n1, nE]
              clear ho e_n1
              go_wp2
              go_ret
              exact ⟨rfl, hb0⟩
      · rw [if_neg k3] at ho
        subst ho
        have hk3 : (kind == 3) = false := by simpa using k3
        go_wp2
        go_ret
        exact ⟨rfl, hb0⟩
end Go.Proofs.YtbdamneophbnnaaGreatDoor
