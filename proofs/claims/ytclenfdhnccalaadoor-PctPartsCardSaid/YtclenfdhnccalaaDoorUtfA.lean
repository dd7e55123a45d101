
/- Contracts of the small functions of packages utf and watchbillref01: each answers what the plain functions of Plain say. -/
import Derived.Test.YtclenfdhnccalaaDoorRows
import Derived.Test.YtclenfdhnccalaaDoorKit
import Derived.Test.YtclenfdhnccalaaDoorPlain
namespace Go.Proofs.YtclenfdhnccalaaDoor
open Go.RowKit Wb

set_option maxHeartbeats 400000 in
theorem sign_any (n : Int) (w : World) :
    Calls Tryd.prog 36 #[.int .i64 n] w fun e w' => e = .returned (.bool (sgn n)) ∧ w = w' := by
  have H := Lib.hid (sgn_iff n)
  go_enter Tryd.func36, Tryd.ntmps36
  go_wp2
  all_goals
    go_ret
    refine ⟨ret_b ?_, rfl⟩
    unfold sgn
    simp [*]
    try omega

set_option maxHeartbeats 400000 in
theorem first_any (c : Int) (w : World) (h0 : 0 ≤ c) (h1 : c < 256) :
    Calls Tryd.prog 30 #[.int .u8 c] w fun e w' => e = .returned (.tuple #[.int .i64 (fsz c), .int .i32 (fbt c)]) ∧ w = w' := by
  have k31 := u8_and31 c h0 h1
  have k15 := u8_and15 c h0 h1
  have k7 := u8_and7 c h0 h1
  go_enter Tryd.func30, Tryd.ntmps30
  go_wp2
  all_goals
    go_ret2
    refine ⟨ret_ii ?_ ?_, rfl⟩
    all_goals
      try simp only [beq_iff_eq, beq_eq_false_iff_ne] at *
      first | unfold fsz | unfold fbt
      repeat (first | (rw [if_pos (by omega)]) | (rw [if_neg (by omega)]))

theorem inS_take (r : Int) (l : List (Int × Int)) (k : Nat) (h : k < l.length) (h0 : inS r (l.take k) = false) :
    inS r (l.take (k + 1)) = (decide (l[k].1 ≤ r) && decide (r ≤ l[k].2)) := by
  unfold inS at *
  rw [List.take_succ_eq_append_getElem h, List.any_append, h0]
  simp

theorem inS_mono (r : Int) (l : List (Int × Int)) (j : Nat) (h : true = inS r (l.take j)) : true = inS r l := by
  unfold inS at *
  have h := h.symm
  rw [List.any_eq_true] at h
  obtain ⟨x, hx, hp⟩ := h
  exact (List.any_eq_true.2 ⟨x, List.mem_of_mem_take hx, hp⟩).symm

set_option maxHeartbeats 400000 in
theorem within_any (r : Int) (l : List (Int × Int)) (b n : Nat) (w : World) (hn : l.length = n) (hn1 : n ≤ 1000) (hb : b < w.heap.size)
    (hc : ∀ k (h : k < l.length), w.cell? ⟨b, k * 2, none⟩ = some (.int .i32 l[k].1) ∧ w.cell? ⟨b, k * 2 + 1, none⟩ = some (.int .i32 l[k].2)) :
    Calls Tryd.prog 38 #[.int .i32 r, .slice (some ⟨b, 0, none⟩) n n] w fun e w' => e = .returned (.bool (inS r l)) ∧ Below w.heap.size w w' := by
  have HC := Lib.hid hc
  have HN := Lib.hid hn
  clear hc hn
  go_enter Tryd.func38, Tryd.ntmps38
  go_wp2
  go_loopw [9] (fun i wr => ∃ k : Nat, k ≤ n ∧ i = .int .i64 k ∧ Hid (inS r (l.take k) = false) ∧ Below w.heap.size w wr) (fun i _ => n - (intOf i).toNat)
  case atStart => exact ⟨0, Nat.zero_le _, rfl, rfl, Below.refl _ _⟩
  case round =>
    obtain ⟨k, hk, rfl, HI, hbel⟩ := hrel
    by_cases hlt : k < n
    · have hk' : k < l.length := by rw [HN.out]; exact hlt
      have hs := hbel.size
      obtain ⟨lo, hi, e1, e2, HS⟩ : ∃ lo hi, wr.cell? ⟨b, k * 2, none⟩ = some (.int .i32 lo) ∧ wr.cell? ⟨b, k * 2 + 1, none⟩ = some (.int .i32 hi) ∧ Hid (inS r (l.take (k + 1)) = (decide (lo ≤ r) && decide (r ≤ hi))) :=
        ⟨_, _, (hbel.cell (p := ⟨b, k * 2, none⟩) hb).trans (HC.out k hk').1, (hbel.cell (p := ⟨b, k * 2 + 1, none⟩) hb).trans (HC.out k hk').2, inS_take r l k hk' HI.out⟩
      go_wp2
      · go_ret
        refine ⟨ret_b (inS_mono r l (k + 1) ?_), hbel.alloc hs _⟩
        rw [HS.out]
        simp [*]
      all_goals
        go_roundw
        case rel => exact ⟨k + 1, by omega, by go_num, Lib.hid (by rw [HS.out]; simp; omega), hbel.alloc hs _⟩
        case measure => simp [intOf]; omega
    · go_wp2
      go_ret
      refine ⟨ret_b ?_, hbel⟩
      have HI' := HI.out
      rw [List.take_of_length_le (by rw [HN.out]; omega)] at HI'
      exact HI'.symm


/-- The numbers of a list, two by two, as spans. -/
def pairs : List Int → List (Int × Int)
  | a :: b :: l => (a, b) :: pairs l
  | _ => []

end Go.Proofs.YtclenfdhnccalaaDoor
