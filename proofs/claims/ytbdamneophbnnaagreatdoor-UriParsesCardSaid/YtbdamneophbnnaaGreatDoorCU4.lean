/- UtfB UtfC UtfD UtfE. -/
import Derived.Laws.BytesString
import Derived.Lib.Strings
import Derived.Test.YtbdamneophbnnaaGreatDoorCU3
namespace Go.Proofs.YtbdamneophbnnaaGreatDoor
open Go.RowKit Wb
def flatV (kd : IntKind) : List (Int × Int) → List Value
  | [] => []
  | x :: l => .int kd x.1 :: .int kd x.2 :: flatV kd l
theorem flatV_at (kd : IntKind) : ∀ (l : List (Int × Int)) (k : Nat) (h : k < l.length),
    (flatV kd l)[2 * k]? = some (.int kd l[k].1) ∧ (flatV kd l)[2 * k + 1]? = some (.int kd l[k].2)
  | [], k, h => absurd h (by simp)
  | x :: l, 0, _ => ⟨rfl, rfl⟩
  | x :: l, k + 1, h => by
    have := flatV_at kd l k (by simpa using h)
    simpa [flatV, Nat.mul_add] using this
theorem spans_at (kd : IntKind) (cs : Array Value) (T : TypeId) (w : World) (l : List (Int × Int)) (e : cs = (flatV kd l).toArray) (k : Nat) (h : k < l.length) :
    (w.alloc (.cells cs T)).cell? ⟨w.heap.size, k * 2, none⟩ = some (.int kd l[k].1) ∧ (w.alloc (.cells cs T)).cell? ⟨w.heap.size, k * 2 + 1, none⟩ = some (.int kd l[k].2) := by
  have hf := flatV_at kd l k h
  have hh := heap_alloc_new w (.cells cs T)
  rw [cell_of_row _ _ _ cs T (0, 0) hh, cell_of_row _ _ _ cs T (0, 0) hh, e]
  rw [Nat.mul_comm k 2]
  simpa using hf
theorem below_alloc_trans {w w' : World} {o : Obj} (h : Below (w.alloc o).heap.size (w.alloc o) w') : Below w.heap.size w w' :=
  ((Below.refl _ _).alloc (Nat.le_refl _) o).trans (h.mono (by simp))
set_option maxHeartbeats 400000 in
theorem char_any (r : Int) (w : World) :
    Calls Tryz.prog 131 #[.int .i32 r] w fun e w' => e = .returned (.bool (charB r)) ∧ Below w.heap.size w w' := by
  go_enter Tryz.func131, Tryz.ntmps131
  go_wp2_with fail
  refine (within_any r charS _ 5 _ rfl (by omega) (by simp) (spans_at .i32 _ _ w charS rfl)).mono ?_
  rintro e w' ⟨rfl, hb⟩
  go_wp2
  go_ret
  exact ⟨rfl, below_alloc_trans hb⟩
set_option maxHeartbeats 400000 in
theorem start_any (r : Int) (w : World) :
    Calls Tryz.prog 119 #[.int .i32 r] w fun e w' => e = .returned (.bool (startB r)) ∧ Below w.heap.size w w' := by
  go_enter Tryz.func119, Tryz.ntmps119
  go_wp2_with fail
  refine (within_any r startS _ 15 _ rfl (by omega) (by simp) (spans_at .i32 _ _ w startS rfl)).mono ?_
  rintro e w' ⟨rfl, hb⟩
  go_wp2
  go_ret
  exact ⟨rfl, below_alloc_trans hb⟩
set_option maxHeartbeats 400000 in
theorem part_any (r : Int) (w : World) :
    Calls Tryz.prog 120 #[.int .i32 r] w fun e w' => e = .returned (.bool (partB r)) ∧ Below w.heap.size w w' := by
  cases hs : startB r
  all_goals
    have HP := Lib.hid (show partB r = (startB r || inS r partS) from rfl)
    rw [hs] at HP
    have HS := Lib.hid hs
    clear hs
    go_enter Tryz.func120, Tryz.ntmps120
    go_wp2_with fail
    refine (start_any r _).mono ?_
    rw [HS.out]
    rintro e w1 ⟨rfl, hb1⟩
    go_wp2_with fail
  · refine (within_any r partS _ 5 _ rfl (by omega) (by simp) (spans_at .i32 _ _ w1 partS rfl)).mono ?_
    rintro e w' ⟨rfl, hb⟩
    go_wp2
    go_ret
    exact ⟨ret_b (by rw [HP.out]; simp), hb1.trans ((below_alloc_trans hb).mono hb1.size)⟩
  · go_ret
    exact ⟨ret_b (by rw [HP.out]; simp), hb1⟩
set_option maxHeartbeats 400000 in
theorem length_any (r : Int) (w : World) :
    Calls Tryz.prog 102 #[.int .i32 r] w fun e w' => e = .returned (.int .i64 (slen r)) ∧ Below w.heap.size w w' := by
  cases hs : sgn r
  all_goals
    have HL := Lib.hid (show slen r = if sgn r = true then (if r < 128 then 1 else if r < 2048 then 2 else if r < 65536 then 3 else 4) else 0 from rfl)
    rw [hs] at HL
    have HS := Lib.hid hs
    clear hs
    go_enter Tryz.func102, Tryz.ntmps102
    go_wp2_with fail
    refine (within_any r signS _ 2 _ rfl (by omega) (by simp) (spans_at .i32 _ _ w signS rfl)).mono ?_
    rw [inS_sign, HS.out]
    rintro e w1 ⟨rfl, hb1⟩
    go_wp2
    all_goals
      go_ret
      refine ⟨ret_i ?_, below_alloc_trans hb1⟩
      rw [HL.out]
      repeat (first | rfl | (rw [if_pos (by first | trivial | omega)]) | (rw [if_neg (by first | omega | decide)]))
set_option maxHeartbeats 400000 in
theorem rchar_any (r : Int) (w : World) :
    Calls Tryz.prog 113 #[.int .i64 r] w fun e w' => e = .returned (.bool (charB r)) ∧ Below w.heap.size w w' := by
  have HP := Lib.hid (charB_ref r)
  by_cases h : r = 9 ∨ r = 10 ∨ r = 13
  · rcases h with rfl | rfl | rfl
    all_goals
      go_enter Tryz.func113, Tryz.ntmps113
      go_wp2
      go_ret
      exact ⟨ret_b (by rw [HP.out]; rfl), Below.refl _ _⟩
  · have h1 : (r == 9) = false := by simp; omega
    have h2 : (r == 10) = false := by simp; omega
    have h3 : (r == 13) = false := by simp; omega
    go_enter Tryz.func113, Tryz.ntmps113
    go_wp2_with fail
    refine (in_any r charR _ 6 _ rfl (by omega) ?_).mono ?_
    · intro k h; rw [Nat.mul_comm 2 k]; exact spans_at .i64 _ _ w charR rfl k h
    rintro e w' ⟨rfl, rfl⟩
    go_wp2
    go_ret
    exact ⟨ret_b (by rw [HP.out, h1, h2, h3]; rfl), (Below.refl _ _).alloc (Nat.le_refl _) _⟩
set_option maxHeartbeats 400000 in
theorem rstart_any (r : Int) (w : World) :
    Calls Tryz.prog 66 #[.int .i64 r] w fun e w' => e = .returned (.bool (startB r)) ∧ Below w.heap.size w w' := by
  go_enter Tryz.func66, Tryz.ntmps66
  go_wp2_with fail
  refine (in_any r startS _ 30 _ rfl (by omega) ?_).mono ?_
  · intro k h; rw [Nat.mul_comm 2 k]; exact spans_at .i64 _ _ w startS rfl k h
  rintro e w' ⟨rfl, rfl⟩
  go_wp2
  go_ret
  exact ⟨rfl, (Below.refl _ _).alloc (Nat.le_refl _) _⟩
set_option maxHeartbeats 400000 in
theorem rpart_any (r : Int) (w : World) :
    Calls Tryz.prog 67 #[.int .i64 r] w fun e w' => e = .returned (.bool (partB r)) ∧ Below w.heap.size w w' := by
  have HP := Lib.hid (partB_ref r)
  cases hs : startB r
  · rw [hs] at HP
    have HS := Lib.hid hs
    clear hs
    by_cases h : r = 45 ∨ r = 46
    · rcases h with rfl | rfl
      all_goals
        go_enter Tryz.func67, Tryz.ntmps67
        go_wp2_with fail
        refine (rstart_any _ _).mono ?_
        rw [HS.out]
        rintro e w1 ⟨rfl, hb1⟩
        go_wp2
        go_ret
        exact ⟨ret_b (by rw [HP.out]; rfl), hb1⟩
    · have h1 : (r == 45) = false := by simp; omega
      have h2 : (r == 46) = false := by simp; omega
      go_enter Tryz.func67, Tryz.ntmps67
      go_wp2_with fail
      refine (rstart_any _ _).mono ?_
      rw [HS.out]
      rintro e w1 ⟨rfl, hb1⟩
      go_wp2_with fail
      refine (in_any r partR _ 8 _ rfl (by omega) ?_).mono ?_
      · intro k h; rw [Nat.mul_comm 2 k]; exact spans_at .i64 _ _ w1 partR rfl k h
      rintro e w' ⟨rfl, rfl⟩
      go_wp2
      go_ret
      exact ⟨ret_b (by rw [HP.out, h1, h2]; rfl), hb1.alloc hb1.size _⟩
  · rw [hs] at HP
    have HS := Lib.hid hs
    clear hs
    go_enter Tryz.func67, Tryz.ntmps67
    go_wp2_with fail
    refine (rstart_any _ _).mono ?_
    rw [HS.out]
    rintro e w1 ⟨rfl, hb1⟩
    go_wp2
    go_ret
    exact ⟨ret_b (by rw [HP.out]; rfl), hb1⟩
end Go.Proofs.YtbdamneophbnnaaGreatDoor
namespace Go.Proofs.YtbdamneophbnnaaGreatDoor
open Go.RowKit Wb
theorem push_all : ∀ (ns : List Int) (s : ByteArray), ns.foldl (fun r n => r.push (UInt8.ofNat n.toNat)) s = ⟨s.data ++ (ns.map b8).toArray⟩
  | [], s => by simp
  | n :: ns, s => by
    rw [List.foldl_cons, push_all ns]
    simp [b8]
theorem run_text (w : World) (b n c : Nat) (ns : List Int) (hn : ns.length = n)
    (hc : ∀ j v, (ns.map (Value.int .u8))[j]? = some v → w.cell? ⟨b, j, none⟩ = some v) :
    (convert 74 9 (.slice (some ⟨b, 0, none⟩) n c)).run Tryz.prog w = .ok (.string ⟨(ns.map b8).toArray⟩) w := by
  rw [run_convert_bytes_string w _ _ _ _ n c Tryz.underlying74 Tryz.underlying5 Tryz.underlying9]
  have hl := run_loadCells_list (P := Tryz.prog) (w := w) ⟨b, 0, none⟩ (ns.map (Value.int .u8)) (by
    intro j v h
    have := hc j v h
    unfold Addr.add
    split <;> simp_all)
  rw [List.length_map, hn] at hl
  rw [run_bytesToString w _ n c ns hl, push_all]
  simp
theorem run_text_new (w : World) (T : TypeId) (cs : Array Value) (ns : List Int) (n : Nat) (hcs : cs = (ns.map (Value.int .u8)).toArray) (hn : ns.length = n) :
    (convert 74 9 (.slice (some ⟨w.heap.size, 0, none⟩) n n)).run Tryz.prog (w.alloc (.cells cs T)) =
      .ok (.string ⟨(ns.map b8).toArray⟩) (w.alloc (.cells cs T)) := by
  subst hcs
  refine run_text _ _ _ _ ns hn ?_
  intro j v h
  rw [cell_of_row _ _ _ _ T (0, 0) (heap_alloc_new w (.cells _ T))]
  simpa using h
set_option maxHeartbeats 400000 in
theorem rput_any (n : Int) (w : World) :
    Calls Tryz.prog 82 #[.int .i64 n] w fun e w' => e = .returned (.string ⟨(enc n).toArray⟩) ∧ Below w.heap.size w w' := by
  have k1 := fun a => run_text_new w 5 #[.int .u8 a] [a] 1 rfl rfl
  have k2 := fun a b => run_text_new w 5 #[.int .u8 a, .int .u8 b] [a, b] 2 rfl rfl
  have k3 := fun a b c => run_text_new w 5 #[.int .u8 a, .int .u8 b, .int .u8 c] [a, b, c] 3 rfl rfl
  have k4 := fun a b c d => run_text_new w 5 #[.int .u8 a, .int .u8 b, .int .u8 c, .int .u8 d] [a, b, c, d] 4 rfl rfl
  have HE : Hid (enc n = if sgn n = true then
    (if n < 128 then [b8 n]
    else if n < 2048 then [b8 (192 + n / 64), b8 (128 + n % 64)]
    else if n < 65536 then [b8 (224 + n / 4096), b8 (128 + n / 64 % 64), b8 (128 + n % 64)]
    else [b8 (240 + n / 262144), b8 (128 + n / 4096 % 64), b8 (128 + n / 64 % 64), b8 (128 + n % 64)])
  else []) := Lib.hid rfl
  go_enter Tryz.func82, Tryz.ntmps82
  go_wp2_with fail
  refine (sign_any _ _).mono ?_
  by_cases hs : sgn n = true
  · have hb := (sgn_iff n).1 hs
    obtain ⟨hb0, hb1, _⟩ := hb
    rw [hs]
    have HS := Lib.hid hs
    clear hs
    rintro e w1 ⟨rfl, rfl⟩
    go_wp2
    all_goals
      go_ret
      refine ⟨ret_s ?_, (Below.refl _ _).alloc (Nat.le_refl _) _⟩
      rw [HE.out, if_pos HS.out]
      repeat (first | rfl | (rw [if_pos (by omega)]) | (rw [if_neg (by omega)]))
  · have HS := Lib.hid hs
    have hs' : sgn n = false := by simpa using hs
    rw [hs']
    clear hs hs'
    rintro e w1 ⟨rfl, rfl⟩
    go_wp2
    go_ret
    exact ⟨ret_s (by rw [HE.out, if_neg HS.out]), Below.refl _ _⟩
set_option maxHeartbeats 400000 in
theorem text_any (w : World) (T : TypeId) (cs : Array Value) (ns : List Int) (n : Nat) (hcs : cs = (ns.map (Value.int .u8)).toArray) (hn : ns.length = n) :
    Calls Tryz.prog 192 #[.slice (some ⟨w.heap.size, 0, none⟩) n n] (w.alloc (.cells cs T)) fun e w' => e = .returned (.string ⟨(ns.map b8).toArray⟩) ∧ w.alloc (.cells cs T) = w' := by
  have k := run_text_new w T cs ns n hcs hn
  clear hcs hn
  go_enter Tryz.func192, Tryz.ntmps192
  go_wp2
  go_ret
  exact ⟨rfl, rfl⟩
theorem further0 (r : Int) (w : World) (h0 : 0 ≤ r) (h1 : r < 2147483648) :
    Calls Tryz.prog 193 #[.int .i32 r, .int .i64 0] w fun e w' => e = .returned (.int .u8 (128 + r % 64)) ∧ w = w' := by
  have := further_any r 0 w h0 h1 (by omega) (by omega)
  simpa using this
theorem further6 (r : Int) (w : World) (h0 : 0 ≤ r) (h1 : r < 2147483648) :
    Calls Tryz.prog 193 #[.int .i32 r, .int .i64 6] w fun e w' => e = .returned (.int .u8 (128 + r / 64 % 64)) ∧ w = w' :=
  further_any r 6 w h0 h1 (by omega) (by omega)
theorem further12 (r : Int) (w : World) (h0 : 0 ≤ r) (h1 : r < 2147483648) :
    Calls Tryz.prog 193 #[.int .i32 r, .int .i64 12] w fun e w' => e = .returned (.int .u8 (128 + r / 4096 % 64)) ∧ w = w' :=
  further_any r 12 w h0 h1 (by omega) (by omega)
set_option maxHeartbeats 400000 in
theorem put_none (r : Int) (w : World) (hs : ¬ sgn r = true) :
    Calls Tryz.prog 190 #[.int .i32 r] w fun e w' => e = .returned (.string ⟨(enc r).toArray⟩) ∧ Below w.heap.size w w' := by
  have HE := Lib.hid (show enc r = [] by unfold enc; rw [if_neg hs])
  have HL := Lib.hid (show slen r = 0 by unfold slen; rw [if_neg hs])
  clear hs
  go_enter Tryz.func190, Tryz.ntmps190
  go_wp2_with fail
  refine (length_any r _).mono ?_
  rw [HL.out]
  rintro e w1 ⟨rfl, hb1⟩
  go_wp2
  go_ret
  exact ⟨ret_s (by rw [HE.out]), hb1⟩
set_option maxHeartbeats 400000 in
theorem put_1 (r : Int) (w : World) (hs : sgn r = true) (h1 : r < 128) :
    Calls Tryz.prog 190 #[.int .i32 r] w fun e w' => e = .returned (.string ⟨(enc r).toArray⟩) ∧ Below w.heap.size w w' := by
  have HE := Lib.hid (show enc r = [r].map b8 by unfold enc; rw [if_pos hs, if_pos h1]; rfl)
  have HL := Lib.hid (show slen r = 1 by unfold slen; rw [if_pos hs, if_pos h1])
  obtain ⟨h0, _, _⟩ := (sgn_iff r).1 hs
  clear hs
  go_enter Tryz.func190, Tryz.ntmps190
  go_wp2_with fail
  refine (length_any r _).mono ?_
  rw [HL.out]
  rintro e w1 ⟨rfl, hb1⟩
  go_wp2_with fail
  refine (text_any w1 _ _ [r] 1 rfl rfl).mono ?_
  rintro e w2 ⟨rfl, rfl⟩
  go_wp2
  go_ret
  exact ⟨ret_s (by rw [HE.out]; rfl), hb1.alloc hb1.size _⟩
set_option maxHeartbeats 400000 in
theorem put_2 (r : Int) (w : World) (hs : sgn r = true) (h1 : ¬ r < 128) (h2 : r < 2048) :
    Calls Tryz.prog 190 #[.int .i32 r] w fun e w' => e = .returned (.string ⟨(enc r).toArray⟩) ∧ Below w.heap.size w w' := by
  have HE := Lib.hid (show enc r = [192 + r / 64, 128 + r % 64].map b8 by unfold enc; rw [if_pos hs, if_neg h1, if_pos h2]; rfl)
  have HL := Lib.hid (show slen r = 2 by unfold slen; rw [if_pos hs, if_neg h1, if_pos h2])
  clear hs
  have k192 := u8_or192 (r / 64) (by omega) (by omega)
  go_enter Tryz.func190, Tryz.ntmps190
  go_wp2_with fail
  refine (length_any r _).mono ?_
  rw [HL.out]
  rintro e w1 ⟨rfl, hb1⟩
  go_wp2_with fail
  refine (further0 r _ (by omega) (by omega)).mono ?_
  rintro e w2 ⟨rfl, rfl⟩
  go_wp2_with fail
  refine (text_any w1 _ _ [192 + r / 64, 128 + r % 64] 2 rfl rfl).mono ?_
  rintro e w2 ⟨rfl, rfl⟩
  go_wp2
  go_ret
  exact ⟨ret_s (by rw [HE.out]; rfl), hb1.alloc hb1.size _⟩
set_option maxHeartbeats 400000 in
theorem put_3 (r : Int) (w : World) (hs : sgn r = true) (h1 : ¬ r < 128) (h2 : ¬ r < 2048) (h3 : r < 65536) :
    Calls Tryz.prog 190 #[.int .i32 r] w fun e w' => e = .returned (.string ⟨(enc r).toArray⟩) ∧ Below w.heap.size w w' := by
  have HE := Lib.hid (show enc r = [224 + r / 4096, 128 + r / 64 % 64, 128 + r % 64].map b8 by unfold enc; rw [if_pos hs, if_neg h1, if_neg h2, if_pos h3]; rfl)
  have HL := Lib.hid (show slen r = 3 by unfold slen; rw [if_pos hs, if_neg h1, if_neg h2, if_pos h3])
  clear hs
  have k224 := u8_or224 (r / 4096) (by omega) (by omega)
  go_enter Tryz.func190, Tryz.ntmps190
  go_wp2_with fail
  refine (length_any r _).mono ?_
  rw [HL.out]
  rintro e w1 ⟨rfl, hb1⟩
  go_wp2_with fail
  refine (further6 r _ (by omega) (by omega)).mono ?_
  rintro e w2 ⟨rfl, rfl⟩
  go_wp2_with fail
  refine (further0 r _ (by omega) (by omega)).mono ?_
  rintro e w2 ⟨rfl, rfl⟩
  go_wp2_with fail
  refine (text_any w1 _ _ [224 + r / 4096, 128 + r / 64 % 64, 128 + r % 64] 3 rfl rfl).mono ?_
  rintro e w2 ⟨rfl, rfl⟩
  go_wp2
  go_ret
  exact ⟨ret_s (by rw [HE.out]; rfl), hb1.alloc hb1.size _⟩
set_option maxHeartbeats 400000 in
theorem put_4 (r : Int) (w : World) (hs : sgn r = true) (h1 : ¬ r < 128) (h2 : ¬ r < 2048) (h3 : ¬ r < 65536) :
    Calls Tryz.prog 190 #[.int .i32 r] w fun e w' => e = .returned (.string ⟨(enc r).toArray⟩) ∧ Below w.heap.size w w' := by
  have HE := Lib.hid (show enc r = [240 + r / 262144, 128 + r / 4096 % 64, 128 + r / 64 % 64, 128 + r % 64].map b8 by unfold enc; rw [if_pos hs, if_neg h1, if_neg h2, if_neg h3]; rfl)
  have HL := Lib.hid (show slen r = 4 by unfold slen; rw [if_pos hs, if_neg h1, if_neg h2, if_neg h3])
  obtain ⟨h0, hm, _⟩ := (sgn_iff r).1 hs
  clear hs
  have k240 := u8_or240 (r / 262144) (by omega) (by omega)
  go_enter Tryz.func190, Tryz.ntmps190
  go_wp2_with fail
  refine (length_any r _).mono ?_
  rw [HL.out]
  rintro e w1 ⟨rfl, hb1⟩
  go_wp2_with fail
  refine (further12 r _ (by omega) (by omega)).mono ?_
  rintro e w2 ⟨rfl, rfl⟩
  go_wp2_with fail
  refine (further6 r _ (by omega) (by omega)).mono ?_
  rintro e w2 ⟨rfl, rfl⟩
  go_wp2_with fail
  refine (further0 r _ (by omega) (by omega)).mono ?_
  rintro e w2 ⟨rfl, rfl⟩
  go_wp2_with fail
  refine (text_any w1 _ _ [240 + r / 262144, 128 + r / 4096 % 64, 128 + r / 64 % 64, 128 + r % 64] 4 rfl rfl).mono ?_
  rintro e w2 ⟨rfl, rfl⟩
  go_wp2
  go_ret
  exact ⟨ret_s (by rw [HE.out]; rfl), hb1.alloc hb1.size _⟩
theorem put_any (r : Int) (w : World) :
    Calls Tryz.prog 190 #[.int .i32 r] w fun e w' => e = .returned (.string ⟨(enc r).toArray⟩) ∧ Below w.heap.size w w' := by
  by_cases hs : sgn r = true
  · by_cases h1 : r < 128
    · exact put_1 r w hs h1
    · by_cases h2 : r < 2048
      · exact put_2 r w hs h1 h2
      · by_cases h3 : r < 65536
        · exact put_3 r w hs h1 h2 h3
        · exact put_4 r w hs h1 h2 h3
  · exact put_none r w hs
end Go.Proofs.YtbdamneophbnnaaGreatDoor
namespace Go.Proofs.YtbdamneophbnnaaGreatDoor
open Go.RowKit Wb
set_option maxHeartbeats 400000 in
theorem rune_out (s : ByteArray) (i : Int) (w : World) (h : i < 0 ∨ (s.size : Int) ≤ i) (_hs : s.size ≤ 1000000000) :
    Calls Tryz.prog 73 #[.string s, .int .i64 i] w fun e w' => e = .returned (.tuple #[.int .i32 0, .int .i64 0]) ∧ Below w.heap.size w w' := by
  by_cases h0 : i < 0
  · clear h
    go_enter Tryz.func73, Tryz.ntmps73
    go_wp2
    go_ret2
    exact ⟨rfl, Below.refl _ _⟩
  · have h1 : (s.size : Int) ≤ i := by omega
    clear h
    go_enter Tryz.func73, Tryz.ntmps73
    go_wp2
    go_ret2
    exact ⟨rfl, Below.refl _ _⟩
theorem step_val (q c : Int) (h0 : 0 ≤ q) (h1 : q < 524288) (hc : 0 ≤ c) (hc1 : c < 256) :
    bits BinOp.or IntKind.i32 (wrap32 (q * 64)) (wrap32 (bits BinOp.and IntKind.u8 c 63)) = q * 64 + c % 64 := by
  rw [u8_and63 c hc hc1, show wrap32 (q * 64) = q * 64 from by unfold wrap32; omega, show wrap32 (c % 64) = c % 64 from by unfold wrap32; omega, i32_or64 q _ h0 (by omega) (by omega) (by omega)]
set_option maxHeartbeats 1000000 in
theorem rune_in (s : ByteArray) (k : Nat) (w : World) (h : k < s.size) (hs : s.size ≤ 1000000000) :
    Calls Tryz.prog 73 #[.string s, .int .i64 k] w fun e w' => e = .returned (.tuple #[.int .i32 (runeS s k).1, .int .i64 (runeS s k).2]) ∧ Below w.heap.size w w' := by
  have HR := Lib.hid (runeS_in s k h)
  go_enter Tryz.func73, Tryz.ntmps73
  go_wp2_with fail
  have hc := u8_lt s[k]
  have hz := fsz_bd s[k].toNat
  have hb := fbt_bd s[k].toNat (by omega) hc
  obtain ⟨hz0, hz4⟩ := hz
  obtain ⟨hb0, hb1⟩ := hb
  refine (first_any _ _ (by omega) hc).mono ?_
  clear hc
  generalize fsz (s[k].toNat : Int) = z at *
  generalize fbt (s[k].toNat : Int) = b at *
  rintro e w1 ⟨rfl, rfl⟩
  by_cases hz00 : z = 0
  · subst hz00
    go_wp2
    go_ret2
    refine ⟨?_, Below.refl _ _⟩
    rw [HR.out]; rfl
  · have hzz : (z == 0) = false := by simpa using hz00
    by_cases hlong : (s.size : Int) - k < z
    · go_wp2
      go_ret2
      refine ⟨?_, Below.refl _ _⟩
      rw [HR.out, decZ_short _ _ _ (by simp; omega)]; rfl
    · go_wp2
      go_loop [6, 4, 5] (fun i r z' => ∃ (j : Nat) (q : Int), (j : Int) + 1 ≤ z ∧ z' = .int .i64 z ∧ i = .int .i64 ((j : Int) + 1) ∧ r = .int .i32 q ∧ 0 ≤ q ∧ Hid (q < 128 * 64 ^ j) ∧
          Hid (decN b (z.toNat - 1) (s.data.toList.drop (k + 1)) = decN q (z.toNat - 1 - j) (s.data.toList.drop (k + 1 + j)))) (fun i _ _ => (z - intOf i).toNat)
      case atStart => exact ⟨0, b, by omega, rfl, rfl, rfl, hb0, Lib.hid (by omega), Lib.hid rfl⟩
      case round =>
        obtain ⟨j, q, hj, rfl, rfl, rfl, hq0, HB, HD⟩ := hrel
        by_cases hlt : (j : Int) + 1 < z
        · have hk' : k + (j + 1) < s.size := by omega
          go_wp2
          · have hbad : ((s[k + (j + 1)].toNat : Int) / 64 != 2) = true := by assumption
            go_ret2
            refine ⟨?_, Below.refl _ _⟩
            rw [HR.out, rune_bad s k j z b q hlt hk' HD.out (by simpa using hbad)]
            rfl
          · have hok : ((s[k + (j + 1)].toNat : Int) / 64 != 2) = false := by assumption
            have hok' : (s[k + (j + 1)].toNat : Int) / 64 = 2 := by simpa using hok
            have hc1 := u8_lt s[k + (j + 1)]
            have hq1 := pow_bd j (by omega) q HB.out
            have hv := step_val q s[k + (j + 1)].toNat hq0 hq1 (by omega) hc1
            go_round
            case rel => exact ⟨j + 1, q * 64 + (s[k + (j + 1)].toNat : Int) % 64, by omega, rfl, by go_num, by rw [hv], by omega, Lib.hid (pow_next j q _ HB.out (by omega)), Lib.hid (rune_step s k j z b q hlt hk' HD.out hok')⟩
            case measure => simp [intOf]; omega
        · have HE := Lib.hid (rune_end s k j z b q (by omega) HD.out)
          go_wp2_with fail
          refine (length_any q w).mono ?_
          by_cases hl : slen q = z
          · have HL := Lib.hid hl
            rw [hl]
            clear hl
            rintro e w1 ⟨rfl, hb1⟩
            go_wp2
            go_ret2
            refine ⟨?_, hb1⟩
            rw [HR.out, HE.out, if_pos HL.out]
            rfl
          · have HL := Lib.hid hl
            have hne : (slen q != z) = true := by simpa using hl
            clear hl
            rintro e w1 ⟨rfl, hb1⟩
            go_wp2
            go_ret2
            refine ⟨?_, hb1⟩
            rw [HR.out, HE.out, if_neg HL.out]
            rfl
theorem rune_any (s : ByteArray) (i : Int) (w : World) (hs : s.size ≤ 1000000000) :
    Calls Tryz.prog 73 #[.string s, .int .i64 i] w fun e w' => e = .returned (.tuple #[.int .i32 (runeS s i).1, .int .i64 (runeS s i).2]) ∧ Below w.heap.size w w' := by
  by_cases h : i < 0 ∨ (s.size : Int) ≤ i
  · have := rune_out s i w h hs
    unfold runeS
    rw [if_pos h]
    exact this
  · obtain ⟨k, rfl⟩ := Int.eq_ofNat_of_zero_le (by omega : 0 ≤ i)
    exact rune_in s k w (by omega) hs
end Go.Proofs.YtbdamneophbnnaaGreatDoor
namespace Go.Proofs.YtbdamneophbnnaaGreatDoor
open Go.RowKit Wb
set_option maxHeartbeats 1000000 in
theorem value_any (s : ByteArray) (w : World) (h1 : 1 ≤ s.size) (h4 : s.size ≤ 4) :
    Calls Tryz.prog 80 #[.string s] w fun e w' => e = .returned (.int .i64 (val s.data.toList)) ∧ w = w' := by
  have HV := Lib.hid (val_cons s h1)
  have HO : Hid (off s.size = if s.size = 2 then 192 else if s.size = 3 then 224 else if s.size = 4 then 240 else 0) := Lib.hid rfl
  go_enter Tryz.func80, Tryz.ntmps80
  go_wp2
  all_goals
    go_loop [3, 4] (fun n i => ∃ (k : Nat) (q : Int), 1 ≤ k ∧ k ≤ s.size ∧ i = .int .i64 k ∧ n = .int .i64 q ∧ Hid (q = ((s.data.toList.drop 1).take (k - 1)).foldl vstep ((s[0].toNat : Int) - off s.size)) ∧
      Hid (-(300 * 100 ^ (k - 1)) ≤ q ∧ q ≤ 300 * 100 ^ (k - 1))) (fun _ i => s.size - (intOf i).toNat)
    case atStart =>
      have hc := u8_lt s[0]
      refine ⟨1, (s[0].toNat : Int) - off s.size, by omega, by omega, rfl, congrArg (Value.int .i64) ?_, Lib.hid rfl, Lib.hid ?_⟩
      all_goals
        rw [HO.out]
        simp only [beq_iff_eq, beq_eq_false_iff_ne, ne_eq, Nat.sub_self, Int.pow_zero, wrap64] at *
        repeat' split
        all_goals omega
    case round =>
      obtain ⟨k, q, hk1, hk, rfl, rfl, HQ, HB⟩ := hrel
      by_cases hlt : k < s.size
      · obtain ⟨q1, q2⟩ := vbd k (by omega) q HB.out
        go_wp2
        go_round
        case rel =>
          have hc := u8_lt s[k]
          exact ⟨k + 1, q * 64 + (s[k].toNat : Int) - 128, by omega, by omega, by go_num, congrArg (Value.int .i64) (by simp only [wrap64]; omega),
            Lib.hid (by rw [show k + 1 - 1 = k from rfl, vals_next s _ k hk1 hlt, ← HQ.out]), Lib.hid (vbd_next k hk1 q _ HB.out (by omega) hc)⟩
        case measure => simp [intOf]; omega
      · go_wp2
        go_ret
        refine ⟨ret_i ?_, rfl⟩
        rw [HV.out, HQ.out, List.take_of_length_le (by simp; omega)]
set_option maxHeartbeats 400000 in
theorem rrune_out (s : ByteArray) (i : Int) (w : World) (h : i < 0 ∨ (s.size : Int) ≤ i) :
    Calls Tryz.prog 52 #[.string s, .int .i64 i] w fun e w' => e = .returned (.tuple #[.int .i64 0, .int .i64 0]) ∧ Below w.heap.size w w' := by
  by_cases h0 : i < 0
  · clear h
    go_enter Tryz.func52, Tryz.ntmps52
    go_wp2
    go_ret2
    exact ⟨rfl, Below.refl _ _⟩
  · have h1 : (s.size : Int) ≤ i := by omega
    clear h
    go_enter Tryz.func52, Tryz.ntmps52
    go_wp2
    go_ret2
    exact ⟨rfl, Below.refl _ _⟩
theorem cut_list (s : ByteArray) (k m : Nat) : (s.extract k (k + m)).data.toList = (s.data.toList.drop k).take m := by
  rw [Lib.extract_data]
  have : k + m - k = m := by omega
  rw [this]
theorem cut_size (s : ByteArray) (k m : Nat) (h : k + m ≤ s.size) : (s.extract k (k + m)).size = m := by
  simp; omega
set_option maxHeartbeats 1000000 in
theorem rrune_in (s : ByteArray) (k : Nat) (w : World) (h : k < s.size) (hs : s.size ≤ 1000000000) :
    Calls Tryz.prog 52 #[.string s, .int .i64 k] w fun e w' => e = .returned (.tuple #[.int .i64 (runeS s k).1, .int .i64 (runeS s k).2]) ∧ Below w.heap.size w w' := by
  have HR : Hid (runeS s k = dec (s.data.toList.drop k)) := by
    unfold runeS
    rw [if_neg (by omega)]
    exact Lib.hid rfl
  have hlen : (s.data.toList.drop k).length = s.size - k := by simp
  have HLen := Lib.hid hlen
  clear hlen
  have hsk : decide (s.size ≤ k) = false := by simpa using h
  go_enter Tryz.func52, Tryz.ntmps52
  go_wp2
  go_loopw [6] (fun i wr => ∃ j : Nat, j ≤ 4 ∧ i = .int .i64 ((j : Int) + 1) ∧ Hid ((dec (s.data.toList.drop k)).2 = 0 ∨ (j : Int) < (dec (s.data.toList.drop k)).2) ∧ Below w.heap.size w wr) (fun i _ => (6 - intOf i).toNat)
  case atStart =>
    have hb := dec_bd (s.data.toList.drop k)
    exact ⟨0, by omega, rfl, Lib.hid (by omega), Below.refl _ _⟩
  case round =>
    obtain ⟨j, hj, rfl, HM, hbel⟩ := hrel
    by_cases hlt : j < 4 ∧ k + (j + 1) ≤ s.size
    · obtain ⟨hlt1, hlt2⟩ := hlt
      have hcs := cut_size s k (j + 1) hlt2
      have HC := Lib.hid (cut_list s k (j + 1))
      go_wp2_with fail
      refine (value_any _ _ (by omega) (by omega)).mono ?_
      rw [HC.out]
      obtain ⟨t, ht⟩ : ∃ t, t = (s.data.toList.drop k).take (j + 1) := ⟨_, rfl⟩
      have HT := Lib.hid ht
      rw [← ht] at HC ⊢
      clear ht hcs
      have HL : Hid ((s.extract k (k + (j + 1))).toList = t) := by
        rw [ByteArray.toList_eq]; exact HC.out
      rintro e w1 ⟨rfl, rfl⟩
      go_wp2_with fail
      refine (sign_any _ _).mono ?_
      cases hsg : sgn (val t)
      · have HS := Lib.hid hsg
        clear hsg
        rintro e w1 ⟨rfl, rfl⟩
        go_wp2
        go_roundw
        case rel =>
          refine ⟨j + 1, by omega, by go_num, Lib.hid ?_, hbel⟩
          have hm := miss (s.data.toList.drop k) (j + 1)
          have hb := dec_bd (s.data.toList.drop k)
          have h0 := HM.out
          rw [← HT.out, HS.out] at hm
          by_cases hx : (dec (s.data.toList.drop k)).2 = ((j + 1 : Nat) : Int)
          · have := (hm hx (by omega)).1
            simp at this
          · omega
        case measure => simp [intOf]; omega
      · have HS := Lib.hid hsg
        clear hsg
        rintro e w1 ⟨rfl, rfl⟩
        go_wp2_with fail
        refine (rput_any _ _).mono ?_
        rintro e w1 ⟨rfl, hb1⟩
        have hbw := hbel.trans (hb1.mono hbel.size)
        by_cases he : enc (val t) = t
        · have HE := Lib.hid he
          have q : (enc (val t) == (s.extract k (k + (j + 1))).toList) = true := by rw [HL.out, he]; simp
          clear he
          go_wp2
          go_ret2
          refine ⟨?_, hbw⟩
          have hh := hit (s.data.toList.drop k) (j + 1) (by rw [HLen.out]; omega)
          rw [← HT.out] at hh
          rw [HR.out, hh HS.out HE.out]
          rfl
        · have HE := Lib.hid he
          have q : (enc (val t) == (s.extract k (k + (j + 1))).toList) = false := by rw [HL.out]; simpa using he
          clear he
          go_wp2
          go_roundw
          case rel =>
            refine ⟨j + 1, by omega, by go_num, Lib.hid ?_, hbw⟩
            have hm := miss (s.data.toList.drop k) (j + 1)
            have hb := dec_bd (s.data.toList.drop k)
            have h0 := HM.out
            rw [← HT.out] at hm
            by_cases hx : (dec (s.data.toList.drop k)).2 = ((j + 1 : Nat) : Int)
            · exact absurd (hm hx (by omega)).2 HE.out
            · omega
          case measure => simp [intOf]; omega
    · have HZ : Hid (dec (s.data.toList.drop k) = (0, 0)) := by
        have hb := dec_bd (s.data.toList.drop k)
        rw [HLen.out] at hb
        have h0 := HM.out
        exact Lib.hid (dec_zero _ (by omega))
      by_cases hj4 : j < 4
      all_goals
        go_wp2
        go_ret2
        refine ⟨?_, hbel⟩
        rw [HR.out, HZ.out]
        rfl
theorem rrune_any (s : ByteArray) (i : Int) (w : World) (hs : s.size ≤ 1000000000) :
    Calls Tryz.prog 52 #[.string s, .int .i64 i] w fun e w' => e = .returned (.tuple #[.int .i64 (runeS s i).1, .int .i64 (runeS s i).2]) ∧ Below w.heap.size w w' := by
  by_cases h : i < 0 ∨ (s.size : Int) ≤ i
  · have := rrune_out s i w h
    unfold runeS
    rw [if_pos h]
    exact this
  · obtain ⟨k, rfl⟩ := Int.eq_ofNat_of_zero_le (by omega : 0 ≤ i)
    exact rrune_in s k w (by omega) hs
end Go.Proofs.YtbdamneophbnnaaGreatDoor
