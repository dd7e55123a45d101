/- UtfA UtfB UtfC. -/
import Derived.Test.YtlcjepnaljfpkaaGreatDoorRows
import Derived.Laws.BytesString
import Derived.Test.YtlcjepnaljfpkaaGreatDoorQp1
import Derived.Test.YtlcjepnaljfpkaaGreatDoorQp2
namespace Go.Proofs.YtlcjepnaljfpkaaGreatDoor
open Go.RowKit Wb
set_option maxHeartbeats 400000 in
theorem sign_any (n : Int) (w : World) :
    Calls Tryz.prog 155 #[.int .i64 n] w fun e w' => e = .returned (.bool (sgn n)) ∧ w = w' := by
  have H := Lib.hid (sgn_iff n)
  go_enter Tryz.func155, Tryz.ntmps155
  go_wp2
  all_goals
    go_ret
    refine ⟨ret_b ?_, rfl⟩
    unfold sgn
    simp [*]
    try omega
set_option maxHeartbeats 400000 in
theorem first_any (c : Int) (w : World) (h0 : 0 ≤ c) (h1 : c < 256) :
    Calls Tryz.prog 130 #[.int .u8 c] w fun e w' => e = .returned (.tuple #[.int .i64 (fsz c), .int .i32 (fbt c)]) ∧ w = w' := by
  have k31 := u8_and31 c h0 h1
  have k15 := u8_and15 c h0 h1
  have k7 := u8_and7 c h0 h1
  go_enter Tryz.func130, Tryz.ntmps130
  go_wp2
  all_goals
    go_ret2
    refine ⟨ret_ii ?_ ?_, rfl⟩
    all_goals
      try simp only [beq_iff_eq, beq_eq_false_iff_ne] at *
      first | unfold fsz | unfold fbt
      repeat (first | (rw [if_pos (by omega)]) | (rw [if_neg (by omega)]))
theorem inS_take (r : Int) (l : List (Int × Int)) (k : Nat) (h : k < l.length) (h0 : inS r (l.take k) = false) :
    inS r (l.take (k + 1)) = (decide (l[k].1 ≤ r) && decide (r ≤ l[k].2)) := by
  unfold inS at *
  rw [List.take_succ_eq_append_getElem h, List.any_append, h0]
  simp
theorem inS_mono (r : Int) (l : List (Int × Int)) (j : Nat) (h : true = inS r (l.take j)) : true = inS r l := by
  unfold inS at *
  have h := h.symm
  rw [List.any_eq_true] at h
  obtain ⟨x, hx, hp⟩ := h
  exact (List.any_eq_true.2 ⟨x, List.mem_of_mem_take hx, hp⟩).symm
set_option maxHeartbeats 400000 in
theorem within_any (r : Int) (l : List (Int × Int)) (b n : Nat) (w : World) (hn : l.length = n) (hn1 : n ≤ 1000) (hb : b < w.heap.size)
    (hc : ∀ k (h : k < l.length), w.cell? ⟨b, k * 2, none⟩ = some (.int .i32 l[k].1) ∧ w.cell? ⟨b, k * 2 + 1, none⟩ = some (.int .i32 l[k].2)) :
    Calls Tryz.prog 24 #[.int .i32 r, .slice (some ⟨b, 0, none⟩) n n] w fun e w' => e = .returned (.bool (inS r l)) ∧ Below w.heap.size w w' := by
  have HC := Lib.hid hc
  have HN := Lib.hid hn
  clear hc hn
  go_enter Tryz.func24, Tryz.ntmps24
  go_wp2
  go_loopw [9] (fun i wr => ∃ k : Nat, k ≤ n ∧ i = .int .i64 k ∧ Hid (inS r (l.take k) = false) ∧ Below w.heap.size w wr) (fun i _ => n - (intOf i).toNat)
  case atStart => exact ⟨0, Nat.zero_le _, rfl, rfl, Below.refl _ _⟩
  case round =>
    obtain ⟨k, hk, rfl, HI, hbel⟩ := hrel
    by_cases hlt : k < n
    · have hk' : k < l.length := by rw [HN.out]; exact hlt
      have hs := hbel.size
      obtain ⟨lo, hi, e1, e2, HS⟩ : ∃ lo hi, wr.cell? ⟨b, k * 2, none⟩ = some (.int .i32 lo) ∧ wr.cell? ⟨b, k * 2 + 1, none⟩ = some (.int .i32 hi) ∧ Hid (inS r (l.take (k + 1)) = (decide (lo ≤ r) && decide (r ≤ hi))) :=
        ⟨_, _, (hbel.cell (p := ⟨b, k * 2, none⟩) hb).trans (HC.out k hk').1, (hbel.cell (p := ⟨b, k * 2 + 1, none⟩) hb).trans (HC.out k hk').2, inS_take r l k hk' HI.out⟩
      go_wp2
      · go_ret
        refine ⟨ret_b (inS_mono r l (k + 1) ?_), hbel.alloc hs _⟩
        rw [HS.out]
        simp [*]
      all_goals
        go_roundw
        case rel => exact ⟨k + 1, by omega, by go_num, Lib.hid (by rw [HS.out]; simp; omega), hbel.alloc hs _⟩
        case measure => simp [intOf]; omega
    · go_wp2
      go_ret
      refine ⟨ret_b ?_, hbel⟩
      have HI' := HI.out
      rw [List.take_of_length_le (by rw [HN.out]; omega)] at HI'
      exact HI'.symm
set_option maxHeartbeats 400000 in
theorem in_any (r : Int) (l : List (Int × Int)) (b n : Nat) (w : World) (hn : l.length * 2 = n) (hn1 : n ≤ 1000)
    (hc : ∀ k (h : k < l.length), w.cell? ⟨b, 2 * k, none⟩ = some (.int .i64 l[k].1) ∧ w.cell? ⟨b, 2 * k + 1, none⟩ = some (.int .i64 l[k].2)) :
    Calls Tryz.prog 157 #[.int .i64 r, .slice (some ⟨b, 0, none⟩) n n] w fun e w' => e = .returned (.bool (inS r l)) ∧ w = w' := by
  have HC := Lib.hid hc
  have HN := Lib.hid hn
  clear hc hn
  go_enter Tryz.func157, Tryz.ntmps157
  go_wp2
  go_loop [5] (fun i => ∃ k : Nat, k * 2 ≤ n ∧ i = .int .i64 (2 * (k : Int)) ∧ Hid (inS r (l.take k) = false)) (fun i => n - (intOf i).toNat)
  case atStart => exact ⟨0, by omega, rfl, rfl⟩
  case round =>
    obtain ⟨k, hk, rfl, HI⟩ := hrel
    by_cases hlt : k * 2 + 1 < n
    · have hk' : k < l.length := by have := HN.out; omega
      obtain ⟨lo, hi, e1, e2, HS⟩ : ∃ lo hi, w.cell? ⟨b, 2 * k, none⟩ = some (.int .i64 lo) ∧ w.cell? ⟨b, 2 * k + 1, none⟩ = some (.int .i64 hi) ∧ Hid (inS r (l.take (k + 1)) = (decide (lo ≤ r) && decide (r ≤ hi))) :=
        ⟨_, _, (HC.out k hk').1, (HC.out k hk').2, inS_take r l k hk' HI.out⟩
      go_wp2
      · go_ret
        refine ⟨ret_b (inS_mono r l (k + 1) ?_), rfl⟩
        rw [HS.out]
        simp [*]
      all_goals
        go_round
        case rel => exact ⟨k + 1, by omega, by go_num, Lib.hid (by rw [HS.out]; simp; omega)⟩
        case measure => simp [intOf]; omega
    · go_wp2
      go_ret
      refine ⟨ret_b ?_, rfl⟩
      have HI' := HI.out
      rw [List.take_of_length_le (by have := HN.out; omega)] at HI'
      exact HI'.symm
end Go.Proofs.YtlcjepnaljfpkaaGreatDoor
namespace Go.Proofs.YtlcjepnaljfpkaaGreatDoor
open Go.RowKit Wb
def flatV (kd : IntKind) : List (Int × Int) → List Value
  | [] => []
  | x :: l => .int kd x.1 :: .int kd x.2 :: flatV kd l
theorem flatV_at (kd : IntKind) : ∀ (l : List (Int × Int)) (k : Nat) (h : k < l.length),
    (flatV kd l)[2 * k]? = some (.int kd l[k].1) ∧ (flatV kd l)[2 * k + 1]? = some (.int kd l[k].2)
  | [], k, h => absurd h (by simp)
  | x :: l, 0, _ => ⟨rfl, rfl⟩
  | x :: l, k + 1, h => by
    have := flatV_at kd l k (by simpa using h)
    simpa [flatV, Nat.mul_add] using this
theorem spans_at (kd : IntKind) (cs : Array Value) (T : TypeId) (w : World) (l : List (Int × Int)) (e : cs = (flatV kd l).toArray) (k : Nat) (h : k < l.length) :
    (w.alloc (.cells cs T)).cell? ⟨w.heap.size, k * 2, none⟩ = some (.int kd l[k].1) ∧ (w.alloc (.cells cs T)).cell? ⟨w.heap.size, k * 2 + 1, none⟩ = some (.int kd l[k].2) := by
  have hf := flatV_at kd l k h
  have hh := heap_alloc_new w (.cells cs T)
  rw [cell_of_row _ _ _ cs T (0, 0) hh, cell_of_row _ _ _ cs T (0, 0) hh, e]
  rw [Nat.mul_comm k 2]
  simpa using hf
theorem below_alloc_trans {w w' : World} {o : Obj} (h : Below (w.alloc o).heap.size (w.alloc o) w') : Below w.heap.size w w' :=
  ((Below.refl _ _).alloc (Nat.le_refl _) o).trans (h.mono (by simp))
set_option maxHeartbeats 400000 in
theorem char_any (r : Int) (w : World) :
    Calls Tryz.prog 9 #[.int .i32 r] w fun e w' => e = .returned (.bool (charB r)) ∧ Below w.heap.size w w' := by
  go_enter Tryz.func9, Tryz.ntmps9
  go_wp2_with fail
  refine (within_any r charS _ 5 _ rfl (by omega) (by simp) (spans_at .i32 _ _ w charS rfl)).mono ?_
  rintro e w' ⟨rfl, hb⟩
  go_wp2
  go_ret
  exact ⟨rfl, below_alloc_trans hb⟩
set_option maxHeartbeats 400000 in
theorem start_any (r : Int) (w : World) :
    Calls Tryz.prog 137 #[.int .i32 r] w fun e w' => e = .returned (.bool (startB r)) ∧ Below w.heap.size w w' := by
  go_enter Tryz.func137, Tryz.ntmps137
  go_wp2_with fail
  refine (within_any r startS _ 15 _ rfl (by omega) (by simp) (spans_at .i32 _ _ w startS rfl)).mono ?_
  rintro e w' ⟨rfl, hb⟩
  go_wp2
  go_ret
  exact ⟨rfl, below_alloc_trans hb⟩
set_option maxHeartbeats 400000 in
theorem part_any (r : Int) (w : World) :
    Calls Tryz.prog 105 #[.int .i32 r] w fun e w' => e = .returned (.bool (partB r)) ∧ Below w.heap.size w w' := by
  cases hs : startB r
  all_goals
    have HP := Lib.hid (show partB r = (startB r || inS r partS) from rfl)
    rw [hs] at HP
    have HS := Lib.hid hs
    clear hs
    go_enter Tryz.func105, Tryz.ntmps105
    go_wp2_with fail
    refine (start_any r _).mono ?_
    rw [HS.out]
    rintro e w1 ⟨rfl, hb1⟩
    go_wp2_with fail
  · refine (within_any r partS _ 5 _ rfl (by omega) (by simp) (spans_at .i32 _ _ w1 partS rfl)).mono ?_
    rintro e w' ⟨rfl, hb⟩
    go_wp2
    go_ret
    exact ⟨ret_b (by rw [HP.out]; simp), hb1.trans ((below_alloc_trans hb).mono hb1.size)⟩
  · go_ret
    exact ⟨ret_b (by rw [HP.out]; simp), hb1⟩
set_option maxHeartbeats 400000 in
theorem length_any (r : Int) (w : World) :
    Calls Tryz.prog 25 #[.int .i32 r] w fun e w' => e = .returned (.int .i64 (slen r)) ∧ Below w.heap.size w w' := by
  cases hs : sgn r
  all_goals
    have HL := Lib.hid (show slen r = if sgn r = true then (if r < 128 then 1 else if r < 2048 then 2 else if r < 65536 then 3 else 4) else 0 from rfl)
    rw [hs] at HL
    have HS := Lib.hid hs
    clear hs
    go_enter Tryz.func25, Tryz.ntmps25
    go_wp2_with fail
    refine (within_any r signS _ 2 _ rfl (by omega) (by simp) (spans_at .i32 _ _ w signS rfl)).mono ?_
    rw [inS_sign, HS.out]
    rintro e w1 ⟨rfl, hb1⟩
    go_wp2
    all_goals
      go_ret
      refine ⟨ret_i ?_, below_alloc_trans hb1⟩
      rw [HL.out]
      repeat (first | rfl | (rw [if_pos (by first | trivial | omega)]) | (rw [if_neg (by first | omega | decide)]))
set_option maxHeartbeats 400000 in
theorem rchar_any (r : Int) (w : World) :
    Calls Tryz.prog 128 #[.int .i64 r] w fun e w' => e = .returned (.bool (charB r)) ∧ Below w.heap.size w w' := by
  have HP := Lib.hid (charB_ref r)
  by_cases h : r = 9 ∨ r = 10 ∨ r = 13
  · rcases h with rfl | rfl | rfl
    all_goals
      go_enter Tryz.func128, Tryz.ntmps128
      go_wp2
      go_ret
      exact ⟨ret_b (by rw [HP.out]; rfl), Below.refl _ _⟩
  · have h1 : (r == 9) = false := by simp; omega
    have h2 : (r == 10) = false := by simp; omega
    have h3 : (r == 13) = false := by simp; omega
    go_enter Tryz.func128, Tryz.ntmps128
    go_wp2_with fail
    refine (in_any r charR _ 6 _ rfl (by omega) ?_).mono ?_
    · intro k h; rw [Nat.mul_comm 2 k]; exact spans_at .i64 _ _ w charR rfl k h
    rintro e w' ⟨rfl, rfl⟩
    go_wp2
    go_ret
    exact ⟨ret_b (by rw [HP.out, h1, h2, h3]; rfl), (Below.refl _ _).alloc (Nat.le_refl _) _⟩
set_option maxHeartbeats 400000 in
theorem rstart_any (r : Int) (w : World) :
    Calls Tryz.prog 158 #[.int .i64 r] w fun e w' => e = .returned (.bool (startB r)) ∧ Below w.heap.size w w' := by
  go_enter Tryz.func158, Tryz.ntmps158
  go_wp2_with fail
  refine (in_any r startS _ 30 _ rfl (by omega) ?_).mono ?_
  · intro k h; rw [Nat.mul_comm 2 k]; exact spans_at .i64 _ _ w startS rfl k h
  rintro e w' ⟨rfl, rfl⟩
  go_wp2
  go_ret
  exact ⟨rfl, (Below.refl _ _).alloc (Nat.le_refl _) _⟩
set_option maxHeartbeats 400000 in
theorem rpart_any (r : Int) (w : World) :
    Calls Tryz.prog 159 #[.int .i64 r] w fun e w' => e = .returned (.bool (partB r)) ∧ Below w.heap.size w w' := by
  have HP := Lib.hid (partB_ref r)
  cases hs : startB r
  · rw [hs] at HP
    have HS := Lib.hid hs
    clear hs
    by_cases h : r = 45 ∨ r = 46
    · rcases h with rfl | rfl
      all_goals
        go_enter Tryz.func159, Tryz.ntmps159
        go_wp2_with fail
        refine (rstart_any _ _).mono ?_
        rw [HS.out]
        rintro e w1 ⟨rfl, hb1⟩
        go_wp2
        go_ret
        exact ⟨ret_b (by rw [HP.out]; rfl), hb1⟩
    · have h1 : (r == 45) = false := by simp; omega
      have h2 : (r == 46) = false := by simp; omega
      go_enter Tryz.func159, Tryz.ntmps159
      go_wp2_with fail
      refine (rstart_any _ _).mono ?_
      rw [HS.out]
      rintro e w1 ⟨rfl, hb1⟩
      go_wp2_with fail
      refine (in_any r partR _ 8 _ rfl (by omega) ?_).mono ?_
      · intro k h; rw [Nat.mul_comm 2 k]; exact spans_at .i64 _ _ w1 partR rfl k h
      rintro e w' ⟨rfl, rfl⟩
      go_wp2
      go_ret
      exact ⟨ret_b (by rw [HP.out, h1, h2]; rfl), hb1.alloc hb1.size _⟩
  · rw [hs] at HP
    have HS := Lib.hid hs
    clear hs
    go_enter Tryz.func159, Tryz.ntmps159
    go_wp2_with fail
    refine (rstart_any _ _).mono ?_
    rw [HS.out]
    rintro e w1 ⟨rfl, hb1⟩
    go_wp2
    go_ret
    exact ⟨ret_b (by rw [HP.out]; rfl), hb1⟩
end Go.Proofs.YtlcjepnaljfpkaaGreatDoor
namespace Go.Proofs.YtlcjepnaljfpkaaGreatDoor
open Go.RowKit Wb
theorem push_all : ∀ (ns : List Int) (s : ByteArray), ns.foldl (fun r n => r.push (UInt8.ofNat n.toNat)) s = ⟨s.data ++ (ns.map b8).toArray⟩
  | [], s => by simp
  | n :: ns, s => by
    rw [List.foldl_cons, push_all ns]
    simp [b8]
theorem run_text (w : World) (b n c : Nat) (ns : List Int) (hn : ns.length = n)
    (hc : ∀ j v, (ns.map (Value.int .u8))[j]? = some v → w.cell? ⟨b, j, none⟩ = some v) :
    (convert 69 9 (.slice (some ⟨b, 0, none⟩) n c)).run Tryz.prog w = .ok (.string ⟨(ns.map b8).toArray⟩) w := by
  rw [run_convert_bytes_string w _ _ _ _ n c Tryz.underlying69 Tryz.underlying5 Tryz.underlying9]
  have hl := run_loadCells_list (P := Tryz.prog) (w := w) ⟨b, 0, none⟩ (ns.map (Value.int .u8)) (by
    intro j v h
    have := hc j v h
    unfold Addr.add
    split <;> simp_all)
  rw [List.length_map, hn] at hl
  rw [run_bytesToString w _ n c ns hl, push_all]
  simp
theorem run_text_new (w : World) (T : TypeId) (cs : Array Value) (ns : List Int) (n : Nat) (hcs : cs = (ns.map (Value.int .u8)).toArray) (hn : ns.length = n) :
    (convert 69 9 (.slice (some ⟨w.heap.size, 0, none⟩) n n)).run Tryz.prog (w.alloc (.cells cs T)) =
      .ok (.string ⟨(ns.map b8).toArray⟩) (w.alloc (.cells cs T)) := by
  subst hcs
  refine run_text _ _ _ _ ns hn ?_
  intro j v h
  rw [cell_of_row _ _ _ _ T (0, 0) (heap_alloc_new w (.cells _ T))]
  simpa using h
set_option maxHeartbeats 400000 in
theorem rput_any (n : Int) (w : World) :
    Calls Tryz.prog 156 #[.int .i64 n] w fun e w' => e = .returned (.string ⟨(enc n).toArray⟩) ∧ Below w.heap.size w w' := by
  have k1 := fun a => run_text_new w 5 #[.int .u8 a] [a] 1 rfl rfl
  have k2 := fun a b => run_text_new w 5 #[.int .u8 a, .int .u8 b] [a, b] 2 rfl rfl
  have k3 := fun a b c => run_text_new w 5 #[.int .u8 a, .int .u8 b, .int .u8 c] [a, b, c] 3 rfl rfl
  have k4 := fun a b c d => run_text_new w 5 #[.int .u8 a, .int .u8 b, .int .u8 c, .int .u8 d] [a, b, c, d] 4 rfl rfl
  have HE : Hid (enc n = if sgn n = true then
    (if n < 128 then [b8 n]
    else if n < 2048 then [b8 (192 + n / 64), b8 (128 + n % 64)]
    else if n < 65536 then [b8 (224 + n / 4096), b8 (128 + n / 64 % 64), b8 (128 + n % 64)]
    else [b8 (240 + n / 262144), b8 (128 + n / 4096 % 64), b8 (128 + n / 64 % 64), b8 (128 + n % 64)])
  else []) := Lib.hid rfl
  go_enter Tryz.func156, Tryz.ntmps156
  go_wp2_with fail
  refine (sign_any _ _).mono ?_
  by_cases hs : sgn n = true
  · have hb := (sgn_iff n).1 hs
    obtain ⟨hb0, hb1, _⟩ := hb
    rw [hs]
    have HS := Lib.hid hs
    clear hs
    rintro e w1 ⟨rfl, rfl⟩
    go_wp2
    all_goals
      go_ret
      refine ⟨ret_s ?_, (Below.refl _ _).alloc (Nat.le_refl _) _⟩
      rw [HE.out, if_pos HS.out]
      repeat (first | rfl | (rw [if_pos (by omega)]) | (rw [if_neg (by omega)]))
  · have HS := Lib.hid hs
    have hs' : sgn n = false := by simpa using hs
    rw [hs']
    clear hs hs'
    rintro e w1 ⟨rfl, rfl⟩
    go_wp2
    go_ret
    exact ⟨ret_s (by rw [HE.out, if_neg HS.out]), Below.refl _ _⟩
end Go.Proofs.YtlcjepnaljfpkaaGreatDoor
