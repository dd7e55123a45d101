/- UtfB UtfC UtfD. -/
import Derived.Laws.BytesString
import Derived.Test.YtlcjepnaljfpkaaGreatDoorQl3
namespace Go.Proofs.YtlcjepnaljfpkaaGreatDoor
open Go.RowKit Wb
def flatV (kd : IntKind) : List (Int × Int) → List Value
  | [] => []
  | x :: l => .int kd x.1 :: .int kd x.2 :: flatV kd l
theorem flatV_at (kd : IntKind) : ∀ (l : List (Int × Int)) (k : Nat) (h : k < l.length),
    (flatV kd l)[2 * k]? = some (.int kd l[k].1) ∧ (flatV kd l)[2 * k + 1]? = some (.int kd l[k].2)
  | [], k, h => absurd h (by simp)
  | x :: l, 0, _ => ⟨rfl, rfl⟩
  | x :: l, k + 1, h => by
    have := flatV_at kd l k (by simpa using h)
    simpa [flatV, Nat.mul_add] using this
theorem spans_at (kd : IntKind) (cs : Array Value) (T : TypeId) (w : World) (l : List (Int × Int)) (e : cs = (flatV kd l).toArray) (k : Nat) (h : k < l.length) :
    (w.alloc (.cells cs T)).cell? ⟨w.heap.size, k * 2, none⟩ = some (.int kd l[k].1) ∧ (w.alloc (.cells cs T)).cell? ⟨w.heap.size, k * 2 + 1, none⟩ = some (.int kd l[k].2) := by
  have hf := flatV_at kd l k h
  have hh := heap_alloc_new w (.cells cs T)
  rw [cell_of_row _ _ _ cs T (0, 0) hh, cell_of_row _ _ _ cs T (0, 0) hh, e]
  rw [Nat.mul_comm k 2]
  simpa using hf
theorem below_alloc_trans {w w' : World} {o : Obj} (h : Below (w.alloc o).heap.size (w.alloc o) w') : Below w.heap.size w w' :=
  ((Below.refl _ _).alloc (Nat.le_refl _) o).trans (h.mono (by simp))
set_option maxHeartbeats 400000 in
theorem char_any (r : Int) (w : World) :
    Calls Tryz.prog 9 #[.int .i32 r] w fun e w' => e = .returned (.bool (charB r)) ∧ Below w.heap.size w w' := by
  go_enter Tryz.func9, Tryz.ntmps9
  go_wp2_with fail
  refine (within_any r charS _ 5 _ rfl (by omega) (by simp) (spans_at .i32 _ _ w charS rfl)).mono ?_
  rintro e w' ⟨rfl, hb⟩
  go_wp2
  go_ret
  exact ⟨rfl, below_alloc_trans hb⟩
set_option maxHeartbeats 400000 in
theorem start_any (r : Int) (w : World) :
    Calls Tryz.prog 137 #[.int .i32 r] w fun e w' => e = .returned (.bool (startB r)) ∧ Below w.heap.size w w' := by
  go_enter Tryz.func137, Tryz.ntmps137
  go_wp2_with fail
  refine (within_any r startS _ 15 _ rfl (by omega) (by simp) (spans_at .i32 _ _ w startS rfl)).mono ?_
  rintro e w' ⟨rfl, hb⟩
  go_wp2
  go_ret
  exact ⟨rfl, below_alloc_trans hb⟩
set_option maxHeartbeats 400000 in
theorem part_any (r : Int) (w : World) :
    Calls Tryz.prog 105 #[.int .i32 r] w fun e w' => e = .returned (.bool (partB r)) ∧ Below w.heap.size w w' := by
  cases hs : startB r
  all_goals
    have HP := Lib.hid (show partB r = (startB r || inS r partS) from rfl)
    rw [hs] at HP
    have HS := Lib.hid hs
    clear hs
    go_enter Tryz.func105, Tryz.ntmps105
    go_wp2_with fail
    refine (start_any r _).mono ?_
    rw [HS.out]
    rintro e w1 ⟨rfl, hb1⟩
    go_wp2_with fail
  · refine (within_any r partS _ 5 _ rfl (by omega) (by simp) (spans_at .i32 _ _ w1 partS rfl)).mono ?_
    rintro e w' ⟨rfl, hb⟩
    go_wp2
    go_ret
    exact ⟨ret_b (by rw [HP.out]; simp), hb1.trans ((below_alloc_trans hb).mono hb1.size)⟩
  · go_ret
    exact ⟨ret_b (by rw [HP.out]; simp), hb1⟩
set_option maxHeartbeats 400000 in
theorem length_any (r : Int) (w : World) :
    Calls Tryz.prog 25 #[.int .i32 r] w fun e w' => e = .returned (.int .i64 (slen r)) ∧ Below w.heap.size w w' := by
  cases hs : sgn r
  all_goals
    have HL := Lib.hid (show slen r = if sgn r = true then (if r < 128 then 1 else if r < 2048 then 2 else if r < 65536 then 3 else 4) else 0 from rfl)
    rw [hs] at HL
    have HS := Lib.hid hs
    clear hs
    go_enter Tryz.func25, Tryz.ntmps25
    go_wp2_with fail
    refine (within_any r signS _ 2 _ rfl (by omega) (by simp) (spans_at .i32 _ _ w signS rfl)).mono ?_
    rw [inS_sign, HS.out]
    rintro e w1 ⟨rfl, hb1⟩
    go_wp2
    all_goals
      go_ret
      refine ⟨ret_i ?_, below_alloc_trans hb1⟩
      rw [HL.out]
      repeat (first | rfl | (rw [if_pos (by first | trivial | omega)]) | (rw [if_neg (by first | omega | decide)]))
end Go.Proofs.YtlcjepnaljfpkaaGreatDoor
namespace Go.Proofs.YtlcjepnaljfpkaaGreatDoor
open Go.RowKit Wb
theorem push_all : ∀ (ns : List Int) (s : ByteArray), ns.foldl (fun r n => r.push (UInt8.ofNat n.toNat)) s = ⟨s.data ++ (ns.map b8).toArray⟩
  | [], s => by simp
  | n :: ns, s => by
    rw [List.foldl_cons, push_all ns]
    simp [b8]
theorem run_text (w : World) (b n c : Nat) (ns : List Int) (hn : ns.length = n)
    (hc : ∀ j v, (ns.map (Value.int .u8))[j]? = some v → w.cell? ⟨b, j, none⟩ = some v) :
    (convert 69 9 (.slice (some ⟨b, 0, none⟩) n c)).run Tryz.prog w = .ok (.string ⟨(ns.map b8).toArray⟩) w := by
  rw [run_convert_bytes_string w _ _ _ _ n c Tryz.underlying69 Tryz.underlying5 Tryz.underlying9]
  have hl := run_loadCells_list (P := Tryz.prog) (w := w) ⟨b, 0, none⟩ (ns.map (Value.int .u8)) (by
    intro j v h
    have := hc j v h
    unfold Addr.add
    split <;> simp_all)
  rw [List.length_map, hn] at hl
  rw [run_bytesToString w _ n c ns hl, push_all]
  simp
theorem run_text_new (w : World) (T : TypeId) (cs : Array Value) (ns : List Int) (n : Nat) (hcs : cs = (ns.map (Value.int .u8)).toArray) (hn : ns.length = n) :
    (convert 69 9 (.slice (some ⟨w.heap.size, 0, none⟩) n n)).run Tryz.prog (w.alloc (.cells cs T)) =
      .ok (.string ⟨(ns.map b8).toArray⟩) (w.alloc (.cells cs T)) := by
  subst hcs
  refine run_text _ _ _ _ ns hn ?_
  intro j v h
  rw [cell_of_row _ _ _ _ T (0, 0) (heap_alloc_new w (.cells _ T))]
  simpa using h
set_option maxHeartbeats 400000 in
theorem text_any (w : World) (T : TypeId) (cs : Array Value) (ns : List Int) (n : Nat) (hcs : cs = (ns.map (Value.int .u8)).toArray) (hn : ns.length = n) :
    Calls Tryz.prog 26 #[.slice (some ⟨w.heap.size, 0, none⟩) n n] (w.alloc (.cells cs T)) fun e w' => e = .returned (.string ⟨(ns.map b8).toArray⟩) ∧ w.alloc (.cells cs T) = w' := by
  have k := run_text_new w T cs ns n hcs hn
  clear hcs hn
  go_enter Tryz.func26, Tryz.ntmps26
  go_wp2
  go_ret
  exact ⟨rfl, rfl⟩
theorem further0 (r : Int) (w : World) (h0 : 0 ≤ r) (h1 : r < 2147483648) :
    Calls Tryz.prog 27 #[.int .i32 r, .int .i64 0] w fun e w' => e = .returned (.int .u8 (128 + r % 64)) ∧ w = w' := by
  have := further_any r 0 w h0 h1 (by omega) (by omega)
  simpa using this
theorem further6 (r : Int) (w : World) (h0 : 0 ≤ r) (h1 : r < 2147483648) :
    Calls Tryz.prog 27 #[.int .i32 r, .int .i64 6] w fun e w' => e = .returned (.int .u8 (128 + r / 64 % 64)) ∧ w = w' :=
  further_any r 6 w h0 h1 (by omega) (by omega)
theorem further12 (r : Int) (w : World) (h0 : 0 ≤ r) (h1 : r < 2147483648) :
    Calls Tryz.prog 27 #[.int .i32 r, .int .i64 12] w fun e w' => e = .returned (.int .u8 (128 + r / 4096 % 64)) ∧ w = w' :=
  further_any r 12 w h0 h1 (by omega) (by omega)
set_option maxHeartbeats 400000 in
theorem put_none (r : Int) (w : World) (hs : ¬ sgn r = true) :
    Calls Tryz.prog 10 #[.int .i32 r] w fun e w' => e = .returned (.string ⟨(enc r).toArray⟩) ∧ Below w.heap.size w w' := by
  have HE := Lib.hid (show enc r = [] by unfold enc; rw [if_neg hs])
  have HL := Lib.hid (show slen r = 0 by unfold slen; rw [if_neg hs])
  clear hs
  go_enter Tryz.func10, Tryz.ntmps10
  go_wp2_with fail
  refine (length_any r _).mono ?_
  rw [HL.out]
  rintro e w1 ⟨rfl, hb1⟩
  go_wp2
  go_ret
  exact ⟨ret_s (by rw [HE.out]), hb1⟩
set_option maxHeartbeats 400000 in
theorem put_1 (r : Int) (w : World) (hs : sgn r = true) (h1 : r < 128) :
    Calls Tryz.prog 10 #[.int .i32 r] w fun e w' => e = .returned (.string ⟨(enc r).toArray⟩) ∧ Below w.heap.size w w' := by
  have HE := Lib.hid (show enc r = [r].map b8 by unfold enc; rw [if_pos hs, if_pos h1]; rfl)
  have HL := Lib.hid (show slen r = 1 by unfold slen; rw [if_pos hs, if_pos h1])
  obtain ⟨h0, _, _⟩ := (sgn_iff r).1 hs
  clear hs
  go_enter Tryz.func10, Tryz.ntmps10
  go_wp2_with fail
  refine (length_any r _).mono ?_
  rw [HL.out]
  rintro e w1 ⟨rfl, hb1⟩
  go_wp2_with fail
  refine (text_any w1 _ _ [r] 1 rfl rfl).mono ?_
  rintro e w2 ⟨rfl, rfl⟩
  go_wp2
  go_ret
  exact ⟨ret_s (by rw [HE.out]; rfl), hb1.alloc hb1.size _⟩
set_option maxHeartbeats 400000 in
theorem put_2 (r : Int) (w : World) (hs : sgn r = true) (h1 : ¬ r < 128) (h2 : r < 2048) :
    Calls Tryz.prog 10 #[.int .i32 r] w fun e w' => e = .returned (.string ⟨(enc r).toArray⟩) ∧ Below w.heap.size w w' := by
  have HE := Lib.hid (show enc r = [192 + r / 64, 128 + r % 64].map b8 by unfold enc; rw [if_pos hs, if_neg h1, if_pos h2]; rfl)
  have HL := Lib.hid (show slen r = 2 by unfold slen; rw [if_pos hs, if_neg h1, if_pos h2])
  clear hs
  have k192 := u8_or192 (r / 64) (by omega) (by omega)
  go_enter Tryz.func10, Tryz.ntmps10
  go_wp2_with fail
  refine (length_any r _).mono ?_
  rw [HL.out]
  rintro e w1 ⟨rfl, hb1⟩
  go_wp2_with fail
  refine (further0 r _ (by omega) (by omega)).mono ?_
  rintro e w2 ⟨rfl, rfl⟩
  go_wp2_with fail
  refine (text_any w1 _ _ [192 + r / 64, 128 + r % 64] 2 rfl rfl).mono ?_
  rintro e w2 ⟨rfl, rfl⟩
  go_wp2
  go_ret
  exact ⟨ret_s (by rw [HE.out]; rfl), hb1.alloc hb1.size _⟩
set_option maxHeartbeats 400000 in
theorem put_3 (r : Int) (w : World) (hs : sgn r = true) (h1 : ¬ r < 128) (h2 : ¬ r < 2048) (h3 : r < 65536) :
    Calls Tryz.prog 10 #[.int .i32 r] w fun e w' => e = .returned (.string ⟨(enc r).toArray⟩) ∧ Below w.heap.size w w' := by
  have HE := Lib.hid (show enc r = [224 + r / 4096, 128 + r / 64 % 64, 128 + r % 64].map b8 by unfold enc; rw [if_pos hs, if_neg h1, if_neg h2, if_pos h3]; rfl)
  have HL := Lib.hid (show slen r = 3 by unfold slen; rw [if_pos hs, if_neg h1, if_neg h2, if_pos h3])
  clear hs
  have k224 := u8_or224 (r / 4096) (by omega) (by omega)
  go_enter Tryz.func10, Tryz.ntmps10
  go_wp2_with fail
  refine (length_any r _).mono ?_
  rw [HL.out]
  rintro e w1 ⟨rfl, hb1⟩
  go_wp2_with fail
  refine (further6 r _ (by omega) (by omega)).mono ?_
  rintro e w2 ⟨rfl, rfl⟩
  go_wp2_with fail
  refine (further0 r _ (by omega) (by omega)).mono ?_
  rintro e w2 ⟨rfl, rfl⟩
  go_wp2_with fail
  refine (text_any w1 _ _ [224 + r / 4096, 128 + r / 64 % 64, 128 + r % 64] 3 rfl rfl).mono ?_
  rintro e w2 ⟨rfl, rfl⟩
  go_wp2
  go_ret
  exact ⟨ret_s (by rw [HE.out]; rfl), hb1.alloc hb1.size _⟩
set_option maxHeartbeats 400000 in
theorem put_4 (r : Int) (w : World) (hs : sgn r = true) (h1 : ¬ r < 128) (h2 : ¬ r < 2048) (h3 : ¬ r < 65536) :
    Calls Tryz.prog 10 #[.int .i32 r] w fun e w' => e = .returned (.string ⟨(enc r).toArray⟩) ∧ Below w.heap.size w w' := by
  have HE := Lib.hid (show enc r = [240 + r / 262144, 128 + r / 4096 % 64, 128 + r / 64 % 64, 128 + r % 64].map b8 by unfold enc; rw [if_pos hs, if_neg h1, if_neg h2, if_neg h3]; rfl)
  have HL := Lib.hid (show slen r = 4 by unfold slen; rw [if_pos hs, if_neg h1, if_neg h2, if_neg h3])
  obtain ⟨h0, hm, _⟩ := (sgn_iff r).1 hs
  clear hs
  have k240 := u8_or240 (r / 262144) (by omega) (by omega)
  go_enter Tryz.func10, Tryz.ntmps10
  go_wp2_with fail
  refine (length_any r _).mono ?_
  rw [HL.out]
  rintro e w1 ⟨rfl, hb1⟩
  go_wp2_with fail
  refine (further12 r _ (by omega) (by omega)).mono ?_
  rintro e w2 ⟨rfl, rfl⟩
  go_wp2_with fail
  refine (further6 r _ (by omega) (by omega)).mono ?_
  rintro e w2 ⟨rfl, rfl⟩
  go_wp2_with fail
  refine (further0 r _ (by omega) (by omega)).mono ?_
  rintro e w2 ⟨rfl, rfl⟩
  go_wp2_with fail
  refine (text_any w1 _ _ [240 + r / 262144, 128 + r / 4096 % 64, 128 + r / 64 % 64, 128 + r % 64] 4 rfl rfl).mono ?_
  rintro e w2 ⟨rfl, rfl⟩
  go_wp2
  go_ret
  exact ⟨ret_s (by rw [HE.out]; rfl), hb1.alloc hb1.size _⟩
theorem put_any (r : Int) (w : World) :
    Calls Tryz.prog 10 #[.int .i32 r] w fun e w' => e = .returned (.string ⟨(enc r).toArray⟩) ∧ Below w.heap.size w w' := by
  by_cases hs : sgn r = true
  · by_cases h1 : r < 128
    · exact put_1 r w hs h1
    · by_cases h2 : r < 2048
      · exact put_2 r w hs h1 h2
      · by_cases h3 : r < 65536
        · exact put_3 r w hs h1 h2 h3
        · exact put_4 r w hs h1 h2 h3
  · exact put_none r w hs
end Go.Proofs.YtlcjepnaljfpkaaGreatDoor
namespace Go.Proofs.YtlcjepnaljfpkaaGreatDoor
open Go.RowKit Wb
set_option maxHeartbeats 400000 in
theorem rune_out (s : ByteArray) (i : Int) (w : World) (h : i < 0 ∨ (s.size : Int) ≤ i) (_hs : s.size ≤ 1000000000) :
    Calls Tryz.prog 97 #[.string s, .int .i64 i] w fun e w' => e = .returned (.tuple #[.int .i32 0, .int .i64 0]) ∧ Below w.heap.size w w' := by
  by_cases h0 : i < 0
  · clear h
    go_enter Tryz.func97, Tryz.ntmps97
    go_wp2
    go_ret2
    exact ⟨rfl, Below.refl _ _⟩
  · have h1 : (s.size : Int) ≤ i := by omega
    clear h
    go_enter Tryz.func97, Tryz.ntmps97
    go_wp2
    go_ret2
    exact ⟨rfl, Below.refl _ _⟩
theorem step_val (q c : Int) (h0 : 0 ≤ q) (h1 : q < 524288) (hc : 0 ≤ c) (hc1 : c < 256) :
    bits BinOp.or IntKind.i32 (wrap32 (q * 64)) (wrap32 (bits BinOp.and IntKind.u8 c 63)) = q * 64 + c % 64 := by
  rw [u8_and63 c hc hc1, show wrap32 (q * 64) = q * 64 from by unfold wrap32; omega, show wrap32 (c % 64) = c % 64 from by unfold wrap32; omega, i32_or64 q _ h0 (by omega) (by omega) (by omega)]
set_option maxHeartbeats 1000000 in
theorem rune_in (s : ByteArray) (k : Nat) (w : World) (h : k < s.size) (hs : s.size ≤ 1000000000) :
    Calls Tryz.prog 97 #[.string s, .int .i64 k] w fun e w' => e = .returned (.tuple #[.int .i32 (runeS s k).1, .int .i64 (runeS s k).2]) ∧ Below w.heap.size w w' := by
  have HR := Lib.hid (runeS_in s k h)
  go_enter Tryz.func97, Tryz.ntmps97
  go_wp2_with fail
  have hc := u8_lt s[k]
  have hz := fsz_bd s[k].toNat
  have hb := fbt_bd s[k].toNat (by omega) hc
  obtain ⟨hz0, hz4⟩ := hz
  obtain ⟨hb0, hb1⟩ := hb
  refine (first_any _ _ (by omega) hc).mono ?_
  clear hc
  generalize fsz (s[k].toNat : Int) = z at *
  generalize fbt (s[k].toNat : Int) = b at *
  rintro e w1 ⟨rfl, rfl⟩
  by_cases hz00 : z = 0
  · subst hz00
    go_wp2
    go_ret2
    refine ⟨?_, Below.refl _ _⟩
    rw [HR.out]; rfl
  · have hzz : (z == 0) = false := by simpa using hz00
    by_cases hlong : (s.size : Int) - k < z
    · go_wp2
      go_ret2
      refine ⟨?_, Below.refl _ _⟩
      rw [HR.out, decZ_short _ _ _ (by simp; omega)]; rfl
    · go_wp2
      go_loop [6, 4, 5] (fun i r z' => ∃ (j : Nat) (q : Int), (j : Int) + 1 ≤ z ∧ z' = .int .i64 z ∧ i = .int .i64 ((j : Int) + 1) ∧ r = .int .i32 q ∧ 0 ≤ q ∧ Hid (q < 128 * 64 ^ j) ∧
          Hid (decN b (z.toNat - 1) (s.data.toList.drop (k + 1)) = decN q (z.toNat - 1 - j) (s.data.toList.drop (k + 1 + j)))) (fun i _ _ => (z - intOf i).toNat)
      case atStart => exact ⟨0, b, by omega, rfl, rfl, rfl, hb0, Lib.hid (by omega), Lib.hid rfl⟩
      case round =>
        obtain ⟨j, q, hj, rfl, rfl, rfl, hq0, HB, HD⟩ := hrel
        by_cases hlt : (j : Int) + 1 < z
        · have hk' : k + (j + 1) < s.size := by omega
          go_wp2
          · have hbad : ((s[k + (j + 1)].toNat : Int) / 64 != 2) = true := by assumption
            go_ret2
            refine ⟨?_, Below.refl _ _⟩
            rw [HR.out, rune_bad s k j z b q hlt hk' HD.out (by simpa using hbad)]
            rfl
          · have hok : ((s[k + (j + 1)].toNat : Int) / 64 != 2) = false := by assumption
            have hok' : (s[k + (j + 1)].toNat : Int) / 64 = 2 := by simpa using hok
            have hc1 := u8_lt s[k + (j + 1)]
            have hq1 := pow_bd j (by omega) q HB.out
            have hv := step_val q s[k + (j + 1)].toNat hq0 hq1 (by omega) hc1
            go_round
            case rel => exact ⟨j + 1, q * 64 + (s[k + (j + 1)].toNat : Int) % 64, by omega, rfl, by go_num, by rw [hv], by omega, Lib.hid (pow_next j q _ HB.out (by omega)), Lib.hid (rune_step s k j z b q hlt hk' HD.out hok')⟩
            case measure => simp [intOf]; omega
        · have HE := Lib.hid (rune_end s k j z b q (by omega) HD.out)
          go_wp2_with fail
          refine (length_any q w).mono ?_
          by_cases hl : slen q = z
          · have HL := Lib.hid hl
            rw [hl]
            clear hl
            rintro e w1 ⟨rfl, hb1⟩
            go_wp2
            go_ret2
            refine ⟨?_, hb1⟩
            rw [HR.out, HE.out, if_pos HL.out]
            rfl
          · have HL := Lib.hid hl
            have hne : (slen q != z) = true := by simpa using hl
            clear hl
            rintro e w1 ⟨rfl, hb1⟩
            go_wp2
            go_ret2
            refine ⟨?_, hb1⟩
            rw [HR.out, HE.out, if_neg HL.out]
            rfl
theorem rune_any (s : ByteArray) (i : Int) (w : World) (hs : s.size ≤ 1000000000) :
    Calls Tryz.prog 97 #[.string s, .int .i64 i] w fun e w' => e = .returned (.tuple #[.int .i32 (runeS s i).1, .int .i64 (runeS s i).2]) ∧ Below w.heap.size w w' := by
  by_cases h : i < 0 ∨ (s.size : Int) ≤ i
  · have := rune_out s i w h hs
    unfold runeS
    rw [if_pos h]
    exact this
  · obtain ⟨k, rfl⟩ := Int.eq_ofNat_of_zero_le (by omega : 0 ≤ i)
    exact rune_in s k w (by omega) hs
end Go.Proofs.YtlcjepnaljfpkaaGreatDoor
