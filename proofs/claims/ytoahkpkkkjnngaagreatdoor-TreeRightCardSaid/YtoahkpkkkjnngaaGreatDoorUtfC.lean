
/- Contracts of Put and Rune of packages utf and watchbillref01. -/
import Derived.Test.YtoahkpkkkjnngaaGreatDoorUtfB
import Derived.Laws.BytesString
namespace Go.Proofs.YtoahkpkkkjnngaaGreatDoor
open Go.RowKit Wb

theorem push_all : ∀ (ns : List Int) (s : ByteArray), ns.foldl (fun r n => r.push (UInt8.ofNat n.toNat)) s = ⟨s.data ++ (ns.map b8).toArray⟩
  | [], s => by simp
  | n :: ns, s => by
    rw [List.foldl_cons, push_all ns]
    simp [b8]

/-- What a row of bytes is as a text. -/
theorem run_text (w : World) (b n c : Nat) (ns : List Int) (hn : ns.length = n)
    (hc : ∀ j v, (ns.map (Value.int .u8))[j]? = some v → w.cell? ⟨b, j, none⟩ = some v) :
    (convert 90 9 (.slice (some ⟨b, 0, none⟩) n c)).run Tryz.prog w = .ok (.string ⟨(ns.map b8).toArray⟩) w := by
  rw [run_convert_bytes_string w _ _ _ _ n c Tryz.underlying90 Tryz.underlying5 Tryz.underlying9]
  have hl := run_loadCells_list (P := Tryz.prog) (w := w) ⟨b, 0, none⟩ (ns.map (Value.int .u8)) (by
    intro j v h
    have := hc j v h
    unfold Addr.add
    split <;> simp_all)
  rw [List.length_map, hn] at hl
  rw [run_bytesToString w _ n c ns hl, push_all]
  simp

theorem run_text_new (w : World) (T : TypeId) (cs : Array Value) (ns : List Int) (n : Nat) (hcs : cs = (ns.map (Value.int .u8)).toArray) (hn : ns.length = n) :
    (convert 90 9 (.slice (some ⟨w.heap.size, 0, none⟩) n n)).run Tryz.prog (w.alloc (.cells cs T)) =
      .ok (.string ⟨(ns.map b8).toArray⟩) (w.alloc (.cells cs T)) := by
  subst hcs
  refine run_text _ _ _ _ ns hn ?_
  intro j v h
  rw [cell_of_row _ _ _ _ T (0, 0) (heap_alloc_new w (.cells _ T))]
  simpa using h

set_option maxHeartbeats 400000 in
theorem text_any (w : World) (T : TypeId) (cs : Array Value) (ns : List Int) (n : Nat) (hcs : cs = (ns.map (Value.int .u8)).toArray) (hn : ns.length = n) :
    Calls Tryz.prog 28 #[.slice (some ⟨w.heap.size, 0, none⟩) n n] (w.alloc (.cells cs T)) fun e w' => e = .returned (.string ⟨(ns.map b8).toArray⟩) ∧ w.alloc (.cells cs T) = w' := by
  have k := run_text_new w T cs ns n hcs hn
  clear hcs hn
  go_enter Tryz.func28, Tryz.ntmps28
  go_wp2
  go_ret
  exact ⟨rfl, rfl⟩

theorem further0 (r : Int) (w : World) (h0 : 0 ≤ r) (h1 : r < 2147483648) :
    Calls Tryz.prog 29 #[.int .i32 r, .int .i64 0] w fun e w' => e = .returned (.int .u8 (128 + r % 64)) ∧ w = w' := by
  have := further_any r 0 w h0 h1 (by omega) (by omega)
  simpa using this
theorem further6 (r : Int) (w : World) (h0 : 0 ≤ r) (h1 : r < 2147483648) :
    Calls Tryz.prog 29 #[.int .i32 r, .int .i64 6] w fun e w' => e = .returned (.int .u8 (128 + r / 64 % 64)) ∧ w = w' :=
  further_any r 6 w h0 h1 (by omega) (by omega)
theorem further12 (r : Int) (w : World) (h0 : 0 ≤ r) (h1 : r < 2147483648) :
    Calls Tryz.prog 29 #[.int .i32 r, .int .i64 12] w fun e w' => e = .returned (.int .u8 (128 + r / 4096 % 64)) ∧ w = w' :=
  further_any r 12 w h0 h1 (by omega) (by omega)

set_option maxHeartbeats 400000 in
theorem put_none (r : Int) (w : World) (hs : ¬ sgn r = true) :
    Calls Tryz.prog 12 #[.int .i32 r] w fun e w' => e = .returned (.string ⟨(enc r).toArray⟩) ∧ Below w.heap.size w w' := by
  have HE := Lib.hid (show enc r = [] by unfold enc; rw [if_neg hs])
  have HL := Lib.hid (show slen r = 0 by unfold slen; rw [if_neg hs])
  clear hs
  go_enter Tryz.func12, Tryz.ntmps12
  go_wp2_with fail
  refine (length_any r _).mono ?_
  rw [HL.out]
  rintro e w1 ⟨rfl, hb1⟩
  go_wp2
  go_ret
  exact ⟨ret_s (by rw [HE.out]), hb1⟩

set_option maxHeartbeats 400000 in
theorem put_1 (r : Int) (w : World) (hs : sgn r = true) (h1 : r < 128) :
    Calls Tryz.prog 12 #[.int .i32 r] w fun e w' => e = .returned (.string ⟨(enc r).toArray⟩) ∧ Below w.heap.size w w' := by
  have HE := Lib.hid (show enc r = [r].map b8 by unfold enc; rw [if_pos hs, if_pos h1]; rfl)
  have HL := Lib.hid (show slen r = 1 by unfold slen; rw [if_pos hs, if_pos h1])
  obtain ⟨h0, _, _⟩ := (sgn_iff r).1 hs
  clear hs
  go_enter Tryz.func12, Tryz.ntmps12
  go_wp2_with fail
  refine (length_any r _).mono ?_
  rw [HL.out]
  rintro e w1 ⟨rfl, hb1⟩
  go_wp2_with fail
  refine (text_any w1 _ _ [r] 1 rfl rfl).mono ?_
  rintro e w2 ⟨rfl, rfl⟩
  go_wp2
  go_ret
  exact ⟨ret_s (by rw [HE.out]; rfl), hb1.alloc hb1.size _⟩

set_option maxHeartbeats 400000 in
theorem put_2 (r : Int) (w : World) (hs : sgn r = true) (h1 : ¬ r < 128) (h2 : r < 2048) :
    Calls Tryz.prog 12 #[.int .i32 r] w fun e w' => e = .returned (.string ⟨(enc r).toArray⟩) ∧ Below w.heap.size w w' := by
  have HE := Lib.hid (show enc r = [192 + r / 64, 128 + r % 64].map b8 by unfold enc; rw [if_pos hs, if_neg h1, if_pos h2]; rfl)
  have HL := Lib.hid (show slen r = 2 by unfold slen; rw [if_pos hs, if_neg h1, if_pos h2])
  clear hs
  have k192 := u8_or192 (r / 64) (by omega) (by omega)
  go_enter Tryz.func12, Tryz.ntmps12
  go_wp2_with fail
  refine (length_any r _).mono ?_
  rw [HL.out]
  rintro e w1 ⟨rfl, hb1⟩
  go_wp2_with fail
  refine (further0 r _ (by omega) (by omega)).mono ?_
  rintro e w2 ⟨rfl, rfl⟩
  go_wp2_with fail
  refine (text_any w1 _ _ [192 + r / 64, 128 + r % 64] 2 rfl rfl).mono ?_
  rintro e w2 ⟨rfl, rfl⟩
  go_wp2
  go_ret
  exact ⟨ret_s (by rw [HE.out]; rfl), hb1.alloc hb1.size _⟩

set_option maxHeartbeats 400000 in
theorem put_3 (r : Int) (w : World) (hs : sgn r = true) (h1 : ¬ r < 128) (h2 : ¬ r < 2048) (h3 : r < 65536) :
    Calls Tryz.prog 12 #[.int .i32 r] w fun e w' => e = .returned (.string ⟨(enc r).toArray⟩) ∧ Below w.heap.size w w' := by
  have HE := Lib.hid (show enc r = [224 + r / 4096, 128 + r / 64 % 64, 128 + r % 64].map b8 by unfold enc; rw [if_pos hs, if_neg h1, if_neg h2, if_pos h3]; rfl)
  have HL := Lib.hid (show slen r = 3 by unfold slen; rw [if_pos hs, if_neg h1, if_neg h2, if_pos h3])
  clear hs
  have k224 := u8_or224 (r / 4096) (by omega) (by omega)
  go_enter Tryz.func12, Tryz.ntmps12
  go_wp2_with fail
  refine (length_any r _).mono ?_
  rw [HL.out]
  rintro e w1 ⟨rfl, hb1⟩
  go_wp2_with fail
  refine (further6 r _ (by omega) (by omega)).mono ?_
  rintro e w2 ⟨rfl, rfl⟩
  go_wp2_with fail
  refine (further0 r _ (by omega) (by omega)).mono ?_
  rintro e w2 ⟨rfl, rfl⟩
  go_wp2_with fail
  refine (text_any w1 _ _ [224 + r / 4096, 128 + r / 64 % 64, 128 + r % 64] 3 rfl rfl).mono ?_
  rintro e w2 ⟨rfl, rfl⟩
  go_wp2
  go_ret
  exact ⟨ret_s (by rw [HE.out]; rfl), hb1.alloc hb1.size _⟩

set_option maxHeartbeats 400000 in
theorem put_4 (r : Int) (w : World) (hs : sgn r = true) (h1 : ¬ r < 128) (h2 : ¬ r < 2048) (h3 : ¬ r < 65536) :
    Calls Tryz.prog 12 #[.int .i32 r] w fun e w' => e = .returned (.string ⟨(enc r).toArray⟩) ∧ Below w.heap.size w w' := by
  have HE := Lib.hid (show enc r = [240 + r / 262144, 128 + r / 4096 % 64, 128 + r / 64 % 64, 128 + r % 64].map b8 by unfold enc; rw [if_pos hs, if_neg h1, if_neg h2, if_neg h3]; rfl)
  have HL := Lib.hid (show slen r = 4 by unfold slen; rw [if_pos hs, if_neg h1, if_neg h2, if_neg h3])
  obtain ⟨h0, hm, _⟩ := (sgn_iff r).1 hs
  clear hs
  have k240 := u8_or240 (r / 262144) (by omega) (by omega)
  go_enter Tryz.func12, Tryz.ntmps12
  go_wp2_with fail
  refine (length_any r _).mono ?_
  rw [HL.out]
  rintro e w1 ⟨rfl, hb1⟩
  go_wp2_with fail
  refine (further12 r _ (by omega) (by omega)).mono ?_
  rintro e w2 ⟨rfl, rfl⟩
  go_wp2_with fail
  refine (further6 r _ (by omega) (by omega)).mono ?_
  rintro e w2 ⟨rfl, rfl⟩
  go_wp2_with fail
  refine (further0 r _ (by omega) (by omega)).mono ?_
  rintro e w2 ⟨rfl, rfl⟩
  go_wp2_with fail
  refine (text_any w1 _ _ [240 + r / 262144, 128 + r / 4096 % 64, 128 + r / 64 % 64, 128 + r % 64] 4 rfl rfl).mono ?_
  rintro e w2 ⟨rfl, rfl⟩
  go_wp2
  go_ret
  exact ⟨ret_s (by rw [HE.out]; rfl), hb1.alloc hb1.size _⟩

theorem put_any (r : Int) (w : World) :
    Calls Tryz.prog 12 #[.int .i32 r] w fun e w' => e = .returned (.string ⟨(enc r).toArray⟩) ∧ Below w.heap.size w w' := by
  by_cases hs : sgn r = true
  · by_cases h1 : r < 128
    · exact put_1 r w hs h1
    · by_cases h2 : r < 2048
      · exact put_2 r w hs h1 h2
      · by_cases h3 : r < 65536
        · exact put_3 r w hs h1 h2 h3
        · exact put_4 r w hs h1 h2 h3
  · exact put_none r w hs
end Go.Proofs.YtoahkpkkkjnngaaGreatDoor
