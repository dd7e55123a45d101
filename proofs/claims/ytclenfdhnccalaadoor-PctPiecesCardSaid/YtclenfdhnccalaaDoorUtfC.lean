
/- Contracts of Put and Rune of packages utf and watchbillref01. -/
import Derived.Test.YtclenfdhnccalaaDoorUtfB
import Derived.Laws.BytesString
namespace Go.Proofs.YtclenfdhnccalaaDoor
open Go.RowKit Wb

theorem push_all : ∀ (ns : List Int) (s : ByteArray), ns.foldl (fun r n => r.push (UInt8.ofNat n.toNat)) s = ⟨s.data ++ (ns.map b8).toArray⟩
  | [], s => by simp
  | n :: ns, s => by
    rw [List.foldl_cons, push_all ns]
    simp [b8]

/-- What a row of bytes is as a text. -/
theorem run_text (w : World) (b n c : Nat) (ns : List Int) (hn : ns.length = n)
    (hc : ∀ j v, (ns.map (Value.int .u8))[j]? = some v → w.cell? ⟨b, j, none⟩ = some v) :
    (convert 35 9 (.slice (some ⟨b, 0, none⟩) n c)).run Tryd.prog w = .ok (.string ⟨(ns.map b8).toArray⟩) w := by
  rw [run_convert_bytes_string w _ _ _ _ n c Tryd.underlying35 Tryd.underlying5 Tryd.underlying9]
  have hl := run_loadCells_list (P := Tryd.prog) (w := w) ⟨b, 0, none⟩ (ns.map (Value.int .u8)) (by
    intro j v h
    have := hc j v h
    unfold Addr.add
    split <;> simp_all)
  rw [List.length_map, hn] at hl
  rw [run_bytesToString w _ n c ns hl, push_all]
  simp

theorem run_text_new (w : World) (T : TypeId) (cs : Array Value) (ns : List Int) (n : Nat) (hcs : cs = (ns.map (Value.int .u8)).toArray) (hn : ns.length = n) :
    (convert 35 9 (.slice (some ⟨w.heap.size, 0, none⟩) n n)).run Tryd.prog (w.alloc (.cells cs T)) =
      .ok (.string ⟨(ns.map b8).toArray⟩) (w.alloc (.cells cs T)) := by
  subst hcs
  refine run_text _ _ _ _ ns hn ?_
  intro j v h
  rw [cell_of_row _ _ _ _ T (0, 0) (heap_alloc_new w (.cells _ T))]
  simpa using h

set_option maxHeartbeats 400000 in
theorem rput_any (n : Int) (w : World) :
    Calls Tryd.prog 37 #[.int .i64 n] w fun e w' => e = .returned (.string ⟨(enc n).toArray⟩) ∧ Below w.heap.size w w' := by
  have k1 := fun a => run_text_new w 5 #[.int .u8 a] [a] 1 rfl rfl
  have k2 := fun a b => run_text_new w 5 #[.int .u8 a, .int .u8 b] [a, b] 2 rfl rfl
  have k3 := fun a b c => run_text_new w 5 #[.int .u8 a, .int .u8 b, .int .u8 c] [a, b, c] 3 rfl rfl
  have k4 := fun a b c d => run_text_new w 5 #[.int .u8 a, .int .u8 b, .int .u8 c, .int .u8 d] [a, b, c, d] 4 rfl rfl
  have HE : Hid (enc n = if sgn n = true then
    (if n < 128 then [b8 n]
    else if n < 2048 then [b8 (192 + n / 64), b8 (128 + n % 64)]
    else if n < 65536 then [b8 (224 + n / 4096), b8 (128 + n / 64 % 64), b8 (128 + n % 64)]
    else [b8 (240 + n / 262144), b8 (128 + n / 4096 % 64), b8 (128 + n / 64 % 64), b8 (128 + n % 64)])
  else []) := Lib.hid rfl
  go_enter Tryd.func37, Tryd.ntmps37
  go_wp2_with fail
  refine (sign_any _ _).mono ?_
  by_cases hs : sgn n = true
  · have hb := (sgn_iff n).1 hs
    obtain ⟨hb0, hb1, _⟩ := hb
    rw [hs]
    have HS := Lib.hid hs
    clear hs
    rintro e w1 ⟨rfl, rfl⟩
    go_wp2
    all_goals
      go_ret
      refine ⟨ret_s ?_, (Below.refl _ _).alloc (Nat.le_refl _) _⟩
      rw [HE.out, if_pos HS.out]
      repeat (first | rfl | (rw [if_pos (by omega)]) | (rw [if_neg (by omega)]))
  · have HS := Lib.hid hs
    have hs' : sgn n = false := by simpa using hs
    rw [hs']
    clear hs hs'
    rintro e w1 ⟨rfl, rfl⟩
    go_wp2
    go_ret
    exact ⟨ret_s (by rw [HE.out, if_neg HS.out]), Below.refl _ _⟩

end Go.Proofs.YtclenfdhnccalaaDoor
