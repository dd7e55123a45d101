/- FgD. -/
import Derived.Deep.Cut
import Derived.Test.YtblongcnmpdihaaDoorCc18
namespace Go.Proofs.YtblongcnmpdihaaDoor
open Go.RowKit Wb
theorem run_textF {w : World} {g n c : Nat} (l : List UInt8) (hn : n = l.length) (h : ∀ (j : Nat) (v : Value), (cellsB l)[j]? = some v → w.cell? ⟨g, j, none⟩ = some v) :
    (convert 52 9 (.slice (some ⟨g, 0, none⟩) n c)).run Tryd.prog w = .ok (.string (mkB l)) w := by
  rw [run_convert_bytes_string w _ _ _ _ n c Tryd.underlying52 Tryd.underlying5 Tryd.underlying9]
  have hl := run_loadCells_list (P := Tryd.prog) (w := w) ⟨g, 0, none⟩ ((l.map fun c => (c.toNat : Int)).map (Value.int .u8)) (by
    intro j v hj
    have := h j v (by rw [List.map_map] at hj; exact hj)
    unfold Addr.add
    split <;> simp_all)
  rw [List.length_map, List.length_map, ← hn] at hl
  rw [run_bytesToString w _ n c _ hl, push_ints, List.map_map]
  have e : ((fun n : Int => UInt8.ofNat n.toNat) ∘ fun c : UInt8 => (c.toNat : Int)) = id := by
    funext c
    simp
  rw [e]
  simp [mkB]
theorem run_textN (w : World) : (convert 52 9 (.slice none 0 0)).run Tryd.prog w = .ok (.string (mkB [])) w := by
  rw [run_convert_bytes_string w _ _ _ _ 0 0 Tryd.underlying52 Tryd.underlying5 Tryd.underlying9]
  unfold Conv.bytesToString
  simp [Sem.run_pure]
  rfl
theorem run_textO {w : World} {base n : Nat} {e : TypeId} {v : Value} (l : List UInt8) (h : w.ownsRow base e 1 v n (cellsB l)) :
    (convert 52 9 v).run Tryd.prog w = .ok (.string (mkB l)) w := by
  have hn : n = l.length := by have := h.1; rw [cellsB_length] at this; omega
  by_cases hl : l = []
  · subst hl
    rcases h.2 with ⟨rfl, _⟩ | ⟨g, cap, cur, rfl, _⟩
    · rw [List.length_nil] at hn; subst hn; exact run_textN w
    · exact run_textF [] hn (by simp [cellsB])
  · obtain ⟨g, cap, rfl, _, _⟩ := h.form (by cases l with
      | nil => exact absurd rfl hl
      | cons a r => rw [hn]; simp)
    refine run_textF l hn fun j u hu => ?_
    have := h.cells (g := g) rfl j u hu
    rw [Addr.add_lit, Nat.zero_add] at this
    exact this
theorem qy_byte : (Tryd.prog.info? 5).map (fun i => (i.zero, i.size, i.bytes)) = some (some (.int .u8 0), 1, 1) := by kernel_rfl
set_option maxHeartbeats 4000000 in
set_option maxRecDepth 100000 in
theorem rlower_any (s : ByteArray) (w : World) (hs : s.size ≤ 1000000) :
    Calls Tryd.prog 20 #[.string s] w fun e w' => e = .returned (.string (lowB s)) ∧ Below w.heap.size w w' := by
  obtain ⟨i0, hi, hz0, hz1, hz2⟩ := info_parts qy_byte
  go_enter Tryd.func20, Tryd.ntmps20
  go_wp2
  go_loopw [3, 4, 5] (fun v3 v4 v5 wr => ∃ (k : Nat) (out : List UInt8), k ≤ s.size ∧ v4 = .int .i64 k ∧ out.length = k ∧ wr.ownsRow w.heap.size 5 1 v3 out.length (cellsB out) ∧ Hid (lowF s.data.toList = out ++ lowF (s.data.toList.drop k)) ∧ Below w.heap.size w wr) (fun _ v4 _ _ => ((s.size : Int) - intOf v4).toNat)
  case atStart => exact ⟨0, [], by omega, rfl, rfl, World.ownsRow_nil _ _ _ _, Lib.hid (by simp), Below.refl _ _⟩
  case round =>
    obtain ⟨k, out, hk, rfl, hol, hown, HU, hb⟩ := hrel
    by_cases hlt : k < s.size
    · have hdr : lowF (s.data.toList.drop k) = lowC s[k] :: lowF (s.data.toList.drop (k + 1)) := by
        have : k < s.data.toList.length := by rw [← ba_size]; exact hlt
        rw [List.drop_eq_getElem_cons this]
        rfl
      have HS := Lib.hid (HU.out.trans (by rw [hdr, ← List.singleton_append, ← List.append_assoc]))
      clear HU hdr
      have hbB : Below w.heap.size w wr := hb
      by_cases h1 : 65 ≤ s[k].toNat
      · by_cases h2 : s[k].toNat ≤ 90
        · have k1 : IntKind.u8.wrap ((s[k].toNat : Int) + 32) = ((lowC s[k]).toNat : Int) := by rw [low_up _ ⟨h1, h2⟩, IntKind.wrap_u8]; omega
          generalize lowC s[k] = lc at *
          go_upto_region 8 with fail
          go_wp2_with (at_builtin; apply Classical.byContradiction; intro hNG)
          refine hNG ?_
          refine wpList_append_sl _ rfl (.tmp 23) (.tmp 25) _ rfl w.heap.size 5 i0 _ 1 1 Tryd.underlying52 hi hz0 hz1 hz2 rfl (by omega) _ out.length (cellsB out) rfl (hown.alloc _) (some ⟨wr.heap.size, 0, none⟩) 1 1 [.int .u8 ((lc : UInt8).toNat : Int)] rfl (Sl.lit wr 1 [.int .u8 ((lc : UInt8).toNat : Int)] _ 1 rfl) (cellsB_one [lc]) (by simp only [maxLen]; omega) (by omega) (hb.alloc hb.size _).size ?_
          intro v4 w4 hown4 hg4 hat4
          have hb4 : Below w.heap.size w w4 := (hb.alloc hb.size _).grown hg4 (hb.alloc hb.size _).size (fun g hg => (hown.lt g hg).1)
          clear hg4 hat4 hown
          go_wp2
          go_roundw
          case rel => exact ⟨k + 1, out ++ [lc], by omega, by go_num, by rw [List.length_append, hol]; rfl, by rw [List.length_append]; simpa [cellsB] using hown4, HS, hb4⟩
          case measure => simp [intOf]; omega
        · have k1 : lowC s[k] = s[k] := by unfold lowC; rw [if_neg (by omega)]
          rw [k1] at HS
          go_upto_region 8 with fail
          go_wp2_with (at_builtin; apply Classical.byContradiction; intro hNG)
          refine hNG ?_
          refine wpList_append_sl _ rfl (.tmp 23) (.tmp 25) _ rfl w.heap.size 5 i0 _ 1 1 Tryd.underlying52 hi hz0 hz1 hz2 rfl (by omega) _ out.length (cellsB out) rfl (hown.alloc _) (some ⟨wr.heap.size, 0, none⟩) 1 1 [.int .u8 ((s[k] : UInt8).toNat : Int)] rfl (Sl.lit wr 1 [.int .u8 ((s[k] : UInt8).toNat : Int)] _ 1 rfl) (cellsB_one [s[k]]) (by simp only [maxLen]; omega) (by omega) (hb.alloc hb.size _).size ?_
          intro v4 w4 hown4 hg4 hat4
          have hb4 : Below w.heap.size w w4 := (hb.alloc hb.size _).grown hg4 (hb.alloc hb.size _).size (fun g hg => (hown.lt g hg).1)
          clear hg4 hat4 hown
          go_wp2
          go_roundw
          case rel => exact ⟨k + 1, out ++ [s[k]], by omega, by go_num, by rw [List.length_append, hol]; rfl, by rw [List.length_append]; simpa [cellsB] using hown4, HS, hb4⟩
          case measure => simp [intOf]; omega
      · have k1 : lowC s[k] = s[k] := by unfold lowC; rw [if_neg (by omega)]
        rw [k1] at HS
        go_upto_region 8 with fail
        go_wp2_with (at_builtin; apply Classical.byContradiction; intro hNG)
        refine hNG ?_
        refine wpList_append_sl _ rfl (.tmp 23) (.tmp 25) _ rfl w.heap.size 5 i0 _ 1 1 Tryd.underlying52 hi hz0 hz1 hz2 rfl (by omega) _ out.length (cellsB out) rfl (hown.alloc _) (some ⟨wr.heap.size, 0, none⟩) 1 1 [.int .u8 ((s[k] : UInt8).toNat : Int)] rfl (Sl.lit wr 1 [.int .u8 ((s[k] : UInt8).toNat : Int)] _ 1 rfl) (cellsB_one [s[k]]) (by simp only [maxLen]; omega) (by omega) (hb.alloc hb.size _).size ?_
        intro v4 w4 hown4 hg4 hat4
        have hb4 : Below w.heap.size w w4 := (hb.alloc hb.size _).grown hg4 (hb.alloc hb.size _).size (fun g hg => (hown.lt g hg).1)
        clear hg4 hat4 hown
        go_wp2
        go_roundw
        case rel => exact ⟨k + 1, out ++ [s[k]], by omega, by go_num, by rw [List.length_append, hol]; rfl, by rw [List.length_append]; simpa [cellsB] using hown4, HS, hb4⟩
        case measure => simp [intOf]; omega
    · have HE : mkB out = lowB s := by
        have h := HU.out
        rw [List.drop_eq_nil_of_le (by rw [← ba_size]; omega)] at h
        unfold lowB
        rw [h]
        simp [lowF, mkB]
      have hconv := run_textO out hown
      rw [HE] at hconv
      go_wp2
      go_ret
      exact ⟨rfl, hb⟩
end Go.Proofs.YtblongcnmpdihaaDoor
