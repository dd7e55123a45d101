
/- Contracts of the document's answer: Pieces; two lists of texts held against each other (Same). -/
import Derived.Test.YtclenfdhnccalaaDoorQdC
namespace Wb
open Go Go.RowKit
def piecesB (c : UInt8) (s : ByteArray) : List ByteArray := (pieceF c s.data.toList).map fun l => ⟨l.toArray⟩
def PieB (c : UInt8) (s : ByteArray) (O : List ByteArray) (fr i : Nat) : Prop :=
  (i ≤ s.size ∧ fr ≤ i ∧ PieAt c s.data.toList (O.map fun x => x.data.toList) fr i) ∨ (i = s.size + 1 ∧ piecesB c s = O)
theorem ext_sub (s : ByteArray) (a b : Nat) : (s.extract a b).data.toList = (s.data.toList.take b).drop a := by
  rw [ByteArray.data_extract, Array.toList_extract]
  unfold List.extract
  rw [List.drop_take]
theorem pieB_zero (c : UInt8) (s : ByteArray) : PieB c s [] 0 0 := .inl ⟨by omega, by omega, pieAt_zero _ _⟩
theorem pieB_by {c : UInt8} {s : ByteArray} {O : List ByteArray} {fr i : Nat} (h : PieB c s O fr i) (hi : i < s.size) (hc : s[i] = c) : PieB c s (O ++ [s.extract fr i]) (i + 1) (i + 1) := by
  rcases h with ⟨_, h2, h⟩ | ⟨h, _⟩
  · refine .inl ⟨by omega, by omega, ?_⟩
    have := pieAt_by h (by simpa using hi) hc
    rw [List.map_append, List.map_singleton, ext_sub]
    exact this
  · omega
theorem pieB_go {c : UInt8} {s : ByteArray} {O : List ByteArray} {fr i : Nat} (h : PieB c s O fr i) (hi : i < s.size) (hc : s[i] ≠ c) : PieB c s O fr (i + 1) := by
  rcases h with ⟨_, h2, h⟩ | ⟨h, _⟩
  · exact .inl ⟨by omega, by omega, pieAt_go h (by simpa using hi) h2 hc⟩
  · omega
theorem pieB_last {c : UInt8} {s : ByteArray} {O : List ByteArray} {fr i : Nat} (h : PieB c s O fr i) (hi : i = s.size) : PieB c s (O ++ [s.extract fr i]) (i + 1) (i + 1) := by
  rcases h with ⟨_, h2, h⟩ | ⟨h, _⟩
  · refine .inr ⟨by omega, ?_⟩
    have := pieAt_end h (by simp; omega)
    unfold piecesB
    rw [this, List.map_append, List.map_map]
    congr 1
    · have : ((fun l : List UInt8 => (⟨l.toArray⟩ : ByteArray)) ∘ fun x : ByteArray => x.data.toList) = id := by
        funext x
        simp
      rw [this, List.map_id]
    · rw [List.map_singleton]
      congr 1
      apply ByteArray.ext
      apply Array.toList_inj.1
      rw [ext_sub, List.take_of_length_le (by simp; omega)]
  · omega
theorem pieB_out {c : UInt8} {s : ByteArray} {O : List ByteArray} {fr i : Nat} (h : PieB c s O fr i) (hi : ¬ i ≤ s.size) : O = piecesB c s := by
  rcases h with ⟨h, _⟩ | ⟨_, h⟩
  · omega
  · exact h.symm
theorem pieB_fr {c : UInt8} {s : ByteArray} {O : List ByteArray} {fr i : Nat} (h : PieB c s O fr i) (hi : i ≤ s.size) : fr ≤ i := by
  rcases h with ⟨_, h, _⟩ | ⟨h, _⟩ <;> omega
end Wb
namespace Go.Proofs.YtclenfdhnccalaaDoor
open Go.RowKit Wb
theorem txt_string : (Tryd.prog.info? 9).map (fun i => (i.zero, i.size, i.bytes)) = some (some (.string ⟨#[]⟩), 1, 16) := by kernel_rfl
/-- A new list of texts. -/
def PieOut (L : List ByteArray) (w : World) (e : Ending) (w' : World) : Prop := ∃ v, e = .returned v ∧ w'.ownsRow w.heap.size 9 1 v L.length (cells1 L) ∧ Below w.heap.size w w'

set_option maxRecDepth 100000 in
set_option maxHeartbeats 8000000 in
theorem rpieces_any (s : ByteArray) (c : UInt8) (w : World) (hs : s.size ≤ 1000000) :
    Calls Tryd.prog 16 #[.string s, .int .u8 c.toNat] w (PieOut (piecesB c s) w) := by
  obtain ⟨i0, hi, hz0, hz1, hz2⟩ := info_parts txt_string
  go_enter Tryd.func16, Tryd.ntmps16
  go_wp2
  go_loopw [5, 6, 7] (fun v5 v6 v7 wr => ∃ (i fr : Nat) (out : List ByteArray), i ≤ s.size + 1 ∧ v6 = .int .i64 fr ∧ v7 = .int .i64 i ∧ out.length ≤ i ∧ Hid (PieB c s out fr i) ∧ Hid (wr.ownsRow w.heap.size 9 1 v5 out.length (cells1 out)) ∧ Hid (Below w.heap.size w wr)) (fun _ _ v7 _ => ((s.size : Int) + 1 - intOf v7).toNat)
  case atStart => exact ⟨0, 0, [], by omega, rfl, rfl, by simp, Lib.hid (pieB_zero _ _), Lib.hid (World.ownsRow_nil _ _ _ _), Lib.hid (Below.refl _ _)⟩
  case round =>
    obtain ⟨i, fr, out, hil, rfl, rfl, hol, HP, HW, HB⟩ := hrel
    have hbs := HB.out.size
    by_cases h0 : i ≤ s.size
    · have hfr := pieB_fr HP.out h0
      by_cases h1 : i < s.size
      · have hne : ((i : Int) == (s.size : Int)) = false := by rw [beq_eq_false_iff_ne]; omega
        have hq : ∀ b, (s[i] == c) = b → ((s[i].toNat : Int) == (c.toNat : Int)) = b := fun b h => by rw [u8_eqn, h]
        cases hc : (s[i] == c)
        · have hq2 := hq _ hc
          rw [beq_eq_false_iff_ne] at hc
          have HP2 := Lib.hid (pieB_go HP.out h1 hc)
          clear hq HP hc
          go_wp2
          go_roundw
          case rel => exact ⟨i + 1, fr, out, by omega, rfl, by go_num, by omega, HP2, HW, HB⟩
          case measure => simp [intOf]; omega
        · have hq2 := hq _ hc
          rw [beq_iff_eq] at hc
          have HP2 := Lib.hid (pieB_by HP.out h1 hc)
          clear hq HP hc
          go_upto_region 7 with fail
          go_wp2_with (at_builtin; apply Classical.byContradiction; intro hNG)
          refine hNG ?_
          refine wpList_append_sl _ rfl (.tmp 25) (.tmp 30) _ rfl w.heap.size 9 i0 _ 1 16 Tryd.underlying32 hi hz0 hz1 hz2 rfl (by omega) _ out.length (cells1 out) rfl (HW.out.alloc _) (some ⟨wr.heap.size, 0, none⟩) 1 1 [.string (s.extract fr i)] rfl (Sl.lit wr 1 [.string (s.extract fr i)] _ 1 rfl) (cells1_one [s.extract fr i]) (by simp only [maxLen]; omega) (by omega) (HB.out.alloc HB.out.size _).size ?_
          intro v4 w4 hown4 hg4 hat4
          have HB4 := Lib.hid ((HB.out.alloc HB.out.size _).grown hg4 (HB.out.alloc HB.out.size _).size (fun g hg => (HW.out.lt g hg).1))
          have HOWN := Lib.hid hown4
          clear hown4 hg4 hat4
          go_wp2
          go_roundw
          case rel => exact ⟨i + 1, i + 1, out ++ [s.extract fr i], by omega, by go_num, by go_num, by rw [List.length_append]; simp; omega, HP2, Lib.hid (by rw [List.length_append, cells1_append]; exact HOWN.out), HB4⟩
          case measure => simp [intOf]; omega
      · have hne : ((i : Int) == (s.size : Int)) = true := by rw [beq_iff_eq]; omega
        have HP2 := Lib.hid (pieB_last HP.out (by omega))
        clear HP
        go_upto_region 7 with fail
        go_wp2_with (at_builtin; apply Classical.byContradiction; intro hNG)
        refine hNG ?_
        refine wpList_append_sl _ rfl (.tmp 25) (.tmp 30) _ rfl w.heap.size 9 i0 _ 1 16 Tryd.underlying32 hi hz0 hz1 hz2 rfl (by omega) _ out.length (cells1 out) rfl (HW.out.alloc _) (some ⟨wr.heap.size, 0, none⟩) 1 1 [.string (s.extract fr i)] rfl (Sl.lit wr 1 [.string (s.extract fr i)] _ 1 rfl) (cells1_one [s.extract fr i]) (by simp only [maxLen]; omega) (by omega) (HB.out.alloc HB.out.size _).size ?_
        intro v4 w4 hown4 hg4 hat4
        have HB4 := Lib.hid ((HB.out.alloc HB.out.size _).grown hg4 (HB.out.alloc HB.out.size _).size (fun g hg => (HW.out.lt g hg).1))
        have HOWN := Lib.hid hown4
        clear hown4 hg4 hat4
        go_wp2
        go_roundw
        case rel => exact ⟨i + 1, i + 1, out ++ [s.extract fr i], by omega, by go_num, by go_num, by rw [List.length_append]; simp; omega, HP2, Lib.hid (by rw [List.length_append, cells1_append]; exact HOWN.out), HB4⟩
        case measure => simp [intOf]; omega
    · have HO := Lib.hid (pieB_out HP.out h0)
      clear HP
      go_wp2
      go_ret
      rw [← HO.out]
      exact ⟨_, rfl, HW.out, HB.out⟩
end Go.Proofs.YtclenfdhnccalaaDoor
