/- LxF SbA. -/
import Derived.Test.YtbdamneophbnnaaGreatDoorCZ4
import Derived.Test.YtbdamneophbnnaaGreatDoorCZ5
import Derived.Test.YtbdamneophbnnaaGreatDoorCZ7
namespace Go.Proofs.YtbdamneophbnnaaGreatDoor
open Go.RowKit Wb
set_option maxHeartbeats 4000000 in
set_option maxRecDepth 100000 in
theorem unescape_false (s : ByteArray) (w : World) (hs : s.size ≤ 1000000000) :
    Calls Tryz.prog 72 #[.string s, .bool false] w fun e w' => e = .returned (.tuple #[.string (unB s false).1, .int .i64 (unB s false).2.1, .int .i64 (unB s false).2.2]) ∧ Below w.heap.size w w' := by
  obtain ⟨i0, hi, hz0, hz1, hz2⟩ := info_parts byte_info
  obtain ⟨x0, p0, e0, hr⟩ : ∃ x0 p0 e0, unB s false = (x0, p0, e0) := ⟨_, _, _, rfl⟩
  have HR := Lib.hid hr
  rw [hr]
  clear hr
  go_enter Tryz.func72, Tryz.ntmps72
  go_wp2
  go_loopw [7, 8, 9, 10, 11] (fun v i c t n wr => ∃ (k f : Nat) (out : List UInt8), k ≤ s.size ∧ i = .int .i64 k ∧ s.size < f + k ∧ out.length ≤ 4 * k ∧ wr.ownsRow w.heap.size 5 1 v out.length (cellsB out) ∧
      Hid (unL false (s.size + 1) s.data.toList 0 = (unL false f (s.data.toList.drop k) k).map (out ++ ·)) ∧ Below w.heap.size w wr) (fun _ i _ _ _ _ => ((s.size : Int) - intOf i).toNat)
  case atStart => exact ⟨0, s.size + 1, [], by omega, rfl, by omega, by simp, World.ownsRow_nil _ _ _ _, Lib.hid (by rw [List.drop_zero]; exact map_nil _), Below.refl _ _⟩
  case round =>
    obtain ⟨k, f, out, hk, rfl, hf, hol, hown, HU, hb⟩ := hrel
    obtain ⟨f, rfl⟩ : ∃ f', f = f' + 1 := ⟨f - 1, by omega⟩
    by_cases hlt : k < s.size
    · by_cases h38 : s[k] = 38
      · have t38 : ((s[k].toNat : Int) == 38) = true := (byte_eq s k hlt 38).trans (decide_eq_true h38)
        have H38 := Lib.hid h38
        clear h38
        go_wp2_with fail
        cases hra : refAt s k with
        | none =>
          have hrt : refT s k = (⟨#[]⟩, (k : Int)) := by unfold refT; rw [hra]
          have HE := Lib.hid (HU.out.trans (by rw [un_bad hlt H38.out hra]))
          obtain ⟨r1, r2, r3⟩ : x0 = ⟨#[]⟩ ∧ p0 = (k : Int) ∧ e0 = 16 := by
            have := HR.out.symm.trans (unB_bad HE.out)
            simpa using this
          clear HU HE HR hra
          refine (reference_any s k _ hlt H38.out hs).mono ?_
          rw [hrt]
          clear hrt
          subst r1 r2 r3
          rintro e w2 ⟨rfl, hb2⟩
          go_wp2
          go_ret3
          exact ⟨rfl, hb.trans (hb2.mono hb.size)⟩
        | some xn =>
          obtain ⟨x, n⟩ := xn
          have hrt : refT s k = (⟨x.toArray⟩, (k : Int) + n + 2) := by unfold refT; rw [hra]
          obtain ⟨hu, hle⟩ := un_ref (f := f) (attr := false) hlt H38.out hra
          obtain ⟨tt, rr, _, hv, _⟩ := refAt_semi hra
          have hxl := refV_le hv
          have hxn := refV_ne hv
          have HS := Lib.hid (HU.out.trans (by rw [hu, map_app]))
          have hx0 : ¬ (⟨x.toArray⟩ : ByteArray).toList = [] := by rw [ByteArray.toList_eq]; exact hxn
          have hx1 : (⟨x.toArray⟩ : ByteArray).toList.isEmpty = false := by simpa using hx0
          have hxs : (⟨x.toArray⟩ : ByteArray).size = x.length := by simp [ByteArray.size]
          have HXL : Hid ((⟨x.toArray⟩ : ByteArray).data.toList = x) := Lib.hid rfl
          clear hu hv HU hra hxn HR
          refine (reference_any s k _ hlt H38.out hs).mono ?_
          rw [hrt]
          clear hrt
          generalize (⟨x.toArray⟩ : ByteArray) = xb at *
          rintro e w2 ⟨rfl, hb2⟩
          have hown2 := own_below hown hb2
          have hb3 := hb.trans (hb2.mono hb.size)
          clear hown hb2 hb
          go_wp2_with (at_builtin; refine wpList_append_str _ rfl _ _ _ _ rfl w.heap.size 5 i0 _ 1 Tryz.underlying74 Tryz.underlying9 hi hz0 hz1 hz2 rfl _ out.length (cellsB out) rfl hown2 xb rfl (by simp only [maxLen]; omega) (by omega) hb3.size ?_; intro v4 w4 hown4 hg4 hat4)
          have hb4 : Below w.heap.size w w4 := hb3.grown hg4 hb3.size (fun g hg => (hown2.lt g hg).1)
          have hown5 : w4.ownsRow w.heap.size 5 1 v4 (out ++ x).length (cellsB (out ++ x)) := by
            rw [HXL.out, hxs] at hown4
            rw [List.length_append, cellsB_append]
            exact hown4
          clear hg4 hat4 hown2 hown4 hx0 hx1 hxs HXL
          go_roundw
          case rel => exact ⟨k + n + 2, f, out ++ x, by omega, by go_num, by omega, by simp; omega, hown5, HS, hb4⟩
          case measure => simp [intOf]; omega
      · have t38 : ((s[k].toNat : Int) == 38) = false := (byte_eq s k hlt 38).trans (decide_eq_false h38)
        by_cases h13 : s[k] = 13
        · have t13 : ((s[k].toNat : Int) == 13) = true := (byte_eq s k hlt 13).trans (decide_eq_true h13)
          by_cases h1 : k + 1 < s.size
          · by_cases h10 : s[k + 1] = 10
            · have HS := Lib.hid (HU.out.trans (by rw [un_crlf hlt h1 h13 h10, map_cons]))
              have t10 : ((s[k + 1].toNat : Int) == 10) = true := (byte_eq s (k + 1) h1 10).trans (decide_eq_true h10)
              have hi1 : (k : Int) + 1 < s.size := by omega
              clear h38 h13 h10 HU
              have hbB : Below w.heap.size w wr := hb
              go_wp2_with (at_builtin; refine wpList_append_sl _ rfl (.tmp 66) (.tmp 68) _ rfl w.heap.size 5 i0 _ 1 1 Tryz.underlying74 hi hz0 hz1 hz2 rfl (by omega) _ out.length (cellsB out) rfl (hown.alloc _) (some ⟨wr.heap.size, 0, none⟩) 1 1 [.int .u8 ((10 : UInt8).toNat : Int)] rfl (Sl.lit wr 1 [.int .u8 ((10 : UInt8).toNat : Int)] _ 1 rfl) (cellsB_one [(10 : UInt8)]) (by simp only [maxLen]; omega) (by omega) (hb.alloc hb.size _).size ?_; intro v4 w4 hown4 hg4 hat4)
              have hb4 : Below w.heap.size w w4 := (hb.alloc hb.size _).grown hg4 (hb.alloc hb.size _).size (fun g hg => (hown.lt g hg).1)
              clear hg4 hat4 hown
              go_roundw
              case rel => exact ⟨k + 2, f, out ++ [(10 : UInt8)], by omega, by go_num, by omega, by simp; omega, by simpa [cellsB_append, cellsB] using hown4, HS, hb4⟩
              case measure => simp [intOf]; omega
            · have HS := Lib.hid (HU.out.trans (by rw [un_cr hlt h13 (fun _ => h10), map_cons]))
              have t10 : ((s[k + 1].toNat : Int) == 10) = false := (byte_eq s (k + 1) h1 10).trans (decide_eq_false h10)
              have hi1 : (k : Int) + 1 < s.size := by omega
              clear h38 h13 h10 HU
              have hbB : Below w.heap.size w wr := hb
              go_wp2_with (at_builtin; refine wpList_append_sl _ rfl (.tmp 66) (.tmp 68) _ rfl w.heap.size 5 i0 _ 1 1 Tryz.underlying74 hi hz0 hz1 hz2 rfl (by omega) _ out.length (cellsB out) rfl (hown.alloc _) (some ⟨wr.heap.size, 0, none⟩) 1 1 [.int .u8 ((10 : UInt8).toNat : Int)] rfl (Sl.lit wr 1 [.int .u8 ((10 : UInt8).toNat : Int)] _ 1 rfl) (cellsB_one [(10 : UInt8)]) (by simp only [maxLen]; omega) (by omega) (hb.alloc hb.size _).size ?_; intro v4 w4 hown4 hg4 hat4)
              have hb4 : Below w.heap.size w w4 := (hb.alloc hb.size _).grown hg4 (hb.alloc hb.size _).size (fun g hg => (hown.lt g hg).1)
              clear hg4 hat4 hown
              go_roundw
              case rel => exact ⟨k + 1, f, out ++ [(10 : UInt8)], by omega, by go_num, by omega, by simp; omega, by simpa [cellsB_append, cellsB] using hown4, HS, hb4⟩
              case measure => simp [intOf]; omega
          · have HS := Lib.hid (HU.out.trans (by rw [un_cr hlt h13 (fun h => absurd h h1), map_cons]))
            have hi1 : ¬ (k : Int) + 1 < s.size := by omega
            clear h38 h13 HU
            have hbB : Below w.heap.size w wr := hb
            go_wp2_with (at_builtin; refine wpList_append_sl _ rfl (.tmp 66) (.tmp 68) _ rfl w.heap.size 5 i0 _ 1 1 Tryz.underlying74 hi hz0 hz1 hz2 rfl (by omega) _ out.length (cellsB out) rfl (hown.alloc _) (some ⟨wr.heap.size, 0, none⟩) 1 1 [.int .u8 ((10 : UInt8).toNat : Int)] rfl (Sl.lit wr 1 [.int .u8 ((10 : UInt8).toNat : Int)] _ 1 rfl) (cellsB_one [(10 : UInt8)]) (by simp only [maxLen]; omega) (by omega) (hb.alloc hb.size _).size ?_; intro v4 w4 hown4 hg4 hat4)
            have hb4 : Below w.heap.size w w4 := (hb.alloc hb.size _).grown hg4 (hb.alloc hb.size _).size (fun g hg => (hown.lt g hg).1)
            clear hg4 hat4 hown
            go_roundw
            case rel => exact ⟨k + 1, f, out ++ [(10 : UInt8)], by omega, by go_num, by omega, by simp; omega, by simpa [cellsB_append, cellsB] using hown4, HS, hb4⟩
            case measure => simp [intOf]; omega
        · have t13 : ((s[k].toNat : Int) == 13) = false := (byte_eq s k hlt 13).trans (decide_eq_false h13)
          have HS := Lib.hid (HU.out.trans (by rw [un_other hlt h38 h13, map_cons, if_neg (by simp)]))
          clear h38 h13 HU
          have hbB : Below w.heap.size w wr := hb
          go_wp2_with (at_builtin; refine wpList_append_sl _ rfl (.tmp 66) (.tmp 68) _ rfl w.heap.size 5 i0 _ 1 1 Tryz.underlying74 hi hz0 hz1 hz2 rfl (by omega) _ out.length (cellsB out) rfl (hown.alloc _) (some ⟨wr.heap.size, 0, none⟩) 1 1 [.int .u8 (s[k].toNat : Int)] rfl (Sl.lit wr 1 [.int .u8 (s[k].toNat : Int)] _ 1 rfl) (cellsB_one [s[k]]) (by simp only [maxLen]; omega) (by omega) (hb.alloc hb.size _).size ?_; intro v4 w4 hown4 hg4 hat4)
          have hb4 : Below w.heap.size w w4 := (hb.alloc hb.size _).grown hg4 (hb.alloc hb.size _).size (fun g hg => (hown.lt g hg).1)
          clear hg4 hat4 hown
          go_roundw
          case rel => exact ⟨k + 1, f, out ++ [s[k]], by omega, by go_num, by omega, by simp; omega, by simpa [cellsB_append, cellsB] using hown4, HS, hb4⟩
          case measure => simp [intOf]; omega
    · have HE : Hid (unL false (s.size + 1) s.data.toList 0 = .ok out) := Lib.hid (by
        rw [HU.out, un_end (by omega)]; simp [Except.map])
      obtain ⟨r1, r2, r3⟩ : x0 = ⟨out.toArray⟩ ∧ p0 = 0 ∧ e0 = 0 := by
        have := HR.out.symm.trans (unB_ok HE.out)
        simpa using this
      clear HU HE HR
      subst r1 r2 r3
      by_cases ho : out = []
      · subst ho
        rcases hown.2 with ⟨rfl, _⟩ | ⟨g, cap, cur, rfl, _⟩
        · have hconv := run_text_none wr
          go_wp2
          go_ret3
          exact ⟨rfl, hb⟩
        · have hconv := run_text_empty wr g cap
          go_wp2
          go_ret3
          exact ⟨rfl, hb⟩
      · have hconv := run_text_own out hown ho
        clear ho
        go_wp2
        go_ret3
        exact ⟨rfl, hb⟩
set_option maxHeartbeats 4000000 in
set_option maxRecDepth 100000 in
theorem unescape_true (s : ByteArray) (w : World) (hs : s.size ≤ 1000000000) :
    Calls Tryz.prog 72 #[.string s, .bool true] w fun e w' => e = .returned (.tuple #[.string (unB s true).1, .int .i64 (unB s true).2.1, .int .i64 (unB s true).2.2]) ∧ Below w.heap.size w w' := by
  obtain ⟨i0, hi, hz0, hz1, hz2⟩ := info_parts byte_info
  obtain ⟨x0, p0, e0, hr⟩ : ∃ x0 p0 e0, unB s true = (x0, p0, e0) := ⟨_, _, _, rfl⟩
  have HR := Lib.hid hr
  rw [hr]
  clear hr
  go_enter Tryz.func72, Tryz.ntmps72
  go_wp2
  go_loopw [7, 8, 9, 10, 11] (fun v i c t n wr => ∃ (k f : Nat) (out : List UInt8), k ≤ s.size ∧ i = .int .i64 k ∧ s.size < f + k ∧ out.length ≤ 4 * k ∧ wr.ownsRow w.heap.size 5 1 v out.length (cellsB out) ∧
      Hid (unL true (s.size + 1) s.data.toList 0 = (unL true f (s.data.toList.drop k) k).map (out ++ ·)) ∧ Below w.heap.size w wr) (fun _ i _ _ _ _ => ((s.size : Int) - intOf i).toNat)
  case atStart => exact ⟨0, s.size + 1, [], by omega, rfl, by omega, by simp, World.ownsRow_nil _ _ _ _, Lib.hid (by rw [List.drop_zero]; exact map_nil _), Below.refl _ _⟩
  case round =>
    obtain ⟨k, f, out, hk, rfl, hf, hol, hown, HU, hb⟩ := hrel
    obtain ⟨f, rfl⟩ : ∃ f', f = f' + 1 := ⟨f - 1, by omega⟩
    by_cases hlt : k < s.size
    · by_cases h38 : s[k] = 38
      · have t38 : ((s[k].toNat : Int) == 38) = true := (byte_eq s k hlt 38).trans (decide_eq_true h38)
        have H38 := Lib.hid h38
        clear h38
        go_wp2_with fail
        cases hra : refAt s k with
        | none =>
          have hrt : refT s k = (⟨#[]⟩, (k : Int)) := by unfold refT; rw [hra]
          have HE := Lib.hid (HU.out.trans (by rw [un_bad hlt H38.out hra]))
          obtain ⟨r1, r2, r3⟩ : x0 = ⟨#[]⟩ ∧ p0 = (k : Int) ∧ e0 = 16 := by
            have := HR.out.symm.trans (unB_bad HE.out)
            simpa using this
          clear HU HE HR hra
          refine (reference_any s k _ hlt H38.out hs).mono ?_
          rw [hrt]
          clear hrt
          subst r1 r2 r3
          rintro e w2 ⟨rfl, hb2⟩
          go_wp2
          go_ret3
          exact ⟨rfl, hb.trans (hb2.mono hb.size)⟩
        | some xn =>
          obtain ⟨x, n⟩ := xn
          have hrt : refT s k = (⟨x.toArray⟩, (k : Int) + n + 2) := by unfold refT; rw [hra]
          obtain ⟨hu, hle⟩ := un_ref (f := f) (attr := true) hlt H38.out hra
          obtain ⟨tt, rr, _, hv, _⟩ := refAt_semi hra
          have hxl := refV_le hv
          have hxn := refV_ne hv
          have HS := Lib.hid (HU.out.trans (by rw [hu, map_app]))
          have hx0 : ¬ (⟨x.toArray⟩ : ByteArray).toList = [] := by rw [ByteArray.toList_eq]; exact hxn
          have hx1 : (⟨x.toArray⟩ : ByteArray).toList.isEmpty = false := by simpa using hx0
          have hxs : (⟨x.toArray⟩ : ByteArray).size = x.length := by simp [ByteArray.size]
          have HXL : Hid ((⟨x.toArray⟩ : ByteArray).data.toList = x) := Lib.hid rfl
          clear hu hv HU hra hxn HR
          refine (reference_any s k _ hlt H38.out hs).mono ?_
          rw [hrt]
          clear hrt
          generalize (⟨x.toArray⟩ : ByteArray) = xb at *
          rintro e w2 ⟨rfl, hb2⟩
          have hown2 := own_below hown hb2
          have hb3 := hb.trans (hb2.mono hb.size)
          clear hown hb2 hb
          go_wp2_with (at_builtin; refine wpList_append_str _ rfl _ _ _ _ rfl w.heap.size 5 i0 _ 1 Tryz.underlying74 Tryz.underlying9 hi hz0 hz1 hz2 rfl _ out.length (cellsB out) rfl hown2 xb rfl (by simp only [maxLen]; omega) (by omega) hb3.size ?_; intro v4 w4 hown4 hg4 hat4)
          have hb4 : Below w.heap.size w w4 := hb3.grown hg4 hb3.size (fun g hg => (hown2.lt g hg).1)
          have hown5 : w4.ownsRow w.heap.size 5 1 v4 (out ++ x).length (cellsB (out ++ x)) := by
            rw [HXL.out, hxs] at hown4
            rw [List.length_append, cellsB_append]
            exact hown4
          clear hg4 hat4 hown2 hown4 hx0 hx1 hxs HXL
          go_roundw
          case rel => exact ⟨k + n + 2, f, out ++ x, by omega, by go_num, by omega, by simp; omega, hown5, HS, hb4⟩
          case measure => simp [intOf]; omega
      · have t38 : ((s[k].toNat : Int) == 38) = false := (byte_eq s k hlt 38).trans (decide_eq_false h38)
        by_cases h13 : s[k] = 13
        · have t13 : ((s[k].toNat : Int) == 13) = true := (byte_eq s k hlt 13).trans (decide_eq_true h13)
          by_cases h1 : k + 1 < s.size
          · by_cases h10 : s[k + 1] = 10
            · have HS := Lib.hid (HU.out.trans (by rw [un_crlf hlt h1 h13 h10, map_cons]))
              have t10 : ((s[k + 1].toNat : Int) == 10) = true := (byte_eq s (k + 1) h1 10).trans (decide_eq_true h10)
              have hi1 : (k : Int) + 1 < s.size := by omega
              clear h38 h13 h10 HU
              have hbB : Below w.heap.size w wr := hb
              go_wp2_with (at_builtin; refine wpList_append_sl _ rfl (.tmp 66) (.tmp 68) _ rfl w.heap.size 5 i0 _ 1 1 Tryz.underlying74 hi hz0 hz1 hz2 rfl (by omega) _ out.length (cellsB out) rfl (hown.alloc _) (some ⟨wr.heap.size, 0, none⟩) 1 1 [.int .u8 ((32 : UInt8).toNat : Int)] rfl (Sl.lit wr 1 [.int .u8 ((32 : UInt8).toNat : Int)] _ 1 rfl) (cellsB_one [(32 : UInt8)]) (by simp only [maxLen]; omega) (by omega) (hb.alloc hb.size _).size ?_; intro v4 w4 hown4 hg4 hat4)
              have hb4 : Below w.heap.size w w4 := (hb.alloc hb.size _).grown hg4 (hb.alloc hb.size _).size (fun g hg => (hown.lt g hg).1)
              clear hg4 hat4 hown
              go_roundw
              case rel => exact ⟨k + 2, f, out ++ [(32 : UInt8)], by omega, by go_num, by omega, by simp; omega, by simpa [cellsB_append, cellsB] using hown4, HS, hb4⟩
              case measure => simp [intOf]; omega
            · have HS := Lib.hid (HU.out.trans (by rw [un_cr hlt h13 (fun _ => h10), map_cons]))
              have t10 : ((s[k + 1].toNat : Int) == 10) = false := (byte_eq s (k + 1) h1 10).trans (decide_eq_false h10)
              have hi1 : (k : Int) + 1 < s.size := by omega
              clear h38 h13 h10 HU
              have hbB : Below w.heap.size w wr := hb
              go_wp2_with (at_builtin; refine wpList_append_sl _ rfl (.tmp 66) (.tmp 68) _ rfl w.heap.size 5 i0 _ 1 1 Tryz.underlying74 hi hz0 hz1 hz2 rfl (by omega) _ out.length (cellsB out) rfl (hown.alloc _) (some ⟨wr.heap.size, 0, none⟩) 1 1 [.int .u8 ((32 : UInt8).toNat : Int)] rfl (Sl.lit wr 1 [.int .u8 ((32 : UInt8).toNat : Int)] _ 1 rfl) (cellsB_one [(32 : UInt8)]) (by simp only [maxLen]; omega) (by omega) (hb.alloc hb.size _).size ?_; intro v4 w4 hown4 hg4 hat4)
              have hb4 : Below w.heap.size w w4 := (hb.alloc hb.size _).grown hg4 (hb.alloc hb.size _).size (fun g hg => (hown.lt g hg).1)
              clear hg4 hat4 hown
              go_roundw
              case rel => exact ⟨k + 1, f, out ++ [(32 : UInt8)], by omega, by go_num, by omega, by simp; omega, by simpa [cellsB_append, cellsB] using hown4, HS, hb4⟩
              case measure => simp [intOf]; omega
          · have HS := Lib.hid (HU.out.trans (by rw [un_cr hlt h13 (fun h => absurd h h1), map_cons]))
            have hi1 : ¬ (k : Int) + 1 < s.size := by omega
            clear h38 h13 HU
            have hbB : Below w.heap.size w wr := hb
            go_wp2_with (at_builtin; refine wpList_append_sl _ rfl (.tmp 66) (.tmp 68) _ rfl w.heap.size 5 i0 _ 1 1 Tryz.underlying74 hi hz0 hz1 hz2 rfl (by omega) _ out.length (cellsB out) rfl (hown.alloc _) (some ⟨wr.heap.size, 0, none⟩) 1 1 [.int .u8 ((32 : UInt8).toNat : Int)] rfl (Sl.lit wr 1 [.int .u8 ((32 : UInt8).toNat : Int)] _ 1 rfl) (cellsB_one [(32 : UInt8)]) (by simp only [maxLen]; omega) (by omega) (hb.alloc hb.size _).size ?_; intro v4 w4 hown4 hg4 hat4)
            have hb4 : Below w.heap.size w w4 := (hb.alloc hb.size _).grown hg4 (hb.alloc hb.size _).size (fun g hg => (hown.lt g hg).1)
            clear hg4 hat4 hown
            go_roundw
            case rel => exact ⟨k + 1, f, out ++ [(32 : UInt8)], by omega, by go_num, by omega, by simp; omega, by simpa [cellsB_append, cellsB] using hown4, HS, hb4⟩
            case measure => simp [intOf]; omega
        · have t13 : ((s[k].toNat : Int) == 13) = false := (byte_eq s k hlt 13).trans (decide_eq_false h13)
          by_cases h9 : s[k] = 9
          · have HS := Lib.hid (HU.out.trans (by rw [un_other hlt h38 h13, map_cons, if_pos (by rw [h9]; decide)]))
            have t9 : ((s[k].toNat : Int) == 9) = true := (byte_eq s k hlt 9).trans (decide_eq_true h9)
            clear h38 h13 h9 HU
            have hbB : Below w.heap.size w wr := hb
            go_wp2_with (at_builtin; refine wpList_append_sl _ rfl (.tmp 66) (.tmp 68) _ rfl w.heap.size 5 i0 _ 1 1 Tryz.underlying74 hi hz0 hz1 hz2 rfl (by omega) _ out.length (cellsB out) rfl (hown.alloc _) (some ⟨wr.heap.size, 0, none⟩) 1 1 [.int .u8 ((32 : UInt8).toNat : Int)] rfl (Sl.lit wr 1 [.int .u8 ((32 : UInt8).toNat : Int)] _ 1 rfl) (cellsB_one [(32 : UInt8)]) (by simp only [maxLen]; omega) (by omega) (hb.alloc hb.size _).size ?_; intro v4 w4 hown4 hg4 hat4)
            have hb4 : Below w.heap.size w w4 := (hb.alloc hb.size _).grown hg4 (hb.alloc hb.size _).size (fun g hg => (hown.lt g hg).1)
            clear hg4 hat4 hown
            go_roundw
            case rel => exact ⟨k + 1, f, out ++ [(32 : UInt8)], by omega, by go_num, by omega, by simp; omega, by simpa [cellsB_append, cellsB] using hown4, HS, hb4⟩
            case measure => simp [intOf]; omega
          · by_cases h10 : s[k] = 10
            · have HS := Lib.hid (HU.out.trans (by rw [un_other hlt h38 h13, map_cons, if_pos (by rw [h10]; decide)]))
              have t9 : ((s[k].toNat : Int) == 9) = false := (byte_eq s k hlt 9).trans (decide_eq_false h9)
              have t10 : ((s[k].toNat : Int) == 10) = true := (byte_eq s k hlt 10).trans (decide_eq_true h10)
              clear h38 h13 h9 h10 HU
              have hbB : Below w.heap.size w wr := hb
              go_wp2_with (at_builtin; refine wpList_append_sl _ rfl (.tmp 66) (.tmp 68) _ rfl w.heap.size 5 i0 _ 1 1 Tryz.underlying74 hi hz0 hz1 hz2 rfl (by omega) _ out.length (cellsB out) rfl (hown.alloc _) (some ⟨wr.heap.size, 0, none⟩) 1 1 [.int .u8 ((32 : UInt8).toNat : Int)] rfl (Sl.lit wr 1 [.int .u8 ((32 : UInt8).toNat : Int)] _ 1 rfl) (cellsB_one [(32 : UInt8)]) (by simp only [maxLen]; omega) (by omega) (hb.alloc hb.size _).size ?_; intro v4 w4 hown4 hg4 hat4)
              have hb4 : Below w.heap.size w w4 := (hb.alloc hb.size _).grown hg4 (hb.alloc hb.size _).size (fun g hg => (hown.lt g hg).1)
              clear hg4 hat4 hown
              go_roundw
              case rel => exact ⟨k + 1, f, out ++ [(32 : UInt8)], by omega, by go_num, by omega, by simp; omega, by simpa [cellsB_append, cellsB] using hown4, HS, hb4⟩
              case measure => simp [intOf]; omega
            · have HS := Lib.hid (HU.out.trans (by rw [un_other hlt h38 h13, map_cons, if_neg (by simp [h9, h10])]))
              have t9 : ((s[k].toNat : Int) == 9) = false := (byte_eq s k hlt 9).trans (decide_eq_false h9)
              have t10 : ((s[k].toNat : Int) == 10) = false := (byte_eq s k hlt 10).trans (decide_eq_false h10)
              clear h38 h13 h9 h10 HU
              have hbB : Below w.heap.size w wr := hb
              go_wp2_with (at_builtin; refine wpList_append_sl _ rfl (.tmp 66) (.tmp 68) _ rfl w.heap.size 5 i0 _ 1 1 Tryz.underlying74 hi hz0 hz1 hz2 rfl (by omega) _ out.length (cellsB out) rfl (hown.alloc _) (some ⟨wr.heap.size, 0, none⟩) 1 1 [.int .u8 (s[k].toNat : Int)] rfl (Sl.lit wr 1 [.int .u8 (s[k].toNat : Int)] _ 1 rfl) (cellsB_one [s[k]]) (by simp only [maxLen]; omega) (by omega) (hb.alloc hb.size _).size ?_; intro v4 w4 hown4 hg4 hat4)
              have hb4 : Below w.heap.size w w4 := (hb.alloc hb.size _).grown hg4 (hb.alloc hb.size _).size (fun g hg => (hown.lt g hg).1)
              clear hg4 hat4 hown
              go_roundw
              case rel => exact ⟨k + 1, f, out ++ [s[k]], by omega, by go_num, by omega, by simp; omega, by simpa [cellsB_append, cellsB] using hown4, HS, hb4⟩
              case measure => simp [intOf]; omega
    · have HE : Hid (unL true (s.size + 1) s.data.toList 0 = .ok out) := Lib.hid (by
        rw [HU.out, un_end (by omega)]; simp [Except.map])
      obtain ⟨r1, r2, r3⟩ : x0 = ⟨out.toArray⟩ ∧ p0 = 0 ∧ e0 = 0 := by
        have := HR.out.symm.trans (unB_ok HE.out)
        simpa using this
      clear HU HE HR
      subst r1 r2 r3
      by_cases ho : out = []
      · subst ho
        rcases hown.2 with ⟨rfl, _⟩ | ⟨g, cap, cur, rfl, _⟩
        · have hconv := run_text_none wr
          go_wp2
          go_ret3
          exact ⟨rfl, hb⟩
        · have hconv := run_text_empty wr g cap
          go_wp2
          go_ret3
          exact ⟨rfl, hb⟩
      · have hconv := run_text_own out hown ho
        clear ho
        go_wp2
        go_ret3
        exact ⟨rfl, hb⟩
theorem runescape_any (s : ByteArray) (attr : Bool) (w : World) (hs : s.size ≤ 1000000000) :
    Calls Tryz.prog 72 #[.string s, .bool attr] w fun e w' => e = .returned (.tuple #[.string (unB s attr).1, .int .i64 (unB s attr).2.1, .int .i64 (unB s attr).2.2]) ∧ Below w.heap.size w w' := by
  cases attr
  · exact unescape_false s w hs
  · exact unescape_true s w hs
end Go.Proofs.YtbdamneophbnnaaGreatDoor
namespace Go.Proofs.YtbdamneophbnnaaGreatDoor
open Go.RowKit Wb
theorem bind_facts {s : ByteArray} {a : Nat} {b : Bool} {re rq : Int} (ha : a < s.size) (he : IdxIs s a ⟨#[41]⟩ re) (hq : IdxIs s a ⟨#[61]⟩ rq) (hb : begB s a ⟨#[120, 109, 108, 110, 115, 40]⟩ = b) :
    (bind1 (s.data.toList.drop a) = none ∧ (b = false ∨ (b = true ∧ re = -1) ∨ (b = true ∧ 0 ≤ re ∧ rq = -1) ∨ (b = true ∧ 0 ≤ re ∧ 0 ≤ rq ∧ re < rq) ∨
      (∃ k1 k2 : Nat, b = true ∧ re = k1 ∧ rq = k2 ∧ a + 6 ≤ k2 ∧ k2 < k1 ∧ k1 < s.size ∧ nameB (s.extract (a + 6) k2).data.toList = false))) ∨
    (∃ k1 k2 : Nat, b = true ∧ re = k1 ∧ rq = k2 ∧ a + 6 ≤ k2 ∧ k2 < k1 ∧ k1 < s.size ∧ nameB (s.extract (a + 6) k2).data.toList = true ∧
      bind1 (s.data.toList.drop a) = some (((s.extract (a + 6) k2).data.toList, (s.extract (k2 + 1) k1).data.toList), s.data.toList.drop (k1 + 1))) := by
  have hsz : s.data.toList.length = s.size := by simp
  have hb2 : b = decide ((s.data.toList.drop a).take 6 = sBindK) := by
    rw [← hb]
    unfold begB
    rw [beg_list]
    have e6 : (⟨#[120, 109, 108, 110, 115, 40]⟩ : ByteArray).size = 6 := rfl
    rw [e6]
    show (decide ((0 : Int) ≤ a) && (decide ((a : Int) + (6 : Nat) ≤ s.size) && decide (List.take 6 (List.drop (a : Int).toNat s.data.toList) = sBindK))) = _
    rw [Int.toNat_natCast, decide_eq_true (show (0 : Int) ≤ a by omega), Bool.true_and, Bool.eq_iff_iff, Bool.and_eq_true, decide_eq_true_eq, decide_eq_true_eq]
    refine ⟨fun h => h.2, fun h => ⟨?_, h⟩⟩
    have := congrArg List.length h
    rw [List.length_take, List.length_drop] at this
    have e : sBindK.length = 6 := rfl
    omega
  by_cases h6 : (s.data.toList.drop a).take 6 = sBindK
  · have hbt : b = true := by rw [hb2, decide_eq_true h6]
    have h6a : a + 6 ≤ s.size := by
      have := congrArg List.length h6
      rw [List.length_take, List.length_drop] at this
      have e : sBindK.length = 6 := rfl
      omega
    have hd6 : (s.data.toList.drop a).drop 6 = s.data.toList.drop (a + 6) := by rw [List.drop_drop]
    have hsplit : s.data.toList.drop a = sBindK ++ s.data.toList.drop (a + 6) := by rw [← h6, ← hd6, List.take_append_drop]
    -- the places lie behind the word
    have behind : ∀ (c : UInt8) (k : Nat), c ∉ sBindK → a ≤ k → k < s.size → s.data.toList.drop a = (s.extract a k).data.toList ++ c :: s.data.toList.drop (k + 1) →
        (∀ x ∈ (s.extract a k).data.toList, x ≠ c) → a + 6 ≤ k ∧ s.data.toList.drop (a + 6) = (s.extract (a + 6) k).data.toList ++ c :: s.data.toList.drop (k + 1) ∧ ∀ x ∈ (s.extract (a + 6) k).data.toList, x ≠ c := by
      intro c k hc h1 h2 h3 h4
      have hk6 : a + 6 ≤ k := by
        apply Classical.byContradiction
        intro hlt
        have hm : c ∈ (s.data.toList.drop a).take 6 := by
          rw [h3, List.take_append]
          refine List.mem_append_right _ ?_
          have hl : (s.extract a k).data.toList.length = k - a := by rw [ext_list, List.length_take, List.length_drop]; omega
          rw [hl]
          obtain ⟨m, hm⟩ : ∃ m, 6 - (k - a) = m + 1 := ⟨5 - (k - a), by omega⟩
          rw [hm, List.take_succ_cons]
          simp
        rw [h6] at hm
        exact hc hm
      have hck : s.data.toList[k]'(by omega) = c := by
        have e1 := drop_two s h1 (k := k) (by omega)
        rw [h3] at e1
        have := List.append_cancel_left e1
        injection this with this _
        exact this.symm
      refine ⟨hk6, ?_, fun x hx => ?_⟩
      · have := drop_two s hk6 (k := k) (by omega)
        rw [hck] at this
        exact this
      · refine h4 x ?_
        rw [ext_list] at hx ⊢
        have e : (s.data.toList.drop a).take (k - a) = (s.data.toList.drop a).take 6 ++ ((s.data.toList.drop a).drop 6).take (k - (a + 6)) := by
          rw [show k - a = 6 + (k - (a + 6)) by omega, List.take_add]
        rw [e, hd6]
        exact List.mem_append_right _ hx
    have b1 : bind1 (s.data.toList.drop a) = match cutC 41 (s.data.toList.drop (a + 6)) with
        | none => none
        | some (g, r) => match cutC 61 g with
          | none => none
          | some (n, sp) => if nameB n = true then some ((n, sp), r) else none := by
      conv => lhs; unfold bind1
      rw [if_pos h6, hd6]
      rfl
    rcases idx_list he with ⟨e1, e2⟩ | ⟨k1, e1, e2, e3, e4, e5⟩
    · refine .inl ⟨?_, .inr (.inl ⟨hbt, e1⟩)⟩
      rw [b1, cutC_none fun x hx => e2 x (by rw [hsplit]; exact List.mem_append_right _ hx)]
    · obtain ⟨f1, f2, f3⟩ := behind 41 k1 (by decide) e2 e3 e4 e5
      rw [f2, cutC_at _ f3] at b1
      simp only at b1
      rcases idx_list hq with ⟨q1, q2⟩ | ⟨k2, q1, q2, q3, q4, q5⟩
      · refine .inl ⟨?_, .inr (.inr (.inl ⟨hbt, by omega, q1⟩))⟩
        rw [b1, cutC_none fun x hx => q2 x (by rw [hsplit, f2]; exact List.mem_append_right _ (List.mem_append_left _ hx))]
      · obtain ⟨g1, g2, g3⟩ := behind 61 k2 (by decide) q2 q3 q4 q5
        by_cases hlt : k2 < k1
        · have hseg : (s.extract (a + 6) k1).data.toList = (s.extract (a + 6) k2).data.toList ++ 61 :: (s.extract (k2 + 1) k1).data.toList := by
            have : (s.data.toList.drop (a + 6)).take (k1 - (a + 6)) = ((s.extract (a + 6) k2).data.toList ++ 61 :: s.data.toList.drop (k2 + 1)).take (k1 - (a + 6)) := by rw [← g2]
            rw [ext_list s (a + 6) k1, this]
            have hl : (s.extract (a + 6) k2).data.toList.length = k2 - (a + 6) := by rw [ext_list, List.length_take, List.length_drop]; omega
            rw [List.take_append, List.take_of_length_le (by rw [hl]; omega), hl]
            obtain ⟨m, hm⟩ : ∃ m, k1 - (a + 6) - (k2 - (a + 6)) = m + 1 := ⟨k1 - k2 - 1, by omega⟩
            rw [hm, List.take_succ_cons, ext_list s (k2 + 1) k1, show k1 - (k2 + 1) = m by omega]
          rw [hseg, cutC_at _ g3] at b1
          simp only at b1
          cases hn : nameB (s.extract (a + 6) k2).data.toList with
          | true =>
            rw [hn, if_pos rfl] at b1
            exact .inr ⟨k1, k2, hbt, e1, q1, g1, hlt, e3, hn, b1⟩
          | false =>
            rw [hn, if_neg (by decide)] at b1
            exact .inl ⟨b1, .inr (.inr (.inr (.inr ⟨k1, k2, hbt, e1, q1, g1, hlt, e3, hn⟩)))⟩
        · have hne : k1 ≠ k2 := by
            intro e
            subst e
            rw [e4] at q4
            have := List.append_cancel_left q4
            injection this with this _
            revert this
            decide
          refine .inl ⟨?_, .inr (.inr (.inr (.inl ⟨hbt, by omega, by omega, by omega⟩)))⟩
          rw [b1, cutC_none fun x hx => q5 x (by
            have e : (s.extract a k2).data.toList = ((s.data.toList.drop a).take 6 ++ (s.data.toList.drop (a + 6)).take (k2 - (a + 6))) := by
              rw [ext_list, show k2 - a = 6 + (k2 - (a + 6)) by omega, List.take_add, hd6]
            rw [e]
            refine List.mem_append_right _ ?_
            rw [ext_list] at hx
            have : k1 - (a + 6) ≤ k2 - (a + 6) := by omega
            exact List.mem_of_mem_take (by rw [List.take_take, Nat.min_eq_left this]; exact hx))]
  · refine .inl ⟨?_, .inl (by rw [hb2, decide_eq_false h6])⟩
    unfold bind1
    rw [if_neg h6]
end Go.Proofs.YtbdamneophbnnaaGreatDoor
