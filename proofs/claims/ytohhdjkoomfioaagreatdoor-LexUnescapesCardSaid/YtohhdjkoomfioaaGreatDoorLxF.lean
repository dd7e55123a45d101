
/- Contract of the reference's Unescape: the walk. Written by program (gen in NOTES' sense: text that stands for both values of attr). -/
import Derived.Test.YtohhdjkoomfioaaGreatDoorLxE
namespace Go.Proofs.YtohhdjkoomfioaaGreatDoor
open Go.RowKit Wb

theorem byte_info : (Tryz.prog.info? 5).map (fun i => (i.zero, i.size, i.bytes)) = some (some (.int .u8 0), 1, 1) := by kernel_rfl

theorem b8_toNat (b : UInt8) : b8 (b.toNat : Int) = b := by unfold b8; simp

/-- What an own row of bytes is as a text. -/
theorem run_text_own {w : World} {base n : Nat} {e : TypeId} {v : Value} (l : List UInt8) (h : w.ownsRow base e 1 v n (cellsB l)) (hl : l ≠ []) :
    (convert 52 9 v).run Tryz.prog w = .ok (.string ⟨l.toArray⟩) w := by
  have hn : n = l.length := by have := h.1; rw [cellsB_length] at this; omega
  obtain ⟨g, cap, rfl, _, _⟩ := h.form (by cases l with
    | nil => exact absurd rfl hl
    | cons a r => rw [hn]; simp)
  rw [run_text w g n cap (l.map fun b => (b.toNat : Int)) (by simp [hn]) (by
    intro j u hu
    have := h.cells (g := g) rfl j u (by simpa [cellsB] using hu)
    rw [Addr.add_lit, Nat.zero_add] at this
    exact this)]
  rw [List.map_map, show (b8 ∘ fun b : UInt8 => (b.toNat : Int)) = id from funext b8_toNat, List.map_id]

theorem map_nil (o : Except Nat (List UInt8)) : o = o.map ([] ++ ·) := by cases o <;> rfl

theorem run_text_none (w : World) : (convert 52 9 (.slice none 0 0)).run Tryz.prog w = .ok (.string ⟨#[]⟩) w := by
  rw [run_convert_bytes_string w _ _ _ _ 0 0 Tryz.underlying52 Tryz.underlying5 Tryz.underlying9]
  unfold Conv.bytesToString
  simp [Sem.run_pure]
  rfl
theorem run_text_empty (w : World) (g c : Nat) : (convert 52 9 (.slice (some ⟨g, 0, none⟩) 0 c)).run Tryz.prog w = .ok (.string ⟨#[]⟩) w := by
  rw [run_text w g 0 c [] rfl (by simp)]
  rfl

theorem own_len {w : World} {base n : Nat} {e : TypeId} {v : Value} {l : List UInt8} (h : w.ownsRow base e 1 v n (cellsB l)) : n = l.length := by
  have := h.1; rw [cellsB_length] at this; omega

set_option maxHeartbeats 4000000 in
set_option maxRecDepth 100000 in
theorem unescape_false (s : ByteArray) (w : World) (hs : s.size ≤ 1000000000) :
    Calls Tryz.prog 10 #[.string s, .bool false] w fun e w' => e = .returned (.tuple #[.string (unB s false).1, .int .i64 (unB s false).2.1, .int .i64 (unB s false).2.2]) ∧ Below w.heap.size w w' := by
  obtain ⟨i0, hi, hz0, hz1, hz2⟩ := info_parts byte_info
  obtain ⟨x0, p0, e0, hr⟩ : ∃ x0 p0 e0, unB s false = (x0, p0, e0) := ⟨_, _, _, rfl⟩
  have HR := Lib.hid hr
  rw [hr]
  clear hr
  go_enter Tryz.func10, Tryz.ntmps10
  go_wp2
  go_loopw [7, 8, 9, 10, 11] (fun v i c t n wr => ∃ (k f : Nat) (out : List UInt8), k ≤ s.size ∧ i = .int .i64 k ∧ s.size < f + k ∧ out.length ≤ 4 * k ∧ wr.ownsRow w.heap.size 5 1 v out.length (cellsB out) ∧
      Hid (unL false (s.size + 1) s.data.toList 0 = (unL false f (s.data.toList.drop k) k).map (out ++ ·)) ∧ Below w.heap.size w wr) (fun _ i _ _ _ _ => ((s.size : Int) - intOf i).toNat)
  case atStart => exact ⟨0, s.size + 1, [], by omega, rfl, by omega, by simp, World.ownsRow_nil _ _ _ _, Lib.hid (by rw [List.drop_zero]; exact map_nil _), Below.refl _ _⟩
  case round =>
    obtain ⟨k, f, out, hk, rfl, hf, hol, hown, HU, hb⟩ := hrel
    obtain ⟨f, rfl⟩ : ∃ f', f = f' + 1 := ⟨f - 1, by omega⟩
    by_cases hlt : k < s.size
    · by_cases h38 : s[k] = 38
      · have t38 : ((s[k].toNat : Int) == 38) = true := (byte_eq s k hlt 38).trans (decide_eq_true h38)
        have H38 := Lib.hid h38
        clear h38
        go_wp2_with fail
        cases hra : refAt s k with
        | none =>
          have hrt : refT s k = (⟨#[]⟩, (k : Int)) := by unfold refT; rw [hra]
          have HE := Lib.hid (HU.out.trans (by rw [un_bad hlt H38.out hra]))
          obtain ⟨r1, r2, r3⟩ : x0 = ⟨#[]⟩ ∧ p0 = (k : Int) ∧ e0 = 16 := by
            have := HR.out.symm.trans (unB_bad HE.out)
            simpa using this
          clear HU HE HR hra
          refine (reference_any s k _ hlt H38.out hs).mono ?_
          rw [hrt]
          clear hrt
          subst r1 r2 r3
          rintro e w2 ⟨rfl, hb2⟩
          go_wp2
          go_ret3
          exact ⟨rfl, hb.trans (hb2.mono hb.size)⟩
        | some xn =>
          obtain ⟨x, n⟩ := xn
          have hrt : refT s k = (⟨x.toArray⟩, (k : Int) + n + 2) := by unfold refT; rw [hra]
          obtain ⟨hu, hle⟩ := un_ref (f := f) (attr := false) hlt H38.out hra
          obtain ⟨tt, rr, _, hv, _⟩ := refAt_semi hra
          have hxl := refV_le hv
          have hxn := refV_ne hv
          have HS := Lib.hid (HU.out.trans (by rw [hu, map_app]))
          have hx0 : ¬ (⟨x.toArray⟩ : ByteArray).toList = [] := by rw [ByteArray.toList_eq]; exact hxn
          have hx1 : (⟨x.toArray⟩ : ByteArray).toList.isEmpty = false := by simpa using hx0
          have hxs : (⟨x.toArray⟩ : ByteArray).size = x.length := by simp [ByteArray.size]
          have HXL : Hid ((⟨x.toArray⟩ : ByteArray).data.toList = x) := Lib.hid rfl
          clear hu hv HU hra hxn HR
          refine (reference_any s k _ hlt H38.out hs).mono ?_
          rw [hrt]
          clear hrt
          generalize (⟨x.toArray⟩ : ByteArray) = xb at *
          rintro e w2 ⟨rfl, hb2⟩
          have hown2 := own_below hown hb2
          have hb3 := hb.trans (hb2.mono hb.size)
          clear hown hb2 hb
          go_wp2_with (at_builtin; refine wpList_append_str _ rfl _ _ _ _ rfl w.heap.size 5 i0 _ 1 Tryz.underlying52 Tryz.underlying9 hi hz0 hz1 hz2 rfl _ out.length (cellsB out) rfl hown2 xb rfl (by simp only [maxLen]; omega) (by omega) hb3.size ?_; intro v4 w4 hown4 hg4 hat4)
          have hb4 : Below w.heap.size w w4 := hb3.grown hg4 hb3.size (fun g hg => (hown2.lt g hg).1)
          have hown5 : w4.ownsRow w.heap.size 5 1 v4 (out ++ x).length (cellsB (out ++ x)) := by
            rw [HXL.out, hxs] at hown4
            rw [List.length_append, cellsB_append]
            exact hown4
          clear hg4 hat4 hown2 hown4 hx0 hx1 hxs HXL
          go_roundw
          case rel => exact ⟨k + n + 2, f, out ++ x, by omega, by go_num, by omega, by simp; omega, hown5, HS, hb4⟩
          case measure => simp [intOf]; omega
      · have t38 : ((s[k].toNat : Int) == 38) = false := (byte_eq s k hlt 38).trans (decide_eq_false h38)
        by_cases h13 : s[k] = 13
        · have t13 : ((s[k].toNat : Int) == 13) = true := (byte_eq s k hlt 13).trans (decide_eq_true h13)
          by_cases h1 : k + 1 < s.size
          · by_cases h10 : s[k + 1] = 10
            · have HS := Lib.hid (HU.out.trans (by rw [un_crlf hlt h1 h13 h10, map_cons]))
              have t10 : ((s[k + 1].toNat : Int) == 10) = true := (byte_eq s (k + 1) h1 10).trans (decide_eq_true h10)
              have hi1 : (k : Int) + 1 < s.size := by omega
              clear h38 h13 h10 HU
              have hbB : Below w.heap.size w wr := hb
              go_wp2_with (at_builtin; refine wpList_append_sl _ rfl (.tmp 66) (.tmp 68) _ rfl w.heap.size 5 i0 _ 1 1 Tryz.underlying52 hi hz0 hz1 hz2 rfl (by omega) _ out.length (cellsB out) rfl (hown.alloc _) (some ⟨wr.heap.size, 0, none⟩) 1 1 [.int .u8 ((10 : UInt8).toNat : Int)] rfl (Sl.lit wr 1 [.int .u8 ((10 : UInt8).toNat : Int)] _ 1 rfl) (cellsB_one [(10 : UInt8)]) (by simp only [maxLen]; omega) (by omega) (hb.alloc hb.size _).size ?_; intro v4 w4 hown4 hg4 hat4)
              have hb4 : Below w.heap.size w w4 := (hb.alloc hb.size _).grown hg4 (hb.alloc hb.size _).size (fun g hg => (hown.lt g hg).1)
              clear hg4 hat4 hown
              go_roundw
              case rel => exact ⟨k + 2, f, out ++ [(10 : UInt8)], by omega, by go_num, by omega, by simp; omega, by simpa [cellsB_append, cellsB] using hown4, HS, hb4⟩
              case measure => simp [intOf]; omega
            · have HS := Lib.hid (HU.out.trans (by rw [un_cr hlt h13 (fun _ => h10), map_cons]))
              have t10 : ((s[k + 1].toNat : Int) == 10) = false := (byte_eq s (k + 1) h1 10).trans (decide_eq_false h10)
              have hi1 : (k : Int) + 1 < s.size := by omega
              clear h38 h13 h10 HU
              have hbB : Below w.heap.size w wr := hb
              go_wp2_with (at_builtin; refine wpList_append_sl _ rfl (.tmp 66) (.tmp 68) _ rfl w.heap.size 5 i0 _ 1 1 Tryz.underlying52 hi hz0 hz1 hz2 rfl (by omega) _ out.length (cellsB out) rfl (hown.alloc _) (some ⟨wr.heap.size, 0, none⟩) 1 1 [.int .u8 ((10 : UInt8).toNat : Int)] rfl (Sl.lit wr 1 [.int .u8 ((10 : UInt8).toNat : Int)] _ 1 rfl) (cellsB_one [(10 : UInt8)]) (by simp only [maxLen]; omega) (by omega) (hb.alloc hb.size _).size ?_; intro v4 w4 hown4 hg4 hat4)
              have hb4 : Below w.heap.size w w4 := (hb.alloc hb.size _).grown hg4 (hb.alloc hb.size _).size (fun g hg => (hown.lt g hg).1)
              clear hg4 hat4 hown
              go_roundw
              case rel => exact ⟨k + 1, f, out ++ [(10 : UInt8)], by omega, by go_num, by omega, by simp; omega, by simpa [cellsB_append, cellsB] using hown4, HS, hb4⟩
              case measure => simp [intOf]; omega
          · have HS := Lib.hid (HU.out.trans (by rw [un_cr hlt h13 (fun h => absurd h h1), map_cons]))
            have hi1 : ¬ (k : Int) + 1 < s.size := by omega
            clear h38 h13 HU
            have hbB : Below w.heap.size w wr := hb
            go_wp2_with (at_builtin; refine wpList_append_sl _ rfl (.tmp 66) (.tmp 68) _ rfl w.heap.size 5 i0 _ 1 1 Tryz.underlying52 hi hz0 hz1 hz2 rfl (by omega) _ out.length (cellsB out) rfl (hown.alloc _) (some ⟨wr.heap.size, 0, none⟩) 1 1 [.int .u8 ((10 : UInt8).toNat : Int)] rfl (Sl.lit wr 1 [.int .u8 ((10 : UInt8).toNat : Int)] _ 1 rfl) (cellsB_one [(10 : UInt8)]) (by simp only [maxLen]; omega) (by omega) (hb.alloc hb.size _).size ?_; intro v4 w4 hown4 hg4 hat4)
            have hb4 : Below w.heap.size w w4 := (hb.alloc hb.size _).grown hg4 (hb.alloc hb.size _).size (fun g hg => (hown.lt g hg).1)
            clear hg4 hat4 hown
            go_roundw
            case rel => exact ⟨k + 1, f, out ++ [(10 : UInt8)], by omega, by go_num, by omega, by simp; omega, by simpa [cellsB_append, cellsB] using hown4, HS, hb4⟩
            case measure => simp [intOf]; omega
        · have t13 : ((s[k].toNat : Int) == 13) = false := (byte_eq s k hlt 13).trans (decide_eq_false h13)
          have HS := Lib.hid (HU.out.trans (by rw [un_other hlt h38 h13, map_cons, if_neg (by simp)]))
          clear h38 h13 HU
          have hbB : Below w.heap.size w wr := hb
          go_wp2_with (at_builtin; refine wpList_append_sl _ rfl (.tmp 66) (.tmp 68) _ rfl w.heap.size 5 i0 _ 1 1 Tryz.underlying52 hi hz0 hz1 hz2 rfl (by omega) _ out.length (cellsB out) rfl (hown.alloc _) (some ⟨wr.heap.size, 0, none⟩) 1 1 [.int .u8 (s[k].toNat : Int)] rfl (Sl.lit wr 1 [.int .u8 (s[k].toNat : Int)] _ 1 rfl) (cellsB_one [s[k]]) (by simp only [maxLen]; omega) (by omega) (hb.alloc hb.size _).size ?_; intro v4 w4 hown4 hg4 hat4)
          have hb4 : Below w.heap.size w w4 := (hb.alloc hb.size _).grown hg4 (hb.alloc hb.size _).size (fun g hg => (hown.lt g hg).1)
          clear hg4 hat4 hown
          go_roundw
          case rel => exact ⟨k + 1, f, out ++ [s[k]], by omega, by go_num, by omega, by simp; omega, by simpa [cellsB_append, cellsB] using hown4, HS, hb4⟩
          case measure => simp [intOf]; omega
    · have HE : Hid (unL false (s.size + 1) s.data.toList 0 = .ok out) := Lib.hid (by
        rw [HU.out, un_end (by omega)]; simp [Except.map])
      obtain ⟨r1, r2, r3⟩ : x0 = ⟨out.toArray⟩ ∧ p0 = 0 ∧ e0 = 0 := by
        have := HR.out.symm.trans (unB_ok HE.out)
        simpa using this
      clear HU HE HR
      subst r1 r2 r3
      by_cases ho : out = []
      · subst ho
        rcases hown.2 with ⟨rfl, _⟩ | ⟨g, cap, cur, rfl, _⟩
        · have hconv := run_text_none wr
          go_wp2
          go_ret3
          exact ⟨rfl, hb⟩
        · have hconv := run_text_empty wr g cap
          go_wp2
          go_ret3
          exact ⟨rfl, hb⟩
      · have hconv := run_text_own out hown ho
        clear ho
        go_wp2
        go_ret3
        exact ⟨rfl, hb⟩

set_option maxHeartbeats 4000000 in
set_option maxRecDepth 100000 in
theorem unescape_true (s : ByteArray) (w : World) (hs : s.size ≤ 1000000000) :
    Calls Tryz.prog 10 #[.string s, .bool true] w fun e w' => e = .returned (.tuple #[.string (unB s true).1, .int .i64 (unB s true).2.1, .int .i64 (unB s true).2.2]) ∧ Below w.heap.size w w' := by
  obtain ⟨i0, hi, hz0, hz1, hz2⟩ := info_parts byte_info
  obtain ⟨x0, p0, e0, hr⟩ : ∃ x0 p0 e0, unB s true = (x0, p0, e0) := ⟨_, _, _, rfl⟩
  have HR := Lib.hid hr
  rw [hr]
  clear hr
  go_enter Tryz.func10, Tryz.ntmps10
  go_wp2
  go_loopw [7, 8, 9, 10, 11] (fun v i c t n wr => ∃ (k f : Nat) (out : List UInt8), k ≤ s.size ∧ i = .int .i64 k ∧ s.size < f + k ∧ out.length ≤ 4 * k ∧ wr.ownsRow w.heap.size 5 1 v out.length (cellsB out) ∧
      Hid (unL true (s.size + 1) s.data.toList 0 = (unL true f (s.data.toList.drop k) k).map (out ++ ·)) ∧ Below w.heap.size w wr) (fun _ i _ _ _ _ => ((s.size : Int) - intOf i).toNat)
  case atStart => exact ⟨0, s.size + 1, [], by omega, rfl, by omega, by simp, World.ownsRow_nil _ _ _ _, Lib.hid (by rw [List.drop_zero]; exact map_nil _), Below.refl _ _⟩
  case round =>
    obtain ⟨k, f, out, hk, rfl, hf, hol, hown, HU, hb⟩ := hrel
    obtain ⟨f, rfl⟩ : ∃ f', f = f' + 1 := ⟨f - 1, by omega⟩
    by_cases hlt : k < s.size
    · by_cases h38 : s[k] = 38
      · have t38 : ((s[k].toNat : Int) == 38) = true := (byte_eq s k hlt 38).trans (decide_eq_true h38)
        have H38 := Lib.hid h38
        clear h38
        go_wp2_with fail
        cases hra : refAt s k with
        | none =>
          have hrt : refT s k = (⟨#[]⟩, (k : Int)) := by unfold refT; rw [hra]
          have HE := Lib.hid (HU.out.trans (by rw [un_bad hlt H38.out hra]))
          obtain ⟨r1, r2, r3⟩ : x0 = ⟨#[]⟩ ∧ p0 = (k : Int) ∧ e0 = 16 := by
            have := HR.out.symm.trans (unB_bad HE.out)
            simpa using this
          clear HU HE HR hra
          refine (reference_any s k _ hlt H38.out hs).mono ?_
          rw [hrt]
          clear hrt
          subst r1 r2 r3
          rintro e w2 ⟨rfl, hb2⟩
          go_wp2
          go_ret3
          exact ⟨rfl, hb.trans (hb2.mono hb.size)⟩
        | some xn =>
          obtain ⟨x, n⟩ := xn
          have hrt : refT s k = (⟨x.toArray⟩, (k : Int) + n + 2) := by unfold refT; rw [hra]
          obtain ⟨hu, hle⟩ := un_ref (f := f) (attr := true) hlt H38.out hra
          obtain ⟨tt, rr, _, hv, _⟩ := refAt_semi hra
          have hxl := refV_le hv
          have hxn := refV_ne hv
          have HS := Lib.hid (HU.out.trans (by rw [hu, map_app]))
          have hx0 : ¬ (⟨x.toArray⟩ : ByteArray).toList = [] := by rw [ByteArray.toList_eq]; exact hxn
          have hx1 : (⟨x.toArray⟩ : ByteArray).toList.isEmpty = false := by simpa using hx0
          have hxs : (⟨x.toArray⟩ : ByteArray).size = x.length := by simp [ByteArray.size]
          have HXL : Hid ((⟨x.toArray⟩ : ByteArray).data.toList = x) := Lib.hid rfl
          clear hu hv HU hra hxn HR
          refine (reference_any s k _ hlt H38.out hs).mono ?_
          rw [hrt]
          clear hrt
          generalize (⟨x.toArray⟩ : ByteArray) = xb at *
          rintro e w2 ⟨rfl, hb2⟩
          have hown2 := own_below hown hb2
          have hb3 := hb.trans (hb2.mono hb.size)
          clear hown hb2 hb
          go_wp2_with (at_builtin; refine wpList_append_str _ rfl _ _ _ _ rfl w.heap.size 5 i0 _ 1 Tryz.underlying52 Tryz.underlying9 hi hz0 hz1 hz2 rfl _ out.length (cellsB out) rfl hown2 xb rfl (by simp only [maxLen]; omega) (by omega) hb3.size ?_; intro v4 w4 hown4 hg4 hat4)
          have hb4 : Below w.heap.size w w4 := hb3.grown hg4 hb3.size (fun g hg => (hown2.lt g hg).1)
          have hown5 : w4.ownsRow w.heap.size 5 1 v4 (out ++ x).length (cellsB (out ++ x)) := by
            rw [HXL.out, hxs] at hown4
            rw [List.length_append, cellsB_append]
            exact hown4
          clear hg4 hat4 hown2 hown4 hx0 hx1 hxs HXL
          go_roundw
          case rel => exact ⟨k + n + 2, f, out ++ x, by omega, by go_num, by omega, by simp; omega, hown5, HS, hb4⟩
          case measure => simp [intOf]; omega
      · have t38 : ((s[k].toNat : Int) == 38) = false := (byte_eq s k hlt 38).trans (decide_eq_false h38)
        by_cases h13 : s[k] = 13
        · have t13 : ((s[k].toNat : Int) == 13) = true := (byte_eq s k hlt 13).trans (decide_eq_true h13)
          by_cases h1 : k + 1 < s.size
          · by_cases h10 : s[k + 1] = 10
            · have HS := Lib.hid (HU.out.trans (by rw [un_crlf hlt h1 h13 h10, map_cons]))
              have t10 : ((s[k + 1].toNat : Int) == 10) = true := (byte_eq s (k + 1) h1 10).trans (decide_eq_true h10)
              have hi1 : (k : Int) + 1 < s.size := by omega
              clear h38 h13 h10 HU
              have hbB : Below w.heap.size w wr := hb
              go_wp2_with (at_builtin; refine wpList_append_sl _ rfl (.tmp 66) (.tmp 68) _ rfl w.heap.size 5 i0 _ 1 1 Tryz.underlying52 hi hz0 hz1 hz2 rfl (by omega) _ out.length (cellsB out) rfl (hown.alloc _) (some ⟨wr.heap.size, 0, none⟩) 1 1 [.int .u8 ((32 : UInt8).toNat : Int)] rfl (Sl.lit wr 1 [.int .u8 ((32 : UInt8).toNat : Int)] _ 1 rfl) (cellsB_one [(32 : UInt8)]) (by simp only [maxLen]; omega) (by omega) (hb.alloc hb.size _).size ?_; intro v4 w4 hown4 hg4 hat4)
              have hb4 : Below w.heap.size w w4 := (hb.alloc hb.size _).grown hg4 (hb.alloc hb.size _).size (fun g hg => (hown.lt g hg).1)
              clear hg4 hat4 hown
              go_roundw
              case rel => exact ⟨k + 2, f, out ++ [(32 : UInt8)], by omega, by go_num, by omega, by simp; omega, by simpa [cellsB_append, cellsB] using hown4, HS, hb4⟩
              case measure => simp [intOf]; omega
            · have HS := Lib.hid (HU.out.trans (by rw [un_cr hlt h13 (fun _ => h10), map_cons]))
              have t10 : ((s[k + 1].toNat : Int) == 10) = false := (byte_eq s (k + 1) h1 10).trans (decide_eq_false h10)
              have hi1 : (k : Int) + 1 < s.size := by omega
              clear h38 h13 h10 HU
              have hbB : Below w.heap.size w wr := hb
              go_wp2_with (at_builtin; refine wpList_append_sl _ rfl (.tmp 66) (.tmp 68) _ rfl w.heap.size 5 i0 _ 1 1 Tryz.underlying52 hi hz0 hz1 hz2 rfl (by omega) _ out.length (cellsB out) rfl (hown.alloc _) (some ⟨wr.heap.size, 0, none⟩) 1 1 [.int .u8 ((32 : UInt8).toNat : Int)] rfl (Sl.lit wr 1 [.int .u8 ((32 : UInt8).toNat : Int)] _ 1 rfl) (cellsB_one [(32 : UInt8)]) (by simp only [maxLen]; omega) (by omega) (hb.alloc hb.size _).size ?_; intro v4 w4 hown4 hg4 hat4)
              have hb4 : Below w.heap.size w w4 := (hb.alloc hb.size _).grown hg4 (hb.alloc hb.size _).size (fun g hg => (hown.lt g hg).1)
              clear hg4 hat4 hown
              go_roundw
              case rel => exact ⟨k + 1, f, out ++ [(32 : UInt8)], by omega, by go_num, by omega, by simp; omega, by simpa [cellsB_append, cellsB] using hown4, HS, hb4⟩
              case measure => simp [intOf]; omega
          · have HS := Lib.hid (HU.out.trans (by rw [un_cr hlt h13 (fun h => absurd h h1), map_cons]))
            have hi1 : ¬ (k : Int) + 1 < s.size := by omega
            clear h38 h13 HU
            have hbB : Below w.heap.size w wr := hb
            go_wp2_with (at_builtin; refine wpList_append_sl _ rfl (.tmp 66) (.tmp 68) _ rfl w.heap.size 5 i0 _ 1 1 Tryz.underlying52 hi hz0 hz1 hz2 rfl (by omega) _ out.length (cellsB out) rfl (hown.alloc _) (some ⟨wr.heap.size, 0, none⟩) 1 1 [.int .u8 ((32 : UInt8).toNat : Int)] rfl (Sl.lit wr 1 [.int .u8 ((32 : UInt8).toNat : Int)] _ 1 rfl) (cellsB_one [(32 : UInt8)]) (by simp only [maxLen]; omega) (by omega) (hb.alloc hb.size _).size ?_; intro v4 w4 hown4 hg4 hat4)
            have hb4 : Below w.heap.size w w4 := (hb.alloc hb.size _).grown hg4 (hb.alloc hb.size _).size (fun g hg => (hown.lt g hg).1)
            clear hg4 hat4 hown
            go_roundw
            case rel => exact ⟨k + 1, f, out ++ [(32 : UInt8)], by omega, by go_num, by omega, by simp; omega, by simpa [cellsB_append, cellsB] using hown4, HS, hb4⟩
            case measure => simp [intOf]; omega
        · have t13 : ((s[k].toNat : Int) == 13) = false := (byte_eq s k hlt 13).trans (decide_eq_false h13)
          by_cases h9 : s[k] = 9
          · have HS := Lib.hid (HU.out.trans (by rw [un_other hlt h38 h13, map_cons, if_pos (by rw [h9]; decide)]))
            have t9 : ((s[k].toNat : Int) == 9) = true := (byte_eq s k hlt 9).trans (decide_eq_true h9)
            clear h38 h13 h9 HU
            have hbB : Below w.heap.size w wr := hb
            go_wp2_with (at_builtin; refine wpList_append_sl _ rfl (.tmp 66) (.tmp 68) _ rfl w.heap.size 5 i0 _ 1 1 Tryz.underlying52 hi hz0 hz1 hz2 rfl (by omega) _ out.length (cellsB out) rfl (hown.alloc _) (some ⟨wr.heap.size, 0, none⟩) 1 1 [.int .u8 ((32 : UInt8).toNat : Int)] rfl (Sl.lit wr 1 [.int .u8 ((32 : UInt8).toNat : Int)] _ 1 rfl) (cellsB_one [(32 : UInt8)]) (by simp only [maxLen]; omega) (by omega) (hb.alloc hb.size _).size ?_; intro v4 w4 hown4 hg4 hat4)
            have hb4 : Below w.heap.size w w4 := (hb.alloc hb.size _).grown hg4 (hb.alloc hb.size _).size (fun g hg => (hown.lt g hg).1)
            clear hg4 hat4 hown
            go_roundw
            case rel => exact ⟨k + 1, f, out ++ [(32 : UInt8)], by omega, by go_num, by omega, by simp; omega, by simpa [cellsB_append, cellsB] using hown4, HS, hb4⟩
            case measure => simp [intOf]; omega
          · by_cases h10 : s[k] = 10
            · have HS := Lib.hid (HU.out.trans (by rw [un_other hlt h38 h13, map_cons, if_pos (by rw [h10]; decide)]))
              have t9 : ((s[k].toNat : Int) == 9) = false := (byte_eq s k hlt 9).trans (decide_eq_false h9)
              have t10 : ((s[k].toNat : Int) == 10) = true := (byte_eq s k hlt 10).trans (decide_eq_true h10)
              clear h38 h13 h9 h10 HU
              have hbB : Below w.heap.size w wr := hb
              go_wp2_with (at_builtin; refine wpList_append_sl _ rfl (.tmp 66) (.tmp 68) _ rfl w.heap.size 5 i0 _ 1 1 Tryz.underlying52 hi hz0 hz1 hz2 rfl (by omega) _ out.length (cellsB out) rfl (hown.alloc _) (some ⟨wr.heap.size, 0, none⟩) 1 1 [.int .u8 ((32 : UInt8).toNat : Int)] rfl (Sl.lit wr 1 [.int .u8 ((32 : UInt8).toNat : Int)] _ 1 rfl) (cellsB_one [(32 : UInt8)]) (by simp only [maxLen]; omega) (by omega) (hb.alloc hb.size _).size ?_; intro v4 w4 hown4 hg4 hat4)
              have hb4 : Below w.heap.size w w4 := (hb.alloc hb.size _).grown hg4 (hb.alloc hb.size _).size (fun g hg => (hown.lt g hg).1)
              clear hg4 hat4 hown
              go_roundw
              case rel => exact ⟨k + 1, f, out ++ [(32 : UInt8)], by omega, by go_num, by omega, by simp; omega, by simpa [cellsB_append, cellsB] using hown4, HS, hb4⟩
              case measure => simp [intOf]; omega
            · have HS := Lib.hid (HU.out.trans (by rw [un_other hlt h38 h13, map_cons, if_neg (by simp [h9, h10])]))
              have t9 : ((s[k].toNat : Int) == 9) = false := (byte_eq s k hlt 9).trans (decide_eq_false h9)
              have t10 : ((s[k].toNat : Int) == 10) = false := (byte_eq s k hlt 10).trans (decide_eq_false h10)
              clear h38 h13 h9 h10 HU
              have hbB : Below w.heap.size w wr := hb
              go_wp2_with (at_builtin; refine wpList_append_sl _ rfl (.tmp 66) (.tmp 68) _ rfl w.heap.size 5 i0 _ 1 1 Tryz.underlying52 hi hz0 hz1 hz2 rfl (by omega) _ out.length (cellsB out) rfl (hown.alloc _) (some ⟨wr.heap.size, 0, none⟩) 1 1 [.int .u8 (s[k].toNat : Int)] rfl (Sl.lit wr 1 [.int .u8 (s[k].toNat : Int)] _ 1 rfl) (cellsB_one [s[k]]) (by simp only [maxLen]; omega) (by omega) (hb.alloc hb.size _).size ?_; intro v4 w4 hown4 hg4 hat4)
              have hb4 : Below w.heap.size w w4 := (hb.alloc hb.size _).grown hg4 (hb.alloc hb.size _).size (fun g hg => (hown.lt g hg).1)
              clear hg4 hat4 hown
              go_roundw
              case rel => exact ⟨k + 1, f, out ++ [s[k]], by omega, by go_num, by omega, by simp; omega, by simpa [cellsB_append, cellsB] using hown4, HS, hb4⟩
              case measure => simp [intOf]; omega
    · have HE : Hid (unL true (s.size + 1) s.data.toList 0 = .ok out) := Lib.hid (by
        rw [HU.out, un_end (by omega)]; simp [Except.map])
      obtain ⟨r1, r2, r3⟩ : x0 = ⟨out.toArray⟩ ∧ p0 = 0 ∧ e0 = 0 := by
        have := HR.out.symm.trans (unB_ok HE.out)
        simpa using this
      clear HU HE HR
      subst r1 r2 r3
      by_cases ho : out = []
      · subst ho
        rcases hown.2 with ⟨rfl, _⟩ | ⟨g, cap, cur, rfl, _⟩
        · have hconv := run_text_none wr
          go_wp2
          go_ret3
          exact ⟨rfl, hb⟩
        · have hconv := run_text_empty wr g cap
          go_wp2
          go_ret3
          exact ⟨rfl, hb⟩
      · have hconv := run_text_own out hown ho
        clear ho
        go_wp2
        go_ret3
        exact ⟨rfl, hb⟩

theorem runescape_any (s : ByteArray) (attr : Bool) (w : World) (hs : s.size ≤ 1000000000) :
    Calls Tryz.prog 10 #[.string s, .bool attr] w fun e w' => e = .returned (.tuple #[.string (unB s attr).1, .int .i64 (unB s attr).2.1, .int .i64 (unB s attr).2.2]) ∧ Below w.heap.size w w' := by
  cases attr
  · exact unescape_false s w hs
  · exact unescape_true s w hs
end Go.Proofs.YtohhdjkoomfioaaGreatDoor
