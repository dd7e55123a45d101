/- LfW LfX. -/
import Derived.Lib.AppendIntMem
import Derived.Lib.SmallJoins
import Derived.Deep.Cut
import Derived.Deep.DeepCutAuto
import Derived.Test.YtlcjepnaljfpkaaGreatDoorQl4
import Derived.Test.YtlcjepnaljfpkaaGreatDoorQl13
import Derived.Test.YtlcjepnaljfpkaaGreatDoorQl30
import Derived.Test.YtlcjepnaljfpkaaGreatDoorQl31
namespace Wb
open Go
theorem itoa_nat (n : Nat) : Lib.itoa (n : Int) = Lib.decDigits n := by
  unfold Lib.itoa
  rw [if_neg (by omega)]
  simp
theorem dec_len : ∀ (k u : Nat), u < 10 ^ (k + 1) → (Lib.decDigits u).length ≤ k + 1
  | 0, u, h => by
    rw [Lib.decDigits, dif_pos (by omega)]
    simp
  | k + 1, u, h => by
    rw [Lib.decDigits]
    by_cases hu : u < 10
    · rw [dif_pos hu]; simp
    · rw [dif_neg hu, List.length_append]
      rw [Nat.pow_succ] at h
      have := dec_len k (u / 10) (by omega)
      simp; omega
theorem hex_len : ∀ (k u : Nat), u < 16 ^ (k + 1) → (hexDigits u).length ≤ k + 1
  | 0, u, h => by
    rw [hexDigits, dif_pos (by omega)]
    simp
  | k + 1, u, h => by
    rw [hexDigits]
    by_cases hu : u < 16
    · rw [dif_pos hu]; simp
    · rw [dif_neg hu, List.length_append]
      rw [Nat.pow_succ] at h
      have := hex_len k (u / 16) (by omega)
      simp; omega
end Wb
namespace Go.Proofs.YtlcjepnaljfpkaaGreatDoor
open Go.RowKit Wb
theorem unB_ref {s : ByteArray} {attr : Bool} {n : Nat} (h : ∀ f, unL attr (f + 2) s.data.toList 0 = if charB n then .ok (enc n) else .error 0) (hs : 1 ≤ s.size) :
    unB s attr = if charB n = true then (⟨(enc n).toArray⟩, 0, 0) else (⟨#[]⟩, 0, 16) := by
  have h2 := h (s.size - 1)
  rw [show s.size - 1 + 2 = s.size + 1 from by omega] at h2
  by_cases hc : charB n = true
  · rw [if_pos hc] at h2 ⊢
    exact unB_ok h2
  · rw [if_neg hc] at h2 ⊢
    exact unB_bad h2
structure Gx (w : World) : Prop where
  gv : Gv w
  tab : Lib.TabIs Tryz.prog w "internal/strconv.uint64pow10" .u64 Lib.pow10Tab
  tz : Tz w
theorem Gx.next {w w' : World} (h : Gx w) (hb : Below w.heap.size w w') : Gx w' :=
  ⟨h.gv.next hb, Go.Joins.var_stays (g := 0) (by kernel_rfl) h.tab hb (Nat.le_refl _), by
    have h1 := h.tz
    unfold Tz at h1 ⊢
    exact (hb.cell (World.block_lt_of_cell? w _ h1)).trans h1⟩
theorem named5 : unB ⟨#[38, 108, 116, 59, 38, 103, 116, 59, 38, 97, 109, 112, 59, 38, 113, 117, 111, 116, 59, 38, 97, 112, 111, 115, 59]⟩ true = (⟨#[60, 62, 38, 34, 39]⟩, 0, 0) := by kernel_rfl
set_option maxRecDepth 100000 in
set_option maxHeartbeats 4000000 in
theorem refs_walk (r : Int) (z : Int) (w : World) (hG : Gx w) (hr : -2147483648 ≤ r ∧ r ≤ 2147483647) (hz : 0 ≤ z ∧ z ≤ 255) :
    Calls Tryz.prog 3 #[.int .i32 r, .int .u8 z] w fun e w' => e = .returned (.bool true) ∧ Below w.heap.size w w' := by
  have h1 := awake_any w hG.gv
  have HG := Lib.hid hG
  clear hG
  go_enter Tryz.func3, Tryz.ntmps3
  go_wp2_with fail
  refine h1.mono ?_
  rintro e w2 ⟨rfl, hb2⟩
  have HB2 := Lib.hid hb2
  have HG2 := Lib.hid (HG.out.next hb2)
  clear h1 hb2
  by_cases h0 : r < 0
  · go_wp2
    go_ret
    exact ⟨rfl, HB2.out⟩
  obtain ⟨n, rfl⟩ : ∃ n : Nat, r = (n : Int) := ⟨r.toNat, by omega⟩
  obtain ⟨z, rfl⟩ : ∃ m : Nat, z = (m : Int) := ⟨z.toNat, by omega⟩
  have hn : n < 2147483648 := by omega
  have HN := Lib.hid hn
  obtain ⟨m, hm⟩ : ∃ m, z % 9 = m := ⟨_, rfl⟩
  have hzm : IntKind.i64.wrap ((z : Int) % 9) = (m : Int) := by rw [IntKind.wrap_i64]; omega
  have HZ9 : Hid (m < 9) := Lib.hid (by omega)
  clear hm
  clear h0 hr hz hn
  go_upto_region 7 with fail
  go_loopw [5, 6] (fun vp vi wr => ∃ (i : Nat) (P : ByteArray), i ≤ m ∧ vp = .string P ∧ vi = .int .i64 i ∧ Hid (P.data.toList = List.replicate i 48) ∧ Hid (P.size = i) ∧ wr = w2) (fun _ vi _ => ((m : Int) - intOf vi).toNat)
  case atStart => exact ⟨0, _, by omega, rfl, rfl, Lib.hid rfl, Lib.hid rfl, rfl⟩
  case round =>
    obtain ⟨i, P, hi, rfl, rfl, HP, HPS, rfl⟩ := hrel
    by_cases h1 : i < m
    · have hi1 : (i : Int) < (m : Int) := by omega
      have hwr : IntKind.i64.wrap ((i : Int) + 1) = (i : Int) + 1 := by have := HZ9.out; rw [IntKind.wrap_i64]; omega
      have hs1 : ¬ 9223372036854775807 < P.size + 1 := by have := HPS.out; have := HZ9.out; omega
      go_wp2
      go_roundw
      case rel => exact ⟨i + 1, _, by omega, rfl, by go_num, Lib.hid (by simp [ByteArray.data_append, HP.out, List.replicate_succ']), Lib.hid (by rw [ByteArray.size_append, HPS.out]; rfl), trivial⟩
      case measure => simp [intOf]; omega
    · have hi1 : ¬ (i : Int) < (m : Int) := by omega
      have hi9 : i < 9 := by have := HZ9.out; omega
      have hPs : P.size < 9 := by have := HPS.out; omega
      clear hi h1 hi9
      go_upto_region 10 with fail
      obtain ⟨D, hD⟩ : ∃ D : ByteArray, ByteArray.mk (Lib.itoa (n : Int)).toArray = D := ⟨_, rfl⟩
      obtain ⟨X, hX⟩ : ∃ X : ByteArray, ByteArray.mk (hexDigits n).toArray = X := ⟨_, rfl⟩
      have HDL : Hid (D.data.toList = Lib.decDigits n) := Lib.hid (by rw [← hD, itoa_nat])
      have HXL : Hid (X.data.toList = hexDigits n) := Lib.hid (by rw [← hX])
      have hit := Tryz.strconv_Itoa (n : Int) (by omega) (by have := HN.out; omega) wr HG2.out.tab
      have hfm := fun (v : World) (hg : Gx v) => fmt_any n (by have := HN.out; omega) v hg.tz
      rw [hD] at hit
      rw [hX] at hfm
      have hDs : D.size ≤ 1000 := by
        have h1 := dec_len 9 n (by have := HN.out; omega)
        have h2 := congrArg List.length HDL.out
        have h3 : D.data.toList.length = D.size := by simp
        omega
      have hXs : X.size ≤ 1000 := by
        have h1 := hex_len 7 n (by have := HN.out; omega)
        have h2 := congrArg List.length HXL.out
        have h3 : X.data.toList.length = X.size := by simp
        omega
      have HFM := Lib.hid hfm
      have hwn : IntKind.i64.wrap (n : Int) = (n : Int) := by have := HN.out; rw [IntKind.wrap_i64]; omega
      clear hfm hD hX hi1
      have y1 : ¬ 9223372036854775807 < 2 + P.size := by omega
      have y2 : ¬ 9223372036854775807 < 2 + P.size + D.size := by omega
      have y3 : ¬ 9223372036854775807 < 2 + P.size + D.size + 1 := by omega
      have y4 : ¬ 9223372036854775807 < 3 + P.size := by omega
      have y5 : ¬ 9223372036854775807 < 3 + P.size + X.size := by omega
      have y6 : ¬ 9223372036854775807 < 3 + P.size + X.size + 1 := by omega
      go_wp2_with fail
      refine hit.mono ?_
      rintro e w5 ⟨rfl, k5, os5, hw5⟩
      have hb5 : Below wr.heap.size wr w5 := by rw [hw5]; exact Lib.below_grow _ wr (Nat.le_refl _) k5 os5
      have HB5 := Lib.hid hb5
      have HG5 := Lib.hid (HG2.out.next hb5)
      clear hb5 hw5 hit
      go_wp2_with fail
      refine (HFM.out w5 HG5.out).mono ?_
      rintro e w6 ⟨rfl, hb⟩
      have HB6 := Lib.hid (HB5.out.trans (hb.mono HB5.out.size))
      have HG6 := Lib.hid (HG5.out.next hb)
      clear hb HB5 HG5
      go_wp2_with fail
      refine (HFM.out w6 HG6.out).mono ?_
      rintro e w7 ⟨rfl, hb⟩
      have HB7 := Lib.hid (HB6.out.trans (hb.mono HB6.out.size))
      have HG7 := Lib.hid (HG6.out.next hb)
      clear hb HB6 HG6 HFM
      have HPs := Lib.hid hPs
      have HDs := Lib.hid hDs
      have HXs := Lib.hid hXs
      clear hPs hDs hXs
      go_upto_region 11 with fail
      clear y1 y2 y3 y4 y5 y6
      obtain ⟨F0, hF0⟩ : ∃ F : ByteArray, (ByteArray.mk #[38, 35]) ++ P ++ D ++ (ByteArray.mk #[59]) = F := ⟨_, rfl⟩
      obtain ⟨F1, hF1⟩ : ∃ F : ByteArray, (ByteArray.mk #[38, 35, 120]) ++ P ++ X ++ (ByteArray.mk #[59]) = F := ⟨_, rfl⟩
      have hs0 : F0.size ≤ 10000 ∧ 1 ≤ F0.size := by
        rw [← hF0, ByteArray.size_append, ByteArray.size_append, ByteArray.size_append]
        show 2 + P.size + D.size + 1 ≤ _ ∧ 1 ≤ 2 + P.size + D.size + 1
        have := HPs.out; have := HDs.out; omega
      have hs1 : F1.size ≤ 10000 ∧ 1 ≤ F1.size := by
        rw [← hF1, ByteArray.size_append, ByteArray.size_append, ByteArray.size_append]
        show 3 + P.size + X.size + 1 ≤ _ ∧ 1 ≤ 3 + P.size + X.size + 1
        have := HPs.out; have := HXs.out; omega
      have hu0 : ∀ attr, unB F0 attr = if charB n = true then (⟨(enc n).toArray⟩, 0, 0) else (⟨#[]⟩, 0, 16) := fun attr => unB_ref (fun f => by
        rw [show F0.data.toList = 38 :: ((35 :: (List.replicate i 48 ++ Lib.decDigits n)) ++ [59]) from by rw [← hF0]; simp [ByteArray.data_append, HP.out, HDL.out]]
        exact ref_dec attr i n f) hs0.2
      have hu1 : ∀ attr, unB F1 attr = if charB n = true then (⟨(enc n).toArray⟩, 0, 0) else (⟨#[]⟩, 0, 16) := fun attr => unB_ref (fun f => by
        rw [show F1.data.toList = 38 :: ((35 :: 120 :: (List.replicate i 48 ++ hexDigits n)) ++ [59]) from by rw [← hF1]; simp [ByteArray.data_append, HP.out, HXL.out]]
        exact ref_hex attr i n f) hs1.2
      rw [hF0, hF1]
      obtain ⟨E, hE⟩ : ∃ E : ByteArray, ByteArray.mk (enc (n : Int)).toArray = E := ⟨_, rfl⟩
      rw [hE] at hu0 hu1
      have hfm : ∀ j : Nat, j < 3 → ∃ G : ByteArray, #[Value.string F0, Value.string F1, Value.string F1][j]? = some (.string G) ∧ G.size ≤ 10000 ∧ ∀ attr, unB G attr = if charB n = true then (E, 0, 0) else (⟨#[]⟩, 0, 16) := by
        intro j hj
        rcases (by omega : j = 0 ∨ j = 1 ∨ j = 2) with rfl | rfl | rfl
        · exact ⟨F0, rfl, hs0.1, hu0⟩
        · exact ⟨F1, rfl, hs1.1, hu1⟩
        · exact ⟨F1, rfl, hs1.1, hu1⟩
      have HFM := Lib.hid hfm
      have hput := fun v => put_any (n : Int) v
      have hchr := fun v => char_any (n : Int) v
      rw [hE] at hput
      have HPUT := Lib.hid hput
      have HCHR := Lib.hid hchr
      have HA := Lib.hid (heap_alloc_new w7 (.cells #[.string F0, .string F1, .string F1] 25))
      have HBA := Lib.hid (HB7.out.alloc HB7.out.size (.cells #[.string F0, .string F1, .string F1] 25))
      have HGA := Lib.hid (HG7.out.next ((Below.refl w7.heap.size w7).alloc (Nat.le_refl _) (.cells #[.string F0, .string F1, .string F1] 25)))
      clear hF0 hF1 hs0 hs1 hu0 hu1 hE hfm hput hchr HB7 HG7
      revert HA HBA HGA
      generalize w7.alloc (.cells #[.string F0, .string F1, .string F1] 25) = wf
      intro HA HBA HGA
      generalize w7.heap.size = A at *
      go_wp2
      go_loopw [8] (fun vj wq => ∃ j : Nat, j ≤ 3 ∧ vj = .int .i64 j ∧ Hid (Below wf.heap.size wf wq)) (fun vj _ => (3 - intOf vj).toNat)
      case atStart => exact ⟨0, by omega, rfl, Lib.hid (Below.refl _ _)⟩
      case round =>
        obtain ⟨j, hj, rfl, HBj⟩ := hrel
        have HGj := Lib.hid (HGA.out.next HBj.out)
        by_cases hj3 : j < 3
        · obtain ⟨G, hG, hGs, hGu⟩ := HFM.out j hj3
          have c0 : wr.cell? ⟨A, j, none⟩ = some (.string G) := (blk_cell (still_block HA.out HBj.out) j).trans hG
          have hun := Unescape_any G ((j : Int) == 1) wr HGj.out.gv (by omega)
          rw [hGu] at hun
          have hj1 : (j : Int) < 3 := by omega
          have hj0 : (0 : Int) ≤ (j : Int) := by omega
          have hwr : IntKind.i64.wrap ((j : Int) + 1) = (j : Int) + 1 := by rw [IntKind.wrap_i64]; omega
          have hee : (E.toList == E.toList) = true := by simp
          clear hG hGs hGu
          by_cases hc : charB (n : Int) = true
          · rw [if_pos hc] at hun
            have hch := HCHR.out
            rw [hc] at hch
            have HCH := Lib.hid hch
            clear hc hch
            go_wp2_with fail
            refine hun.mono ?_
            rintro e wa ⟨rfl, hba⟩
            have HBa := Lib.hid (HBj.out.trans (hba.mono HBj.out.size))
            clear hba hun c0
            go_wp2_with fail
            refine (HCH.out wa).mono ?_
            rintro e wb ⟨rfl, hbb⟩
            have HBb := Lib.hid (HBa.out.trans (hbb.mono HBa.out.size))
            clear hbb
            go_wp2_with fail
            refine (HPUT.out wb).mono ?_
            rintro e wd ⟨rfl, hbd⟩
            have HBd := Lib.hid (HBb.out.trans (hbd.mono HBb.out.size))
            clear hbd
            go_wp2
            go_roundw
            case rel => exact ⟨j + 1, by omega, by go_num, HBd⟩
            case measure => simp [intOf]; omega
          · rw [if_neg hc] at hun
            have hcf : charB (n : Int) = false := by simpa using hc
            have hch := HCHR.out
            rw [hcf] at hch
            have HCH := Lib.hid hch
            clear hc hch hcf
            go_wp2_with fail
            refine hun.mono ?_
            rintro e wa ⟨rfl, hba⟩
            have HBa := Lib.hid (HBj.out.trans (hba.mono HBj.out.size))
            clear hba hun c0
            go_wp2_with fail
            refine (HCH.out wa).mono ?_
            rintro e wb ⟨rfl, hbb⟩
            have HBb := Lib.hid (HBa.out.trans (hbb.mono HBa.out.size))
            clear hbb
            go_wp2
            go_roundw
            case rel => exact ⟨j + 1, by omega, by go_num, HBb⟩
            case measure => simp [intOf]; omega
        · have hj1 : ¬ (j : Int) < 3 := by omega
          have hun := Unescape_any ⟨#[38, 108, 116, 59, 38, 103, 116, 59, 38, 97, 109, 112, 59, 38, 113, 117, 111, 116, 59, 38, 97, 112, 111, 115, 59]⟩ true wr HGj.out.gv (by decide)
          rw [named5] at hun
          go_wp2_with fail
          refine hun.mono ?_
          rintro e wa ⟨rfl, hba⟩
          have HBa := Lib.hid (HBj.out.trans (hba.mono HBj.out.size))
          clear hba hun
          go_wp2
          go_ret
          exact ⟨rfl, HB2.out.trans ((HBA.out.trans (HBa.out.mono HBA.out.size)).mono HB2.out.size)⟩
end Go.Proofs.YtlcjepnaljfpkaaGreatDoor
namespace Go.Proofs.YtlcjepnaljfpkaaGreatDoor
open Go.ChangeShapes Go.WideShapes Go.ChangeAt Go.RowKit Wb
theorem pow_data : (Rows.laid_internal_strconv_uint64pow10 : DataW Unit) = Lib.tabData .u64 Lib.pow10Tab := by kernel_rfl
def bruijnZ : List Int := List.map Int.ofNat Lib.deBruijn64tab
theorem bru_data : (Rows.laid_math_bits_deBruijn64tab : DataW Unit) = Lib.tabData .u8 bruijnZ := by kernel_rfl
set_option maxRecDepth 1000000 in
theorem gx_of {W : World} (hL : laidMetH Tryz.prog Rows.lexRefsRow.laid W) (hsh : W.ShapedOpen Tryz.prog) : Gx W := by
  have hgv := gv_of hL hsh
  rw [MakeChecks.laidMetH_plain _ _ _ (by kernel_rfl)] at hL
  have r1 : Lib.VarReads Tryz.prog W "internal/strconv.uint64pow10" Rows.laid_internal_strconv_uint64pow10 := Lib.laidMet.reads hL (by simp [Rows.lexRefsRow])
  have r2 : Lib.VarReads Tryz.prog W "math/bits.deBruijn64tab" Rows.laid_math_bits_deBruijn64tab := Lib.laidMet.reads hL (by simp [Rows.lexRefsRow])
  obtain ⟨g1, t1, cs1, f1, p1, hg1, ht1, hv1, hd1⟩ := r1
  obtain rfl := Option.some.inj ((show Tryz.prog.globalNamed "internal/strconv.uint64pow10" = some 0 by kernel_rfl).symm.trans hg1)
  obtain rfl := Option.some.inj ((show (Tryz.prog.globals[0]?).map (·.type) = some 121 by kernel_rfl).symm.trans ht1)
  rw [pow_data] at hd1
  have hc1 := Lib.cells_of_tab (n := 20) Tryz.underlying121 Tryz.underlying85 (by kernel_rfl) (by kernel_rfl) hd1
  obtain ⟨g2, t2, cs2, f2, p2, hg2, ht2, hv2, hd2⟩ := r2
  obtain rfl := Option.some.inj ((show Tryz.prog.globalNamed "math/bits.deBruijn64tab" = some 5 by kernel_rfl).symm.trans hg2)
  obtain rfl := Option.some.inj ((show (Tryz.prog.globals[5]?).map (·.type) = some 176 by kernel_rfl).symm.trans ht2)
  rw [bru_data] at hd2
  have hc2 := Lib.cells_of_tab (n := 64) Tryz.underlying176 Tryz.underlying5 (by kernel_rfl) (by kernel_rfl) hd2
  refine ⟨hgv, ?_, ?_⟩
  · unfold Lib.TabIs
    rw [hv1, ← hc1]
  · unfold Tz
    rw [World.var?_cell hg2 hv2 15, ← Array.getElem?_toList, hc2]
    kernel_rfl
end Go.Proofs.YtlcjepnaljfpkaaGreatDoor
