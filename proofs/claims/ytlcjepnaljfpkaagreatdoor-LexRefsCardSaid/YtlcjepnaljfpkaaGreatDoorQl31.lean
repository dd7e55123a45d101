/- LxHex ShelfC. -/
import Derived.Laws.BytesArg
import Derived.Laws.Bits64b
import Derived.Lib.TrailingZeros
import Derived.Deep.Cut
import Derived.Shelf.Strconv.Itoa0
import Derived.Shelf.Strconv.Itoa1
import Derived.Shelf.LaysM
import Derived.Shelf.Strconv.Itoa2
import Derived.Shelf.Strconv.Itoa3
import Derived.Test.YtlcjepnaljfpkaaGreatDoorProg
import Derived.Test.YtlcjepnaljfpkaaGreatDoorQl8
import Derived.Test.YtlcjepnaljfpkaaGreatDoorQl30
namespace Go.Proofs.YtlcjepnaljfpkaaGreatDoor
open Go.RowKit Wb
theorem dig_at : ∀ d : Fin 16, (ByteArray.mk #[48, 49, 50, 51, 52, 53, 54, 55, 56, 57, 97, 98, 99, 100, 101, 102, 103, 104, 105, 106, 107, 108, 109, 110, 111, 112, 113, 114, 115, 116, 117, 118, 119, 120, 121, 122])[d.val]'(by have := d.isLt; show d.val < 36; omega) = hexDig d.val := by decide +kernel
theorem run_text_off (w : World) (b o n c : Nat) (ns : List Int) (hn : ns.length = n)
    (hc : ∀ j v, (ns.map (Value.int .u8))[j]? = some v → w.cell? ⟨b, o + j, none⟩ = some v) :
    (convert 69 9 (.slice (some ⟨b, o, none⟩) n c)).run Tryz.prog w = .ok (.string ⟨(ns.map b8).toArray⟩) w := by
  rw [run_convert_bytes_string w _ _ _ _ n c Tryz.underlying69 Tryz.underlying5 Tryz.underlying9]
  have hl := run_loadCells_list (P := Tryz.prog) (w := w) ⟨b, o, none⟩ (ns.map (Value.int .u8)) (by
    intro j v h
    have h2 := hc j v h
    unfold Addr.add
    split
    · subst_vars
      simpa using h2
    · exact h2)
  rw [List.length_map, hn] at hl
  rw [run_bytesToString w _ n c ns hl, push_all]
  simp
def Tz (w : World) : Prop := w.cell? ⟨5, 15, none⟩ = some (.int .u8 4)
theorem tz64_16 (w : World) (h : Tz w) : Calls Tryz.prog 115 #[.int .u64 16] w fun e w' => e = .returned (.int .i64 4) ∧ w' = w := by
  have key : IntKind.u64.wrap (bits BinOp.and IntKind.u64 16 (IntKind.u64.wrap (-16)) * 285870213051353865) / 288230376151711744 = 15 := by decide
  unfold Tz at h
  go_enter Tryz.func115, Tryz.ntmps115
  go_wp2_with (simp only [key])
  go_ret
  exact ⟨rfl, rfl⟩
theorem tz16 (w : World) (h : Tz w) : Calls Tryz.prog 79 #[.int .u64 16] w fun e w' => e = .returned (.int .i64 4) ∧ w' = w := by
  have h1 := tz64_16 w h
  go_enter Tryz.func79, Tryz.ntmps79
  go_wp2_with fail
  refine h1.mono ?_
  rintro e w2 ⟨rfl, rfl⟩
  go_wp2
  go_ret
  exact ⟨rfl, rfl⟩
theorem pow16 (w : World) : Calls Tryz.prog 78 #[.int .i64 16] w fun e w' => e = .returned (.bool true) ∧ w' = w := by
  have key : bits BinOp.and IntKind.i64 16 15 = 0 := by decide
  go_enter Tryz.func78, Tryz.ntmps78
  go_wp2_with (simp only [key])
  go_ret
  exact ⟨rfl, rfl⟩
theorem and15 (v : Nat) (h : v < 18446744073709551616) : bits BinOp.and IntKind.u64 (v : Int) 15 = ((v % 16 : Nat) : Int) := by
  have h1 := bits_and_u64_nat v 15 h (by omega)
  rw [show (15 : Int) = ((15 : Nat) : Int) from rfl, h1]
  exact congrArg _ (Nat.and_two_pow_sub_one_eq_mod v 4)
set_option maxRecDepth 100000 in
set_option maxHeartbeats 4000000 in
theorem fbits_any (u : Nat) (hu : u < 4294967296) (w : World) (h : Tz w) :
    Calls Tryz.prog 44 #[.slice none 0 0, .int .u64 u, .int .i64 16, .bool false, .bool false] w fun e w' => e = .returned (.tuple #[.slice none 0 0, .string ⟨(hexDigits u).toArray⟩]) ∧ Below w.heap.size w w' := by
  have HTZ := Lib.hid h
  clear h
  go_enter Tryz.func44, Tryz.ntmps44
  go_upto_region 5 with fail
  have hz : (Tryz.zeroCells123).size = 65 := by kernel_rfl
  have HW := Lib.hid (heap_alloc_new w (.cells Tryz.zeroCells123 123))
  have HB := Lib.hid ((Below.refl w.heap.size w).alloc (Nat.le_refl _) (.cells Tryz.zeroCells123 123))
  have HZ := Lib.hid hz
  clear hz
  revert HW HB HZ
  generalize w.alloc (.cells Tryz.zeroCells123 123) = w1
  intro HW HB HZ
  have HTZ1 : Hid (Tz w1) := Lib.hid (by
    have h := HTZ.out
    unfold Tz at h ⊢
    exact (HB.out.cell (World.block_lt_of_cell? w _ h)).trans h)
  generalize hT : w.heap.size = T at *
  have HT := Lib.hid hT
  clear hT
  go_wp2_with fail
  refine (pow16 w1).mono ?_
  rintro e w2 ⟨rfl, rfl⟩
  go_wp2_with fail
  refine (tz16 w2 HTZ1.out).mono ?_
  rintro e w3 ⟨rfl, rfl⟩
  go_wp2
  go_loopw [1, 13] (fun vu vi wr => ∃ (v i k : Nat) (ds : List UInt8) (cs : Array Value), vu = .int .u64 v ∧ vi = .int .i64 i ∧ i + k = 65 ∧ k ≤ 8 ∧ Hid (v < 16 ^ (8 - k)) ∧ Hid (hexDigits u = hexDigits v ++ ds) ∧ Hid (ds.length = k) ∧ Hid (cs.size = 65) ∧ Hid (∀ j d, ds[j]? = some d → cs[i + j]? = some (.int .u8 (d.toNat : Int))) ∧ Hid (wr.heap[T]? = some (.cells cs 123 (0, 0))) ∧ Hid (Below T w wr)) (fun vu _ _ => (intOf vu).toNat)
  case atStart => exact ⟨u, 65, 0, [], _, rfl, rfl, by omega, by omega, Lib.hid (by omega), Lib.hid (by simp), Lib.hid rfl, HZ, Lib.hid (by simp), HW, HB⟩
  case round =>
    obtain ⟨v, i, k, ds, cs, rfl, rfl, hik, hk8, HV, HU, HDS, HCS, HD, HG, HBr⟩ := hrel
    by_cases h0 : 16 ≤ v
    · have h0i : (16 : Int) ≤ (v : Int) := by omega
      obtain ⟨i, rfl⟩ : ∃ m, i = m + 1 := ⟨i - 1, by omega⟩
      have hwr : IntKind.i64.wrap (((i + 1 : Nat) : Int) - 1) = (i : Int) := by rw [IntKind.wrap_i64]; omega
      have hv64 : v < 18446744073709551616 := by
        have h1 := HV.out
        have h2 : 16 ^ (8 - k) ≤ 16 ^ 8 := Nat.pow_le_pow_right (by omega) (by omega)
        omega
      have h15 := and15 v hv64
      obtain ⟨c0, hc0⟩ : ∃ c, cs[i]? = some c := ⟨cs[i]'(by rw [HCS.out]; omega), Array.getElem?_eq_getElem _⟩
      have n0 := (blk_cell HG.out i).trans hc0
      have f0 := blk_free HG.out i
      have hlt16 : v % 16 < 16 := by omega
      have hHX : Hid (hexDigits v = hexDigits (v / 16) ++ [hexDig (v % 16)]) := Lib.hid (by rw [hexDigits, dif_neg (by omega)])
      have HDV := Lib.hid (show ((v : Int) / 16) = ((v / 16 : Nat) : Int) by omega)
      clear hc0
      go_wp2
      go_roundw
      case rel =>
        have hset := blk_set HG.out i (.int .u8 ((hexDig (v % 16)).toNat : Int))
        have hdig : (ByteArray.mk #[48, 49, 50, 51, 52, 53, 54, 55, 56, 57, 97, 98, 99, 100, 101, 102, 103, 104, 105, 106, 107, 108, 109, 110, 111, 112, 113, 114, 115, 116, 117, 118, 119, 120, 121, 122])[v % 16]'(by show v % 16 < 36; omega) = hexDig (v % 16) := dig_at ⟨v % 16, hlt16⟩
        rw [hdig]
        refine ⟨v / 16, i, k + 1, hexDig (v % 16) :: ds, cs.setIfInBounds i (.int .u8 ((hexDig (v % 16)).toNat : Int)), by rw [HDV.out], rfl, by omega, ?_, Lib.hid ?_, Lib.hid (by rw [HU.out, hHX.out]; simp), Lib.hid (by simp [HDS.out]), Lib.hid (by simp [HCS.out]), Lib.hid (fun j d hj => ?_), Lib.hid hset, Lib.hid (HBr.out.setCell (Nat.le_refl _) _)⟩
        · have h1 := HV.out
          rcases Nat.lt_or_ge k 8 with h | h
          · omega
          · exfalso
            rw [show 8 - k = 0 from by omega] at h1
            omega
        · have h1 := HV.out
          have hk7 : k ≤ 7 := by
            rcases Nat.lt_or_ge k 8 with h | h
            · omega
            · exfalso
              rw [show 8 - k = 0 from by omega] at h1
              omega
          rw [show 8 - k = 8 - (k + 1) + 1 from by omega, Nat.pow_succ] at h1
          omega
        · have hsz := HCS.out
          cases j with
          | zero =>
            simp only [List.getElem?_cons_zero, Option.some.injEq] at hj
            subst hj
            rw [Nat.add_zero, Array.getElem?_setIfInBounds_self_of_lt (by omega)]
          | succ j =>
            rw [List.getElem?_cons_succ] at hj
            rw [Array.getElem?_setIfInBounds_ne (by omega), show i + (j + 1) = i + 1 + j from by omega]
            exact HD.out j d hj
      case measure => simp [intOf]; omega
    · have h0i : ¬ (16 : Int) ≤ (v : Int) := by omega
      obtain ⟨i, rfl⟩ : ∃ m, i = m + 1 := ⟨i - 1, by omega⟩
      have hwr : IntKind.i64.wrap (((i + 1 : Nat) : Int) - 1) = (i : Int) := by rw [IntKind.wrap_i64]; omega
      obtain ⟨c0, hc0⟩ : ∃ c, cs[i]? = some c := ⟨cs[i]'(by rw [HCS.out]; omega), Array.getElem?_eq_getElem _⟩
      have n0 := (blk_cell HG.out i).trans hc0
      have f0 := blk_free HG.out i
      have hv16 : v < 16 := by omega
      have hdig : (ByteArray.mk #[48, 49, 50, 51, 52, 53, 54, 55, 56, 57, 97, 98, 99, 100, 101, 102, 103, 104, 105, 106, 107, 108, 109, 110, 111, 112, 113, 114, 115, 116, 117, 118, 119, 120, 121, 122])[v]'(by show v < 36; omega) = hexDig v := dig_at ⟨v, hv16⟩
      have HHX : Hid (hexDigits u = hexDig v :: ds) := Lib.hid (by rw [HU.out, hexDigits, dif_pos hv16]; rfl)
      have hi0 : (0 : Int) ≤ (i : Int) := by omega
      have hi1 : (i : Int) < 65 := by omega
      have hi2 : (i : Int) ≤ 65 := by omega
      have hv36 : (v : Int) < 36 := by omega
      clear hc0
      go_upto_region 30 with fail
      have HG5 := Lib.hid (blk_set HG.out i (.int .u8 ((hexDig v).toNat : Int)))
      have HB5 : Hid (Below T w (wr.setCell ⟨T, i, none⟩ (.int .u8 ((hexDig v).toNat : Int)))) := Lib.hid (HBr.out.setCell (Nat.le_refl _) _)
      clear n0 f0 hdig HG HBr
      revert HG5 HB5
      generalize wr.setCell ⟨T, i, none⟩ (.int .u8 ((hexDig v).toNat : Int)) = w5
      intro HG5 HB5
      have hconv : ∀ c, (convert 69 9 (.slice (some ⟨T, i, none⟩) (65 - i) c)).run Tryz.prog w5 = .ok (.string ⟨(hexDigits u).toArray⟩) w5 := fun c => by
        rw [run_text_off w5 T i (65 - i) c ((hexDig v :: ds).map fun b => (b.toNat : Int)) (by have := HDS.out; simp; omega) (fun j x hj => ?_)]
        · rw [HHX.out, List.map_map, show (b8 ∘ fun b : UInt8 => (b.toNat : Int)) = id from funext b8_toNat, List.map_id]
        · rw [List.map_map] at hj
          have hsz := HCS.out
          rw [blk_cell HG5.out]
          cases j with
          | zero =>
            simp only [List.map_cons, List.getElem?_cons_zero, Option.some.injEq] at hj
            subst hj
            rw [Nat.add_zero, Array.getElem?_setIfInBounds_self_of_lt (by omega)]
            rfl
          | succ j =>
            rw [List.map_cons, List.getElem?_cons_succ, List.getElem?_map] at hj
            cases hd : ds[j]? with
            | none => rw [hd] at hj; cases hj
            | some d =>
              rw [hd] at hj
              simp only [Option.map_some, Option.some.injEq] at hj
              subst hj
              rw [Array.getElem?_setIfInBounds_ne (by omega), show i + (j + 1) = i + 1 + j from by omega]
              exact HD.out j d hd
      have HCV := Lib.hid hconv
      clear hconv
      have hconv := HCV.out (65 - i)
      go_wp2
      go_ret2
      exact ⟨rfl, by rw [HT.out]; exact HB5.out⟩
theorem ifmt_any (r : Nat) (hr : r < 4294967296) (w : World) (h : Tz w) :
    Calls Tryz.prog 21 #[.int .i64 r, .int .i64 16] w fun e w' => e = .returned (.string ⟨(hexDigits r).toArray⟩) ∧ Below w.heap.size w w' := by
  have hc := fbits_any r hr w h
  obtain ⟨S, hS⟩ : ∃ S : ByteArray, ByteArray.mk (hexDigits r).toArray = S := ⟨_, rfl⟩
  rw [hS] at hc ⊢
  have hn : ¬ (r : Int) < 0 := by omega
  have hwr : IntKind.u64.wrap (r : Int) = (r : Int) := by rw [IntKind.wrap_u64]; omega
  clear hS
  go_enter Tryz.func21, Tryz.ntmps21
  go_wp2_with fail
  refine hc.mono ?_
  rintro e w2 ⟨rfl, hb⟩
  have HB := Lib.hid hb
  clear hb hc
  go_wp2
  go_ret
  exact ⟨rfl, HB.out⟩
theorem fmt_any (r : Nat) (hr : r < 4294967296) (w : World) (h : Tz w) :
    Calls Tryz.prog 7 #[.int .i64 r, .int .i64 16] w fun e w' => e = .returned (.string ⟨(hexDigits r).toArray⟩) ∧ Below w.heap.size w w' := by
  have hc := ifmt_any r hr w h
  go_enter Tryz.func7, Tryz.ntmps7
  go_wp2_with fail
  refine hc.mono ?_
  rintro e w2 ⟨rfl, hb⟩
  go_wp2
  go_ret
  exact ⟨rfl, hb⟩
end Go.Proofs.YtlcjepnaljfpkaaGreatDoor
namespace Go.Proofs
open Go.Shelf
def Tryz.caysM171_ren : Go.Shelf.Ren := ⟨fun | 171 => 6 | 243 => 20 | 246 => 21 | 283 => 41 | 284 => 42 | 285 => 43 | 286 => 44 | 129 => 76 | 317 => 75 | 318 => 77 | 319 => 78 | 320 => 79 | 337 => 114 | 338 => 115 | n => n, fun | 3 => 3 | 9 => 9 | 2 => 2 | 4 => 4 | 171 => 84 | 0 => 0 | 53 => 85 | 37 => 69 | 5 => 5 | 173 => 88 | 212 => 121 | 51 => 122 | 20 => 20 | 213 => 123 | 46 => 63 | 232 => 175 | 233 => 176 | n => n, fun | 17 => 0 | 18 => 4 | 19 => 5 | n => n⟩
theorem Tryz.caysM171 : Go.Proofs.LaysM.n171 Tryz.prog Tryz.caysM171_ren := {
  mixed := by kernel_rfl
  f129 := Tryz.func76.trans (congrArg some (by kernel_rfl))
  f171 := Tryz.func6.trans (congrArg some (by kernel_rfl))
  f243 := Tryz.func20.trans (congrArg some (by kernel_rfl))
  f246 := Tryz.func21.trans (congrArg some (by kernel_rfl))
  f283 := Tryz.func41.trans (congrArg some (by kernel_rfl))
  f284 := Tryz.func42.trans (congrArg some (by kernel_rfl))
  f285 := Tryz.func43.trans (congrArg some (by kernel_rfl))
  f286 := Tryz.func44.trans (congrArg some (by kernel_rfl))
  f317 := Tryz.func75.trans (congrArg some (by kernel_rfl))
  f318 := Tryz.func77.trans (congrArg some (by kernel_rfl))
  f319 := Tryz.func78.trans (congrArg some (by kernel_rfl))
  f320 := Tryz.func79.trans (congrArg some (by kernel_rfl))
  f337 := Tryz.func114.trans (congrArg some (by kernel_rfl))
  f338 := Tryz.func115.trans (congrArg some (by kernel_rfl))
  t0 := Tryz.underlying0
  a0 := Tryz.isAgg0
  z0 := Tryz.sizeOf0
  v0 := Tryz.zeroValue0
  t2 := Tryz.underlying2
  a2 := Tryz.isAgg2
  z2 := Tryz.sizeOf2
  v2 := Tryz.zeroValue2
  t3 := Tryz.underlying3
  a3 := Tryz.isAgg3
  z3 := Tryz.sizeOf3
  v3 := Tryz.zeroValue3
  t4 := Tryz.underlying4
  a4 := Tryz.isAgg4
  z4 := Tryz.sizeOf4
  v4 := Tryz.zeroValue4
  t5 := Tryz.underlying5
  a5 := Tryz.isAgg5
  z5 := Tryz.sizeOf5
  v5 := Tryz.zeroValue5
  t9 := Tryz.underlying9
  a9 := Tryz.isAgg9
  z9 := Tryz.sizeOf9
  v9 := Tryz.zeroValue9
  t20 := Tryz.underlying20
  a20 := Tryz.isAgg20
  z20 := Tryz.sizeOf20
  v20 := Tryz.zeroValue20
  t37 := Tryz.underlying69
  a37 := Tryz.isAgg69
  z37 := Tryz.sizeOf69
  v37 := Tryz.zeroValue69
  t46 := Tryz.underlying63
  a46 := Tryz.isAgg63
  z46 := Tryz.sizeOf63
  v46 := Tryz.zeroValue63
  t51 := Tryz.underlying122
  a51 := Tryz.isAgg122
  z51 := Tryz.sizeOf122
  v51 := Tryz.zeroValue122
  t53 := Tryz.underlying85
  a53 := Tryz.isAgg85
  z53 := Tryz.sizeOf85
  v53 := Tryz.zeroValue85
  t171 := Tryz.underlying84
  a171 := Tryz.isAgg84
  z171 := Tryz.sizeOf84
  v171 := Tryz.zeroValue84
  t173 := Tryz.underlying88
  a173 := Tryz.isAgg88
  z173 := Tryz.sizeOf88
  v173 := Tryz.zeroValue88
  t212 := Tryz.underlying121
  a212 := Tryz.isAgg121
  z212 := Tryz.sizeOf121
  v212 := Tryz.zeroValue121
  t213 := Tryz.underlying123
  a213 := Tryz.isAgg123
  z213 := Tryz.sizeOf123
  t232 := Tryz.underlying175
  a232 := Tryz.isAgg175
  z232 := Tryz.sizeOf175
  v232 := Tryz.zeroValue175
  t233 := Tryz.underlying176
  a233 := Tryz.isAgg176
  z233 := Tryz.sizeOf176
  v233 := Tryz.zeroValue176
  g17 := by kernel_rfl
  g18 := by kernel_rfl
  g19 := by kernel_rfl
  i0 := by kernel_rfl
  i2 := by kernel_rfl
  i3 := by kernel_rfl
  i4 := by kernel_rfl
  i5 := by kernel_rfl
  i9 := by kernel_rfl
  i20 := by kernel_rfl
  i37 := by kernel_rfl
  i46 := by kernel_rfl
  i51 := by kernel_rfl
  i53 := by kernel_rfl
  i171 := by kernel_rfl
  i173 := by kernel_rfl
  i212 := by kernel_rfl
  i232 := by kernel_rfl
  i233 := by kernel_rfl
  m17 := by kernel_rfl
  m18 := by kernel_rfl
  m19 := by kernel_rfl }
open Go.RowKit Go.Sort Go.Lib in
theorem Tryz.strconv_Itoa (n : Int) (h0 : -9223372036854775808 ≤ n) (h1 : n ≤ 9223372036854775807) (w : World) (htab : Lib.TabIs Tryz.prog w "internal/strconv.uint64pow10" .u64 Lib.pow10Tab) :
    Calls Tryz.prog 6 #[.int .i64 n] w fun e w' => e = .returned (.string ⟨(Lib.itoa n).toArray⟩) ∧ ∃ k os, w' = grow (w.drewN k) os := Any.strconv_Itoa Tryz.caysM171 n h0 h1 w htab
end Go.Proofs
