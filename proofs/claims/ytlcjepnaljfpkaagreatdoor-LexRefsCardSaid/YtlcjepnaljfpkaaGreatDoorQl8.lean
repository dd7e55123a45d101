/- LePu LePv. -/
import Derived.Lib.ConvBytes
import Derived.Lib.AtoiErrMem
import Derived.Laws.Strings3
import Derived.Laws.Closers25
import Derived.Laws.Closers25b
import Derived.BigCall
import Derived.BigGuard
import Derived.Test.YtlcjepnaljfpkaaGreatDoorQl3
import Derived.Test.YtlcjepnaljfpkaaGreatDoorQl5
import Derived.Test.YtlcjepnaljfpkaaGreatDoorQl6
import Derived.Test.YtlcjepnaljfpkaaGreatDoorQl7
namespace Go.Proofs.YtlcjepnaljfpkaaGreatDoor
open Go.RowKit Wb
theorem digL_ge (base : Int) (hb : 1 ≤ base) : ∀ (l : List UInt8) (n m : Int), 0 ≤ n → digL base n l = some m → n ≤ m
  | [], n, m, _, h => by simp [digL] at h; omega
  | c :: l, n, m, h0, h => by
    unfold digL at h
    split at h
    · cases h
    · have hd := digV_nn c.toNat
      have h1 : n * 1 ≤ n * base := Int.mul_le_mul_of_nonneg_left hb h0
      have := digL_ge base hb l _ m (by omega) h
      omega
def puX (base : Int) (l : List UInt8) : Option Int :=
  match numL base l with
  | some n => if n ≤ 2147483647 then some n else none
  | none => none
theorem puX_go {base : Int} {l : List UInt8} (hl : l ≠ []) : puX base l = match digL base 0 l with | some n => if n ≤ 2147483647 then some n else none | none => none := by
  unfold puX numL; rw [if_neg hl]
def dec31 (o : Option Int) : Option Int := match o with | some n => if n ≤ 2147483647 then some n else none | none => none
theorem or32_all : ∀ n : Fin 256, (97 ≤ bits .or .u8 (n.val : Int) 32 ∧ bits .or .u8 (n.val : Int) 32 ≤ 122 → lowB n.val = bits .or .u8 (n.val : Int) 32) ∧
    (¬ (97 ≤ bits .or .u8 (n.val : Int) 32 ∧ bits .or .u8 (n.val : Int) 32 ≤ 122) → ¬ (48 ≤ (n.val : Int) ∧ (n.val : Int) ≤ 57) → digV n.val = 99) := by
  decide +kernel
theorem or32_yes {c : UInt8} (h1 : 97 ≤ bits .or .u8 (c.toNat : Int) 32) (h2 : bits .or .u8 (c.toNat : Int) 32 ≤ 122) : lowB c.toNat = bits .or .u8 (c.toNat : Int) 32 :=
  (or32_all ⟨c.toNat, c.toNat_lt⟩).1 ⟨h1, h2⟩
theorem or32_no {c : UInt8} (h : ¬ (97 ≤ bits .or .u8 (c.toNat : Int) 32 ∧ bits .or .u8 (c.toNat : Int) 32 ≤ 122)) (hd : ¬ (48 ≤ (c.toNat : Int) ∧ (c.toNat : Int) ≤ 57)) : digV c.toNat = 99 :=
  (or32_all ⟨c.toNat, c.toNat_lt⟩).2 h hd
theorem digV_dec {c : UInt8} (h : 48 ≤ (c.toNat : Int) ∧ (c.toNat : Int) ≤ 57) : digV c.toNat = (c.toNat : Int) - 48 := by
  have e : lowB c.toNat = c.toNat := by unfold lowB; rw [if_neg (by omega)]
  unfold digV
  rw [e, if_pos h]
theorem digV_let {v : Int} {c : UInt8} (h : lowB c.toNat = v) (h1 : 97 ≤ v) (h2 : v ≤ 122) : (v ≤ 102 → digV c.toNat = v - 87) ∧ (102 < v → digV c.toNat = 99) := by
  unfold digV
  rw [h, if_neg (by omega)]
  constructor
  · intro h3; rw [if_pos ⟨h1, h3⟩]
  · intro h3; rw [if_neg (by omega)]
theorem digL_step {base a : Int} {c : UInt8} {l : List UInt8} {d : Int} (hd : digV c.toNat = d) (h : d < base) : digL base a (c :: l) = digL base (a * base + d) l := by
  conv => lhs; unfold digL
  rw [hd, if_neg (by omega)]
theorem digL_stop {base a : Int} {c : UInt8} {l : List UInt8} (h : base ≤ digV c.toNat) : digL base a (c :: l) = none := by
  unfold digL; rw [if_pos h]
theorem dec31_over {base a : Int} {l : List UInt8} (hb : 1 ≤ base) (h0 : 0 ≤ a) (h : 2147483647 < a) : dec31 (digL base a l) = none := by
  unfold dec31
  cases hd : digL base a l with
  | none => rfl
  | some m =>
    have := digL_ge base hb l a m h0 hd
    simp only
    rw [if_neg (by omega)]
def PuIs (o : Option Int) (e : Ending) : Prop :=
  match o with
  | some n => e = .returned (.tuple #[.int .u64 n, .nilIface])
  | none => ∃ v c, e = .returned (.tuple #[.int .u64 v, .iface 208 (.int .i64 c)]) ∧ (c = 1 ∨ c = 2)
set_option maxHeartbeats 32000000 in
set_option maxRecDepth 100000 in
theorem ipu10_any (t : ByteArray) (hne : t.size ≠ 0) (hmax : t.size ≤ 1000000000) (w : World) :
    Calls Tryz.prog 168 #[.string t, .int .i64 10, .int .i64 31] w fun e w' => PuIs (puX 10 t.data.toList) e ∧ Below w.heap.size w w' := by
  have hemp : t.toList.isEmpty = false := by
    rw [← decide_eq_emptyBytes]
    exact decide_eq_false (fun h => hne (by rw [h]; rfl))
  have hcv := Lib.run_convert_string_bytes (P := Tryz.prog) w 9 69 5 t (u := .string) Tryz.underlying9 Tryz.underlying69 Tryz.underlying5
  have hB : ∀ j, j < t.size → (Lib.bytesWorld w 5 t).cell? ⟨w.heap.size, j, none⟩ = some (.int .u8 (t.data.toList.getD j 0).toNat) := fun j hj => Lib.bytesWorld_cell w 5 t j hj
  have hW := Lib.hid (Lib.bytesWorld_below w 5 t)
  obtain ⟨W1, hW1⟩ : ∃ W1, W1 = Lib.bytesWorld w 5 t := ⟨_, rfl⟩
  rw [← hW1] at hcv hB hW
  clear hW1
  obtain ⟨bs, hL⟩ : ∃ bs, bs = t.data.toList := ⟨_, rfl⟩
  have hLn : bs.length = t.size := by rw [hL, Lib.size_eq]
  have hbne : bs ≠ [] := fun h => hne (by rw [← hLn, h]; rfl)
  have HP := Lib.hid (show puX 10 bs = dec31 (digL 10 0 bs) from puX_go hbne)
  rw [← hL] at hB ⊢
  rw [HP.out]
  clear hL hbne HP
  have hmv : IntKind.u64.wrap (IntKind.u64.wrap 2147483648 - 1) = 2147483647 := by
    rw [IntKind.wrap_u64, IntKind.wrap_u64]
    decide
  obtain ⟨r, hr⟩ : ∃ r, dec31 (digL 10 0 bs) = r := ⟨_, rfl⟩
  have HR := Lib.hid hr
  rw [hr]
  clear hr
  go_enter Tryz.func168, Tryz.ntmps168
  go_wp2
  go_loop [12, 13, 101] (fun vu vn vi => ∃ (k : Nat) (a : Int), vu = .bool false ∧ vn = .int .u64 a ∧ vi = .int .i64 k ∧ k ≤ t.size ∧ 0 ≤ a ∧ a ≤ 2147483647 ∧ Hid (digL 10 0 bs = digL 10 a (bs.drop k)))
    (fun _ _ vi => t.size - (intOf vi).toNat)
  case atStart => exact ⟨0, 0, rfl, rfl, rfl, by omega, by omega, by omega, Lib.hid rfl⟩
  case round =>
    obtain ⟨k, a, rfl, rfl, rfl, hk, a0, a1, hh⟩ := hrel
    by_cases hkn : k < t.size
    · have hc := hB k hkn
      have hdrop : bs.drop k = bs[k]'(by omega) :: bs.drop (k + 1) := List.drop_eq_getElem_cons (by omega)
      have hget : bs.getD k 0 = bs[k]'(by omega) := by simp [List.getD, List.getElem?_eq_getElem (show k < bs.length by omega)]
      rw [hdrop] at hh
      rw [hget] at hc
      generalize bs[k]'(by omega) = c at hc hh
      have hc256 : c.toNat < 256 := c.toNat_lt
      clear hB hdrop hget
      by_cases hdig : 48 ≤ (c.toNat : Int) ∧ (c.toNat : Int) ≤ 57
      · have hd0 : 48 ≤ c.toNat := by omega
        have hd1 : c.toNat ≤ 57 := by omega
        have HD := Lib.hid (digV_dec hdig)
        clear hdig
        by_cases hov : 2147483647 < a * 10 + ((c.toNat : Int) - 48)
        · have HE : Hid (r = none) := Lib.hid (by rw [← HR.out, hh.out, digL_step HD.out (by omega)]; exact dec31_over (by omega) (by omega) hov)
          clear hh HD
          go_wp2
          go_ret2
          rw [HE.out]
          exact ⟨⟨_, _, rfl, .inl rfl⟩, hW.out⟩
        · have HN : Hid (digL 10 0 bs = digL 10 (a * 10 + ((c.toNat : Int) - 48)) (bs.drop (k + 1))) := Lib.hid (by rw [hh.out, digL_step HD.out (by omega)])
          have iov : a * 10 + ((c.toNat : Int) - 48) ≤ 2147483647 := by omega
          clear hov hh HD
          go_wp2
          refine ⟨⟨k + 1, a * 10 + ((c.toNat : Int) - 48), rfl, (by first | rfl | (congr 1; omega)), (by first | rfl | (congr 1; omega)), by omega, by omega, by omega, HN⟩, by simp [intOf]; omega⟩
      · have hF : 10 ≤ digV c.toNat := by
          by_cases h : 97 ≤ bits .or .u8 (c.toNat : Int) 32 ∧ bits .or .u8 (c.toNat : Int) 32 ≤ 122
          · have h3 := digV_let (or32_yes h.1 h.2) h.1 h.2
            by_cases h4 : bits .or .u8 (c.toNat : Int) 32 ≤ 102
            · rw [h3.1 h4]; omega
            · rw [h3.2 (by omega)]; omega
          · rw [or32_no h hdig]; omega
        have HE : Hid (r = none) := Lib.hid (by rw [← HR.out, hh.out, digL_stop hF]; rfl)
        have hdig' : ¬ (48 ≤ c.toNat ∧ c.toNat ≤ 57) := by omega
        clear hF hh hdig
        have hv0 := bits_lo_u8 .or (c.toNat : Int) 32
        have hv1 := bits_hi_u8 .or (c.toNat : Int) 32
        have hu0 := bits_lo_u8 .or 95 32
        have hu1 := bits_hi_u8 .or 95 32
        go_wp2_with (go_at_call 178; refine (Tryz.internal_strconv_lower _ _).mono ?_; rintro e w' ⟨rfl, rfl⟩)
        all_goals go_ret2
        all_goals (rw [HE.out]; exact ⟨⟨_, _, rfl, .inr rfl⟩, hW.out⟩)
    · have hkk : k = t.size := by omega
      subst hkk
      have HE : Hid (r = some a) := Lib.hid (by
        rw [← HR.out, hh.out, List.drop_eq_nil_of_le (by omega)]
        unfold digL dec31
        simp only
        rw [if_pos a1])
      clear hh
      go_wp2
      go_ret2
      rw [HE.out]
      exact ⟨rfl, hW.out⟩
end Go.Proofs.YtlcjepnaljfpkaaGreatDoor
namespace Go.Proofs.YtlcjepnaljfpkaaGreatDoor
open Go.RowKit Wb
set_option maxHeartbeats 32000000 in
set_option maxRecDepth 100000 in
theorem ipu16_any (t : ByteArray) (hne : t.size ≠ 0) (hmax : t.size ≤ 1000000000) (w : World) :
    Calls Tryz.prog 168 #[.string t, .int .i64 16, .int .i64 31] w fun e w' => PuIs (puX 16 t.data.toList) e ∧ Below w.heap.size w w' := by
  have hemp : t.toList.isEmpty = false := by
    rw [← decide_eq_emptyBytes]
    exact decide_eq_false (fun h => hne (by rw [h]; rfl))
  have hcv := Lib.run_convert_string_bytes (P := Tryz.prog) w 9 69 5 t (u := .string) Tryz.underlying9 Tryz.underlying69 Tryz.underlying5
  have hB : ∀ j, j < t.size → (Lib.bytesWorld w 5 t).cell? ⟨w.heap.size, j, none⟩ = some (.int .u8 (t.data.toList.getD j 0).toNat) := fun j hj => Lib.bytesWorld_cell w 5 t j hj
  have hW := Lib.hid (Lib.bytesWorld_below w 5 t)
  obtain ⟨W1, hW1⟩ : ∃ W1, W1 = Lib.bytesWorld w 5 t := ⟨_, rfl⟩
  rw [← hW1] at hcv hB hW
  clear hW1
  obtain ⟨bs, hL⟩ : ∃ bs, bs = t.data.toList := ⟨_, rfl⟩
  have hLn : bs.length = t.size := by rw [hL, Lib.size_eq]
  have hbne : bs ≠ [] := fun h => hne (by rw [← hLn, h]; rfl)
  have HP := Lib.hid (show puX 16 bs = dec31 (digL 16 0 bs) from puX_go hbne)
  rw [← hL] at hB ⊢
  rw [HP.out]
  clear hL hbne HP
  have hmv : IntKind.u64.wrap (IntKind.u64.wrap 2147483648 - 1) = 2147483647 := by
    rw [IntKind.wrap_u64, IntKind.wrap_u64]
    decide
  obtain ⟨r, hr⟩ : ∃ r, dec31 (digL 16 0 bs) = r := ⟨_, rfl⟩
  have HR := Lib.hid hr
  rw [hr]
  clear hr
  go_enter Tryz.func168, Tryz.ntmps168
  go_wp2
  go_loop [12, 13, 101] (fun vu vn vi => ∃ (k : Nat) (a : Int), vu = .bool false ∧ vn = .int .u64 a ∧ vi = .int .i64 k ∧ k ≤ t.size ∧ 0 ≤ a ∧ a ≤ 2147483647 ∧ Hid (digL 16 0 bs = digL 16 a (bs.drop k)))
    (fun _ _ vi => t.size - (intOf vi).toNat)
  case atStart => exact ⟨0, 0, rfl, rfl, rfl, by omega, by omega, by omega, Lib.hid rfl⟩
  case round =>
    obtain ⟨k, a, rfl, rfl, rfl, hk, a0, a1, hh⟩ := hrel
    by_cases hkn : k < t.size
    · have hc := hB k hkn
      have hdrop : bs.drop k = bs[k]'(by omega) :: bs.drop (k + 1) := List.drop_eq_getElem_cons (by omega)
      have hget : bs.getD k 0 = bs[k]'(by omega) := by simp [List.getD, List.getElem?_eq_getElem (show k < bs.length by omega)]
      rw [hdrop] at hh
      rw [hget] at hc
      generalize bs[k]'(by omega) = c at hc hh
      have hc256 : c.toNat < 256 := c.toNat_lt
      clear hB hdrop hget
      by_cases hdig : 48 ≤ (c.toNat : Int) ∧ (c.toNat : Int) ≤ 57
      · have hd0 : 48 ≤ c.toNat := by omega
        have hd1 : c.toNat ≤ 57 := by omega
        have HD := Lib.hid (digV_dec hdig)
        clear hdig
        by_cases hov : 2147483647 < a * 16 + ((c.toNat : Int) - 48)
        · have HE : Hid (r = none) := Lib.hid (by rw [← HR.out, hh.out, digL_step HD.out (by omega)]; exact dec31_over (by omega) (by omega) hov)
          clear hh HD
          go_wp2
          go_ret2
          rw [HE.out]
          exact ⟨⟨_, _, rfl, .inl rfl⟩, hW.out⟩
        · have HN : Hid (digL 16 0 bs = digL 16 (a * 16 + ((c.toNat : Int) - 48)) (bs.drop (k + 1))) := Lib.hid (by rw [hh.out, digL_step HD.out (by omega)])
          have iov : a * 16 + ((c.toNat : Int) - 48) ≤ 2147483647 := by omega
          clear hov hh HD
          go_wp2
          refine ⟨⟨k + 1, a * 16 + ((c.toNat : Int) - 48), rfl, (by first | rfl | (congr 1; omega)), (by first | rfl | (congr 1; omega)), by omega, by omega, by omega, HN⟩, by simp [intOf]; omega⟩
      · have hdig' : ¬ (48 ≤ c.toNat ∧ c.toNat ≤ 57) := by omega
        have hv0 := bits_lo_u8 .or (c.toNat : Int) 32
        have hv1 := bits_hi_u8 .or (c.toNat : Int) 32
        by_cases h95 : c.toNat = 95
        · have hF : 16 ≤ digV c.toNat := by rw [h95]; decide
          have HE : Hid (r = none) := Lib.hid (by rw [← HR.out, hh.out, digL_stop hF]; rfl)
          have hu0 := bits_lo_u8 .or 95 32
          have hu1 := bits_hi_u8 .or 95 32
          have hu2 : 122 < bits .or .u8 95 32 := by decide
          clear hF hh hdig hdig' hv0 hv1
          rw [h95] at hc
          clear h95
          go_wp2_with (go_at_call 178; refine (Tryz.internal_strconv_lower _ _).mono ?_; rintro e w' ⟨rfl, rfl⟩)
          all_goals go_ret2
          all_goals (rw [HE.out]; exact ⟨⟨_, _, rfl, .inr rfl⟩, hW.out⟩)
        · have h95i : ¬ (c.toNat : Int) = 95 := by omega
          clear h95
          have HY := Lib.hid (fun h1 h2 => or32_yes (c := c) h1 h2)
          have HX := Lib.hid (fun h => or32_no (c := c) h hdig)
          obtain ⟨v, hv⟩ : ∃ v, bits .or .u8 (c.toNat : Int) 32 = v := ⟨_, rfl⟩
          have hlow : ∀ w, Calls Tryz.prog 178 #[.int .u8 (c.toNat : Int)] w fun e w' => e = .returned (.int .u8 v) ∧ w = w' := fun w =>
            (Tryz.internal_strconv_lower (c.toNat : Int) w).mono (by rintro e w' ⟨rfl, rfl⟩; exact ⟨by rw [hv], rfl⟩)
          rw [hv] at hv0 hv1 HY HX
          clear hv hdig
          by_cases h97 : 97 ≤ v
          · by_cases h122 : v ≤ 122
            · have h3 := digV_let (HY.out h97 h122) h97 h122
              clear HY HX
              by_cases h4 : v ≤ 102
              · have HD := Lib.hid (h3.1 h4)
                clear h3
                have d16 : v - 97 + 10 < 16 := by omega
                by_cases hov : 2147483647 < a * 16 + (v - 87)
                · have HE : Hid (r = none) := Lib.hid (by rw [← HR.out, hh.out, digL_step HD.out (by omega)]; exact dec31_over (by omega) (by omega) hov)
                  have hov' : 2147483647 < a * 16 + (v - 97 + 10) := by omega
                  clear hh HD hov h122
                  go_wp2_with (go_at_call 178; refine (hlow _).mono ?_; rintro e w' ⟨rfl, rfl⟩)
                  all_goals go_ret2
                  all_goals (rw [HE.out]; exact ⟨⟨_, _, rfl, .inl rfl⟩, hW.out⟩)
                · have HN : Hid (digL 16 0 bs = digL 16 (a * 16 + (v - 97 + 10)) (bs.drop (k + 1))) := Lib.hid (by rw [hh.out, digL_step HD.out (by omega), show v - 97 + 10 = v - 87 from by omega])
                  have iov : a * 16 + (v - 97 + 10) ≤ 2147483647 := by omega
                  clear hh HD hov h122
                  go_wp2_with (go_at_call 178; refine (hlow _).mono ?_; rintro e w' ⟨rfl, rfl⟩)
                  all_goals exact ⟨⟨k + 1, a * 16 + (v - 97 + 10), rfl, (by first | rfl | (congr 1; omega)), (by first | rfl | (congr 1; omega)), by omega, by omega, by omega, HN⟩, by simp [intOf]; omega⟩
              · have hF : 16 ≤ digV c.toNat := by rw [h3.2 (by omega)]; omega
                have HE : Hid (r = none) := Lib.hid (by rw [← HR.out, hh.out, digL_stop hF]; rfl)
                have d16 : ¬ v - 97 + 10 < 16 := by omega
                clear hF hh h3
                go_wp2_with (go_at_call 178; refine (hlow _).mono ?_; rintro e w' ⟨rfl, rfl⟩)
                all_goals go_ret2
                all_goals (rw [HE.out]; exact ⟨⟨_, _, rfl, .inr rfl⟩, hW.out⟩)
            · have hF : 16 ≤ digV c.toNat := by rw [HX.out (by omega)]; omega
              have HE : Hid (r = none) := Lib.hid (by rw [← HR.out, hh.out, digL_stop hF]; rfl)
              clear hF hh HX HY
              go_wp2_with (go_at_call 178; refine (hlow _).mono ?_; rintro e w' ⟨rfl, rfl⟩)
              all_goals go_ret2
              all_goals (rw [HE.out]; exact ⟨⟨_, _, rfl, .inr rfl⟩, hW.out⟩)
          · have hF : 16 ≤ digV c.toNat := by rw [HX.out (by omega)]; omega
            have HE : Hid (r = none) := Lib.hid (by rw [← HR.out, hh.out, digL_stop hF]; rfl)
            clear hF hh HX HY
            go_wp2_with (go_at_call 178; refine (hlow _).mono ?_; rintro e w' ⟨rfl, rfl⟩)
            all_goals go_ret2
            all_goals (rw [HE.out]; exact ⟨⟨_, _, rfl, .inr rfl⟩, hW.out⟩)
    · have hkk : k = t.size := by omega
      subst hkk
      have HE : Hid (r = some a) := Lib.hid (by
        rw [← HR.out, hh.out, List.drop_eq_nil_of_le (by omega)]
        unfold digL dec31
        simp only
        rw [if_pos a1])
      clear hh
      go_wp2
      go_ret2
      rw [HE.out]
      exact ⟨rfl, hW.out⟩
end Go.Proofs.YtlcjepnaljfpkaaGreatDoor
