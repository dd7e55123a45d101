/- LePu LePv LeA Mem3 LxAa LxC LxE. -/
import Derived.Lib.ConvBytes
import Derived.Lib.AtoiErrMem
import Derived.Laws.Strings3
import Derived.Laws.Closers25
import Derived.Laws.Closers25b
import Derived.BigCall
import Derived.BigGuard
import Derived.Recover
import Derived.Laws.Pointers
import Derived.Deep.AppendSrc
import Derived.Laws.Strings
import Derived.Test.YtbdamneophbnnaaGreatDoorCU1
import Derived.Test.YtbdamneophbnnaaGreatDoorCU2
import Derived.Test.YtbdamneophbnnaaGreatDoorCU5
import Derived.Test.YtbdamneophbnnaaGreatDoorCU6
import Derived.Test.YtbdamneophbnnaaGreatDoorCU7
namespace Go.Proofs.YtbdamneophbnnaaGreatDoor
open Go.RowKit Wb
theorem digL_ge (base : Int) (hb : 1 ≤ base) : ∀ (l : List UInt8) (n m : Int), 0 ≤ n → digL base n l = some m → n ≤ m
  | [], n, m, _, h => by simp [digL] at h; omega
  | c :: l, n, m, h0, h => by
    unfold digL at h
    split at h
    · cases h
    · have hd := digV_nn c.toNat
      have h1 : n * 1 ≤ n * base := Int.mul_le_mul_of_nonneg_left hb h0
      have := digL_ge base hb l _ m (by omega) h
      omega
def puX (base : Int) (l : List UInt8) : Option Int :=
  match numL base l with
  | some n => if n ≤ 2147483647 then some n else none
  | none => none
theorem puX_go {base : Int} {l : List UInt8} (hl : l ≠ []) : puX base l = match digL base 0 l with | some n => if n ≤ 2147483647 then some n else none | none => none := by
  unfold puX numL; rw [if_neg hl]
def dec31 (o : Option Int) : Option Int := match o with | some n => if n ≤ 2147483647 then some n else none | none => none
theorem or32_all : ∀ n : Fin 256, (97 ≤ bits .or .u8 (n.val : Int) 32 ∧ bits .or .u8 (n.val : Int) 32 ≤ 122 → lowB n.val = bits .or .u8 (n.val : Int) 32) ∧
    (¬ (97 ≤ bits .or .u8 (n.val : Int) 32 ∧ bits .or .u8 (n.val : Int) 32 ≤ 122) → ¬ (48 ≤ (n.val : Int) ∧ (n.val : Int) ≤ 57) → digV n.val = 99) := by
  decide +kernel
theorem or32_yes {c : UInt8} (h1 : 97 ≤ bits .or .u8 (c.toNat : Int) 32) (h2 : bits .or .u8 (c.toNat : Int) 32 ≤ 122) : lowB c.toNat = bits .or .u8 (c.toNat : Int) 32 :=
  (or32_all ⟨c.toNat, c.toNat_lt⟩).1 ⟨h1, h2⟩
theorem or32_no {c : UInt8} (h : ¬ (97 ≤ bits .or .u8 (c.toNat : Int) 32 ∧ bits .or .u8 (c.toNat : Int) 32 ≤ 122)) (hd : ¬ (48 ≤ (c.toNat : Int) ∧ (c.toNat : Int) ≤ 57)) : digV c.toNat = 99 :=
  (or32_all ⟨c.toNat, c.toNat_lt⟩).2 h hd
theorem digV_dec {c : UInt8} (h : 48 ≤ (c.toNat : Int) ∧ (c.toNat : Int) ≤ 57) : digV c.toNat = (c.toNat : Int) - 48 := by
  have e : lowB c.toNat = c.toNat := by unfold lowB; rw [if_neg (by omega)]
  unfold digV
  rw [e, if_pos h]
theorem digV_let {v : Int} {c : UInt8} (h : lowB c.toNat = v) (h1 : 97 ≤ v) (h2 : v ≤ 122) : (v ≤ 102 → digV c.toNat = v - 87) ∧ (102 < v → digV c.toNat = 99) := by
  unfold digV
  rw [h, if_neg (by omega)]
  constructor
  · intro h3; rw [if_pos ⟨h1, h3⟩]
  · intro h3; rw [if_neg (by omega)]
theorem digL_step {base a : Int} {c : UInt8} {l : List UInt8} {d : Int} (hd : digV c.toNat = d) (h : d < base) : digL base a (c :: l) = digL base (a * base + d) l := by
  conv => lhs; unfold digL
  rw [hd, if_neg (by omega)]
theorem digL_stop {base a : Int} {c : UInt8} {l : List UInt8} (h : base ≤ digV c.toNat) : digL base a (c :: l) = none := by
  unfold digL; rw [if_pos h]
theorem dec31_over {base a : Int} {l : List UInt8} (hb : 1 ≤ base) (h0 : 0 ≤ a) (h : 2147483647 < a) : dec31 (digL base a l) = none := by
  unfold dec31
  cases hd : digL base a l with
  | none => rfl
  | some m =>
    have := digL_ge base hb l a m h0 hd
    simp only
    rw [if_neg (by omega)]
def PuIs (o : Option Int) (e : Ending) : Prop :=
  match o with
  | some n => e = .returned (.tuple #[.int .u64 n, .nilIface])
  | none => ∃ v c, e = .returned (.tuple #[.int .u64 v, .iface 213 (.int .i64 c)]) ∧ (c = 1 ∨ c = 2)
set_option maxHeartbeats 32000000 in
set_option maxRecDepth 100000 in
theorem ipu10_any (t : ByteArray) (hne : t.size ≠ 0) (hmax : t.size ≤ 1000000000) (w : World) :
    Calls Tryz.prog 178 #[.string t, .int .i64 10, .int .i64 31] w fun e w' => PuIs (puX 10 t.data.toList) e ∧ Below w.heap.size w w' := by
  have hemp : t.toList.isEmpty = false := by
    rw [← decide_eq_emptyBytes]
    exact decide_eq_false (fun h => hne (by rw [h]; rfl))
  have hcv := Lib.run_convert_string_bytes (P := Tryz.prog) w 9 74 5 t (u := .string) Tryz.underlying9 Tryz.underlying74 Tryz.underlying5
  have hB : ∀ j, j < t.size → (Lib.bytesWorld w 5 t).cell? ⟨w.heap.size, j, none⟩ = some (.int .u8 (t.data.toList.getD j 0).toNat) := fun j hj => Lib.bytesWorld_cell w 5 t j hj
  have hW := Lib.hid (Lib.bytesWorld_below w 5 t)
  obtain ⟨W1, hW1⟩ : ∃ W1, W1 = Lib.bytesWorld w 5 t := ⟨_, rfl⟩
  rw [← hW1] at hcv hB hW
  clear hW1
  obtain ⟨bs, hL⟩ : ∃ bs, bs = t.data.toList := ⟨_, rfl⟩
  have hLn : bs.length = t.size := by rw [hL, Lib.size_eq]
  have hbne : bs ≠ [] := fun h => hne (by rw [← hLn, h]; rfl)
  have HP := Lib.hid (show puX 10 bs = dec31 (digL 10 0 bs) from puX_go hbne)
  rw [← hL] at hB ⊢
  rw [HP.out]
  clear hL hbne HP
  have hmv : IntKind.u64.wrap (IntKind.u64.wrap 2147483648 - 1) = 2147483647 := by
    rw [IntKind.wrap_u64, IntKind.wrap_u64]
    decide
  obtain ⟨r, hr⟩ : ∃ r, dec31 (digL 10 0 bs) = r := ⟨_, rfl⟩
  have HR := Lib.hid hr
  rw [hr]
  clear hr
  go_enter Tryz.func178, Tryz.ntmps178
  go_wp2
  go_loop [12, 13, 101] (fun vu vn vi => ∃ (k : Nat) (a : Int), vu = .bool false ∧ vn = .int .u64 a ∧ vi = .int .i64 k ∧ k ≤ t.size ∧ 0 ≤ a ∧ a ≤ 2147483647 ∧ Hid (digL 10 0 bs = digL 10 a (bs.drop k)))
    (fun _ _ vi => t.size - (intOf vi).toNat)
  case atStart => exact ⟨0, 0, rfl, rfl, rfl, by omega, by omega, by omega, Lib.hid rfl⟩
  case round =>
    obtain ⟨k, a, rfl, rfl, rfl, hk, a0, a1, hh⟩ := hrel
    by_cases hkn : k < t.size
    · have hc := hB k hkn
      have hdrop : bs.drop k = bs[k]'(by omega) :: bs.drop (k + 1) := List.drop_eq_getElem_cons (by omega)
      have hget : bs.getD k 0 = bs[k]'(by omega) := by simp [List.getD, List.getElem?_eq_getElem (show k < bs.length by omega)]
      rw [hdrop] at hh
      rw [hget] at hc
      generalize bs[k]'(by omega) = c at hc hh
      have hc256 : c.toNat < 256 := c.toNat_lt
      clear hB hdrop hget
      by_cases hdig : 48 ≤ (c.toNat : Int) ∧ (c.toNat : Int) ≤ 57
      · have hd0 : 48 ≤ c.toNat := by omega
        have hd1 : c.toNat ≤ 57 := by omega
        have HD := Lib.hid (digV_dec hdig)
        clear hdig
        by_cases hov : 2147483647 < a * 10 + ((c.toNat : Int) - 48)
        · have HE : Hid (r = none) := Lib.hid (by rw [← HR.out, hh.out, digL_step HD.out (by omega)]; exact dec31_over (by omega) (by omega) hov)
          clear hh HD
          go_wp2
          go_ret2
          rw [HE.out]
          exact ⟨⟨_, _, rfl, .inl rfl⟩, hW.out⟩
        · have HN : Hid (digL 10 0 bs = digL 10 (a * 10 + ((c.toNat : Int) - 48)) (bs.drop (k + 1))) := Lib.hid (by rw [hh.out, digL_step HD.out (by omega)])
          have iov : a * 10 + ((c.toNat : Int) - 48) ≤ 2147483647 := by omega
          clear hov hh HD
          go_wp2
          refine ⟨⟨k + 1, a * 10 + ((c.toNat : Int) - 48), rfl, (by first | rfl | (congr 1; omega)), (by first | rfl | (congr 1; omega)), by omega, by omega, by omega, HN⟩, by simp [intOf]; omega⟩
      · have hF : 10 ≤ digV c.toNat := by
          by_cases h : 97 ≤ bits .or .u8 (c.toNat : Int) 32 ∧ bits .or .u8 (c.toNat : Int) 32 ≤ 122
          · have h3 := digV_let (or32_yes h.1 h.2) h.1 h.2
            by_cases h4 : bits .or .u8 (c.toNat : Int) 32 ≤ 102
            · rw [h3.1 h4]; omega
            · rw [h3.2 (by omega)]; omega
          · rw [or32_no h hdig]; omega
        have HE : Hid (r = none) := Lib.hid (by rw [← HR.out, hh.out, digL_stop hF]; rfl)
        have hdig' : ¬ (48 ≤ c.toNat ∧ c.toNat ≤ 57) := by omega
        clear hF hh hdig
        have hv0 := bits_lo_u8 .or (c.toNat : Int) 32
        have hv1 := bits_hi_u8 .or (c.toNat : Int) 32
        have hu0 := bits_lo_u8 .or 95 32
        have hu1 := bits_hi_u8 .or 95 32
        go_wp2_with (go_at_call 184; refine (Tryz.internal_strconv_lower _ _).mono ?_; rintro e w' ⟨rfl, rfl⟩)
        all_goals go_ret2
        all_goals (rw [HE.out]; exact ⟨⟨_, _, rfl, .inr rfl⟩, hW.out⟩)
    · have hkk : k = t.size := by omega
      subst hkk
      have HE : Hid (r = some a) := Lib.hid (by
        rw [← HR.out, hh.out, List.drop_eq_nil_of_le (by omega)]
        unfold digL dec31
        simp only
        rw [if_pos a1])
      clear hh
      go_wp2
      go_ret2
      rw [HE.out]
      exact ⟨rfl, hW.out⟩
end Go.Proofs.YtbdamneophbnnaaGreatDoor
namespace Go.Proofs.YtbdamneophbnnaaGreatDoor
open Go.RowKit Wb
set_option maxHeartbeats 32000000 in
set_option maxRecDepth 100000 in
theorem ipu16_any (t : ByteArray) (hne : t.size ≠ 0) (hmax : t.size ≤ 1000000000) (w : World) :
    Calls Tryz.prog 178 #[.string t, .int .i64 16, .int .i64 31] w fun e w' => PuIs (puX 16 t.data.toList) e ∧ Below w.heap.size w w' := by
  have hemp : t.toList.isEmpty = false := by
    rw [← decide_eq_emptyBytes]
    exact decide_eq_false (fun h => hne (by rw [h]; rfl))
  have hcv := Lib.run_convert_string_bytes (P := Tryz.prog) w 9 74 5 t (u := .string) Tryz.underlying9 Tryz.underlying74 Tryz.underlying5
  have hB : ∀ j, j < t.size → (Lib.bytesWorld w 5 t).cell? ⟨w.heap.size, j, none⟩ = some (.int .u8 (t.data.toList.getD j 0).toNat) := fun j hj => Lib.bytesWorld_cell w 5 t j hj
  have hW := Lib.hid (Lib.bytesWorld_below w 5 t)
  obtain ⟨W1, hW1⟩ : ∃ W1, W1 = Lib.bytesWorld w 5 t := ⟨_, rfl⟩
  rw [← hW1] at hcv hB hW
  clear hW1
  obtain ⟨bs, hL⟩ : ∃ bs, bs = t.data.toList := ⟨_, rfl⟩
  have hLn : bs.length = t.size := by rw [hL, Lib.size_eq]
  have hbne : bs ≠ [] := fun h => hne (by rw [← hLn, h]; rfl)
  have HP := Lib.hid (show puX 16 bs = dec31 (digL 16 0 bs) from puX_go hbne)
  rw [← hL] at hB ⊢
  rw [HP.out]
  clear hL hbne HP
  have hmv : IntKind.u64.wrap (IntKind.u64.wrap 2147483648 - 1) = 2147483647 := by
    rw [IntKind.wrap_u64, IntKind.wrap_u64]
    decide
  obtain ⟨r, hr⟩ : ∃ r, dec31 (digL 16 0 bs) = r := ⟨_, rfl⟩
  have HR := Lib.hid hr
  rw [hr]
  clear hr
  go_enter Tryz.func178, Tryz.ntmps178
  go_wp2
  go_loop [12, 13, 101] (fun vu vn vi => ∃ (k : Nat) (a : Int), vu = .bool false ∧ vn = .int .u64 a ∧ vi = .int .i64 k ∧ k ≤ t.size ∧ 0 ≤ a ∧ a ≤ 2147483647 ∧ Hid (digL 16 0 bs = digL 16 a (bs.drop k)))
    (fun _ _ vi => t.size - (intOf vi).toNat)
  case atStart => exact ⟨0, 0, rfl, rfl, rfl, by omega, by omega, by omega, Lib.hid rfl⟩
  case round =>
    obtain ⟨k, a, rfl, rfl, rfl, hk, a0, a1, hh⟩ := hrel
    by_cases hkn : k < t.size
    · have hc := hB k hkn
      have hdrop : bs.drop k = bs[k]'(by omega) :: bs.drop (k + 1) := List.drop_eq_getElem_cons (by omega)
      have hget : bs.getD k 0 = bs[k]'(by omega) := by simp [List.getD, List.getElem?_eq_getElem (show k < bs.length by omega)]
      rw [hdrop] at hh
      rw [hget] at hc
      generalize bs[k]'(by omega) = c at hc hh
      have hc256 : c.toNat < 256 := c.toNat_lt
      clear hB hdrop hget
      by_cases hdig : 48 ≤ (c.toNat : Int) ∧ (c.toNat : Int) ≤ 57
      · have hd0 : 48 ≤ c.toNat := by omega
        have hd1 : c.toNat ≤ 57 := by omega
        have HD := Lib.hid (digV_dec hdig)
        clear hdig
        by_cases hov : 2147483647 < a * 16 + ((c.toNat : Int) - 48)
        · have HE : Hid (r = none) := Lib.hid (by rw [← HR.out, hh.out, digL_step HD.out (by omega)]; exact dec31_over (by omega) (by omega) hov)
          clear hh HD
          go_wp2
          go_ret2
          rw [HE.out]
          exact ⟨⟨_, _, rfl, .inl rfl⟩, hW.out⟩
        · have HN : Hid (digL 16 0 bs = digL 16 (a * 16 + ((c.toNat : Int) - 48)) (bs.drop (k + 1))) := Lib.hid (by rw [hh.out, digL_step HD.out (by omega)])
          have iov : a * 16 + ((c.toNat : Int) - 48) ≤ 2147483647 := by omega
          clear hov hh HD
          go_wp2
          refine ⟨⟨k + 1, a * 16 + ((c.toNat : Int) - 48), rfl, (by first | rfl | (congr 1; omega)), (by first | rfl | (congr 1; omega)), by omega, by omega, by omega, HN⟩, by simp [intOf]; omega⟩
      · have hdig' : ¬ (48 ≤ c.toNat ∧ c.toNat ≤ 57) := by omega
        have hv0 := bits_lo_u8 .or (c.toNat : Int) 32
        have hv1 := bits_hi_u8 .or (c.toNat : Int) 32
        by_cases h95 : c.toNat = 95
        · have hF : 16 ≤ digV c.toNat := by rw [h95]; decide
          have HE : Hid (r = none) := Lib.hid (by rw [← HR.out, hh.out, digL_stop hF]; rfl)
          have hu0 := bits_lo_u8 .or 95 32
          have hu1 := bits_hi_u8 .or 95 32
          have hu2 : 122 < bits .or .u8 95 32 := by decide
          clear hF hh hdig hdig' hv0 hv1
          rw [h95] at hc
          clear h95
          go_wp2_with (go_at_call 184; refine (Tryz.internal_strconv_lower _ _).mono ?_; rintro e w' ⟨rfl, rfl⟩)
          all_goals go_ret2
          all_goals (rw [HE.out]; exact ⟨⟨_, _, rfl, .inr rfl⟩, hW.out⟩)
        · have h95i : ¬ (c.toNat : Int) = 95 := by omega
          clear h95
          have HY := Lib.hid (fun h1 h2 => or32_yes (c := c) h1 h2)
          have HX := Lib.hid (fun h => or32_no (c := c) h hdig)
          obtain ⟨v, hv⟩ : ∃ v, bits .or .u8 (c.toNat : Int) 32 = v := ⟨_, rfl⟩
          have hlow : ∀ w, Calls Tryz.prog 184 #[.int .u8 (c.toNat : Int)] w fun e w' => e = .returned (.int .u8 v) ∧ w = w' := fun w =>
            (Tryz.internal_strconv_lower (c.toNat : Int) w).mono (by rintro e w' ⟨rfl, rfl⟩; exact ⟨by rw [hv], rfl⟩)
          rw [hv] at hv0 hv1 HY HX
          clear hv hdig
          by_cases h97 : 97 ≤ v
          · by_cases h122 : v ≤ 122
            · have h3 := digV_let (HY.out h97 h122) h97 h122
              clear HY HX
              by_cases h4 : v ≤ 102
              · have HD := Lib.hid (h3.1 h4)
                clear h3
                have d16 : v - 97 + 10 < 16 := by omega
                by_cases hov : 2147483647 < a * 16 + (v - 87)
                · have HE : Hid (r = none) := Lib.hid (by rw [← HR.out, hh.out, digL_step HD.out (by omega)]; exact dec31_over (by omega) (by omega) hov)
                  have hov' : 2147483647 < a * 16 + (v - 97 + 10) := by omega
                  clear hh HD hov h122
                  go_wp2_with (go_at_call 184; refine (hlow _).mono ?_; rintro e w' ⟨rfl, rfl⟩)
                  all_goals go_ret2
                  all_goals (rw [HE.out]; exact ⟨⟨_, _, rfl, .inl rfl⟩, hW.out⟩)
                · have HN : Hid (digL 16 0 bs = digL 16 (a * 16 + (v - 97 + 10)) (bs.drop (k + 1))) := Lib.hid (by rw [hh.out, digL_step HD.out (by omega), show v - 97 + 10 = v - 87 from by omega])
                  have iov : a * 16 + (v - 97 + 10) ≤ 2147483647 := by omega
                  clear hh HD hov h122
                  go_wp2_with (go_at_call 184; refine (hlow _).mono ?_; rintro e w' ⟨rfl, rfl⟩)
                  all_goals exact ⟨⟨k + 1, a * 16 + (v - 97 + 10), rfl, (by first | rfl | (congr 1; omega)), (by first | rfl | (congr 1; omega)), by omega, by omega, by omega, HN⟩, by simp [intOf]; omega⟩
              · have hF : 16 ≤ digV c.toNat := by rw [h3.2 (by omega)]; omega
                have HE : Hid (r = none) := Lib.hid (by rw [← HR.out, hh.out, digL_stop hF]; rfl)
                have d16 : ¬ v - 97 + 10 < 16 := by omega
                clear hF hh h3
                go_wp2_with (go_at_call 184; refine (hlow _).mono ?_; rintro e w' ⟨rfl, rfl⟩)
                all_goals go_ret2
                all_goals (rw [HE.out]; exact ⟨⟨_, _, rfl, .inr rfl⟩, hW.out⟩)
            · have hF : 16 ≤ digV c.toNat := by rw [HX.out (by omega)]; omega
              have HE : Hid (r = none) := Lib.hid (by rw [← HR.out, hh.out, digL_stop hF]; rfl)
              clear hF hh HX HY
              go_wp2_with (go_at_call 184; refine (hlow _).mono ?_; rintro e w' ⟨rfl, rfl⟩)
              all_goals go_ret2
              all_goals (rw [HE.out]; exact ⟨⟨_, _, rfl, .inr rfl⟩, hW.out⟩)
          · have hF : 16 ≤ digV c.toNat := by rw [HX.out (by omega)]; omega
            have HE : Hid (r = none) := Lib.hid (by rw [← HR.out, hh.out, digL_stop hF]; rfl)
            clear hF hh HX HY
            go_wp2_with (go_at_call 184; refine (hlow _).mono ?_; rintro e w' ⟨rfl, rfl⟩)
            all_goals go_ret2
            all_goals (rw [HE.out]; exact ⟨⟨_, _, rfl, .inr rfl⟩, hW.out⟩)
    · have hkk : k = t.size := by omega
      subst hkk
      have HE : Hid (r = some a) := Lib.hid (by
        rw [← HR.out, hh.out, List.drop_eq_nil_of_le (by omega)]
        unfold digL dec31
        simp only
        rw [if_pos a1])
      clear hh
      go_wp2
      go_ret2
      rw [HE.out]
      exact ⟨rfl, hW.out⟩
end Go.Proofs.YtbdamneophbnnaaGreatDoor
namespace Go.Proofs.YtbdamneophbnnaaGreatDoor
open Go.RowKit Wb
def flt (p c : Int) : PanicEntry := { v := .iface 177 (.agg #[.int .i64 p, .int .i64 c]), recovered := false }
theorem fail_any (p c : Int) (w : World) :
    Calls Tryz.prog 159 #[.int .i64 p, .int .i64 c] w fun e w' => e = .panicked [flt p c] ∧ w = w' := by
  go_enter Tryz.func159, Tryz.ntmps159
  go_wp2
  exact ⟨rfl, rfl, rfl⟩
theorem assert_flt (v : Value) (w : World) : (Instr.typeAssert (.iface 177 v) 20 177 false).run Tryz.prog w = .ok v w := by
  kernel_rfl
theorem field_flt0 (a b : Value) (w : World) : (Instr.field 177 (.agg #[a, b]) 0).run Tryz.prog w = .ok a w := by
  kernel_rfl
theorem field_flt1 (a b : Value) (w : World) : (Instr.field 177 (.agg #[a, b]) 1).run Tryz.prog w = .ok b w := by
  kernel_rfl
theorem catch_idle (b0 b1 b2 : Addr) (w : World) :
    CallsD Tryz.prog 143 #[.pointer (some b0), .pointer (some b1), .pointer (some b2)] .returning w fun e u' w' => e = .returned (.tuple #[]) ∧ u' = .returning ∧ w' = w := by
  refine callsD_of_wpS Tryz.func143 rfl fun c₀ cs hu => ?_
  apply wpS_seq
  apply wpS_region
  simp [wpOpsS, go_sem, recoverD, hu, Tryz.ntmps143, Exit.thenS]
  refine wpS_of_wp ?_
  go_wp2
  cases c₀
  simp_all [bodyPostS, results, Tryz.results143]
theorem catch_up (b0 b1 b2 : Nat) (v0 v1 v2 : Value) (t0 t1 t2 : TypeId) (p c : Int) (older : List PanicEntry) (w : World) (h0 : w.heap[b0]? = some (.cells #[v0] t0 (0, 0))) (h1 : w.heap[b1]? = some (.cells #[v1] t1 (0, 0))) (h2 : w.heap[b2]? = some (.cells #[v2] t2 (0, 0)))
    (n1 : b1 ≠ b0) (n2 : b2 ≠ b0) (n3 : b2 ≠ b1) :
    CallsD Tryz.prog 143 #[.pointer (some ⟨b0, 0, none⟩), .pointer (some ⟨b1, 0, none⟩), .pointer (some ⟨b2, 0, none⟩)] (.panicking (flt p c :: older)) w fun e u' w' =>
      e = .returned (.tuple #[]) ∧ u' = .panicking ({ flt p c with recovered := true } :: older) ∧ w' = (((w.setCell ⟨b0, 0, none⟩ (.string ⟨#[]⟩)).setCell ⟨b1, 0, none⟩ (.int .i64 p)).setCell ⟨b2, 0, none⟩ (.int .i64 c)).drew := by
  have c0 : w.cell? ⟨b0, 0, none⟩ = some v0 := blk_cell h0 0
  have c1 : w.cell? ⟨b1, 0, none⟩ = some v1 := blk_cell h1 0
  have c2 : w.cell? ⟨b2, 0, none⟩ = some v2 := blk_cell h2 0
  have f0 := blk_free h0 0
  have f1 := blk_free h1 0
  have f2 := blk_free h2 0
  have hta := assert_flt
  have hf0 := field_flt0
  have hf1 := field_flt1
  refine callsD_of_wpS Tryz.func143 rfl fun c₀ cs hu => ?_
  apply wpS_seq
  apply wpS_region
  simp [wpOpsS, go_sem, recoverD, hu, flt, Tryz.ntmps143, Exit.thenS]
  refine wpS_of_wp ?_
  change Code.wp _ _ _ { tmps := #[.pointer (some ⟨b0, 0, none⟩), .pointer (some ⟨b1, 0, none⟩), .pointer (some ⟨b2, 0, none⟩), .iface 177 (.agg #[.int .i64 p, .int .i64 c]), .iface 177 (.agg #[.int .i64 p, .int .i64 c]), undef, undef, undef, undef, undef, undef, undef, undef], defers := [] } w
  go_wp2
  go_region
  go_wp2
  exact ⟨rfl, _, rfl, .tuple #[], by simp [results, Tryz.results143], rfl, rfl, rfl⟩
end Go.Proofs.YtbdamneophbnnaaGreatDoor
namespace Wb
open Go Go.RowKit
def cellsB (l : List UInt8) : List Value := l.map fun b => Value.int .u8 b.toNat
theorem cellsB_length (l : List UInt8) : (cellsB l).length = l.length := by simp [cellsB]
theorem cellsB_append (a b : List UInt8) : cellsB (a ++ b) = cellsB a ++ cellsB b := by simp [cellsB]
theorem cellsB_one (l : List UInt8) : ∀ u ∈ cellsB l, u.oneCell' = true := by
  intro u hu
  obtain ⟨_, _, rfl⟩ := List.mem_map.1 hu
  rfl
section
variable {P : Program} (w : World)
theorem run_append_room_str (t tx ty e : TypeId) (i : TypeInfo) (ht : P.underlying t = some (.slice e)) (hu : P.underlying tx = some .string) (hi : P.info? e = some i) (hsz : i.size = 1)
    (g sLen sCap : Nat) (cur : Array Value) (hg : w.heap[g]? = some (.cells cur e (0, 0))) (s : ByteArray) (hroom : sLen + s.size ≤ sCap) (hfit : sLen + s.size ≤ cur.size) :
    (Builtin.append_ #[t, tx] ty #[.slice (some ⟨g, 0, none⟩) sLen sCap, .string s]).run P w =
      .ok (.slice (some ⟨g, 0, none⟩) (sLen + s.size) sCap) (w.setRow g (cur.toList.take sLen ++ byteCells s ++ cur.toList.drop (sLen + s.size)).toArray) := by
  have hl : (byteCells s).length = s.size := byteCells_length s
  have hst := run_storeCells_at P g sLen e (byteCells s) 0 cur w hg (by rw [hl]; exact hfit) (cellsB_one s.data.toList)
  simp only [Nat.add_zero] at hst
  have hf := firstCells_string (P := P) s w
  simp [Builtin.append_, run_underlying ht, run_underlying hu, Go.sizeOf, typeInfo, hi, hsz, Builtin.lenOf, hroom, hf, Addr.add_lit, hst, hl]
theorem run_append_str (base : Nat) (t tx ty e : TypeId) (i : TypeInfo) (z : Value) (bytes : Nat) (ht : P.underlying t = some (.slice e)) (hu : P.underlying tx = some .string) (hi : P.info? e = some i) (hz : i.zero = some z)
    (hsize : i.size = 1) (hby : i.bytes = bytes) (hzs : z.cells.size = 1)
    (v : Value) (n : Nat) (xs : List Value) (hown : w.ownsRow base e 1 v n xs) (s : ByteArray)
    (h63 : n + s.size ≤ maxLen) (hbytes : (n + s.size) * bytes ≤ 140737488355328) (hbase : base ≤ w.heap.size) :
    ∃ v' w', (Builtin.append_ #[t, tx] ty #[v, .string s]).run P w = .ok v' w' ∧ w'.ownsRow base e 1 v' (n + s.size) (xs ++ cellsB s.data.toList) ∧ w.grownBy w' v.ownBlock ∧
      (v'.ownBlock = v.ownBlock ∨ v'.ownBlock = some w.heap.size) := by
  subst hby
  have hsmall : n + s.size ≤ 9223372036854775807 := by simp only [maxLen] at h63; omega
  have hl : (byteCells s).length = s.size := byteCells_length s
  have hlen : (xs ++ byteCells s).length = (n + s.size) * 1 := by rw [List.length_append, hown.1, hl]; omega
  have hxs : xs.length = n := by have := hown.1; omega
  have grown : ∀ (old : Nat), old < n + s.size → ∀ (row : Option Nat),
      (w.drew.alloc (.cells ((xs ++ byteCells s).toArray ++ Builtin.zeroCells z.cells (grownCap w (n + s.size) old e - (n + s.size))) e)).ownsRow base e 1
        (.slice (some ⟨w.heap.size, 0, none⟩) (n + s.size) (grownCap w (n + s.size) old e)) (n + s.size) (xs ++ byteCells s) ∧
      w.grownBy (w.drew.alloc (.cells ((xs ++ byteCells s).toArray ++ Builtin.zeroCells z.cells (grownCap w (n + s.size) old e - (n + s.size))) e)) row := by
    intro old ho row
    have hge := grownCap_ge w (n + s.size) old e
    have hcm : grownCap w (n + s.size) old e ≤ maxLen := grownCap_le_maxLen w (n + s.size) old e h63
    refine ⟨⟨hlen, .inr ⟨w.heap.size, _, _, rfl, hbase, heap_alloc_new w.drew _, hge, hcm, ?_, ?_⟩⟩, ⟨rfl, rfl, rfl, by simp, fun k hk _ => Go.RowKit.Below.heap_alloc w.drew _ k hk⟩⟩
    · simp only [Array.size_append, List.size_toArray, size_zeroCells, hzs, hlen]
      omega
    · simp only [Array.toList_append]
      rw [← hlen]
      exact List.take_left
  rcases hown.2 with ⟨rfl, rfl⟩ | ⟨g, cap, cur, rfl, hbg, hg, hnc, hcm, hcs, htake⟩
  · have hx : xs = [] := List.eq_nil_of_length_eq_zero (by simpa using hown.1)
    subst hx
    by_cases hm : s.size = 0
    · refine ⟨.slice none 0 0, w, ?_, ?_, World.grownBy.refl w _, Or.inl rfl⟩
      · have hb : byteCells s = [] := List.eq_nil_of_length_eq_zero (by rw [hl, hm])
        have hf := firstCells_string (P := P) s w
        rw [hm, hb] at hf
        simp [Builtin.append_, run_underlying ht, run_underlying hu, Go.sizeOf, typeInfo, hi, hsize, Builtin.lenOf, hm, hf]
      · rw [hm]
        have hb : s.data.toList = [] := List.eq_nil_of_length_eq_zero (by simpa using hm)
        rw [hb]
        exact World.ownsRow_nil w base e 1
    · have hr := run_append_grow_src (P := P) w t tx ty e i z ht hi hz none 0 0 [] (by simp [Builtin.firstCells]) (.string s) s.size (byteCells s) (by rw [hsize]; exact Src.ofString w hu s) (by omega) (by omega)
        (growslice_fits (by omega) hbytes)
      have hgr := grown 0 (by omega) (Value.ownBlock (.slice none 0 0))
      exact ⟨_, _, hr, hgr.1, hgr.2, Or.inr rfl⟩
  · by_cases hroom : n + s.size ≤ cap
    · have hfit : n + s.size ≤ cur.size := by omega
      have hr := run_append_room_str (P := P) w t tx ty e i ht hu hi hsize g n cap cur hg s hroom hfit
      refine ⟨_, _, hr, ⟨hlen, .inr ⟨g, cap, _, rfl, hbg, setRow_heap w g cur _ e _ hg, hroom, hcm, ?_, ?_⟩⟩, ⟨rfl, rfl, rfl, by simp, fun k _ hk => setRow_other w g k _ (fun e => hk (by simp [Value.ownBlock, e]))⟩, Or.inl rfl⟩
      · simp only [List.size_toArray, List.length_append, List.length_take, List.length_drop, Array.length_toList, hl]
        omega
      · have ht' : cur.toList.take n = xs := by rw [← htake]; congr 1; omega
        rw [ht', show (n + s.size) * 1 = (xs ++ byteCells s).length from hlen.symm]
        exact List.take_left
    · have holds : ∀ j u, xs[j]? = some u → w.cell? ((⟨g, 0, none⟩ : Addr).add j) = some u := hown.cells (g := g) rfl
      have hf := run_firstCells_some (P := P) w.drew i.size n ⟨g, 0, none⟩ n cap xs (by rw [hsize]; exact hown.1) (by simpa using holds)
      have hr := run_append_grow_src (P := P) w t tx ty e i z ht hi hz (some ⟨g, 0, none⟩) n cap xs hf (.string s) s.size (byteCells s) (by rw [hsize]; exact Src.ofString w hu s) (by omega) (by omega) (growslice_fits (by omega) hbytes)
      have hgr := grown cap (by omega) (Value.ownBlock (.slice (some ⟨g, 0, none⟩) n cap))
      exact ⟨_, _, hr, hgr.1, hgr.2, Or.inr rfl⟩
theorem wpList_append_str {ops : Array Oper} {rest : List Oper} {o : Oper} {a : Act} {Q : Exit → Act → World → Prop} (hgd : o.guard = none) (s x : Operand) (t tx : TypeId)
    (ho : o.op = .call { callee := .builtin .append, args := #[s, x], argTypes := #[t, tx] })
    (base : Nat) (e : TypeId) (i : TypeInfo) (z : Value) (bytes : Nat) (ht : P.underlying t = some (.slice e)) (hu : P.underlying tx = some .string) (hi : P.info? e = some i) (hz : i.zero = some z)
    (hsize : i.size = 1) (hby : i.bytes = bytes) (hzs : z.cells.size = 1)
    (v : Value) (n : Nat) (xs : List Value) (hs : a.eval s = v) (hown : w.ownsRow base e 1 v n xs) (b : ByteArray) (hx : a.eval x = .string b)
    (h63 : n + b.size ≤ maxLen) (hbytes : (n + b.size) * bytes ≤ 140737488355328) (hbase : base ≤ w.heap.size)
    (h : ∀ v' w', w'.ownsRow base e 1 v' (n + b.size) (xs ++ cellsB b.data.toList) → w.grownBy w' v.ownBlock → (v'.ownBlock = v.ownBlock ∨ v'.ownBlock = some w.heap.size) → wpList P ops Q rest (a.put o.dst v') w') : wpList P ops Q (o :: rest) a w := by
  refine wpList_plain hgd fun K hK => ?_
  obtain ⟨v', w', hrun, h2, h3, h4⟩ := run_append_str (P := P) w base t tx o.type e i z bytes ht hu hi hz hsize hby hzs v n xs hown b h63 hbytes hbase
  unfold Oper.wp execOp
  simp only [ho, resolve, invoke, builtin, Sem.run_bind, Sem.run_pure, Result.andThen_ok, List.map_toArray, List.map_cons, List.map_nil, hs, hx, hrun]
  exact hK _ _ (h v' w' h2 h3 h4)
end
end Wb
namespace Go.Proofs.YtbdamneophbnnaaGreatDoor
open Go.RowKit Wb
def begAt (s : ByteArray) (i : Nat) (t : ByteArray) : Bool := (s.extract i (i + t.size)).toList == t.toList
def IdxIs (s : ByteArray) (a : Nat) (t : ByteArray) (r : Int) : Prop :=
  (r = -1 ∧ ∀ i, a ≤ i → i + t.size ≤ s.size → begAt s i t = false) ∨
  (∃ k : Nat, r = k ∧ a ≤ k ∧ k + t.size ≤ s.size ∧ begAt s k t = true ∧ ∀ i, a ≤ i → i < k → begAt s i t = false)
set_option maxHeartbeats 400000 in
theorem index_any (s t : ByteArray) (a : Nat) (w : World) (hs : s.size ≤ 1000000000) (ht : t.size ≤ 1000000000) (ha : a ≤ 2000000000) :
    Calls Tryz.prog 19 #[.string s, .int .i64 a, .string t] w fun e w' => ∃ r, e = .returned (.int .i64 r) ∧ IdxIs s a t r ∧ w = w' := by
  go_enter Tryz.func19, Tryz.ntmps19
  go_wp2
  go_loop [7] (fun i => ∃ k : Nat, a ≤ k ∧ (k : Int) ≤ 2000000000 ∧ i = .int .i64 k ∧ Hid (∀ i, a ≤ i → i < k → begAt s i t = false)) (fun i => (2000000001 - intOf i).toNat)
  case atStart => exact ⟨a, Nat.le_refl _, by omega, rfl, Lib.hid (fun i h1 h2 => absurd h2 (by omega))⟩
  case round =>
    obtain ⟨k, hk, hk2, rfl, HI⟩ := hrel
    by_cases hr : (k : Int) ≤ (s.size : Int) - t.size
    · have g1 : (k : Int) + t.size ≤ s.size := by omega
      cases hb : begAt s k t
      · have HB := Lib.hid hb
        have hq : ((s.extract k (k + t.size)).toList == t.toList) = false := hb
        clear hb
        go_wp2
        go_round
        case rel => exact ⟨k + 1, by omega, by omega, by go_num, Lib.hid (fun i h1 h2 => by
          by_cases e : i = k
          · subst e; exact HB.out
          · exact HI.out i h1 (by omega))⟩
        case measure => simp [intOf]; omega
      · have HB := Lib.hid hb
        have hq : ((s.extract k (k + t.size)).toList == t.toList) = true := hb
        clear hb
        go_wp2
        go_ret
        exact ⟨k, rfl, .inr ⟨k, rfl, hk, by omega, HB.out, HI.out⟩, rfl⟩
    · go_wp2
      go_ret
      exact ⟨-1, rfl, .inl ⟨rfl, fun i h1 h2 => HI.out i h1 (by omega)⟩, rfl⟩
end Go.Proofs.YtbdamneophbnnaaGreatDoor
namespace Go.Proofs.YtbdamneophbnnaaGreatDoor
open Go.RowKit Wb
theorem extract_L (s : ByteArray) (a b : Nat) : (s.extract a b).data.toList = (s.data.toList.drop a).take (b - a) := by
  simp only [ByteArray.data_extract, Array.toList_extract]
theorem enc_ne {n : Int} (h : charB n = true) : enc n ≠ [] := by
  have hs : sgn n = true := by
    unfold charB at h
    simp [inS, charS] at h
    rw [sgn_iff]
    omega
  unfold enc
  rw [if_pos hs]
  split
  · simp
  · split
    · simp
    · split <;> simp
theorem refV_ne {t x : List UInt8} (h : refV t = some x) : x ≠ [] := by
  unfold refV at h
  split at h
  · cases h; simp
  · split at h
    · cases h; simp
    · split at h
      · cases h; simp
      · split at h
        · cases h; simp
        · split at h
          · cases h; simp
          · split at h
            · split at h
              · cases h; exact enc_ne (by assumption)
              · cases h
            · cases h
end Go.Proofs.YtbdamneophbnnaaGreatDoor
namespace Go.Proofs.YtbdamneophbnnaaGreatDoor
open Go.RowKit Wb
def unB (s : ByteArray) (attr : Bool) : ByteArray × Int × Int :=
  match unL attr (s.size + 1) s.data.toList 0 with
  | .ok x => (⟨x.toArray⟩, 0, 0)
  | .error p => (⟨#[]⟩, p, 16)
theorem unB_ok {s : ByteArray} {attr : Bool} {x : List UInt8} (h : unL attr (s.size + 1) s.data.toList 0 = .ok x) : unB s attr = (⟨x.toArray⟩, 0, 0) := by unfold unB; rw [h]
theorem unB_bad {s : ByteArray} {attr : Bool} {p : Nat} (h : unL attr (s.size + 1) s.data.toList 0 = .error p) : unB s attr = (⟨#[]⟩, (p : Int), 16) := by unfold unB; rw [h]
theorem un_end {s : ByteArray} {k f : Nat} {attr : Bool} (hk : s.size ≤ k) : unL attr (f + 1) (s.data.toList.drop k) k = .ok [] := by
  rw [List.drop_eq_nil_of_le (by simpa using hk)]; rfl
theorem enc_le (n : Int) : (enc n).length ≤ 4 := by
  unfold enc
  split
  · split
    · simp
    · split
      · simp
      · split <;> simp
  · simp
theorem refV_le {t x : List UInt8} (h : refV t = some x) : x.length ≤ 4 := by
  unfold refV at h
  split at h
  · cases h; simp
  · split at h
    · cases h; simp
    · split at h
      · cases h; simp
      · split at h
        · cases h; simp
        · split at h
          · cases h; simp
          · split at h
            · split at h
              · cases h; exact enc_le _
              · cases h
            · cases h
end Go.Proofs.YtbdamneophbnnaaGreatDoor
