/- LePu LePv LeA Mem3 LxAa LxC LxE LePlain2 LePlainU LeFit3. -/
import Derived.Lib.ConvBytes
import Derived.Lib.AtoiErrMem
import Derived.Laws.Strings3
import Derived.Laws.Closers25
import Derived.Laws.Closers25b
import Derived.BigCall
import Derived.BigGuard
import Derived.Recover
import Derived.Laws.Pointers
import Derived.Deep.AppendSrc
import Derived.Laws.Strings
import GoSem.Claim
import Derived.Test.YtbeglliabpflpaaGreatDoorCA1
import Derived.Test.YtbeglliabpflpaaGreatDoorCA2
import Derived.Test.YtbeglliabpflpaaGreatDoorCA4
import Derived.Test.YtbeglliabpflpaaGreatDoorCA5
import Derived.Test.YtbeglliabpflpaaGreatDoorCA6
namespace Go.Proofs.YtbeglliabpflpaaGreatDoor
open Go.RowKit Wb
theorem digL_ge (base : Int) (hb : 1 ≤ base) : ∀ (l : List UInt8) (n m : Int), 0 ≤ n → digL base n l = some m → n ≤ m
  | [], n, m, _, h => by simp [digL] at h; omega
  | c :: l, n, m, h0, h => by
    unfold digL at h
    split at h
    · cases h
    · have hd := digV_nn c.toNat
      have h1 : n * 1 ≤ n * base := Int.mul_le_mul_of_nonneg_left hb h0
      have := digL_ge base hb l _ m (by omega) h
      omega
def puX (base : Int) (l : List UInt8) : Option Int :=
  match numL base l with
  | some n => if n ≤ 2147483647 then some n else none
  | none => none
theorem puX_go {base : Int} {l : List UInt8} (hl : l ≠ []) : puX base l = match digL base 0 l with | some n => if n ≤ 2147483647 then some n else none | none => none := by
  unfold puX numL; rw [if_neg hl]
def dec31 (o : Option Int) : Option Int := match o with | some n => if n ≤ 2147483647 then some n else none | none => none
theorem or32_all : ∀ n : Fin 256, (97 ≤ bits .or .u8 (n.val : Int) 32 ∧ bits .or .u8 (n.val : Int) 32 ≤ 122 → lowB n.val = bits .or .u8 (n.val : Int) 32) ∧
    (¬ (97 ≤ bits .or .u8 (n.val : Int) 32 ∧ bits .or .u8 (n.val : Int) 32 ≤ 122) → ¬ (48 ≤ (n.val : Int) ∧ (n.val : Int) ≤ 57) → digV n.val = 99) := by
  decide +kernel
theorem or32_yes {c : UInt8} (h1 : 97 ≤ bits .or .u8 (c.toNat : Int) 32) (h2 : bits .or .u8 (c.toNat : Int) 32 ≤ 122) : lowB c.toNat = bits .or .u8 (c.toNat : Int) 32 :=
  (or32_all ⟨c.toNat, c.toNat_lt⟩).1 ⟨h1, h2⟩
theorem or32_no {c : UInt8} (h : ¬ (97 ≤ bits .or .u8 (c.toNat : Int) 32 ∧ bits .or .u8 (c.toNat : Int) 32 ≤ 122)) (hd : ¬ (48 ≤ (c.toNat : Int) ∧ (c.toNat : Int) ≤ 57)) : digV c.toNat = 99 :=
  (or32_all ⟨c.toNat, c.toNat_lt⟩).2 h hd
theorem digV_dec {c : UInt8} (h : 48 ≤ (c.toNat : Int) ∧ (c.toNat : Int) ≤ 57) : digV c.toNat = (c.toNat : Int) - 48 := by
  have e : lowB c.toNat = c.toNat := by unfold lowB; rw [if_neg (by omega)]
  unfold digV
  rw [e, if_pos h]
theorem digV_let {v : Int} {c : UInt8} (h : lowB c.toNat = v) (h1 : 97 ≤ v) (h2 : v ≤ 122) : (v ≤ 102 → digV c.toNat = v - 87) ∧ (102 < v → digV c.toNat = 99) := by
  unfold digV
  rw [h, if_neg (by omega)]
  constructor
  · intro h3; rw [if_pos ⟨h1, h3⟩]
  · intro h3; rw [if_neg (by omega)]
theorem digL_step {base a : Int} {c : UInt8} {l : List UInt8} {d : Int} (hd : digV c.toNat = d) (h : d < base) : digL base a (c :: l) = digL base (a * base + d) l := by
  conv => lhs; unfold digL
  rw [hd, if_neg (by omega)]
theorem digL_stop {base a : Int} {c : UInt8} {l : List UInt8} (h : base ≤ digV c.toNat) : digL base a (c :: l) = none := by
  unfold digL; rw [if_pos h]
theorem dec31_over {base a : Int} {l : List UInt8} (hb : 1 ≤ base) (h0 : 0 ≤ a) (h : 2147483647 < a) : dec31 (digL base a l) = none := by
  unfold dec31
  cases hd : digL base a l with
  | none => rfl
  | some m =>
    have := digL_ge base hb l a m h0 hd
    simp only
    rw [if_neg (by omega)]
def PuIs (o : Option Int) (e : Ending) : Prop :=
  match o with
  | some n => e = .returned (.tuple #[.int .u64 n, .nilIface])
  | none => ∃ v c, e = .returned (.tuple #[.int .u64 v, .iface 189 (.int .i64 c)]) ∧ (c = 1 ∨ c = 2)
set_option maxHeartbeats 32000000 in
set_option maxRecDepth 100000 in
theorem ipu10_any (t : ByteArray) (hne : t.size ≠ 0) (hmax : t.size ≤ 1000000000) (w : World) :
    Calls Tryz.prog 154 #[.string t, .int .i64 10, .int .i64 31] w fun e w' => PuIs (puX 10 t.data.toList) e ∧ Below w.heap.size w w' := by
  have hemp : t.toList.isEmpty = false := by
    rw [← decide_eq_emptyBytes]
    exact decide_eq_false (fun h => hne (by rw [h]; rfl))
  have hcv := Lib.run_convert_string_bytes (P := Tryz.prog) w 9 78 5 t (u := .string) Tryz.underlying9 Tryz.underlying78 Tryz.underlying5
  have hB : ∀ j, j < t.size → (Lib.bytesWorld w 5 t).cell? ⟨w.heap.size, j, none⟩ = some (.int .u8 (t.data.toList.getD j 0).toNat) := fun j hj => Lib.bytesWorld_cell w 5 t j hj
  have hW := Lib.hid (Lib.bytesWorld_below w 5 t)
  obtain ⟨W1, hW1⟩ : ∃ W1, W1 = Lib.bytesWorld w 5 t := ⟨_, rfl⟩
  rw [← hW1] at hcv hB hW
  clear hW1
  obtain ⟨bs, hL⟩ : ∃ bs, bs = t.data.toList := ⟨_, rfl⟩
  have hLn : bs.length = t.size := by rw [hL, Lib.size_eq]
  have hbne : bs ≠ [] := fun h => hne (by rw [← hLn, h]; rfl)
  have HP := Lib.hid (show puX 10 bs = dec31 (digL 10 0 bs) from puX_go hbne)
  rw [← hL] at hB ⊢
  rw [HP.out]
  clear hL hbne HP
  have hmv : IntKind.u64.wrap (IntKind.u64.wrap 2147483648 - 1) = 2147483647 := by
    rw [IntKind.wrap_u64, IntKind.wrap_u64]
    decide
  obtain ⟨r, hr⟩ : ∃ r, dec31 (digL 10 0 bs) = r := ⟨_, rfl⟩
  have HR := Lib.hid hr
  rw [hr]
  clear hr
  go_enter Tryz.func154, Tryz.ntmps154
  go_wp2
  go_loop [12, 13, 101] (fun vu vn vi => ∃ (k : Nat) (a : Int), vu = .bool false ∧ vn = .int .u64 a ∧ vi = .int .i64 k ∧ k ≤ t.size ∧ 0 ≤ a ∧ a ≤ 2147483647 ∧ Hid (digL 10 0 bs = digL 10 a (bs.drop k)))
    (fun _ _ vi => t.size - (intOf vi).toNat)
  case atStart => exact ⟨0, 0, rfl, rfl, rfl, by omega, by omega, by omega, Lib.hid rfl⟩
  case round =>
    obtain ⟨k, a, rfl, rfl, rfl, hk, a0, a1, hh⟩ := hrel
    by_cases hkn : k < t.size
    · have hc := hB k hkn
      have hdrop : bs.drop k = bs[k]'(by omega) :: bs.drop (k + 1) := List.drop_eq_getElem_cons (by omega)
      have hget : bs.getD k 0 = bs[k]'(by omega) := by simp [List.getD, List.getElem?_eq_getElem (show k < bs.length by omega)]
      rw [hdrop] at hh
      rw [hget] at hc
      generalize bs[k]'(by omega) = c at hc hh
      have hc256 : c.toNat < 256 := c.toNat_lt
      clear hB hdrop hget
      by_cases hdig : 48 ≤ (c.toNat : Int) ∧ (c.toNat : Int) ≤ 57
      · have hd0 : 48 ≤ c.toNat := by omega
        have hd1 : c.toNat ≤ 57 := by omega
        have HD := Lib.hid (digV_dec hdig)
        clear hdig
        by_cases hov : 2147483647 < a * 10 + ((c.toNat : Int) - 48)
        · have HE : Hid (r = none) := Lib.hid (by rw [← HR.out, hh.out, digL_step HD.out (by omega)]; exact dec31_over (by omega) (by omega) hov)
          clear hh HD
          go_wp2
          go_ret2
          rw [HE.out]
          exact ⟨⟨_, _, rfl, .inl rfl⟩, hW.out⟩
        · have HN : Hid (digL 10 0 bs = digL 10 (a * 10 + ((c.toNat : Int) - 48)) (bs.drop (k + 1))) := Lib.hid (by rw [hh.out, digL_step HD.out (by omega)])
          have iov : a * 10 + ((c.toNat : Int) - 48) ≤ 2147483647 := by omega
          clear hov hh HD
          go_wp2
          refine ⟨⟨k + 1, a * 10 + ((c.toNat : Int) - 48), rfl, (by first | rfl | (congr 1; omega)), (by first | rfl | (congr 1; omega)), by omega, by omega, by omega, HN⟩, by simp [intOf]; omega⟩
      · have hF : 10 ≤ digV c.toNat := by
          by_cases h : 97 ≤ bits .or .u8 (c.toNat : Int) 32 ∧ bits .or .u8 (c.toNat : Int) 32 ≤ 122
          · have h3 := digV_let (or32_yes h.1 h.2) h.1 h.2
            by_cases h4 : bits .or .u8 (c.toNat : Int) 32 ≤ 102
            · rw [h3.1 h4]; omega
            · rw [h3.2 (by omega)]; omega
          · rw [or32_no h hdig]; omega
        have HE : Hid (r = none) := Lib.hid (by rw [← HR.out, hh.out, digL_stop hF]; rfl)
        have hdig' : ¬ (48 ≤ c.toNat ∧ c.toNat ≤ 57) := by omega
        clear hF hh hdig
        have hv0 := bits_lo_u8 .or (c.toNat : Int) 32
        have hv1 := bits_hi_u8 .or (c.toNat : Int) 32
        have hu0 := bits_lo_u8 .or 95 32
        have hu1 := bits_hi_u8 .or 95 32
        go_wp2_with (go_at_call 158; refine (Tryz.internal_strconv_lower _ _).mono ?_; rintro e w' ⟨rfl, rfl⟩)
        all_goals go_ret2
        all_goals (rw [HE.out]; exact ⟨⟨_, _, rfl, .inr rfl⟩, hW.out⟩)
    · have hkk : k = t.size := by omega
      subst hkk
      have HE : Hid (r = some a) := Lib.hid (by
        rw [← HR.out, hh.out, List.drop_eq_nil_of_le (by omega)]
        unfold digL dec31
        simp only
        rw [if_pos a1])
      clear hh
      go_wp2
      go_ret2
      rw [HE.out]
      exact ⟨rfl, hW.out⟩
end Go.Proofs.YtbeglliabpflpaaGreatDoor
namespace Go.Proofs.YtbeglliabpflpaaGreatDoor
open Go.RowKit Wb
set_option maxHeartbeats 32000000 in
set_option maxRecDepth 100000 in
theorem ipu16_any (t : ByteArray) (hne : t.size ≠ 0) (hmax : t.size ≤ 1000000000) (w : World) :
    Calls Tryz.prog 154 #[.string t, .int .i64 16, .int .i64 31] w fun e w' => PuIs (puX 16 t.data.toList) e ∧ Below w.heap.size w w' := by
  have hemp : t.toList.isEmpty = false := by
    rw [← decide_eq_emptyBytes]
    exact decide_eq_false (fun h => hne (by rw [h]; rfl))
  have hcv := Lib.run_convert_string_bytes (P := Tryz.prog) w 9 78 5 t (u := .string) Tryz.underlying9 Tryz.underlying78 Tryz.underlying5
  have hB : ∀ j, j < t.size → (Lib.bytesWorld w 5 t).cell? ⟨w.heap.size, j, none⟩ = some (.int .u8 (t.data.toList.getD j 0).toNat) := fun j hj => Lib.bytesWorld_cell w 5 t j hj
  have hW := Lib.hid (Lib.bytesWorld_below w 5 t)
  obtain ⟨W1, hW1⟩ : ∃ W1, W1 = Lib.bytesWorld w 5 t := ⟨_, rfl⟩
  rw [← hW1] at hcv hB hW
  clear hW1
  obtain ⟨bs, hL⟩ : ∃ bs, bs = t.data.toList := ⟨_, rfl⟩
  have hLn : bs.length = t.size := by rw [hL, Lib.size_eq]
  have hbne : bs ≠ [] := fun h => hne (by rw [← hLn, h]; rfl)
  have HP := Lib.hid (show puX 16 bs = dec31 (digL 16 0 bs) from puX_go hbne)
  rw [← hL] at hB ⊢
  rw [HP.out]
  clear hL hbne HP
  have hmv : IntKind.u64.wrap (IntKind.u64.wrap 2147483648 - 1) = 2147483647 := by
    rw [IntKind.wrap_u64, IntKind.wrap_u64]
    decide
  obtain ⟨r, hr⟩ : ∃ r, dec31 (digL 16 0 bs) = r := ⟨_, rfl⟩
  have HR := Lib.hid hr
  rw [hr]
  clear hr
  go_enter Tryz.func154, Tryz.ntmps154
  go_wp2
  go_loop [12, 13, 101] (fun vu vn vi => ∃ (k : Nat) (a : Int), vu = .bool false ∧ vn = .int .u64 a ∧ vi = .int .i64 k ∧ k ≤ t.size ∧ 0 ≤ a ∧ a ≤ 2147483647 ∧ Hid (digL 16 0 bs = digL 16 a (bs.drop k)))
    (fun _ _ vi => t.size - (intOf vi).toNat)
  case atStart => exact ⟨0, 0, rfl, rfl, rfl, by omega, by omega, by omega, Lib.hid rfl⟩
  case round =>
    obtain ⟨k, a, rfl, rfl, rfl, hk, a0, a1, hh⟩ := hrel
    by_cases hkn : k < t.size
    · have hc := hB k hkn
      have hdrop : bs.drop k = bs[k]'(by omega) :: bs.drop (k + 1) := List.drop_eq_getElem_cons (by omega)
      have hget : bs.getD k 0 = bs[k]'(by omega) := by simp [List.getD, List.getElem?_eq_getElem (show k < bs.length by omega)]
      rw [hdrop] at hh
      rw [hget] at hc
      generalize bs[k]'(by omega) = c at hc hh
      have hc256 : c.toNat < 256 := c.toNat_lt
      clear hB hdrop hget
      by_cases hdig : 48 ≤ (c.toNat : Int) ∧ (c.toNat : Int) ≤ 57
      · have hd0 : 48 ≤ c.toNat := by omega
        have hd1 : c.toNat ≤ 57 := by omega
        have HD := Lib.hid (digV_dec hdig)
        clear hdig
        by_cases hov : 2147483647 < a * 16 + ((c.toNat : Int) - 48)
        · have HE : Hid (r = none) := Lib.hid (by rw [← HR.out, hh.out, digL_step HD.out (by omega)]; exact dec31_over (by omega) (by omega) hov)
          clear hh HD
          go_wp2
          go_ret2
          rw [HE.out]
          exact ⟨⟨_, _, rfl, .inl rfl⟩, hW.out⟩
        · have HN : Hid (digL 16 0 bs = digL 16 (a * 16 + ((c.toNat : Int) - 48)) (bs.drop (k + 1))) := Lib.hid (by rw [hh.out, digL_step HD.out (by omega)])
          have iov : a * 16 + ((c.toNat : Int) - 48) ≤ 2147483647 := by omega
          clear hov hh HD
          go_wp2
          refine ⟨⟨k + 1, a * 16 + ((c.toNat : Int) - 48), rfl, (by first | rfl | (congr 1; omega)), (by first | rfl | (congr 1; omega)), by omega, by omega, by omega, HN⟩, by simp [intOf]; omega⟩
      · have hdig' : ¬ (48 ≤ c.toNat ∧ c.toNat ≤ 57) := by omega
        have hv0 := bits_lo_u8 .or (c.toNat : Int) 32
        have hv1 := bits_hi_u8 .or (c.toNat : Int) 32
        by_cases h95 : c.toNat = 95
        · have hF : 16 ≤ digV c.toNat := by rw [h95]; decide
          have HE : Hid (r = none) := Lib.hid (by rw [← HR.out, hh.out, digL_stop hF]; rfl)
          have hu0 := bits_lo_u8 .or 95 32
          have hu1 := bits_hi_u8 .or 95 32
          have hu2 : 122 < bits .or .u8 95 32 := by decide
          clear hF hh hdig hdig' hv0 hv1
          rw [h95] at hc
          clear h95
          go_wp2_with (go_at_call 158; refine (Tryz.internal_strconv_lower _ _).mono ?_; rintro e w' ⟨rfl, rfl⟩)
          all_goals go_ret2
          all_goals (rw [HE.out]; exact ⟨⟨_, _, rfl, .inr rfl⟩, hW.out⟩)
        · have h95i : ¬ (c.toNat : Int) = 95 := by omega
          clear h95
          have HY := Lib.hid (fun h1 h2 => or32_yes (c := c) h1 h2)
          have HX := Lib.hid (fun h => or32_no (c := c) h hdig)
          obtain ⟨v, hv⟩ : ∃ v, bits .or .u8 (c.toNat : Int) 32 = v := ⟨_, rfl⟩
          have hlow : ∀ w, Calls Tryz.prog 158 #[.int .u8 (c.toNat : Int)] w fun e w' => e = .returned (.int .u8 v) ∧ w = w' := fun w =>
            (Tryz.internal_strconv_lower (c.toNat : Int) w).mono (by rintro e w' ⟨rfl, rfl⟩; exact ⟨by rw [hv], rfl⟩)
          rw [hv] at hv0 hv1 HY HX
          clear hv hdig
          by_cases h97 : 97 ≤ v
          · by_cases h122 : v ≤ 122
            · have h3 := digV_let (HY.out h97 h122) h97 h122
              clear HY HX
              by_cases h4 : v ≤ 102
              · have HD := Lib.hid (h3.1 h4)
                clear h3
                have d16 : v - 97 + 10 < 16 := by omega
                by_cases hov : 2147483647 < a * 16 + (v - 87)
                · have HE : Hid (r = none) := Lib.hid (by rw [← HR.out, hh.out, digL_step HD.out (by omega)]; exact dec31_over (by omega) (by omega) hov)
                  have hov' : 2147483647 < a * 16 + (v - 97 + 10) := by omega
                  clear hh HD hov h122
                  go_wp2_with (go_at_call 158; refine (hlow _).mono ?_; rintro e w' ⟨rfl, rfl⟩)
                  all_goals go_ret2
                  all_goals (rw [HE.out]; exact ⟨⟨_, _, rfl, .inl rfl⟩, hW.out⟩)
                · have HN : Hid (digL 16 0 bs = digL 16 (a * 16 + (v - 97 + 10)) (bs.drop (k + 1))) := Lib.hid (by rw [hh.out, digL_step HD.out (by omega), show v - 97 + 10 = v - 87 from by omega])
                  have iov : a * 16 + (v - 97 + 10) ≤ 2147483647 := by omega
                  clear hh HD hov h122
                  go_wp2_with (go_at_call 158; refine (hlow _).mono ?_; rintro e w' ⟨rfl, rfl⟩)
                  all_goals exact ⟨⟨k + 1, a * 16 + (v - 97 + 10), rfl, (by first | rfl | (congr 1; omega)), (by first | rfl | (congr 1; omega)), by omega, by omega, by omega, HN⟩, by simp [intOf]; omega⟩
              · have hF : 16 ≤ digV c.toNat := by rw [h3.2 (by omega)]; omega
                have HE : Hid (r = none) := Lib.hid (by rw [← HR.out, hh.out, digL_stop hF]; rfl)
                have d16 : ¬ v - 97 + 10 < 16 := by omega
                clear hF hh h3
                go_wp2_with (go_at_call 158; refine (hlow _).mono ?_; rintro e w' ⟨rfl, rfl⟩)
                all_goals go_ret2
                all_goals (rw [HE.out]; exact ⟨⟨_, _, rfl, .inr rfl⟩, hW.out⟩)
            · have hF : 16 ≤ digV c.toNat := by rw [HX.out (by omega)]; omega
              have HE : Hid (r = none) := Lib.hid (by rw [← HR.out, hh.out, digL_stop hF]; rfl)
              clear hF hh HX HY
              go_wp2_with (go_at_call 158; refine (hlow _).mono ?_; rintro e w' ⟨rfl, rfl⟩)
              all_goals go_ret2
              all_goals (rw [HE.out]; exact ⟨⟨_, _, rfl, .inr rfl⟩, hW.out⟩)
          · have hF : 16 ≤ digV c.toNat := by rw [HX.out (by omega)]; omega
            have HE : Hid (r = none) := Lib.hid (by rw [← HR.out, hh.out, digL_stop hF]; rfl)
            clear hF hh HX HY
            go_wp2_with (go_at_call 158; refine (hlow _).mono ?_; rintro e w' ⟨rfl, rfl⟩)
            all_goals go_ret2
            all_goals (rw [HE.out]; exact ⟨⟨_, _, rfl, .inr rfl⟩, hW.out⟩)
    · have hkk : k = t.size := by omega
      subst hkk
      have HE : Hid (r = some a) := Lib.hid (by
        rw [← HR.out, hh.out, List.drop_eq_nil_of_le (by omega)]
        unfold digL dec31
        simp only
        rw [if_pos a1])
      clear hh
      go_wp2
      go_ret2
      rw [HE.out]
      exact ⟨rfl, hW.out⟩
end Go.Proofs.YtbeglliabpflpaaGreatDoor
namespace Go.Proofs.YtbeglliabpflpaaGreatDoor
open Go.RowKit Wb
def flt (p c : Int) : PanicEntry := { v := .iface 154 (.agg #[.int .i64 p, .int .i64 c]), recovered := false }
theorem fail_any (p c : Int) (w : World) :
    Calls Tryz.prog 141 #[.int .i64 p, .int .i64 c] w fun e w' => e = .panicked [flt p c] ∧ w = w' := by
  go_enter Tryz.func141, Tryz.ntmps141
  go_wp2
  exact ⟨rfl, rfl, rfl⟩
theorem assert_flt (v : Value) (w : World) : (Instr.typeAssert (.iface 154 v) 20 154 false).run Tryz.prog w = .ok v w := by
  kernel_rfl
theorem field_flt0 (a b : Value) (w : World) : (Instr.field 154 (.agg #[a, b]) 0).run Tryz.prog w = .ok a w := by
  kernel_rfl
theorem field_flt1 (a b : Value) (w : World) : (Instr.field 154 (.agg #[a, b]) 1).run Tryz.prog w = .ok b w := by
  kernel_rfl
theorem catch_idle (b0 b1 b2 : Addr) (w : World) :
    CallsD Tryz.prog 122 #[.pointer (some b0), .pointer (some b1), .pointer (some b2)] .returning w fun e u' w' => e = .returned (.tuple #[]) ∧ u' = .returning ∧ w' = w := by
  refine callsD_of_wpS Tryz.func122 rfl fun c₀ cs hu => ?_
  apply wpS_seq
  apply wpS_region
  simp [wpOpsS, go_sem, recoverD, hu, Tryz.ntmps122, Exit.thenS]
  refine wpS_of_wp ?_
  go_wp2
  cases c₀
  simp_all [bodyPostS, results, Tryz.results122]
theorem catch_up (b0 b1 b2 : Nat) (v0 v1 v2 : Value) (t0 t1 t2 : TypeId) (p c : Int) (older : List PanicEntry) (w : World) (h0 : w.heap[b0]? = some (.cells #[v0] t0 (0, 0))) (h1 : w.heap[b1]? = some (.cells #[v1] t1 (0, 0))) (h2 : w.heap[b2]? = some (.cells #[v2] t2 (0, 0)))
    (n1 : b1 ≠ b0) (n2 : b2 ≠ b0) (n3 : b2 ≠ b1) :
    CallsD Tryz.prog 122 #[.pointer (some ⟨b0, 0, none⟩), .pointer (some ⟨b1, 0, none⟩), .pointer (some ⟨b2, 0, none⟩)] (.panicking (flt p c :: older)) w fun e u' w' =>
      e = .returned (.tuple #[]) ∧ u' = .panicking ({ flt p c with recovered := true } :: older) ∧ w' = (((w.setCell ⟨b0, 0, none⟩ (.string ⟨#[]⟩)).setCell ⟨b1, 0, none⟩ (.int .i64 p)).setCell ⟨b2, 0, none⟩ (.int .i64 c)).drew := by
  have c0 : w.cell? ⟨b0, 0, none⟩ = some v0 := blk_cell h0 0
  have c1 : w.cell? ⟨b1, 0, none⟩ = some v1 := blk_cell h1 0
  have c2 : w.cell? ⟨b2, 0, none⟩ = some v2 := blk_cell h2 0
  have f0 := blk_free h0 0
  have f1 := blk_free h1 0
  have f2 := blk_free h2 0
  have hta := assert_flt
  have hf0 := field_flt0
  have hf1 := field_flt1
  refine callsD_of_wpS Tryz.func122 rfl fun c₀ cs hu => ?_
  apply wpS_seq
  apply wpS_region
  simp [wpOpsS, go_sem, recoverD, hu, flt, Tryz.ntmps122, Exit.thenS]
  refine wpS_of_wp ?_
  change Code.wp _ _ _ { tmps := #[.pointer (some ⟨b0, 0, none⟩), .pointer (some ⟨b1, 0, none⟩), .pointer (some ⟨b2, 0, none⟩), .iface 154 (.agg #[.int .i64 p, .int .i64 c]), .iface 154 (.agg #[.int .i64 p, .int .i64 c]), undef, undef, undef, undef, undef, undef, undef, undef], defers := [] } w
  go_wp2
  go_region
  go_wp2
  exact ⟨rfl, _, rfl, .tuple #[], by simp [results, Tryz.results122], rfl, rfl, rfl⟩
end Go.Proofs.YtbeglliabpflpaaGreatDoor
namespace Wb
open Go Go.RowKit
def cellsB (l : List UInt8) : List Value := l.map fun b => Value.int .u8 b.toNat
theorem cellsB_length (l : List UInt8) : (cellsB l).length = l.length := by simp [cellsB]
theorem cellsB_append (a b : List UInt8) : cellsB (a ++ b) = cellsB a ++ cellsB b := by simp [cellsB]
theorem cellsB_one (l : List UInt8) : ∀ u ∈ cellsB l, u.oneCell' = true := by
  intro u hu
  obtain ⟨_, _, rfl⟩ := List.mem_map.1 hu
  rfl
section
variable {P : Program} (w : World)
end
end Wb
namespace Go.Proofs.YtbeglliabpflpaaGreatDoor
open Go.RowKit Wb
def begAt (s : ByteArray) (i : Nat) (t : ByteArray) : Bool := (s.extract i (i + t.size)).toList == t.toList
def begB (s : ByteArray) (at_ : Int) (t : ByteArray) : Bool := decide (0 ≤ at_) && (decide (at_ + t.size ≤ s.size) && begAt s at_.toNat t)
set_option maxHeartbeats 400000 in
theorem begins_any (s t : ByteArray) (at_ : Int) (w : World) (hs : s.size ≤ 1000000000) (ht : t.size ≤ 1000000000) (h1 : -1000000000 ≤ at_) (h2 : at_ ≤ 2000000000) :
    Calls Tryz.prog 24 #[.string s, .int .i64 at_, .string t] w fun e w' => e = .returned (.bool (begB s at_ t)) ∧ w = w' := by
  by_cases h0 : 0 ≤ at_
  · obtain ⟨k, rfl⟩ := Int.eq_ofNat_of_zero_le h0
    by_cases hk : (k : Int) + t.size ≤ s.size
    · cases hb : begAt s k t
      all_goals
        have H : Hid (begB s k t = _) := Lib.hid (show begB s k t = begAt s k t from by unfold begB; rw [decide_eq_true h0, decide_eq_true hk]; simp)
        rw [H.out, hb]
        clear H
        have hq : ((s.extract k (k + t.size)).toList == t.toList) = _ := hb
        clear hb
        have g1 : (t.size : Int) ≤ (s.size : Int) - k := by omega
        go_enter Tryz.func24, Tryz.ntmps24
        go_wp2
        go_ret
        exact ⟨rfl, rfl⟩
    · have H : begB s k t = false := by unfold begB; rw [decide_eq_false hk]; simp
      rw [H]
      clear H
      have g1 : ¬ (t.size : Int) ≤ (s.size : Int) - k := by omega
      go_enter Tryz.func24, Tryz.ntmps24
      go_wp2
      go_ret
      exact ⟨rfl, rfl⟩
  · have H : begB s at_ t = false := by unfold begB; rw [decide_eq_false h0]; simp
    rw [H]
    clear H
    go_enter Tryz.func24, Tryz.ntmps24
    go_wp2
    go_ret
    exact ⟨rfl, rfl⟩
def IdxIs (s : ByteArray) (a : Nat) (t : ByteArray) (r : Int) : Prop :=
  (r = -1 ∧ ∀ i, a ≤ i → i + t.size ≤ s.size → begAt s i t = false) ∨
  (∃ k : Nat, r = k ∧ a ≤ k ∧ k + t.size ≤ s.size ∧ begAt s k t = true ∧ ∀ i, a ≤ i → i < k → begAt s i t = false)
set_option maxHeartbeats 400000 in
theorem index_any (s t : ByteArray) (a : Nat) (w : World) (hs : s.size ≤ 1000000000) (ht : t.size ≤ 1000000000) (ha : a ≤ 2000000000) :
    Calls Tryz.prog 23 #[.string s, .int .i64 a, .string t] w fun e w' => ∃ r, e = .returned (.int .i64 r) ∧ IdxIs s a t r ∧ w = w' := by
  go_enter Tryz.func23, Tryz.ntmps23
  go_wp2
  go_loop [7] (fun i => ∃ k : Nat, a ≤ k ∧ (k : Int) ≤ 2000000000 ∧ i = .int .i64 k ∧ Hid (∀ i, a ≤ i → i < k → begAt s i t = false)) (fun i => (2000000001 - intOf i).toNat)
  case atStart => exact ⟨a, Nat.le_refl _, by omega, rfl, Lib.hid (fun i h1 h2 => absurd h2 (by omega))⟩
  case round =>
    obtain ⟨k, hk, hk2, rfl, HI⟩ := hrel
    by_cases hr : (k : Int) ≤ (s.size : Int) - t.size
    · have g1 : (k : Int) + t.size ≤ s.size := by omega
      cases hb : begAt s k t
      · have HB := Lib.hid hb
        have hq : ((s.extract k (k + t.size)).toList == t.toList) = false := hb
        clear hb
        go_wp2
        go_round
        case rel => exact ⟨k + 1, by omega, by omega, by go_num, Lib.hid (fun i h1 h2 => by
          by_cases e : i = k
          · subst e; exact HB.out
          · exact HI.out i h1 (by omega))⟩
        case measure => simp [intOf]; omega
      · have HB := Lib.hid hb
        have hq : ((s.extract k (k + t.size)).toList == t.toList) = true := hb
        clear hb
        go_wp2
        go_ret
        exact ⟨k, rfl, .inr ⟨k, rfl, hk, by omega, HB.out, HI.out⟩, rfl⟩
    · go_wp2
      go_ret
      exact ⟨-1, rfl, .inl ⟨rfl, fun i h1 h2 => HI.out i h1 (by omega)⟩, rfl⟩
end Go.Proofs.YtbeglliabpflpaaGreatDoor
namespace Go.Proofs.YtbeglliabpflpaaGreatDoor
open Go.RowKit Wb
theorem extract_L (s : ByteArray) (a b : Nat) : (s.extract a b).data.toList = (s.data.toList.drop a).take (b - a) := by
  simp only [ByteArray.data_extract, Array.toList_extract]
theorem enc_ne {n : Int} (h : charB n = true) : enc n ≠ [] := by
  have hs : sgn n = true := by
    unfold charB at h
    simp [inS, charS] at h
    rw [sgn_iff]
    omega
  unfold enc
  rw [if_pos hs]
  split
  · simp
  · split
    · simp
    · split <;> simp
theorem refV_ne {t x : List UInt8} (h : refV t = some x) : x ≠ [] := by
  unfold refV at h
  split at h
  · cases h; simp
  · split at h
    · cases h; simp
    · split at h
      · cases h; simp
      · split at h
        · cases h; simp
        · split at h
          · cases h; simp
          · split at h
            · split at h
              · cases h; exact enc_ne (by assumption)
              · cases h
            · cases h
end Go.Proofs.YtbeglliabpflpaaGreatDoor
namespace Go.Proofs.YtbeglliabpflpaaGreatDoor
open Go.RowKit Wb
def unB (s : ByteArray) (attr : Bool) : ByteArray × Int × Int :=
  match unL attr (s.size + 1) s.data.toList 0 with
  | .ok x => (⟨x.toArray⟩, 0, 0)
  | .error p => (⟨#[]⟩, p, 16)
theorem unB_ok {s : ByteArray} {attr : Bool} {x : List UInt8} (h : unL attr (s.size + 1) s.data.toList 0 = .ok x) : unB s attr = (⟨x.toArray⟩, 0, 0) := by unfold unB; rw [h]
theorem unB_bad {s : ByteArray} {attr : Bool} {p : Nat} (h : unL attr (s.size + 1) s.data.toList 0 = .error p) : unB s attr = (⟨#[]⟩, (p : Int), 16) := by unfold unB; rw [h]
theorem un_end {s : ByteArray} {k f : Nat} {attr : Bool} (hk : s.size ≤ k) : unL attr (f + 1) (s.data.toList.drop k) k = .ok [] := by
  rw [List.drop_eq_nil_of_le (by simpa using hk)]; rfl
theorem enc_le (n : Int) : (enc n).length ≤ 4 := by
  unfold enc
  split
  · split
    · simp
    · split
      · simp
      · split <;> simp
  · simp
theorem refV_le {t x : List UInt8} (h : refV t = some x) : x.length ≤ 4 := by
  unfold refV at h
  split at h
  · cases h; simp
  · split at h
    · cases h; simp
    · split at h
      · cases h; simp
      · split at h
        · cases h; simp
        · split at h
          · cases h; simp
          · split at h
            · split at h
              · cases h; exact enc_le _
              · cases h
            · cases h
end Go.Proofs.YtbeglliabpflpaaGreatDoor
namespace Wb
def decU (l : List UInt8) : Nat × Nat := if (dec l).2 = 0 then (65533, 1) else ((dec l).1.toNat, (dec l).2.toNat)
def decL (b0 : Nat) (l : List UInt8) : Nat × Nat :=
  let a (k : Nat) : Nat := (l[k]?.getD 0).toNat
  let cont (k : Nat) : Bool := decide (k < l.length) && a k / 64 == 2
  if b0 < 0x80 then (b0, 1)
  else if b0 / 32 == 6 && cont 0 then
    let c := (b0 % 32) * 64 + a 0 % 64
    if c ≥ 0x80 then (c, 2) else (65533, 1)
  else if b0 / 16 == 14 && cont 0 && cont 1 then
    let c := (b0 % 16) * 4096 + (a 0 % 64) * 64 + a 1 % 64
    if c ≥ 0x800 && Go.Utf8.valid c then (c, 3) else (65533, 1)
  else if b0 / 8 == 30 && cont 0 && cont 1 && cont 2 then
    let c := (b0 % 8) * 262144 + (a 0 % 64) * 4096 + (a 1 % 64) * 64 + a 2 % 64
    if c ≥ 0x10000 && Go.Utf8.valid c then (c, 4) else (65533, 1)
  else (65533, 1)
theorem get_bang (s : ByteArray) (j : Nat) : s.get! j = (s.data.toList[j]?).getD 0 := by
  show s.data[j]! = _
  rw [getElem!_def, ← Array.getElem?_toList]
  cases s.data.toList[j]? <;> rfl
theorem decode_L (s : ByteArray) (i : Nat) (c : UInt8) (l : List UInt8) (h : s.data.toList.drop i = c :: l) : Go.Utf8.decode s i = decL c.toNat l := by
  have hs : s.size = s.data.toList.length := by simp
  have hlen : i + (l.length + 1) = s.size := by
    have := congrArg List.length h
    rw [List.length_drop] at this
    simp only [List.length_cons] at this
    omega
  have ha : ∀ k, (s.get! (i + k)) = ((c :: l)[k]?).getD 0 := by
    intro k
    rw [get_bang, ← h, List.getElem?_drop]
  have h0 : (s.get! (i + 0)) = c := by rw [ha]; rfl
  have h1 : (s.get! (i + 1)) = (l[0]?).getD 0 := by rw [ha]; rfl
  have h2 : (s.get! (i + 2)) = (l[1]?).getD 0 := by rw [ha]; rfl
  have h3 : (s.get! (i + 3)) = (l[2]?).getD 0 := by rw [ha]; rfl
  have l1 : decide (i + 1 < s.size) = decide (0 < l.length) := decide_eq_decide.2 (by omega)
  have l2 : decide (i + 2 < s.size) = decide (1 < l.length) := decide_eq_decide.2 (by omega)
  have l3 : decide (i + 3 < s.size) = decide (2 < l.length) := decide_eq_decide.2 (by omega)
  unfold Go.Utf8.decode decL Go.Utf8.runeError
  simp only [h0, h1, h2, h3, l1, l2, l3]
theorem valid_sgn (r : Int) : Go.Utf8.valid r = sgn r := by
  unfold Go.Utf8.valid sgn
  rw [Bool.eq_iff_iff]
  simp only [Bool.or_eq_true, Bool.and_eq_true, decide_eq_true_eq]
  omega
theorem decU_zero {c : UInt8} {l : List UInt8} (h : fsz c.toNat = 0) : decU (c :: l) = (65533, 1) := by
  unfold decU dec
  simp only [h, if_pos]
theorem decU_none {c : UInt8} {l : List UInt8} {k : Nat} (h : fsz c.toNat = k) (hk : k ≠ 0) (hn : decN (fbt c.toNat) (k - 1) l = none) : decU (c :: l) = (65533, 1) := by
  have e : dec (c :: l) = (0, 0) := by
    unfold dec
    simp only [h, Int.toNat_natCast, hn]
    rw [if_neg (by omega)]
  unfold decU
  rw [e]
  rfl
theorem decU_some {c : UInt8} {l : List UInt8} {k : Nat} {r : Int} (h : fsz c.toNat = k) (hk : k ≠ 0) (hn : decN (fbt c.toNat) (k - 1) l = some r) : decU (c :: l) = if slen r = k then (r.toNat, k) else (65533, 1) := by
  have e : dec (c :: l) = if slen r = k then (r, (k : Int)) else (0, 0) := by
    unfold dec
    simp only [h, Int.toNat_natCast, hn]
    rw [if_neg (by omega)]
  unfold decU
  rw [e]
  by_cases hs : slen r = k
  · simp only [if_pos hs]
    rw [if_neg (by omega)]
    simp
  · simp only [if_neg hs]
    rfl
theorem decN_one (r : Int) (l : List UInt8) : decN r 1 l = if (decide (0 < l.length) && (l[0]?.getD 0).toNat / 64 == 2) = true then some (r * 64 + ((l[0]?.getD 0).toNat % 64 : Nat)) else none := by
  cases l with
  | nil => rfl
  | cons d l =>
    by_cases g : d.toNat / 64 = 2
    · simp [decN, g, show ((d.toNat : Int) / 64 = 2) from by omega]
    · simp [decN, g, show ¬ ((d.toNat : Int) / 64 = 2) from by omega]
theorem decN_more (r : Int) (k : Nat) (l : List UInt8) : decN r (k + 1) l = if (decide (0 < l.length) && (l[0]?.getD 0).toNat / 64 == 2) = true then decN (r * 64 + ((l[0]?.getD 0).toNat % 64 : Nat)) k (l.drop 1) else none := by
  cases l with
  | nil => rfl
  | cons d l =>
    by_cases g : d.toNat / 64 = 2
    · simp [decN, g, show ((d.toNat : Int) / 64 = 2) from by omega]
    · simp [decN, g, show ¬ ((d.toNat : Int) / 64 = 2) from by omega]
theorem drop1 (l : List UInt8) (k : Nat) : (l.drop 1)[k]? = l[k + 1]? := by rw [List.getElem?_drop, Nat.add_comm]
theorem dropl (l : List UInt8) (k : Nat) : decide (k < (l.drop 1).length) = decide (k + 1 < l.length) := decide_eq_decide.2 (by rw [List.length_drop]; omega)
theorem slen_is (v : Nat) : slen v = if sgn v = true then (if v < 128 then 1 else if v < 2048 then 2 else if v < 65536 then 3 else 4) else 0 := by
  have e1 : ((v : Int) < 128) = (v < 128) := propext (by omega)
  have e2 : ((v : Int) < 2048) = (v < 2048) := propext (by omega)
  have e3 : ((v : Int) < 65536) = (v < 65536) := propext (by omega)
  unfold slen
  simp only [e1, e2, e3]
theorem fin2 (v : Nat) (hv : v < 2048) : (if v ≥ 128 then (v, 2) else (65533, 1)) = if slen v = (2 : Nat) then ((v : Int).toNat, 2) else (65533, 1) := by
  have hs : sgn v = true := (sgn_iff _).2 (by omega)
  rw [slen_is, if_pos hs]
  by_cases h : v < 128
  · rw [if_pos h, if_neg (by omega), if_neg (by omega)]
  · have e : (if v < 128 then (1 : Int) else if v < 2048 then 2 else if v < 65536 then 3 else 4) = (2 : Nat) := by rw [if_neg h, if_pos hv]; rfl
    rw [if_pos e, if_pos (by omega)]
    rfl
theorem fin3 (v : Nat) (hv : v < 65536) : (if (decide (v ≥ 2048) && Go.Utf8.valid v) = true then (v, 3) else (65533, 1)) = if slen v = (3 : Nat) then ((v : Int).toNat, 3) else (65533, 1) := by
  rw [valid_sgn, slen_is]
  by_cases hs : sgn v = true
  · rw [if_pos hs, hs, Bool.and_true]
    by_cases h : v < 2048
    · rw [decide_eq_false (by omega), if_neg (by decide), if_neg]
      split
      · omega
      · omega
    · have e : (if v < 128 then (1 : Int) else if v < 2048 then 2 else if v < 65536 then 3 else 4) = (3 : Nat) := by rw [if_neg (by omega), if_neg h, if_pos hv]; rfl
      rw [decide_eq_true (by omega), if_pos rfl, if_pos e]
      rfl
  · rw [if_neg hs, Bool.eq_false_iff.2 hs, Bool.and_false, if_neg (by decide), if_neg (by omega)]
theorem fin4 (v : Nat) : (if (decide (v ≥ 65536) && Go.Utf8.valid v) = true then (v, 4) else (65533, 1)) = if slen v = (4 : Nat) then ((v : Int).toNat, 4) else (65533, 1) := by
  rw [valid_sgn, slen_is]
  by_cases hs : sgn v = true
  · rw [if_pos hs, hs, Bool.and_true]
    by_cases h : v < 65536
    · rw [decide_eq_false (by omega), if_neg (by decide), if_neg]
      split
      · omega
      · split <;> omega
    · have e : (if v < 128 then (1 : Int) else if v < 2048 then 2 else if v < 65536 then 3 else 4) = (4 : Nat) := by rw [if_neg (by omega), if_neg (by omega), if_neg h]; rfl
      rw [decide_eq_true (by omega), if_pos rfl, if_pos e]
      rfl
  · rw [if_neg hs, Bool.eq_false_iff.2 hs, Bool.and_false, if_neg (by decide), if_neg (by omega)]
theorem arith3 (a b c : Nat) : ((a : Int) * 64 + (b : Nat)) * 64 + (c : Nat) = ((a * 4096 + b * 64 + c : Nat) : Int) := by omega
theorem arith4 (a b c d : Nat) : (((a : Int) * 64 + (b : Nat)) * 64 + (c : Nat)) * 64 + (d : Nat) = ((a * 262144 + b * 4096 + c * 64 + d : Nat) : Int) := by omega
theorem decL_U (c : UInt8) (l : List UInt8) : decL c.toNat l = decU (c :: l) := by
  have hc := c.toNat_lt
  by_cases h1 : c.toNat < 128
  · have hf : fsz c.toNat = (1 : Nat) := by unfold fsz; rw [if_pos (by omega)]; rfl
    have hb : fbt c.toNat = c.toNat := by unfold fbt; rw [if_pos (by omega)]
    have hl : slen c.toNat = (1 : Nat) := by unfold slen; rw [if_pos ((sgn_iff _).2 (by omega)), if_pos (by omega)]; rfl
    rw [decU_some hf (by omega) (r := c.toNat) (by rw [hb]; rfl), if_pos hl]
    unfold decL
    simp [h1]
  · by_cases h2 : c.toNat / 32 = 6
    · have hf : fsz c.toNat = (2 : Nat) := by unfold fsz; rw [if_neg (by omega), if_pos (by omega)]; rfl
      have hb : fbt c.toNat = (c.toNat % 32 : Nat) := by unfold fbt; rw [if_neg (by omega), if_pos (by omega)]; omega
      unfold decL
      simp only [if_neg h1, h2, beq_self_eq_true, Bool.true_and]
      have hn := decN_one (c.toNat % 32 : Nat) l
      by_cases g1 : (decide (0 < l.length) && (l[0]?.getD 0).toNat / 64 == 2) = true
      · rw [if_pos g1] at hn ⊢
        rw [decU_some hf (by omega) (r := (c.toNat % 32 * 64 + (l[0]?.getD 0).toNat % 64 : Nat)) (by rw [hb, hn]; congr 1), fin2 _ (by omega)]
      · rw [if_neg g1] at hn ⊢
        rw [decU_none hf (by omega) (by rw [hb]; exact hn)]
        simp [show ¬ c.toNat / 16 = 14 from by omega, show ¬ c.toNat / 8 = 30 from by omega]
    · by_cases h3 : c.toNat / 16 = 14
      · have hf : fsz c.toNat = (3 : Nat) := by unfold fsz; rw [if_neg (by omega), if_neg (by omega), if_pos (by omega)]; rfl
        have hb : fbt c.toNat = (c.toNat % 16 : Nat) := by unfold fbt; rw [if_neg (by omega), if_neg (by omega), if_pos (by omega)]; omega
        unfold decL
        simp only [if_neg h1, h3, beq_self_eq_true, Bool.true_and]
        rw [if_neg (by simp [h2])]
        have hn := decN_more (c.toNat % 16 : Nat) 1 l
        rw [decN_one, drop1, dropl] at hn
        by_cases g1 : (decide (0 < l.length) && (l[0]?.getD 0).toNat / 64 == 2) = true
        · rw [if_pos g1] at hn
          rw [g1, Bool.true_and]
          by_cases g2 : (decide (0 + 1 < l.length) && (l[0 + 1]?.getD 0).toNat / 64 == 2) = true
          · rw [if_pos g2] at hn
            rw [if_pos g2, decU_some hf (by omega) (r := (c.toNat % 16 * 4096 + (l[0]?.getD 0).toNat % 64 * 64 + (l[1]?.getD 0).toNat % 64 : Nat)) (by rw [hb, hn]; exact congrArg some (arith3 _ _ _)), fin3 _ (by omega)]
          · rw [if_neg g2] at hn
            rw [if_neg g2, decU_none hf (by omega) (by rw [hb]; exact hn)]
            simp [show ¬ c.toNat / 8 = 30 from by omega]
        · rw [if_neg g1] at hn
          have g1' := Bool.eq_false_iff.2 g1
          rw [g1', decU_none hf (by omega) (by rw [hb]; exact hn)]
          simp
      · by_cases h4 : c.toNat / 8 = 30
        · have hf : fsz c.toNat = (4 : Nat) := by unfold fsz; rw [if_neg (by omega), if_neg (by omega), if_neg (by omega), if_pos (by omega)]; rfl
          have hb : fbt c.toNat = (c.toNat % 8 : Nat) := by unfold fbt; rw [if_neg (by omega), if_neg (by omega), if_neg (by omega), if_pos (by omega)]; omega
          unfold decL
          simp only [if_neg h1, h4, beq_self_eq_true, Bool.true_and]
          rw [if_neg (by simp [h2]), if_neg (by simp [h3])]
          have hn := decN_more (c.toNat % 8 : Nat) 2 l
          rw [decN_more _ 1 (l.drop 1), decN_one, drop1, drop1, drop1, dropl, dropl, dropl] at hn
          by_cases g1 : (decide (0 < l.length) && (l[0]?.getD 0).toNat / 64 == 2) = true
          · rw [if_pos g1] at hn
            rw [g1, Bool.true_and]
            by_cases g2 : (decide (0 + 1 < l.length) && (l[0 + 1]?.getD 0).toNat / 64 == 2) = true
            · rw [if_pos g2] at hn
              rw [show (decide (1 < l.length) && (l[1]?.getD (0 : UInt8)).toNat / 64 == 2) = true from g2, Bool.true_and]
              by_cases g3 : (decide (0 + 1 + 1 < l.length) && (l[0 + 1 + 1]?.getD 0).toNat / 64 == 2) = true
              · rw [if_pos g3] at hn
                rw [if_pos g3, decU_some hf (by omega) (r := (c.toNat % 8 * 262144 + (l[0]?.getD 0).toNat % 64 * 4096 + (l[1]?.getD 0).toNat % 64 * 64 + (l[2]?.getD 0).toNat % 64 : Nat)) (by rw [hb, hn]; exact congrArg some (arith4 _ _ _ _)), fin4]
              · rw [if_neg g3] at hn
                rw [if_neg g3, decU_none hf (by omega) (by rw [hb]; exact hn)]
            · rw [if_neg g2] at hn
              have g2' := Bool.eq_false_iff.2 g2
              rw [show (decide (1 < l.length) && (l[1]?.getD (0 : UInt8)).toNat / 64 == 2) = false from g2', decU_none hf (by omega) (by rw [hb]; exact hn)]
              simp
          · rw [if_neg g1] at hn
            have g1' := Bool.eq_false_iff.2 g1
            rw [g1', decU_none hf (by omega) (by rw [hb]; exact hn)]
            simp
        · have hf : fsz c.toNat = 0 := by unfold fsz; rw [if_neg (by omega), if_neg (by omega), if_neg (by omega), if_neg (by omega)]
          rw [decU_zero hf]
          unfold decL
          simp [h1, h2, h3, h4]
theorem decode_U (s : ByteArray) (i : Nat) (hi : i < s.size) : Go.Utf8.decode s i = decU (s.data.toList.drop i) := by
  have hs : s.size = s.data.toList.length := by simp
  cases hd : s.data.toList.drop i with
  | nil =>
    have := congrArg List.length hd
    rw [List.length_drop] at this
    simp at this
    omega
  | cons c l => rw [decode_L s i c l hd, decL_U]
end Wb
namespace Wb
open Go
def badU : Nat → List UInt8 → Nat → Option Nat
  | 0, _, _ => none
  | f + 1, l, b => if l = [] then none else if charB (decU l).1 = true then badU f (l.drop (decU l).2) (b + (decU l).2) else some b
end Wb
namespace Wb
theorem dw_len {p : UInt8 → Bool} (l : List UInt8) : (l.dropWhile p).length + (l.takeWhile p).length = l.length := by
  have := congrArg List.length (List.takeWhile_append_dropWhile (p := p) (l := l))
  rw [List.length_append] at this
  omega
end Wb
