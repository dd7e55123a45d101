
/- Contract of package pct: escaped. -/
import Derived.Test.YtclenfdhnccalaaDoorQdG
namespace Wb
theorem esc_short {s : List UInt8} (h : s.length < 2) : escV s = 0 ∧ escO s = false := by
  match s, h with
  | [], _ => exact ⟨rfl, rfl⟩
  | [x], _ => exact ⟨rfl, rfl⟩
theorem esc_two {s : List UInt8} {a b : UInt8} (h : 2 ≤ s.length) (h0 : s[0] = a) (h1 : s[1] = b) : escV s = (if dgV a < 0 ∨ dgV b < 0 then 0 else UInt8.ofNat (dgV a * 16 + dgV b).toNat) ∧ escO s = !decide (dgV a < 0 ∨ dgV b < 0) := by
  match s, h with
  | x :: y :: r, _ =>
    subst h0
    subst h1
    exact ⟨rfl, rfl⟩
theorem u8_hl (x y : Nat) (hx : x < 16) (hy : y < 16) : Go.bits .or .u8 ((x : Int) * 16) (y : Int) = ((x * 16 + y : Nat) : Int) := by
  have := u8_or_base x 4 (x * 16) 16 (y : Int) rfl rfl (by omega) (by omega) (by omega)
  rw [show ((x : Int) * 16) = ((x * 16 : Nat) : Int) by omega, this]
  omega
end Wb
namespace Go.Proofs.YtclenfdhnccalaaDoor
open Go.RowKit Wb

set_option maxRecDepth 100000 in
set_option maxHeartbeats 4000000 in
theorem pescaped_any (s : ByteArray) (w : World) :
    Calls Tryd.prog 17 #[.string s] w fun e w' => e = .returned (.tuple #[.int .u8 (escV s.data.toList).toNat, .bool (escO s.data.toList)]) ∧ w = w' := by
  by_cases h2 : s.size < 2
  · obtain ⟨e1, e2⟩ := esc_short (s := s.data.toList) (by simpa using h2)
    rw [e1, e2]
    clear e1 e2
    go_enter Tryd.func17, Tryd.ntmps17
    go_wp2
    go_ret2
    exact ⟨rfl, rfl⟩
  · have h2 : 2 ≤ s.size := by omega
    obtain ⟨a, ha⟩ : ∃ a, s[0] = a := ⟨_, rfl⟩
    obtain ⟨b, hb⟩ : ∃ b, s[1] = b := ⟨_, rfl⟩
    obtain ⟨e1, e2⟩ := esc_two (s := s.data.toList) (a := a) (b := b) (by simpa using h2) ha hb
    have h0 : 0 < s.size := by omega
    have h1 : 1 < s.size := by omega
    have d1 := fun v => pdigit_any a v
    have d2 := fun v => pdigit_any b v
    have b1 := dgV_bd a
    have b2 := dgV_bd b
    by_cases ha0 : dgV a < 0
    · rw [if_pos (.inl ha0)] at e1
      rw [decide_eq_true (.inl ha0)] at e2
      rw [show dgO a = false by unfold dgO; rw [decide_eq_false_iff_not]; omega] at d1
      rw [e1, e2]
      generalize dgW a = wa at *
      generalize dgW b = wb at *
      generalize dgO b = ob at *
      clear e1 e2 b1 b2 ha0
      have H2 := Lib.hid d2
      clear d2
      go_enter Tryd.func17, Tryd.ntmps17
      go_wp2_with fail
      (try rw [ha])
      refine (d1 _).mono ?_
      rintro e w2 ⟨rfl, rfl⟩
      clear d1
      go_wp2_with fail
      (try rw [hb])
      refine (H2.out _).mono ?_
      rintro e w2 ⟨rfl, rfl⟩
      clear H2
      go_wp2
      go_ret2
      exact ⟨rfl, rfl⟩
    · rw [show dgO a = true by unfold dgO; rw [decide_eq_true_eq]; omega] at d1
      by_cases hb0 : dgV b < 0
      · rw [if_pos (.inr hb0)] at e1
        rw [decide_eq_true (.inr hb0)] at e2
        rw [show dgO b = false by unfold dgO; rw [decide_eq_false_iff_not]; omega] at d2
        rw [e1, e2]
        generalize dgW a = wa at *
        generalize dgW b = wb at *
        clear e1 e2 b1 b2 ha0 hb0
        have H2 := Lib.hid d2
        clear d2
        go_enter Tryd.func17, Tryd.ntmps17
        go_wp2_with fail
        (try rw [ha])
        refine (d1 _).mono ?_
        rintro e w2 ⟨rfl, rfl⟩
        clear d1
        go_wp2_with fail
        (try rw [hb])
        refine (H2.out _).mono ?_
        rintro e w2 ⟨rfl, rfl⟩
        clear H2
        go_wp2
        go_ret2
        exact ⟨rfl, rfl⟩
      · rw [if_neg (by omega)] at e1
        rw [decide_eq_false (by omega)] at e2
        rw [show dgO b = true by unfold dgO; rw [decide_eq_true_eq]; omega] at d2
        obtain ⟨x, hx⟩ : ∃ x : Nat, dgV a = x := ⟨(dgV a).toNat, by omega⟩
        obtain ⟨y, hy⟩ : ∃ y : Nat, dgV b = y := ⟨(dgV b).toNat, by omega⟩
        rw [show dgW a = x by unfold dgW; rw [if_neg (by omega)]; exact hx] at d1
        rw [show dgW b = y by unfold dgW; rw [if_neg (by omega)]; exact hy] at d2
        have hx16 : x < 16 := by omega
        have hy16 : y < 16 := by omega
        have e3 : ((escV s.data.toList).toNat : Int) = ((x * 16 + y : Nat) : Int) := by
          rw [e1, hx, hy, UInt8.toNat_ofNat']
          omega
        rw [e2, e3]
        have hor := u8_hl x y hx16 hy16
        clear e1 e2 e3 b1 b2 ha0 hb0 hx hy
        have H2 := Lib.hid d2
        clear d2
        go_enter Tryd.func17, Tryd.ntmps17
        go_wp2_with fail
        (try rw [ha])
        refine (d1 _).mono ?_
        rintro e w2 ⟨rfl, rfl⟩
        clear d1
        go_wp2_with fail
        (try rw [hb])
        refine (H2.out _).mono ?_
        rintro e w2 ⟨rfl, rfl⟩
        clear H2
        go_wp2
        go_ret2
        refine ⟨?_, rfl⟩
        rfl
end Go.Proofs.YtclenfdhnccalaaDoor
