
/- Contracts: Find on both sides. -/
import Derived.Test.YtkcpkgegkmockaaQnB
namespace Go.Proofs.Ytkcpkgegkmockaa
open Go.RowKit Wb

set_option maxHeartbeats 1000000 in
theorem find_any (A : Option Addr) (l : List Pr) (c : Nat) (p : ByteArray) (w : World) (hl : l.length ≤ 1000000000) (hA : Sl2 w A l) :
    Calls Try.prog 16 #[.slice A l.length c, .string p] w fun e w' => e = .returned (.tuple #[.string (findB l p).1, .bool (findB l p).2]) ∧ w = w' := by
  have t2 : (p.toList == [120, 109, 108]) = eqT p sXml := lit_of p sXml _ rfl
  cases hx : eqT p sXml
  · rw [hx] at t2
    go_enter Try.func16, Try.ntmps16
    go_wp2
    go_loop [6] (fun i => ∃ k : Nat, k ≤ l.length ∧ i = .int .i64 ((k : Int) - 1) ∧ Hid (lastB l p = lastB (l.take k) p)) (fun i => (intOf i + 1).toNat)
    case atStart => exact ⟨l.length, Nat.le_refl _, rfl, Lib.hid (by rw [List.take_length])⟩
    case round =>
      obtain ⟨k, hk, rfl, HL⟩ := hrel
      by_cases h0 : k = 0
      · subst h0
        have H := Lib.hid (findB_none hx (HL.out.trans rfl))
        clear hx HL
        go_wp2
        go_ret2
        rw [H.out, ← empty_eq]
        exact ⟨rfl, rfl⟩
      · obtain ⟨j, rfl⟩ : ∃ j, k = j + 1 := ⟨k - 1, by omega⟩
        obtain ⟨⟨x1, x2⟩, he⟩ : ∃ x, l[j]? = some x := ⟨l[j], List.getElem?_eq_getElem (by omega)⟩
        obtain ⟨ad, rfl, _, c1, c2⟩ := hA.at_ he
        have HE := Lib.hid he
        clear he
        have e : ((j + 1 : Nat) : Int) - 1 = j := by omega
        rw [e]
        clear e
        cases hq : (x1.toList == p.toList)
        · go_wp2
          go_round
          case rel => exact ⟨j, by omega, by go_num, Lib.hid (HL.out.trans (lastB_miss HE.out hq))⟩
          case measure => simp [intOf]
        · have H := Lib.hid (findB_some hx (HL.out.trans (lastB_hit HE.out hq)))
          go_wp2
          go_ret2
          rw [H.out]
          exact ⟨rfl, rfl⟩
  · rw [hx] at t2
    rw [findB_xml hx]
    go_enter Try.func16, Try.ntmps16
    go_wp2
    go_ret2
    exact ⟨rfl, rfl⟩

theorem snd_true {o : Option ByteArray} {b : Bool} {q : ByteArray × Bool} {s : ByteArray} (h : q = (match o with | some s => (s, true) | none => (sE, b))) (ho : o = some s) : q = (s, true) := by rw [h, ho]

set_option maxHeartbeats 1000000 in
theorem rfind_any (A : Option Addr) (l : List Pr) (c : Nat) (p : ByteArray) (w : World) (hl : l.length ≤ 1000000000) (hA : Sl2 w A l) :
    Calls Try.prog 17 #[.slice A l.length c, .string p] w fun e w' => e = .returned (.tuple #[.string (findB l p).1, .bool (findB l p).2]) ∧ w = w' := by
  have t2 : (p.toList == [120, 109, 108]) = eqT p sXml := lit_of p sXml _ rfl
  cases hx : eqT p sXml
  · rw [hx] at t2
    go_enter Try.func17, Try.ntmps17
    go_wp2
    go_loop [6, 7, 8] (fun s o i => ∃ (k : Nat) (r : ByteArray × Bool), k ≤ l.length ∧ i = .int .i64 k ∧ s = .string r.1 ∧ o = .bool r.2 ∧
        Hid (r = (match lastB (l.take k) p with | some s => (s, true) | none => (sE, eqT p sE)))) (fun _ _ i => ((l.length : Int) - intOf i).toNat)
    case atStart => exact ⟨0, (sE, eqT p sE), by omega, rfl, rfl, by rw [← empty_eq], Lib.hid rfl⟩
    case round =>
      obtain ⟨k, ⟨r1, r2⟩, hk, rfl, rfl, rfl, HR⟩ := hrel
      by_cases h0 : k < l.length
      · obtain ⟨⟨x1, x2⟩, he⟩ : ∃ x, l[k]? = some x := ⟨l[k], List.getElem?_eq_getElem (by omega)⟩
        obtain ⟨ad, rfl, _, c1, c2⟩ := hA.at_ he
        have HE := Lib.hid he
        clear he
        cases hq : (x1.toList == p.toList)
        · go_wp2
          go_round
          case rel => exact ⟨k + 1, (r1, r2), by omega, by go_num, rfl, rfl, Lib.hid (by rw [lastB_miss HE.out hq]; exact HR.out)⟩
          case measure => simp [intOf]; omega
        · go_wp2
          go_round
          case rel => exact ⟨k + 1, (x2, true), by omega, by go_num, rfl, rfl, Lib.hid (by rw [lastB_hit HE.out hq])⟩
          case measure => simp [intOf]; omega
      · have H : Hid (findB l p = (r1, r2)) := by
          have h1 := HR.out
          rw [List.take_of_length_le (by omega)] at h1
          rw [h1]
          unfold findB
          rw [hx]
          exact rfl
        clear hx HR
        go_wp2
        go_ret2
        rw [H.out]
        exact ⟨rfl, rfl⟩
  · rw [hx] at t2
    rw [findB_xml hx]
    go_enter Try.func17, Try.ntmps17
    go_wp2
    go_ret2
    exact ⟨rfl, rfl⟩
end Go.Proofs.Ytkcpkgegkmockaa
