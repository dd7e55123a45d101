
/- Contract of the document's answer: two equal lists of texts held against each other (Same). -/
import Derived.Test.YtclenfdhnccalaaDoorQdD
import Derived.Deep.Draws
namespace Wb
open Go Go.RowKit
theorem Sl1.of_own {w : World} {base c : Nat} {e : TypeId} {A : Option Addr} {l : List ByteArray} (h : w.ownsRow base e 1 (.slice A l.length c) l.length (cells1 l)) : Sl1 w A l := Sl.of_own h
end Wb
namespace Go.Proofs.YtclenfdhnccalaaDoor
open Go.RowKit Wb

set_option maxRecDepth 100000 in
set_option maxHeartbeats 4000000 in
theorem rsame9_eq (A B : Option Addr) (l : List ByteArray) (ca cb : Nat) (w : World) (hA : Sl1 w A l) (hB : Sl1 w B l) (hl : l.length ≤ 1000000) :
    Calls Tryd.prog 15 #[.slice A l.length ca, .slice B l.length cb] w fun e w' => e = .returned (.bool true) ∧ Below w.heap.size w w' := by
  have HA := Lib.hid hA
  have HB := Lib.hid hB
  clear hA hB
  go_enter Tryd.func15, Tryd.ntmps15
  go_wp2
  go_loopw [5] (fun vi wr => ∃ i : Nat, i ≤ l.length ∧ vi = .int .i64 i ∧ Hid (Below w.heap.size w wr)) (fun vi _ => ((l.length : Int) - intOf vi).toNat)
  case atStart => exact ⟨0, by omega, rfl, Lib.hid (Below.refl _ _)⟩
  case round =>
    obtain ⟨i, hi, rfl, HW⟩ := hrel
    by_cases h0 : i < l.length
    · obtain ⟨x, hx⟩ : ∃ x, l[i]? = some x := ⟨l[i], List.getElem?_eq_getElem h0⟩
      obtain ⟨ad, rfl, had, d0⟩ := (HA.out.below HW.out).at_ hx
      obtain ⟨bd, rfl, hbd, e0⟩ := (HB.out.below HW.out).at_ hx
      have hi0 : (0 : Int) ≤ (i : Int) := by omega
      have hi1 : (i : Int) < (l.length : Int) := by omega
      clear hx had hbd HA HB
      go_wp2_with fail
      go_region
      go_wp2
      go_roundw
      case rel => exact ⟨i + 1, by omega, by go_num, Lib.hid HW.out.drew⟩
      case measure => simp [intOf]; omega
    · go_wp2
      go_ret
      exact ⟨rfl, HW.out⟩
end Go.Proofs.YtclenfdhnccalaaDoor
