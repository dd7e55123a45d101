
/- Contract: the reference's Raws at two slices that read alike. -/
import Derived.Test.YtflfnnkdkfcpkaaGreatDoorRows
import Derived.Test.YtflfnnkdkfcpkaaGreatDoorMem
namespace Go.Proofs.YtflfnnkdkfcpkaaGreatDoor
open Go.RowKit Wb

set_option maxHeartbeats 1000000 in
theorem raws_same (A B : Option Addr) (l : List Pr) (c d : Nat) (w : World) (hl : l.length ≤ 1000000) (hA : Sl2 w A l) (hB : Sl2 w B l) :
    Calls Tryz.prog 41 #[.slice A l.length c, .slice B l.length d] w fun e w' => e = .returned (.bool true) ∧ Below w.heap.size w w' := by
  go_enter Tryz.func41, Tryz.ntmps41
  go_wp2
  go_loopw [5] (fun i wr => ∃ k : Nat, k ≤ l.length ∧ i = .int .i64 k ∧ Below w.heap.size w wr) (fun i _ => ((l.length : Int) - intOf i).toNat)
  case atStart => exact ⟨0, by omega, rfl, Below.refl _ _⟩
  case round =>
    obtain ⟨k, hk, rfl, hb⟩ := hrel
    by_cases h0 : k < l.length
    · obtain ⟨⟨x1, x2⟩, he⟩ : ∃ x, l[k]? = some x := ⟨l[k], List.getElem?_eq_getElem (by omega)⟩
      obtain ⟨ad, rfl, _, c1, c2⟩ := (hA.below hb).at_ he
      obtain ⟨bd, rfl, _, d1, d2⟩ := (hB.below hb).at_ he
      clear he
      go_wp2
      go_region
      go_wp2
      go_roundw
      case rel => exact ⟨k + 1, by omega, by go_num, hb.drew⟩
      case measure => simp [intOf]; omega
    · go_wp2
      go_ret
      exact ⟨rfl, hb⟩

end Go.Proofs.YtflfnnkdkfcpkaaGreatDoor
