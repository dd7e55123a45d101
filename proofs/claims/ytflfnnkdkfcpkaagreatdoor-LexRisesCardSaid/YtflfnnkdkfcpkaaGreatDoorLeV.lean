
/- Contract: strings.EqualFold against a text of ASCII bytes that fold to no other sign than ASCII's; any text on the other side . -/
import Derived.Test.YtflfnnkdkfcpkaaGreatDoorLeT
import Derived.Test.YtflfnnkdkfcpkaaGreatDoorMgF
import Derived.Deep.LoopGhost
import Derived.Lib.Fold
import Derived.Laws.RangeAny
import Derived.Laws.BitsAllLaws
namespace Wb
open Go
def foldE (c d : Nat) : Bool := decide (c = d ∨ (65 ≤ c ∧ c ≤ 90 ∧ d = c + 32) ∨ (65 ≤ d ∧ d ≤ 90 ∧ c = d + 32))
def foldB : List UInt8 → List UInt8 → Bool
  | [], [] => true
  | c :: l, d :: m => decide (c.toNat < 128) && foldE c.toNat d.toNat && foldB l m
  | [], _ :: _ => false
  | _ :: _, [] => false
theorem wp_scope_inline {c rest : Code} {P : Program} {a : Act} {w : World} {Q : Exit → Act → World → Prop} (hf : findLabel c 0 = some (.seq .skip rest))
    (first : c.wp P (jumpsTo (fun l a' w' => l = 0 ∧ rest.wp P (jumpsTo (fun _ _ _ => False) Q) a' w') Q) a w) : (Code.scope c).wp P Q a w :=
  wp_scope_ghost2 (fun l n a w => l = 0 ∧ n = 0 ∧ rest.wp P (jumpsTo (fun _ _ _ => False) Q) a w)
    (fun l n a w h => by obtain ⟨rfl, rfl, h⟩ := h; exact ⟨rest, hf, jumpsTo_weaken (fun _ _ _ h => h.elim) h⟩)
    (fun _ => jumpsTo_weaken (fun l a w h => ⟨0, h.1, rfl, h.2⟩) first)
theorem foldB_end (l m : List UInt8) (h : l = [] ∨ m = []) : foldB l m = decide (l.length = m.length) := by
  rcases h with rfl | rfl
  · cases m <;> simp [foldB]
  · cases l <;> simp [foldB]
end Wb
namespace Go.Proofs.YtflfnnkdkfcpkaaGreatDoor
open Go.RowKit Wb

theorem dri_any (y : ByteArray) (x : UInt8) (w : World) (h0 : y.data.toList[0]? = some x) (hx : x.toNat < 128) :
    Calls Tryz.prog 100 #[.string y] w fun e w' => e = .returned (.tuple #[.int .i32 (x.toNat : Int), .int .i64 1]) ∧ w = w' := by
  have hlen : 0 < y.size := by
    rw [Lib.size_eq]
    exact (List.getElem?_eq_some_iff.1 h0).1
  have e0 : y[0] = x := by
    have := Lib.data_getElem? y 0 hlen
    rw [h0] at this
    exact (Option.some.inj this).symm
  have hd : y.data.toList ≠ [] := by intro e; rw [e] at h0; cases h0
  have e1 : ¬ y.toList = [] := by rw [ByteArray.toList_eq]; exact hd
  have e2 : y.toList.isEmpty = false := by rw [ByteArray.toList_eq]; simpa using hd
  have g1 : (x.toNat : Int) < 128 := by omega
  clear h0 hd
  go_enter Tryz.func100, Tryz.ntmps100
  go_wp2
  go_ret2
  exact ⟨rfl, rfl⟩

set_option maxRecDepth 100000 in
theorem simple_any (d : Nat) (hd : d < 128) (w : World) (hG : Gv w) :
    Calls Tryz.prog 101 #[.int .i32 (d : Int)] w fun e w' => e = .returned (.int .i32 (foldZ.getD d 0)) ∧ w = w' := by
  have ha := hG.af d hd
  have hz : ∀ n : Fin 128, 0 ≤ foldZ.getD n.val 0 ∧ foldZ.getD n.val 0 < 10000 := by decide +kernel
  have hz' := hz ⟨d, hd⟩
  simp only at hz'
  generalize foldZ.getD d 0 = z at *
  have g0 : (0 : Int) ≤ (d : Int) := by omega
  have g1 : (d : Int) ≤ 1114111 := by omega
  have g2 : (d : Int) < 128 := by omega
  go_enter Tryz.func101, Tryz.ntmps101
  go_wp2
  go_ret
  exact ⟨rfl, rfl⟩

end Go.Proofs.YtflfnnkdkfcpkaaGreatDoor
