
/- awake. -/
import Derived.Test.YtflfnnkdkfcpkaaGreatDoorMgC
import Derived.KernelRfl
namespace Wb
theorem awake1 : tokensU [60, 97, 32, 98, 61, 39, 49, 39, 62, 120, 38, 108, 116, 59, 60, 47, 97, 62] = .ok [(0, (1, [97], [([98], [49])], [])), (9, (4, [], [], [120, 60])), (14, (2, [97], [], []))] := by kernel_rfl
theorem awake2 : tokensU [60, 97, 32, 98, 62] = .error (4, 4) := by kernel_rfl
end Wb
namespace Go.Proofs.YtflfnnkdkfcpkaaGreatDoor
open Go.RowKit Wb

set_option maxRecDepth 100000 in
set_option maxHeartbeats 2000000 in
theorem awake_any (w : World) (hG : Gv w) : Calls Tryz.prog 10 #[] w fun e w' => e = .returned (.bool true) ∧ Below w.heap.size w w' := by
  have h1 := Tokens_any ⟨#[60, 97, 32, 98, 61, 39, 49, 39, 62, 120, 38, 108, 116, 59, 60, 47, 97, 62]⟩ w hG (by decide)
  have H2 := Lib.hid fun w2 (hg : Gv w2) => Tokens_any ⟨#[60, 97, 32, 98, 62]⟩ w2 hg (by decide)
  change Calls _ _ _ _ (fun e w' => TksOut (tokensU [60, 97, 32, 98, 61, 39, 49, 39, 62, 120, 38, 108, 116, 59, 60, 47, 97, 62]) e w' ∧ _) at h1
  rw [awake1] at h1
  go_enter Tryz.func10, Tryz.ntmps10
  go_wp2_with fail
  refine h1.mono ?_
  rintro e w1 ⟨⟨A, c, rfl, hT⟩, hb1⟩
  have hG1 := hG.next hb1
  have h2 := H2.out w1 hG1
  change Calls _ _ _ _ (fun e w' => TksOut (tokensU [60, 97, 32, 98, 62]) e w' ∧ _) at h2
  rw [awake2] at h2
  have HT := Lib.hid hT
  have HB := Lib.hid hb1
  clear h1 H2 hT hb1
  go_wp2_with fail
  refine h2.mono ?_
  rintro e w2 ⟨rfl, hb2⟩
  have hT := HT.out.below hb2
  have HB2 := Lib.hid (HB.out.trans (hb2.mono HB.out.size))
  obtain ⟨ad, B0, d0, rfl, _, p0, p1, p2, p3, p4, hS0⟩ := hT.at_ (k := 0) (t := tv (0, (1, [97], [([98], [49])], []))) rfl
  obtain ⟨ad1, B1, d1, e1, _, a0, a1, a2, a3, a4, hS1⟩ := hT.at_ (k := 1) (t := tv (9, (4, [], [], [120, 60]))) rfl
  obtain ⟨ad2, B2, d2, e2, _, b0, b1, b2, b3, b4, hS2⟩ := hT.at_ (k := 2) (t := tv (14, (2, [97], [], []))) rfl
  injection e1 with e1
  injection e2 with e2
  subst e1 e2
  obtain ⟨ae, rfl, _, c1, c2⟩ := Sl2.at_ hS0 (k := 0) (x := (⟨#[98]⟩, ⟨#[49]⟩)) rfl
  have l1 : (tv (0, (1, [97], [([98], [49])], []))).attrs.length = 1 := rfl
  clear h2 HT HB hb2 hT hS0 hS1 hS2 hG1
  simp only [tv] at p2 p3 a1 a4 b1
  rw [show (prs [([98], [49])]).length = 1 from rfl] at p3
  simp [Addr.add] at p2 p3 a1 a4 b1 c2
  clear p0 p1 p4 a0 a2 a3 b0 b2 b3 b4 c1 l1
  go_wp2
  go_ret
  exact ⟨rfl, HB2.out⟩
end Go.Proofs.YtflfnnkdkfcpkaaGreatDoor
