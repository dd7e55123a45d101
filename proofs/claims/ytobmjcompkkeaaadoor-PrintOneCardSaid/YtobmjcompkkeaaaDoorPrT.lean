
/- Contract: Print of any small tree; plain: what was printed is parsed; the same trees are printed alike, and others not. -/
import Derived.Test.YtobmjcompkkeaaaDoorMgE
import Derived.Test.YtobmjcompkkeaaaDoorMgH
import Derived.Test.YtobmjcompkkeaaaDoorMgTp
namespace Wb
/-- What Print answers of any tree. -/
def printR (n : Nd) : List UInt8 × Int := if rightB n = true then printX n else ([], 4)
theorem right_same {a b : Nd} (h : sameN a b = true) : rightB a = rightB b := by
  have key : ∀ a b : Nd, sameN a b = true → rightB a = true → rightB b = true := by
    intro a b h hr
    obtain ⟨h1, h2, h3⟩ := (rightB_iff a).1 hr
    exact (rightB_iff b).2 ⟨by rw [← (sameN_parts h).1]; exact h1, okN_same a 1 b h h2, by rw [← cost_same a b h]; exact h3⟩
  rw [Bool.eq_iff_iff]
  exact ⟨key a b h, key b a (sameN_symm a b h)⟩
theorem nodeT_same {a b : Nd} {d : Nat} (hok : okN d a) (h : sameN a b = true) (sp : ByteArray) : nodeT a sp = nodeT b sp := by
  rw [← nodeT_ord a d sp hok, ← nodeT_ord b d sp (okN_same a d b h hok), ord_same a d b hok h]
/-- The same trees are printed alike. -/
theorem print_like {a b : Nd} (h : sameN a b = true) : printR a = printR b := by
  unfold printR
  rw [← right_same h]
  split
  · rename_i hr
    obtain ⟨_, h2, _⟩ := (rightB_iff a).1 hr
    unfold printX
    rw [nodeT_same h2 h]
  · rfl
end Wb
namespace Go.Proofs.YtobmjcompkkeaaaDoor
open Go.RowKit Wb
/-- What was printed is parsed as the same tree, its attributes in their order. -/
theorem parse_printed {n : Nd} (hok : okN 1 n) (hk : n.kind = 1) (hc : costN n ≤ 2000) (hl : (nodeT n sE).length ≤ 32768) : parseX ⟨(nodeT n sE).toArray⟩ = .ok (ordN n) := by
  obtain ⟨ts, hd, ht⟩ := doc_printed hok hk hl
  have htok : tokensU (nodeT n sE) = .ok ts := by
    rcases tokens_fit (nodeT n sE) with ⟨vs, h1, h2⟩ | ⟨h1, _⟩
    · rw [h2, doc_one h1 hd]
    · exact absurd hd (h1 ts)
  unfold parseX
  rw [of_list, htok]
  exact tree_printed hok hk hc ht _
/-- Unlike trees are printed unlike, or refused. -/
theorem print_unlike {a b : Nd} (h : sameN a b = false) : (printR a).2 ≠ 0 ∨ (printR b).2 ≠ 0 ∨ (printR a).1 ≠ (printR b).1 := by
  apply Classical.byContradiction
  intro hn
  have ha : (printR a).2 = 0 := Classical.byContradiction fun h => hn (.inl h)
  have hb : (printR b).2 = 0 := Classical.byContradiction fun h => hn (.inr (.inl h))
  have he : (printR a).1 = (printR b).1 := Classical.byContradiction fun h => hn (.inr (.inr h))
  have key : ∀ n : Nd, (printR n).2 = 0 → (printR n).1 = nodeT n sE ∧ parseX ⟨(nodeT n sE).toArray⟩ = .ok (ordN n) := by
    intro n h0
    unfold printR at h0 ⊢
    by_cases hr : rightB n = true
    · rw [if_pos hr] at h0 ⊢
      obtain ⟨h1, h2, h3⟩ := (rightB_iff n).1 hr
      unfold printX at h0 ⊢
      by_cases hl : 32768 < (nodeT n sE).length
      · rw [if_pos hl] at h0
        exact absurd h0 (by decide)
      · rw [if_neg hl]
        exact ⟨rfl, parse_printed h2 h1 h3 (by omega)⟩
    · rw [if_neg hr] at h0
      exact absurd h0 (by decide)
  obtain ⟨a1, a2⟩ := key a ha
  obtain ⟨b1, b2⟩ := key b hb
  rw [← a1, he, b1, b2] at a2
  simp only [Except.ok.injEq] at a2
  have := sameN_trans a (ordN a) b (sameN_ord a) (by rw [← a2]; exact sameN_symm _ _ (sameN_ord b))
  rw [h] at this
  cases this

set_option maxRecDepth 100000 in
theorem Print_any (n : Nd) (A K : Option Addr) (ca ck : Nat) (w : World) (hsz : szN n) (hsm : smallN n) (hV : NodeV w n A K) :
    Calls Tryd.prog 6 #[ndV n A ca K ck] w fun e w' => e = .returned (.tuple #[.string ⟨(printR n).1.toArray⟩, .int .i64 (printR n).2]) ∧ Below w.heap.size w w' := by
  by_cases hr : rightB n = true
  · obtain ⟨h1, h2, h3⟩ := (rightB_iff n).1 hr
    have hp : printR n = printX n := if_pos hr
    rw [hp]
    exact Print_ok n A K ca ck w h2 h1 hsz h3 hsm hV
  · have hp : printR n = ([], 4) := if_neg hr
    rw [hp]
    have hb1 : Below w.heap.size w (w.alloc (.cells (ndCells n.kind n.name A n.attrs.length ca K n.kids.length ck n.text).toArray 27)) := (Below.refl _ w).alloc (Nat.le_refl _) _
    have hrb := Right_b n A K ca ck (w.alloc (.cells (ndCells n.kind n.name A n.attrs.length ca K n.kids.length ck n.text).toArray 27)) hsz hsm (NodeV.below hV hb1)
    have hrf : rightB n = false := by simpa using hr
    rw [hrf] at hrb
    have HB := Lib.hid hb1
    clear hr hrf hp hb1 hsz hsm hV
    unfold ndV ndCells at *
    have hsz2 : w.heap.size ≤ (w.alloc (.cells [Value.int .i64 n.kind, .string n.name.1, .string n.name.2, .slice A n.attrs.length ca, .slice K n.kids.length ck, .string n.text].toArray 27)).heap.size := by simp
    go_enter Tryd.func6, Tryd.ntmps6
    go_wp2_with fail
    refine hrb.mono ?_
    rintro e w1 ⟨rfl, hb1⟩
    have HB1 := Lib.hid (HB.out.trans (hb1.mono hsz2))
    clear hrb hb1
    go_wp2
    go_ret2
    exact ⟨rfl, HB1.out⟩
end Go.Proofs.YtobmjcompkkeaaaDoor
