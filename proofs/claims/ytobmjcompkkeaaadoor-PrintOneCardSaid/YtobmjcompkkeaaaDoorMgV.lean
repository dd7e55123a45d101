
/- Contract: Few. -/
import Derived.Test.YtobmjcompkkeaaaDoorTrE
import Derived.Test.YtobmjcompkkeaaaDoorMgY
import Derived.Deep.RegionHeld
import Derived.Deep.Cut
namespace Go.Proofs.YtobmjcompkkeaaaDoor
open Go.RowKit Wb

set_option maxRecDepth 100000 in
theorem tfew_any (n : Nd) (A K : Option Addr) (ca ck : Nat) (w : World) (hV : NodeV w n A K) (hl : lenN 9223372036854775807 n) :
    Calls Tryd.prog 5 #[ndV n A ca K ck] w fun e w' => e = .returned (.bool (decide (weighN n 30000 ≤ 30000))) ∧ Below w.heap.size w w' := by
  have hI := weigh_any n A K ca ck 30000 (w.alloc (.cells (ndCells n.kind n.name A n.attrs.length ca K n.kids.length ck n.text).toArray 27)) (by omega) (NodeV.below hV ((Below.refl _ w).alloc (Nat.le_refl _) _)) hl
  have hN := heap_alloc_new w (.cells (ndCells n.kind n.name A n.attrs.length ca K n.kids.length ck n.text).toArray 27)
  have HB := Lib.hid ((Below.refl w.heap.size w).alloc (Nat.le_refl _) (.cells (ndCells n.kind n.name A n.attrs.length ca K n.kids.length ck n.text).toArray 27))
  have hsz : w.heap.size ≤ (w.alloc (.cells (ndCells n.kind n.name A n.attrs.length ca K n.kids.length ck n.text).toArray 27)).heap.size := by simp
  unfold ndV ndCells at hI ⊢
  unfold ndCells at hN HB hsz
  have n0 := blk_cell hN 0
  have n1 := blk_cell hN 1
  have n2 := blk_cell hN 2
  have n3 := blk_cell hN 3
  have n4 := blk_cell hN 4
  have n5 := blk_cell hN 5
  simp only [List.getElem?_toArray, List.getElem?_cons_zero, List.getElem?_cons_succ] at n0 n1 n2 n3 n4 n5
  clear hN
  go_enter Tryd.func5, Tryd.ntmps5
  go_wp2_with fail
  refine hI.mono ?_
  rintro e w2 ⟨rfl, hb2⟩
  clear hI
  go_wp2
  go_ret
  exact ⟨by congr 2; simp; omega, HB.out.trans (hb2.mono hsz)⟩
end Go.Proofs.YtobmjcompkkeaaaDoor

namespace Go.Proofs.YtobmjcompkkeaaaDoor
open Go.RowKit Wb

theorem mk_kind (k : Int) (n : Pr) (a : List Tr) (ks : List Nd) (t : ByteArray) : (Nd.mk k n a ks t).kind = k := rfl
theorem mk_name (k : Int) (n : Pr) (a : List Tr) (ks : List Nd) (t : ByteArray) : (Nd.mk k n a ks t).name = n := rfl
theorem mk_attrs (k : Int) (n : Pr) (a : List Tr) (ks : List Nd) (t : ByteArray) : (Nd.mk k n a ks t).attrs = a := rfl
theorem mk_kids (k : Int) (n : Pr) (a : List Tr) (ks : List Nd) (t : ByteArray) : (Nd.mk k n a ks t).kids = ks := rfl
theorem mk_text (k : Int) (n : Pr) (a : List Tr) (ks : List Nd) (t : ByteArray) : (Nd.mk k n a ks t).text = t := rfl

theorem app_node {tN : TypeId} {w5 : World} {base : Nat} {n m : Nd} {A : Option Addr} {v5 : Value} {css : List (List Value)} {cm : List Value} (hats : Sl3 w5 A n.attrs) (h1 : css.length = n.kids.length)
    (h3 : ∀ (i : Nat) (k : Nd) (cs : List Value), n.kids[i]? = some k → css[i]? = some cs → nodeC w5 k cs) (hcm : nodeC w5 m cm) (h5 : w5.ownsRow base tN 6 v5 (n.kids.length + 1) (css.flatten ++ cm)) :
    ∃ K5 c5, v5 = .slice K5 (n.kids.length + 1) c5 ∧ NodeV w5 (.mk n.kind n.name n.attrs (n.kids ++ [m]) n.text) A K5 := by
  obtain ⟨g, cap, hv, _, hlt⟩ := h5.form (by omega)
  subst hv
  refine ⟨_, _, rfl, hats, .inr ⟨_, rfl, hlt, (kidsC_iff _ _ _ _).2 fun k x hkx => ?_⟩⟩
  simp only [Nd.kids] at hkx
  have hall : ∀ (i : Nat) (k : Nd) (cs : List Value), (n.kids ++ [m])[i]? = some k → (css ++ [cm])[i]? = some cs → nodeC w5 k cs := by
    intro i k cs hk hc
    by_cases hi : i < n.kids.length
    · rw [List.getElem?_append_left hi] at hk
      rw [List.getElem?_append_left (by omega)] at hc
      exact h3 i k cs hk hc
    · rw [List.getElem?_append_right (by omega)] at hk hc
      rw [h1] at hc
      have hj : i - n.kids.length = 0 := by have := (List.getElem?_eq_some_iff.1 hk).1; simp at this; omega
      rw [hj] at hk hc
      simp only [List.getElem?_cons_zero, Option.some.injEq] at hk hc
      subst hk hc
      exact hcm
  have hl : (css ++ [cm]).length = (n.kids ++ [m]).length := by simp [h1]
  have h6 : ∀ cs ∈ css ++ [cm], cs.length = 6 := fun cs hc => by
    obtain ⟨i, hi, e⟩ := List.mem_iff_getElem.1 hc
    exact nodeC_len (hall i ((n.kids ++ [m])[i]'(by omega)) cs (List.getElem?_eq_getElem _) (by rw [← e]; exact List.getElem?_eq_getElem _))
  have hkl : k < (css ++ [cm]).length := by rw [hl]; exact (List.getElem?_eq_some_iff.1 hkx).1
  have hc : (css ++ [cm])[k]? = some (css ++ [cm])[k] := List.getElem?_eq_getElem hkl
  refine ⟨(css ++ [cm])[k], fun j u hu => ?_, hall k x _ hkx hc⟩
  rw [Nat.zero_add]
  have hj : j < 6 := by have := (List.getElem?_eq_some_iff.1 hu).1; rw [h6 _ (List.mem_of_getElem? hc)] at this; exact this
  have hfl : css.flatten ++ cm = (css ++ [cm]).flatten := by simp
  rw [hfl] at h5
  exact h5.cells (g := g) rfl _ _ ((flat_at h6 k _ hc j hj).trans hu)
end Go.Proofs.YtobmjcompkkeaaaDoor

namespace Go.Proofs.YtobmjcompkkeaaaDoor
open Go.RowKit Wb

/-- The six cells of a node, read. -/
theorem cells_of_nd {w : World} {g : Nat} {k : Int} {p q : ByteArray} {A K : Option Addr} {la ca lk ck : Nat} {t : ByteArray} {ty : TypeId} (h : w.heap[g]? = some (.cells #[.int .i64 k, .string p, .string q, .slice A la ca, .slice K lk ck, .string t] ty (0, 0))) :
    w.cell? ⟨g, 0, none⟩ = some (.int .i64 k) ∧ w.cell? ⟨g, 1, none⟩ = some (.string p) ∧ w.cell? ⟨g, 2, none⟩ = some (.string q) ∧ w.cell? ⟨g, 3, none⟩ = some (.slice A la ca) ∧ w.cell? ⟨g, 4, none⟩ = some (.slice K lk ck) ∧ w.cell? ⟨g, 5, none⟩ = some (.string t) := by
  refine ⟨?_, ?_, ?_, ?_, ?_, ?_⟩ <;> simp [World.cell?, h]

/-- A node without its kids. -/
def bare (n : Nd) : Nd := .mk n.kind n.name n.attrs [] n.text
theorem bare_kind (n : Nd) : (bare n).kind = n.kind := rfl
theorem bare_name (n : Nd) : (bare n).name = n.name := rfl
theorem bare_attrs (n : Nd) : (bare n).attrs = n.attrs := rfl
theorem bare_kids (n : Nd) : (bare n).kids = [] := rfl
theorem bare_text (n : Nd) : (bare n).text = n.text := rfl
theorem bare_cost (n : Nd) : costN (bare n) = 1 ∧ costB (bare n) = ownB n := by
  obtain ⟨k, nm, al, ks, t⟩ := n
  refine ⟨by rw [costN_is]; rfl, by rw [costB_is]; rfl⟩
theorem bare_small {n : Nd} (h : smallN n) : smallN (bare n) := by
  rw [smallN_is] at h ⊢
  exact ⟨h.1, Nat.zero_le _, fun k hk => by cases hk⟩

end Go.Proofs.YtobmjcompkkeaaaDoor

