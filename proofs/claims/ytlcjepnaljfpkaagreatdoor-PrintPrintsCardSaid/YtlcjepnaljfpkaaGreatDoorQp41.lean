/- TrS SmA SmC. -/
import Derived.Maps.OwnOps
import Derived.WideKeyEntry
import Derived.Deep.RegionWith
import Derived.Deep.Cut
import Derived.Test.YtlcjepnaljfpkaaGreatDoorQp9
import Derived.Test.YtlcjepnaljfpkaaGreatDoorQp32
import Derived.Test.YtlcjepnaljfpkaaGreatDoorQp36
namespace Wb
def cntA (x : Tr) (l : List Tr) : Nat := l.countP fun y => decide (y = x)
theorem cntA_cons (x y : Tr) (l : List Tr) : cntA x (y :: l) = cntA x l + if y = x then 1 else 0 := by
  unfold cntA
  rw [List.countP_cons]
  simp
theorem cntA_perm {a b : List Tr} (h : a.Perm b) (x : Tr) : cntA x a = cntA x b := h.countP_eq _
def permA (a b : List Tr) : Bool := decide (a.length = b.length) && b.all fun x => decide (cntA x b ≤ cntA x a)
theorem perm_of_le : ∀ (b a : List Tr), a.length = b.length → (∀ x ∈ b, cntA x b ≤ cntA x a) → a.Perm b
  | [], a, hl, _ => by
    have : a = [] := List.eq_nil_of_length_eq_zero (by simpa using hl)
    rw [this]
  | x :: b, a, hl, h => by
    have hx := h x (by simp)
    rw [cntA_cons, if_pos rfl] at hx
    have hm : x ∈ a := by
      have : 0 < cntA x a := by omega
      obtain ⟨y, hy, e⟩ := List.countP_pos_iff.1 this
      rw [← of_decide_eq_true e]; exact hy
    obtain ⟨s, t, rfl⟩ := List.append_of_mem hm
    have hp : (s ++ x :: t).Perm (x :: (s ++ t)) := List.perm_middle
    refine hp.trans (List.Perm.cons x (perm_of_le b (s ++ t) ?_ fun y hy => ?_))
    · have := hp.length_eq
      simp only [List.length_cons] at this hl
      omega
    · have h1 := h y (by simp [hy])
      rw [cntA_perm hp y, cntA_cons, cntA_cons] at h1
      omega
theorem permA_iff (a b : List Tr) : permA a b = true ↔ a.Perm b := by
  unfold permA
  rw [Bool.and_eq_true, decide_eq_true_eq, List.all_eq_true]
  constructor
  · rintro ⟨h1, h2⟩
    exact perm_of_le b a h1 (fun x hx => of_decide_eq_true (h2 x hx))
  · intro h
    exact ⟨h.length_eq, fun x _ => decide_eq_true (by rw [cntA_perm h x]; exact Nat.le_refl _)⟩
mutual
def sameN : Nd → Nd → Bool
  | .mk k n asz ks t, b => decide (k = b.kind) && eqP n b.name && eqT t b.text && permA asz b.attrs && sameKs ks b.kids
def sameKs : List Nd → List Nd → Bool
  | [], l => l.isEmpty
  | k :: ks, l => match l with
    | [] => false
    | j :: js => sameN k j && sameKs ks js
end
theorem sameN_is (a b : Nd) : sameN a b = (decide (a.kind = b.kind) && eqP a.name b.name && eqT a.text b.text && permA a.attrs b.attrs && sameKs a.kids b.kids) := by
  cases a; rfl
theorem sameKs_iff : ∀ (a b : List Nd), sameKs a b = true ↔ a.length = b.length ∧ ∀ (i : Nat) (x y : Nd), a[i]? = some x → b[i]? = some y → sameN x y = true
  | [], b => by
    unfold sameKs
    cases b <;> simp
  | k :: ks, [] => by
    unfold sameKs
    simp
  | k :: ks, j :: js => by
    unfold sameKs
    rw [Bool.and_eq_true, sameKs_iff ks js]
    constructor
    · rintro ⟨h1, h2, h3⟩
      refine ⟨by simp [h2], fun i x y hx hy => ?_⟩
      cases i with
      | zero =>
        simp only [List.getElem?_cons_zero, Option.some.injEq] at hx hy
        subst hx hy
        exact h1
      | succ i => exact h3 i x y (by simpa using hx) (by simpa using hy)
    · rintro ⟨h1, h2⟩
      exact ⟨h2 0 k j rfl rfl, by simpa using h1, fun i x y hx hy => h2 (i + 1) x y (by simpa using hx) (by simpa using hy)⟩
theorem sameN_iff (a b : Nd) : sameN a b = true ↔ a.kind = b.kind ∧ a.name = b.name ∧ a.text = b.text ∧ a.attrs.Perm b.attrs ∧ a.kids.length = b.kids.length ∧ ∀ (i : Nat) (x y : Nd), a.kids[i]? = some x → b.kids[i]? = some y → sameN x y = true := by
  rw [sameN_is]
  simp only [Bool.and_eq_true, decide_eq_true_eq]
  rw [eqP_iff, eqT_iff, permA_iff, sameKs_iff]
  constructor
  · rintro ⟨⟨⟨⟨h1, h2⟩, h3⟩, h4⟩, h5, h6⟩; exact ⟨h1, h2, h3, h4, h5, h6⟩
  · rintro ⟨h1, h2, h3, h4, h5, h6⟩; exact ⟨⟨⟨⟨h1, h2⟩, h3⟩, h4⟩, h5, h6⟩
theorem sameN_refl (a : Nd) : sameN a a = true := by
  induction a using Nd.induct with
  | h a ih =>
    rw [sameN_iff]
    refine ⟨rfl, rfl, rfl, List.Perm.refl _, rfl, fun i x y hx hy => ?_⟩
    rw [hx] at hy
    simp only [Option.some.injEq] at hy
    subst hy
    exact ih x (List.mem_of_getElem? hx)
end Wb
namespace Wb
theorem cntA_take {l : List Tr} {k : Nat} {y : Tr} (h : l[k]? = some y) (x : Tr) : cntA x (l.take (k + 1)) = cntA x (l.take k) + if y = x then 1 else 0 := by
  rw [List.take_add_one, h]
  unfold cntA
  rw [List.countP_append]
  simp
end Wb
namespace Wb
open Go Go.Maps Go.MapKept Go.ChangeMaps Go.WideElems Go.WideMaps
end Wb
namespace Go.Proofs.YtlcjepnaljfpkaaGreatDoor
open Go.RowKit Wb Go.Maps
theorem tri_info : (Tryz.prog.info? 25).map (·.size) = some 3 := by kernel_rfl
theorem tri_row : (25 : TypeId) < Tryz.prog.types.size := of_decide_eq_true (by kernel_rfl)
theorem tri_wide : (match Tryz.prog.underlying 25 with | some (.array _ _) | some (.struct _) => true | _ => false) = true := by kernel_rfl
theorem tri_kt : Tryz.prog.keyType 25 = true := by kernel_rfl
theorem tri_cells : Tryz.prog.cellsOf 25 = 3 := by kernel_rfl
theorem zero_int (w : World) : (zeroValue 3).run Tryz.prog w = .ok (.int .i64 0) w := by kernel_rfl
end Go.Proofs.YtlcjepnaljfpkaaGreatDoor
namespace Wb
theorem sameKs_len {a b : List Nd} (h : a.length ≠ b.length) : sameKs a b = false := by
  cases hs : sameKs a b with
  | false => rfl
  | true => exact absurd ((sameKs_iff a b).1 hs).1 h
theorem sameKs_drop {a b : List Nd} {i : Nat} {x y : Nd} (hx : a[i]? = some x) (hy : b[i]? = some y) : sameKs (a.drop i) (b.drop i) = (sameN x y && sameKs (a.drop (i + 1)) (b.drop (i + 1))) := by
  obtain ⟨h1, e1⟩ := List.getElem?_eq_some_iff.1 hx
  obtain ⟨h2, e2⟩ := List.getElem?_eq_some_iff.1 hy
  rw [List.drop_eq_getElem_cons h1, List.drop_eq_getElem_cons h2, e1, e2]
  rfl
end Wb
namespace Go.Proofs.YtlcjepnaljfpkaaGreatDoor
open Go.RowKit Wb
end Go.Proofs.YtlcjepnaljfpkaaGreatDoor
