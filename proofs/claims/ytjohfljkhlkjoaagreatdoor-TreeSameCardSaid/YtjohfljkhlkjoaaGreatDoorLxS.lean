import Derived.Test.YtjohfljkhlkjoaaGreatDoorRaws
import Derived.Test.YtjohfljkhlkjoaaGreatDoorMgM
import Derived.Test.YtjohfljkhlkjoaaGreatDoorMgU
import Derived.Deep.QuietTactic
import Derived.BigQuiet
namespace Go.Proofs.YtjohfljkhlkjoaaGreatDoor
open Go.RowKit Wb
structure TokV where
  kind : Int
  place : Int
  name : ByteArray
  attrs : List Pr
  text : ByteArray
def tokC (t : TokV) (a : Option Addr × Nat) : List Value := [.int .i64 t.kind, .int .i64 t.place, .string t.name, .slice a.1 t.attrs.length a.2, .string t.text]
def cells5 : List TokV → List (Option Addr × Nat) → List Value
  | t :: ts, a :: ads => tokC t a ++ cells5 ts ads
  | _, _ => []
theorem cells5_at : ∀ (ts : List TokV) (ads : List (Option Addr × Nat)) (k : Nat) (t : TokV) (a : Option Addr × Nat), ts[k]? = some t → ads[k]? = some a → ∀ j, j < 5 → (cells5 ts ads)[k * 5 + j]? = (tokC t a)[j]?
  | [], _, k, t, a, h, _, _, _ => by simp at h
  | _ :: _, [], k, t, a, _, h, _, _ => by simp at h
  | t0 :: ts, a0 :: ads, 0, t, a, h, h', j, hj => by
    simp only [List.getElem?_cons_zero, Option.some.injEq] at h h'
    subst h h'
    rw [Nat.zero_mul, Nat.zero_add]
    show (tokC t0 a0 ++ cells5 ts ads)[j]? = _
    rw [List.getElem?_append_left (by simpa [tokC] using hj)]
  | t0 :: ts, a0 :: ads, k + 1, t, a, h, h', j, hj => by
    have := cells5_at ts ads k t a (by simpa using h) (by simpa using h') j hj
    rw [← this]
    show (tokC t0 a0 ++ cells5 ts ads)[(k + 1) * 5 + j]? = _
    rw [List.getElem?_append_right (by simp [tokC]; omega)]
    congr 1
    simp [tokC]
    omega
theorem cells5_app (ts us : List TokV) : ∀ (ads bs : List (Option Addr × Nat)), ads.length = ts.length → cells5 (ts ++ us) (ads ++ bs) = cells5 ts ads ++ cells5 us bs := by
  induction ts with
  | nil =>
    intro ads bs h
    have : ads = [] := List.eq_nil_of_length_eq_zero (by simpa using h)
    subst this
    rfl
  | cons t ts ih =>
    intro ads bs h
    cases ads with
    | nil => cases h
    | cons a ads =>
      show tokC t a ++ cells5 (ts ++ us) (ads ++ bs) = (tokC t a ++ cells5 ts ads) ++ cells5 us bs
      rw [ih ads bs (by simpa using h), List.append_assoc]
def TokS (w : World) (A : Option Addr) (ts : List TokV) : Prop :=
  ∃ ads : List (Option Addr × Nat), ads.length = ts.length ∧ Sl w 5 A ts.length (cells5 ts ads) ∧ ∀ (j : Nat) (t : TokV) (a : Option Addr × Nat), ts[j]? = some t → ads[j]? = some a → Sl2 w a.1 t.attrs
theorem TokS.nil (w : World) (A : Option Addr) : TokS w A [] := ⟨[], rfl, Sl.nil w 5 A, fun j t a h => by simp at h⟩
theorem TokS.below {w w' : World} {A : Option Addr} {ts : List TokV} (h : TokS w A ts) (hb : Below w.heap.size w w') : TokS w' A ts := by
  obtain ⟨ads, h1, h2, h3⟩ := h
  exact ⟨ads, h1, h2.below hb, fun j t a ht ha => (h3 j t a ht ha).below hb⟩
theorem TokS.at_ {w : World} {A : Option Addr} {ts : List TokV} (h : TokS w A ts) {k : Nat} {t : TokV} (ht : ts[k]? = some t) :
    ∃ ad B c, A = some ad ∧ ad.block < w.heap.size ∧ w.cell? (ad.add (k * 5)) = some (.int .i64 t.kind) ∧ w.cell? ⟨(ad.add (k * 5)).block, (ad.add (k * 5)).off + 1, none⟩ = some (.int .i64 t.place) ∧
      w.cell? ⟨(ad.add (k * 5)).block, (ad.add (k * 5)).off + 2, none⟩ = some (.string t.name) ∧ w.cell? ⟨(ad.add (k * 5)).block, (ad.add (k * 5)).off + 3, none⟩ = some (.slice B t.attrs.length c) ∧
      w.cell? ⟨(ad.add (k * 5)).block, (ad.add (k * 5)).off + 4, none⟩ = some (.string t.text) ∧ Sl2 w B t.attrs := by
  obtain ⟨ads, h1, h2, h3⟩ := h
  have hk : k < ts.length := (List.getElem?_eq_some_iff.1 ht).1
  obtain ⟨ad, e, hb, hc⟩ := h2.2 (by omega)
  obtain ⟨⟨B, c⟩, ha⟩ : ∃ a, ads[k]? = some a := ⟨ads[k], List.getElem?_eq_getElem (by omega)⟩
  have at_ := cells5_at ts ads k t (B, c) ht ha
  refine ⟨ad, B, c, e, hb, hc _ _ (by rw [show k * 5 = k * 5 + 0 from rfl, at_ 0 (by omega)]; rfl), ?_, ?_, ?_, ?_, h3 k t (B, c) ht ha⟩
  · rw [← add_succ _ _ 1 (by omega)]; exact hc _ _ (by rw [at_ 1 (by omega)]; rfl)
  · rw [← add_succ _ _ 2 (by omega)]; exact hc _ _ (by rw [at_ 2 (by omega)]; rfl)
  · rw [← add_succ _ _ 3 (by omega)]; exact hc _ _ (by rw [at_ 3 (by omega)]; rfl)
  · rw [← add_succ _ _ 4 (by omega)]; exact hc _ _ (by rw [at_ 4 (by omega)]; rfl)
theorem Sl2.drewN {w : World} {A : Option Addr} {l : List Pr} (h : Sl2 w A l) (n : Nat) : Sl2 (w.drewN n) A l := h
end Go.Proofs.YtjohfljkhlkjoaaGreatDoor
