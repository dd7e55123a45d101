/- LdC LxS. -/
import Derived.Test.YtlcjepnaljfpkaaGreatDoorRows
import Derived.Deep.QuietTactic
import Derived.BigQuiet
import Derived.Test.YtlcjepnaljfpkaaGreatDoorQl5
import Derived.Test.YtlcjepnaljfpkaaGreatDoorQl6
import Derived.Test.YtlcjepnaljfpkaaGreatDoorQl10
import Derived.Test.YtlcjepnaljfpkaaGreatDoorQl27
namespace Go.Proofs.YtlcjepnaljfpkaaGreatDoor
open Go.RowKit Wb
theorem upToX_ge {L : List UInt8} {fr at_ : Nat} {p v : List UInt8} {a : Nat} (hp : p ≠ []) (h : upToX L fr at_ p = .ok (v, a)) : at_ < a ∧ a ≤ L.length := by
  unfold upToX at h
  rcases cut_until p hp (L.drop at_) with ⟨h1, _⟩ | ⟨n, v', h1, _, h3, h4⟩
  · rw [h1] at h; cases h
  · rw [h1] at h
    simp only [Except.ok.injEq, Prod.mk.injEq] at h
    have := List.length_pos_iff.2 hp
    rw [List.length_drop] at h4
    omega
theorem takeX_ge {L : List UInt8} {fr at_ : Nat} {c : UInt8} {a : Nat} (h : takeX L fr at_ c = .ok a) : at_ < a ∧ a ≤ L.length := by
  unfold takeX at h
  split at h
  · cases h
  · rename_i hl
    have := drop_cons_len hl
    split at h
    · simp only [Except.ok.injEq] at h; omega
    · cases h
theorem valueX_ge {L : List UInt8} {fr at_ : Nat} {v : List UInt8} {a : Nat} (h : valueX L fr at_ = .ok (v, a)) : at_ < a := by
  unfold valueX at h
  repeat' split at h
  all_goals first | (cases h; done) | (simp only [Except.ok.injEq, Prod.mk.injEq] at h; omega)
theorem attributeX_ge {L : List UInt8} {fr at_ o : Nat} {ap : Bool} {nv : List UInt8 × List UInt8} {a : Nat} (h : attributeX L fr at_ o ap = .ok (nv, a)) : at_ < a := by
  unfold attributeX at h
  split at h
  · cases h
  · split at h
    · cases h
    · split at h
      · cases h
      · split at h
        · cases h
        · rename_i ht
          split at h
          · cases h
          · rename_i hv
            simp only [Except.ok.injEq, Prod.mk.injEq] at h
            have := valueX_ge hv
            have := (takeX_ge ht).1
            omega
theorem namedX_ge {L : List UInt8} {fr at_ : Nat} {x : List UInt8} {a : Nat} (h : namedX L fr at_ = .ok (x, a)) : at_ ≤ a := by
  unfold namedX at h
  split at h
  · cases h
  · split at h
    · cases h
    · simp only [Except.ok.injEq, Prod.mk.injEq] at h; omega
theorem attrsX_ge {L : List UInt8} {fr : Nat} : ∀ (f at_ : Nat) (acc : AL) (kl : Int × AL) (b : Nat), attrsX L fr f at_ acc = .ok (kl, b) → at_ < b ∧ b ≤ L.length
  | 0, at_, acc, kl, b, h => by cases h
  | f + 1, at_, acc, kl, b, h => by
    rw [attrsX_step] at h
    split at h
    · cases h
    · rename_i hl
      have hlen := drop_cons_len hl
      split at h
      · split at h
        · cases h
        · rename_i ht
          have := takeX_ge ht
          simp only [Except.ok.injEq, Prod.mk.injEq] at h
          omega
      · split at h
        · simp only [Except.ok.injEq, Prod.mk.injEq] at h
          omega
        · split at h
          · cases h
          · rename_i ha
            have := attributeX_ge ha
            have := attrsX_ge f _ _ _ _ h
            omega
theorem tokenU_ge {L : List UInt8} {fr : Nat} (hf : fr < L.length) {t : Option Tk} {a : Nat} (h : tokenU L fr = .ok (t, a)) : fr < a ∧ a ≤ L.length := by
  unfold tokenU at h
  simp only at h
  split at h
  · rename_i h60
    unfold someX at h
    split at h
    · cases h
    · rename_i t' a' ht
      simp only [Except.ok.injEq, Prod.mk.injEq] at h
      unfold textX at ht
      simp only at ht
      have hlen : 0 < ((L.drop fr).takeWhile (· != 60)).length := by
        cases hd : L.drop fr with
        | nil =>
          have := congrArg List.length hd
          rw [List.length_drop] at this
          simp at this
          omega
        | cons c q =>
          rw [hd] at h60
          rw [List.takeWhile_cons_of_pos (by simpa using h60)]
          simp
      have hle := tw_le (· != 60) (L.drop fr)
      rw [List.length_drop] at hle
      split at ht
      · split at ht <;> cases ht
      · split at ht
        · cases ht
        · simp only [Except.ok.injEq, Prod.mk.injEq] at ht
          omega
  · split at h
    · unfold noneX at h
      split at h
      · cases h
      · rename_i a' ht
        simp only [Except.ok.injEq, Prod.mk.injEq] at h
        unfold instructionU at ht
        simp only at ht
        split at ht
        · cases ht
        · split at ht
          · cases ht
          · split at ht
            · cases ht
            · rename_i hu
              have := upToX_ge (by simp) hu
              simp only [Except.ok.injEq] at ht
              omega
    · split at h
      · unfold noneX at h
        split at h
        · cases h
        · rename_i a' ht
          simp only [Except.ok.injEq, Prod.mk.injEq] at h
          unfold commentX at ht
          split at ht
          · cases ht
          · rename_i hu
            have := upToX_ge (by simp) hu
            split at ht
            · rename_i h62
              have h63 := congrArg List.length h62
              rw [List.length_take, List.length_drop] at h63
              simp only [List.length_cons, List.length_nil] at h63
              simp only [Except.ok.injEq] at ht
              omega
            · cases ht
      · split at h
        · unfold someX at h
          split at h
          · cases h
          · rename_i t' a' ht
            simp only [Except.ok.injEq, Prod.mk.injEq] at h
            unfold sectionX at ht
            split at ht
            · cases ht
            · rename_i hu
              have := upToX_ge (by simp) hu
              simp only [Except.ok.injEq, Prod.mk.injEq] at ht
              omega
        · split at h
          · cases h
          · split at h
            · cases h
            · split at h
              · unfold someX at h
                split at h
                · cases h
                · rename_i t' a' ht
                  simp only [Except.ok.injEq, Prod.mk.injEq] at h
                  unfold endTagX at ht
                  split at ht
                  · cases ht
                  · rename_i hn
                    have := namedX_ge hn
                    split at ht
                    · cases ht
                    · rename_i hk
                      have := takeX_ge hk
                      simp only [Except.ok.injEq, Prod.mk.injEq] at ht
                      omega
              · unfold someX at h
                split at h
                · cases h
                · rename_i t' a' ht
                  simp only [Except.ok.injEq, Prod.mk.injEq] at h
                  unfold startTagX at ht
                  split at ht
                  · cases ht
                  · rename_i hn
                    have := namedX_ge hn
                    split at ht
                    · cases ht
                    · rename_i hk
                      have := attrsX_ge _ _ _ _ _ hk
                      simp only [Except.ok.injEq, Prod.mk.injEq] at ht
                      omega
end Go.Proofs.YtlcjepnaljfpkaaGreatDoor
namespace Go.Proofs.YtlcjepnaljfpkaaGreatDoor
open Go.RowKit Wb
structure TokV where
  kind : Int
  place : Int
  name : ByteArray
  attrs : List Pr
  text : ByteArray
def tokC (t : TokV) (a : Option Addr × Nat) : List Value := [.int .i64 t.kind, .int .i64 t.place, .string t.name, .slice a.1 t.attrs.length a.2, .string t.text]
def cells5 : List TokV → List (Option Addr × Nat) → List Value
  | t :: ts, a :: ads => tokC t a ++ cells5 ts ads
  | _, _ => []
theorem cells5_at : ∀ (ts : List TokV) (ads : List (Option Addr × Nat)) (k : Nat) (t : TokV) (a : Option Addr × Nat), ts[k]? = some t → ads[k]? = some a → ∀ j, j < 5 → (cells5 ts ads)[k * 5 + j]? = (tokC t a)[j]?
  | [], _, k, t, a, h, _, _, _ => by simp at h
  | _ :: _, [], k, t, a, _, h, _, _ => by simp at h
  | t0 :: ts, a0 :: ads, 0, t, a, h, h', j, hj => by
    simp only [List.getElem?_cons_zero, Option.some.injEq] at h h'
    subst h h'
    rw [Nat.zero_mul, Nat.zero_add]
    show (tokC t0 a0 ++ cells5 ts ads)[j]? = _
    rw [List.getElem?_append_left (by simpa [tokC] using hj)]
  | t0 :: ts, a0 :: ads, k + 1, t, a, h, h', j, hj => by
    have := cells5_at ts ads k t a (by simpa using h) (by simpa using h') j hj
    rw [← this]
    show (tokC t0 a0 ++ cells5 ts ads)[(k + 1) * 5 + j]? = _
    rw [List.getElem?_append_right (by simp [tokC]; omega)]
    congr 1
    simp [tokC]
    omega
theorem cells5_app (ts us : List TokV) : ∀ (ads bs : List (Option Addr × Nat)), ads.length = ts.length → cells5 (ts ++ us) (ads ++ bs) = cells5 ts ads ++ cells5 us bs := by
  induction ts with
  | nil =>
    intro ads bs h
    have : ads = [] := List.eq_nil_of_length_eq_zero (by simpa using h)
    subst this
    rfl
  | cons t ts ih =>
    intro ads bs h
    cases ads with
    | nil => cases h
    | cons a ads =>
      show tokC t a ++ cells5 (ts ++ us) (ads ++ bs) = (tokC t a ++ cells5 ts ads) ++ cells5 us bs
      rw [ih ads bs (by simpa using h), List.append_assoc]
def TokS (w : World) (A : Option Addr) (ts : List TokV) : Prop :=
  ∃ ads : List (Option Addr × Nat), ads.length = ts.length ∧ Sl w 5 A ts.length (cells5 ts ads) ∧ ∀ (j : Nat) (t : TokV) (a : Option Addr × Nat), ts[j]? = some t → ads[j]? = some a → Sl2 w a.1 t.attrs
theorem TokS.below {w w' : World} {A : Option Addr} {ts : List TokV} (h : TokS w A ts) (hb : Below w.heap.size w w') : TokS w' A ts := by
  obtain ⟨ads, h1, h2, h3⟩ := h
  exact ⟨ads, h1, h2.below hb, fun j t a ht ha => (h3 j t a ht ha).below hb⟩
theorem TokS.at_ {w : World} {A : Option Addr} {ts : List TokV} (h : TokS w A ts) {k : Nat} {t : TokV} (ht : ts[k]? = some t) :
    ∃ ad B c, A = some ad ∧ ad.block < w.heap.size ∧ w.cell? (ad.add (k * 5)) = some (.int .i64 t.kind) ∧ w.cell? ⟨(ad.add (k * 5)).block, (ad.add (k * 5)).off + 1, none⟩ = some (.int .i64 t.place) ∧
      w.cell? ⟨(ad.add (k * 5)).block, (ad.add (k * 5)).off + 2, none⟩ = some (.string t.name) ∧ w.cell? ⟨(ad.add (k * 5)).block, (ad.add (k * 5)).off + 3, none⟩ = some (.slice B t.attrs.length c) ∧
      w.cell? ⟨(ad.add (k * 5)).block, (ad.add (k * 5)).off + 4, none⟩ = some (.string t.text) ∧ Sl2 w B t.attrs := by
  obtain ⟨ads, h1, h2, h3⟩ := h
  have hk : k < ts.length := (List.getElem?_eq_some_iff.1 ht).1
  obtain ⟨ad, e, hb, hc⟩ := h2.2 (by omega)
  obtain ⟨⟨B, c⟩, ha⟩ : ∃ a, ads[k]? = some a := ⟨ads[k], List.getElem?_eq_getElem (by omega)⟩
  have at_ := cells5_at ts ads k t (B, c) ht ha
  refine ⟨ad, B, c, e, hb, hc _ _ (by rw [show k * 5 = k * 5 + 0 from rfl, at_ 0 (by omega)]; rfl), ?_, ?_, ?_, ?_, h3 k t (B, c) ht ha⟩
  · rw [← add_succ _ _ 1 (by omega)]; exact hc _ _ (by rw [at_ 1 (by omega)]; rfl)
  · rw [← add_succ _ _ 2 (by omega)]; exact hc _ _ (by rw [at_ 2 (by omega)]; rfl)
  · rw [← add_succ _ _ 3 (by omega)]; exact hc _ _ (by rw [at_ 3 (by omega)]; rfl)
  · rw [← add_succ _ _ 4 (by omega)]; exact hc _ _ (by rw [at_ 4 (by omega)]; rfl)
end Go.Proofs.YtlcjepnaljfpkaaGreatDoor
