
/- Contract: token. -/
import Derived.Test.YtobmjcompkkeaaaDoorMgB
import Derived.Lib.OthersKept
namespace Go.Proofs.YtobmjcompkkeaaaDoor
open Go.RowKit Wb

theorem text_form {L : List UInt8} {fr : Nat} {k : Int} {n : List UInt8} {l : AL} {x : List UInt8} {a : Nat} (h : textX L fr = .ok ((k, n, l, x), a)) : k = 4 ∧ n = [] ∧ l = [] := by
  unfold textX at h
  simp only at h
  split at h
  · split at h <;> cases h
  · split at h
    · cases h
    · simp only [Except.ok.injEq, Prod.mk.injEq] at h
      exact ⟨h.1.1.symm, h.1.2.1.symm, h.1.2.2.1.symm⟩
theorem section_form {L : List UInt8} {fr : Nat} {k : Int} {n : List UInt8} {l : AL} {x : List UInt8} {a : Nat} (h : sectionX L fr = .ok ((k, n, l, x), a)) : k = 4 ∧ n = [] ∧ l = [] := by
  unfold sectionX at h
  split at h
  · cases h
  · simp only [Except.ok.injEq, Prod.mk.injEq] at h
    exact ⟨h.1.1.symm, h.1.2.1.symm, h.1.2.2.1.symm⟩
theorem results_row_tmp {P : Program} {fn : Func} {p u : Tmp} {ty : TypeId} (h : fn.results = #[.cell p ty, .tmp u]) (tmps : Array Value) (w : World) (g : Nat) (t : TypeId) (cs : Array Value) (fr : Nat × Nat) (d : TypeDesc)
    (hp : tmps.getD p undef = .pointer (some ⟨g, 0, none⟩)) (hg : w.heap[g]? = some (.cells cs t fr))
    (hu : P.underlying ty = some d) (hd : (match d with | .struct _ | .array _ _ => true | _ => false) = true) (hi : (P.info? ty).map (·.size) = some cs.size) :
    (results fn tmps).run P w = .ok (.tuple #[.agg cs, tmps.getD u undef]) w := by
  rw [results_cell_tmp h, hp]
  show ((loadVar ty ⟨g, 0, none⟩).run P w).andThen _ = _
  rw [run_loadVar_row w g t ty cs fr d hg hu hd hi]
  rfl

theorem Sl2.other {w : World} {A : Option Addr} {l : List Pr} (h : Sl2 w A l) {g : Nat} (hA : ∀ ad, A = some ad → ad.block ≠ g) (o : Nat) (v : Value) : Sl2 (w.setCell ⟨g, o, none⟩ v) A l := by
  refine ⟨h.1, fun h0 => ?_⟩
  obtain ⟨ad, e, hb, hc⟩ := h.2 h0
  refine ⟨ad, e, by simpa [World.setCell] using hb, fun i v' hv => ?_⟩
  rw [← hc i v' hv]
  have hb2 : (ad.add i).block = ad.block := by unfold Addr.add; split <;> rfl
  exact World.cell?_of_block (w := w) (Below.heap_setCell _ _ _ _ (by rw [hb2]; exact hA ad e))
theorem Sl2.five {w : World} {A : Option Addr} {l : List Pr} (h : Sl2 w A l) {g : Nat} (hA : ∀ ad, A = some ad → ad.block ≠ g) (v0 v1 v2 v3 v4 : Value) :
    Sl2 (((((w.setCell ⟨g, 0, none⟩ v0).setCell ⟨g, 1, none⟩ v1).setCell ⟨g, 2, none⟩ v2).setCell ⟨g, 3, none⟩ v3).setCell ⟨g, 4, none⟩ v4) A l :=
  Sl2.other (Sl2.other (Sl2.other (Sl2.other (Sl2.other h hA _ _) hA _ _) hA _ _) hA _ _) hA _ _

/-! token -/

end Go.Proofs.YtobmjcompkkeaaaDoor

namespace Go.Proofs.YtobmjcompkkeaaaDoor
open Go.RowKit Wb Go.Lib

end Go.Proofs.YtobmjcompkkeaaaDoor

namespace Go.Proofs.YtobmjcompkkeaaaDoor
open Go.RowKit Wb

theorem ba_eq (s : ByteArray) : (⟨s.data.toList.toArray⟩ : ByteArray) = s := by cases s; simp
theorem ba_len (l : List UInt8) : (⟨l.toArray⟩ : ByteArray).size = l.length := by rw [Lib.size_eq]
theorem pre_dec (p : List UInt8) (l : List UInt8) (n : Nat) (hn : p.length = n) : Lib.hasPrefix l p = decide (l.take n = p) := by
  subst hn
  rw [show Lib.hasPrefix l p = p.isPrefixOf l from rfl, pre_take]
theorem head_ba {c : UInt8} {q : List UInt8} {z : ByteArray} (hz : z.data.toList = c :: q) : ∃ h : 0 < z.size, z[0] = c := by
  have h0 : 0 < z.size := by rw [Lib.size_eq, hz]; simp
  refine ⟨h0, ?_⟩
  have h := Lib.data_getElem? z 0 h0
  rw [hz] at h
  exact (Option.some.inj h).symm

def ToldOut (r : List UInt8 × List UInt8) (w : World) (e : Ending) (w' : World) : Prop := e = .returned (.tuple #[.string ⟨r.1.toArray⟩, .string ⟨r.2.toArray⟩]) ∧ Below w.heap.size w w'

end Go.Proofs.YtobmjcompkkeaaaDoor

namespace Go.Proofs.YtobmjcompkkeaaaDoor
open Go.RowKit Wb

theorem toldX_len (s name other : List UInt8) (ho : other.length ≤ 10) : (toldX s name other).1.length ≤ s.length + 10 ∧ (toldX s name other).2.length ≤ s.length := by
  have hd : ∀ l : List UInt8, (l.dropWhile blkB).length ≤ l.length := fun l => (List.dropWhile_sublist _).length_le
  have h0 := hd s
  have h1 := hd ((s.dropWhile blkB).drop name.length)
  have h2 := hd ((((s.dropWhile blkB).drop name.length).dropWhile blkB).drop 1)
  unfold toldX
  simp only
  repeat' split
  all_goals try (constructor <;> (simp only [List.length_drop] at *; omega))
  rename_i q r3 hq _ _ n v hu
  have hu' := untilR_le hu
  rw [hq] at h2
  simp only [List.length_cons, List.length_drop] at *
  constructor
  · omega
  · omega

end Go.Proofs.YtobmjcompkkeaaaDoor

namespace Go.Proofs.YtobmjcompkkeaaaDoor
open Go.RowKit Wb

theorem upToX_ge {L : List UInt8} {fr at_ : Nat} {p v : List UInt8} {a : Nat} (hp : p ≠ []) (h : upToX L fr at_ p = .ok (v, a)) : at_ < a ∧ a ≤ L.length := by
  unfold upToX at h
  rcases cut_until p hp (L.drop at_) with ⟨h1, _⟩ | ⟨n, v', h1, _, h3, h4⟩
  · rw [h1] at h; cases h
  · rw [h1] at h
    simp only [Except.ok.injEq, Prod.mk.injEq] at h
    have := List.length_pos_iff.2 hp
    rw [List.length_drop] at h4
    omega
theorem takeX_ge {L : List UInt8} {fr at_ : Nat} {c : UInt8} {a : Nat} (h : takeX L fr at_ c = .ok a) : at_ < a ∧ a ≤ L.length := by
  unfold takeX at h
  split at h
  · cases h
  · rename_i hl
    have := drop_cons_len hl
    split at h
    · simp only [Except.ok.injEq] at h; omega
    · cases h
theorem valueX_ge {L : List UInt8} {fr at_ : Nat} {v : List UInt8} {a : Nat} (h : valueX L fr at_ = .ok (v, a)) : at_ < a := by
  unfold valueX at h
  repeat' split at h
  all_goals first | (cases h; done) | (simp only [Except.ok.injEq, Prod.mk.injEq] at h; omega)
theorem attributeX_ge {L : List UInt8} {fr at_ o : Nat} {ap : Bool} {nv : List UInt8 × List UInt8} {a : Nat} (h : attributeX L fr at_ o ap = .ok (nv, a)) : at_ < a := by
  unfold attributeX at h
  split at h
  · cases h
  · split at h
    · cases h
    · split at h
      · cases h
      · split at h
        · cases h
        · rename_i ht
          split at h
          · cases h
          · rename_i hv
            simp only [Except.ok.injEq, Prod.mk.injEq] at h
            have := valueX_ge hv
            have := (takeX_ge ht).1
            omega
theorem namedX_ge {L : List UInt8} {fr at_ : Nat} {x : List UInt8} {a : Nat} (h : namedX L fr at_ = .ok (x, a)) : at_ ≤ a := by
  unfold namedX at h
  split at h
  · cases h
  · split at h
    · cases h
    · simp only [Except.ok.injEq, Prod.mk.injEq] at h; omega
theorem attrsX_ge {L : List UInt8} {fr : Nat} : ∀ (f at_ : Nat) (acc : AL) (kl : Int × AL) (b : Nat), attrsX L fr f at_ acc = .ok (kl, b) → at_ < b ∧ b ≤ L.length
  | 0, at_, acc, kl, b, h => by cases h
  | f + 1, at_, acc, kl, b, h => by
    rw [attrsX_step] at h
    split at h
    · cases h
    · rename_i hl
      have hlen := drop_cons_len hl
      split at h
      · split at h
        · cases h
        · rename_i ht
          have := takeX_ge ht
          simp only [Except.ok.injEq, Prod.mk.injEq] at h
          omega
      · split at h
        · simp only [Except.ok.injEq, Prod.mk.injEq] at h
          omega
        · split at h
          · cases h
          · rename_i ha
            have := attributeX_ge ha
            have := attrsX_ge f _ _ _ _ h
            omega
theorem tokenU_ge {L : List UInt8} {fr : Nat} (hf : fr < L.length) {t : Option Tk} {a : Nat} (h : tokenU L fr = .ok (t, a)) : fr < a ∧ a ≤ L.length := by
  unfold tokenU at h
  simp only at h
  split at h
  · rename_i h60
    unfold someX at h
    split at h
    · cases h
    · rename_i t' a' ht
      simp only [Except.ok.injEq, Prod.mk.injEq] at h
      unfold textX at ht
      simp only at ht
      have hlen : 0 < ((L.drop fr).takeWhile (· != 60)).length := by
        cases hd : L.drop fr with
        | nil =>
          have := congrArg List.length hd
          rw [List.length_drop] at this
          simp at this
          omega
        | cons c q =>
          rw [hd] at h60
          rw [List.takeWhile_cons_of_pos (by simpa using h60)]
          simp
      have hle := tw_le (· != 60) (L.drop fr)
      rw [List.length_drop] at hle
      split at ht
      · split at ht <;> cases ht
      · split at ht
        · cases ht
        · simp only [Except.ok.injEq, Prod.mk.injEq] at ht
          omega
  · split at h
    · unfold noneX at h
      split at h
      · cases h
      · rename_i a' ht
        simp only [Except.ok.injEq, Prod.mk.injEq] at h
        unfold instructionU at ht
        simp only at ht
        split at ht
        · cases ht
        · split at ht
          · cases ht
          · split at ht
            · cases ht
            · rename_i hu
              have := upToX_ge (by simp) hu
              simp only [Except.ok.injEq] at ht
              omega
    · split at h
      · unfold noneX at h
        split at h
        · cases h
        · rename_i a' ht
          simp only [Except.ok.injEq, Prod.mk.injEq] at h
          unfold commentX at ht
          split at ht
          · cases ht
          · rename_i hu
            have := upToX_ge (by simp) hu
            split at ht
            · rename_i h62
              have h63 := congrArg List.length h62
              rw [List.length_take, List.length_drop] at h63
              simp only [List.length_cons, List.length_nil] at h63
              simp only [Except.ok.injEq] at ht
              omega
            · cases ht
      · split at h
        · unfold someX at h
          split at h
          · cases h
          · rename_i t' a' ht
            simp only [Except.ok.injEq, Prod.mk.injEq] at h
            unfold sectionX at ht
            split at ht
            · cases ht
            · rename_i hu
              have := upToX_ge (by simp) hu
              simp only [Except.ok.injEq, Prod.mk.injEq] at ht
              omega
        · split at h
          · cases h
          · split at h
            · cases h
            · split at h
              · unfold someX at h
                split at h
                · cases h
                · rename_i t' a' ht
                  simp only [Except.ok.injEq, Prod.mk.injEq] at h
                  unfold endTagX at ht
                  split at ht
                  · cases ht
                  · rename_i hn
                    have := namedX_ge hn
                    split at ht
                    · cases ht
                    · rename_i hk
                      have := takeX_ge hk
                      simp only [Except.ok.injEq, Prod.mk.injEq] at ht
                      omega
              · unfold someX at h
                split at h
                · cases h
                · rename_i t' a' ht
                  simp only [Except.ok.injEq, Prod.mk.injEq] at h
                  unfold startTagX at ht
                  split at ht
                  · cases ht
                  · rename_i hn
                    have := namedX_ge hn
                    split at ht
                    · cases ht
                    · rename_i hk
                      have := attrsX_ge _ _ _ _ _ hk
                      simp only [Except.ok.injEq, Prod.mk.injEq] at ht
                      omega
end Go.Proofs.YtobmjcompkkeaaaDoor

