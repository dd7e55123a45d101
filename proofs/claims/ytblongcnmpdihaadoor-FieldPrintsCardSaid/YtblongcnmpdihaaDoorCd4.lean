/- FeD FdX. -/
import Derived.Test.YtblongcnmpdihaaDoorCd2
import Derived.Test.YtblongcnmpdihaaDoorCd3
namespace Wb
open Go
theorem typA_list (s : ByteArray) : (typA s).data.toList = s.data.toList.takeWhile tkC ++ 47 :: (preR 47 (s.data.toList.dropWhile tkC)).takeWhile tkC := by
  unfold typA
  rw [ByteArray.data_append, ByteArray.data_append, Array.toList_append, Array.toList_append]
  show s.data.toList.takeWhile tkC ++ [47] ++ _ = _
  rw [List.append_assoc]
  rfl
theorem typR_list (s : ByteArray) : (typR s).data.toList = (preR 47 (s.data.toList.dropWhile tkC)).dropWhile tkC := rfl
end Wb
namespace Go.Proofs.YtblongcnmpdihaaDoor
open Go.RowKit Wb
set_option maxRecDepth 100000 in
theorem cutType_any (s : ByteArray) (w : World) (hs : s.size ≤ 1000000000) :
    Calls Tryd.prog 39 #[.string s] w fun e w' => e = .returned (.tuple #[.string (typA s), .string (typR s), .bool (typQ s)]) ∧ Below w.heap.size w w' := by
  unfold typA typR typQ
  have hsz1 := spanR_size tkC s
  have hsz2 := preX_size 47 (spanR tkC s)
  have hsz3 := spanA_size tkC s
  have hsz4 := spanA_size tkC (preX 47 (spanR tkC s))
  have h1 := cutToken_any s w hs
  have h2 := fun v => cutPre_any 47 (spanR tkC s) v (by omega)
  have h3 := fun v => cutToken_any (preX 47 (spanR tkC s)) v (by omega)
  generalize spanA tkC (preX 47 (spanR tkC s)) = b at *
  generalize spanR tkC (preX 47 (spanR tkC s)) = r at *
  generalize preX 47 (spanR tkC s) = q at *
  generalize preQ 47 (spanR tkC s).data.toList = d at *
  generalize spanR tkC s = t at *
  generalize spanA tkC s = a at *
  have g1 : ¬ 9223372036854775807 < a.size + (⟨#[47]⟩ : ByteArray).size := by have : (⟨#[47]⟩ : ByteArray).size = 1 := rfl; omega
  have g2 : ¬ 9223372036854775807 < (a ++ ⟨#[47]⟩).size + b.size := by rw [ByteArray.size_append]; have : (⟨#[47]⟩ : ByteArray).size = 1 := rfl; omega
  generalize a.toList.isEmpty = x at *
  generalize b.toList.isEmpty = y at *
  clear hsz1 hsz2 hsz3 hsz4
  cases x
  all_goals cases d
  all_goals
    go_enter Tryd.func39, Tryd.ntmps39
    go_wp2_with fail
    refine h1.mono ?_
    rintro e w3 ⟨rfl, hb3⟩
    have HB3 := Lib.hid hb3
    clear hb3 h1
    go_wp2_with fail
    refine (h2 w3).mono ?_
    rintro e w4 ⟨rfl, hb4⟩
    have HB4 := Lib.hid (HB3.out.trans (hb4.mono HB3.out.size))
    clear hb4 h2 HB3
    go_wp2_with fail
    refine (h3 w4).mono ?_
    rintro e w5 ⟨rfl, hb5⟩
    have HB5 := Lib.hid (HB4.out.trans (hb5.mono HB4.out.size))
    clear hb5 h3 HB4
    go_wp2
    go_ret3
    exact ⟨rfl, HB5.out⟩
end Go.Proofs.YtblongcnmpdihaaDoor
namespace Wb
open Go
def typQL (s : List UInt8) : Bool :=
  let r := s.dropWhile tkC
  !(s.takeWhile tkC).isEmpty && decide (r.head? = some 47) && !((if r.head? = some 47 then r.drop 1 else r).takeWhile tkC).isEmpty
def typAL (s : List UInt8) : List UInt8 :=
  let r := s.dropWhile tkC
  s.takeWhile tkC ++ 47 :: (if r.head? = some 47 then r.drop 1 else r).takeWhile tkC
def typRL (s : List UInt8) : List UInt8 :=
  let r := s.dropWhile tkC
  (if r.head? = some 47 then r.drop 1 else r).dropWhile tkC
theorem all_takeWhile (p : UInt8 → Bool) (l : List UInt8) : (l.takeWhile p).all p = true := by
  induction l with
  | nil => rfl
  | cons c l ih =>
    rw [List.takeWhile_cons]
    split
    · rename_i h; rw [List.all_cons, h, ih]; rfl
    · rfl
theorem tk_no47 (l : List UInt8) (h : l.all tkC = true) : ∀ c ∈ l, c ≠ 47 := by
  intro c hc e
  subst e
  have := List.all_eq_true.1 h 47 hc
  exact absurd this (by decide)
theorem takeWhile_upto (a b : List UInt8) (h : ∀ c ∈ a, c ≠ 47) : (a ++ 47 :: b).takeWhile (fun c => c != 47) = a := by
  induction a with
  | nil => simp
  | cons c l ih =>
    rw [List.cons_append, List.takeWhile_cons, if_pos (by simpa using h c (by simp)), ih (fun x hx => h x (by simp [hx]))]
theorem typeF_mk (a b : List UInt8) (ha : a.all tkC = true) : typeF (a ++ 47 :: b) = (tokenF a && tokenF b) := by
  unfold typeF
  have e := takeWhile_upto a b (tk_no47 a ha)
  simp only [e]
  rw [decide_eq_true (show a.length < (a ++ 47 :: b).length by simp), Bool.true_and]
  congr 2
  simp
theorem typeF_no (a : List UInt8) (ha : a.all tkC = true) : typeF a = false := by
  unfold typeF
  have e : a.takeWhile (fun c => c != 47) = a := by
    have h := tk_no47 a ha
    clear ha
    induction a with
    | nil => rfl
    | cons c l ih => rw [List.takeWhile_cons, if_pos (by simpa using h c (by simp)), ih (fun x hx => h x (by simp [hx]))]
  simp only [e]
  rw [decide_eq_false (by omega)]
  rfl
theorem tokenF_of (l : List UInt8) (h : l.all tkC = true) : tokenF l = !l.isEmpty := by unfold tokenF; rw [h]; rfl
theorem head_way (s : List UInt8) : typeF (headT s).1 = typQL (s.dropWhile blankB) ∧ (typQL (s.dropWhile blankB) = true → headT s = (typAL (s.dropWhile blankB), typRL (s.dropWhile blankB))) := by
  unfold headT typQL typAL typRL
  simp only
  generalize s.dropWhile blankB = a
  have ha := all_takeWhile tkC a
  cases hd : a.dropWhile tkC with
  | nil =>
    refine ⟨?_, fun h => ?_⟩
    · rw [typeF_no _ ha]; simp
    · simp at h
  | cons c r =>
    simp only [List.head?_cons, Option.some.injEq, List.drop_succ_cons, List.drop_zero]
    by_cases hc : c = 47
    · rw [if_pos hc, if_pos hc]
      refine ⟨?_, fun _ => rfl⟩
      rw [typeF_mk _ _ ha, tokenF_of _ ha, tokenF_of _ (all_takeWhile tkC r), decide_eq_true hc, Bool.and_true]
    · rw [if_neg hc, if_neg hc]
      refine ⟨?_, fun h => ?_⟩
      · rw [typeF_no _ ha, decide_eq_false hc]; simp
      · rw [decide_eq_false hc] at h; simp at h
def pmF (s : List UInt8) : Option ((List UInt8 × List UInt8) × List UInt8) :=
  match s with
  | [] => none
  | c :: r => if c ≠ 59 then none else
    let a := r.dropWhile blankB
    let nm := a.takeWhile tkC
    if nm = [] then none else match (a.dropWhile tkC).dropWhile blankB with
      | [] => none
      | d :: r2 => if d ≠ 61 then none else match valueF (r2.dropWhile blankB) with
        | none => none
        | some (v, r3) => some ((lowF nm, v), r3)
theorem has_low (out : List (List UInt8 × List UInt8)) (nm : List UInt8) : hasF out (lowF nm) = hasF out nm := by
  unfold hasF
  rw [lowF_low]
theorem params_way (f : Nat) (out : List (List UInt8 × List UInt8)) (s : List UInt8) : paramsF (f + 1) out s = if s.dropWhile blankB = [] then .ok out else match pmF (s.dropWhile blankB) with
    | none => .error 4
    | some (x, r3) => if hasF out x.1 = true then .error 4 else paramsF f (out ++ [x]) r3 := by
  rw [paramsF]
  cases s.dropWhile blankB with
  | nil => rfl
  | cons c r =>
    rw [if_neg (by simp)]
    simp only [pmF]
    split
    · rfl
    · split
      · rfl
      · cases ((r.dropWhile blankB).dropWhile tkC).dropWhile blankB with
        | nil => rfl
        | cons d r2 =>
          simp only
          split
          · rfl
          · cases valueF (r2.dropWhile blankB) with
            | none => rfl
            | some p => simp only; rw [has_low]
def lowOK (out : List (List UInt8 × List UInt8)) : Prop := ∀ p ∈ out, lowF p.1 = p.1
theorem has_any (out : List (List UInt8 × List UInt8)) (n : List UInt8) (h : lowOK out) (hn : lowF n = n) : hasF out n = out.any fun p => decide (p.1 = n) := by
  unfold hasF
  rw [hn]
  induction out with
  | nil => rfl
  | cons p l ih =>
    rw [List.any_cons, List.any_cons, ih (fun q hq => h q (by simp [hq])), h p (by simp)]
theorem pmF_small (s : List UInt8) (x : List UInt8 × List UInt8) (r : List UInt8) (h : pmF s = some (x, r)) : lowF x.1 = x.1 := by
  unfold pmF at h
  split at h
  · cases h
  split at h
  · cases h
  simp only at h
  split at h
  · cases h
  split at h
  · cases h
  split at h
  · cases h
  split at h
  · cases h
  simp only [Option.some.injEq, Prod.mk.injEq] at h
  rw [← h.1]
  exact lowF_low _
theorem quotedF_len : ∀ (n : Nat) (s v r : List UInt8), s.length ≤ n → quotedF s = some (v, r) → v.length + r.length < s.length
  | 0, s, v, r, hn, h => by
    have : s = [] := List.eq_nil_of_length_eq_zero (by omega)
    subst this
    rw [quotedF.eq_def] at h
    cases h
  | n + 1, s, v, r, hn, h => by
    rw [quotedF.eq_def] at h
    cases s with
    | nil => cases h
    | cons c l =>
      simp only [List.length_cons] at hn ⊢
      simp only at h
      split at h
      · simp only [Option.some.injEq, Prod.mk.injEq] at h
        rw [← h.1, ← h.2]
        simp
      split at h
      · cases l with
        | nil => cases h
        | cons d l2 =>
          simp only [List.length_cons] at hn ⊢
          simp only at h
          split at h
          · cases hq : quotedF l2 with
            | none => rw [hq] at h; cases h
            | some p =>
              obtain ⟨v2, r2⟩ := p
              rw [hq] at h
              simp only [Option.some.injEq, Prod.mk.injEq] at h
              have := quotedF_len n l2 v2 r2 (by omega) hq
              rw [← h.1, ← h.2]
              simp only [List.length_cons]
              omega
          · cases h
      split at h
      · cases hq : quotedF l with
        | none => rw [hq] at h; cases h
        | some p =>
          obtain ⟨v2, r2⟩ := p
          rw [hq] at h
          simp only [Option.some.injEq, Prod.mk.injEq] at h
          have := quotedF_len n l v2 r2 (by omega) hq
          rw [← h.1, ← h.2]
          simp only [List.length_cons]
          omega
      · cases h
theorem dropW_le (p : UInt8 → Bool) (l : List UInt8) : (l.dropWhile p).length ≤ l.length := (List.dropWhile_suffix p).length_le
theorem takeW_le (p : UInt8 → Bool) (l : List UInt8) : (l.takeWhile p).length ≤ l.length := (List.takeWhile_prefix p).length_le
theorem valueF_len (s v r : List UInt8) (h : valueF s = some (v, r)) : v.length + r.length ≤ s.length := by
  unfold valueF at h
  split at h
  · cases h
  split at h
  · have := quotedF_len _ _ v r (Nat.le_refl _) h
    simp only [List.length_cons]
    omega
  split at h
  · simp only [Option.some.injEq, Prod.mk.injEq] at h
    rw [← h.1, ← h.2, ← List.length_append, List.takeWhile_append_dropWhile]
    exact Nat.le_refl _
  · cases h
theorem pmF_len (s : List UInt8) (x : List UInt8 × List UInt8) (r : List UInt8) (h : pmF s = some (x, r)) : x.1.length + x.2.length + r.length + 2 ≤ s.length := by
  unfold pmF at h
  split at h
  · cases h
  rename_i c r0
  split at h
  · cases h
  simp only at h
  split at h
  · cases h
  split at h
  · cases h
  rename_i d r2 hd
  split at h
  · cases h
  split at h
  · cases h
  rename_i v r3 hv
  simp only [Option.some.injEq, Prod.mk.injEq] at h
  have h1 := valueF_len _ _ _ hv
  have h2 := dropW_le blankB r2
  have h3 := dropW_le blankB ((r0.dropWhile blankB).dropWhile tkC)
  have h4 := dropW_le blankB r0
  have h5 : ((r0.dropWhile blankB).takeWhile tkC).length + ((r0.dropWhile blankB).dropWhile tkC).length = (r0.dropWhile blankB).length := by
    rw [← List.length_append, List.takeWhile_append_dropWhile]
  rw [hd, List.length_cons] at h3
  rw [← h.1, ← h.2, lowF_len]
  simp only [List.length_cons]
  omega
def inqC (c : UInt8) : Bool := c != 34 && c != 92 && plainC c
theorem quoted_run : ∀ (a b : List UInt8), a.all inqC = true → quotedF (a ++ b) = match quotedF b with
    | some (v, r) => some (a ++ v, r)
    | none => none
  | [], b, _ => by rw [List.nil_append]; cases quotedF b <;> rfl
  | c :: a, b, h => by
    simp only [List.all_cons, Bool.and_eq_true] at h
    have hc := h.1
    unfold inqC at hc
    simp only [Bool.and_eq_true, bne_iff_ne] at hc
    rw [List.cons_append, quotedF.eq_def]
    simp only
    rw [if_neg hc.1.1, if_neg hc.1.2, if_pos hc.2, quoted_run a b h.2]
    cases quotedF b <;> rfl
theorem quoted_stop (b : List UInt8) (hb : (b.head?.map inqC).getD false = false) : quotedF b = match b with
    | [] => none
    | c :: l => if c = 34 then some ([], l) else if c = 92 then match l with
        | [] => none
        | d :: l2 => if d = 34 ∨ d = 92 then match quotedF l2 with
            | some (v, r) => some (d :: v, r)
            | none => none
          else none
      else none := by
  cases b with
  | nil => rw [quotedF.eq_def]
  | cons c l =>
    simp only [List.head?_cons, Option.map_some, Option.getD_some] at hb
    rw [quotedF.eq_def]
    simp only
    by_cases h1 : c = 34
    · rw [if_pos h1, if_pos h1]
    · rw [if_neg h1, if_neg h1]
      by_cases h2 : c = 92
      · rw [if_pos h2, if_pos h2]
        cases l with
        | nil => rfl
        | cons d l2 => rfl
      · rw [if_neg h2, if_neg h2]
        have : plainC c = false := by
          unfold inqC at hb
          simpa [h1, h2] using hb
        rw [this, if_neg (by simp)]
end Wb
