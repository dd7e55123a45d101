/- LeFit4 LxF TrSa TrTa TrA TrTp SaA SaB SaC SaD Txt QdA Take QdB. -/
import Derived.Test.YtbeglliabpflpaaGreatDoorProg
import Derived.Deep.RegionHeld2
import Derived.BigRegion
import Derived.Deep.AppendLies
import Derived.Deep.Draws
import Derived.Deep.Cut
import Derived.Deep.RegionLaw
import Derived.DeepKeys4
import Derived.Deep.DeepCutAuto
import Derived.Scope
import Derived.ScopeJumps
import Derived.WalkMore
import Derived.Deep.LoopGhost
import Derived.Lib.Fold
import Derived.Laws.RangeAny
import Derived.Laws.BitsAllLaws
import Derived.Shelf.GgClosure.StringsTrimFunc
import Derived.Lib.OthersKept
import Derived.Test.YtbeglliabpflpaaGreatDoorRows
import Derived.Deep.QuietTactic
import Derived.BigQuiet
import Derived.KernelRfl
import Derived.Laws.StructEq
import Derived.Laws.Tables
import GoSem.Core.Float
import Derived.Laws.ComplexArith
import Derived.Laws.Cover2
import Derived.Laws.Cover3
import Derived.Test.YtbeglliabpflpaaGreatDoorCA1
import Derived.Test.YtbeglliabpflpaaGreatDoorCA2
import Derived.Test.YtbeglliabpflpaaGreatDoorCA3
import Derived.Test.YtbeglliabpflpaaGreatDoorCA4
import Derived.Test.YtbeglliabpflpaaGreatDoorCA5
import Derived.Test.YtbeglliabpflpaaGreatDoorCA7
namespace Wb
theorem decU_enc (n : Int) (hs : sgn n = true) (r : List UInt8) : decU (enc n ++ r) = (n.toNat, (slen n).toNat) := by
  have := slen_one n hs
  unfold decU
  rw [dec_enc n hs r]
  rw [if_neg (by show ¬ slen n = 0; omega)]
theorem badU_flat : ∀ (ns : List Int), (∀ n ∈ ns, sgn n = true) → ∀ (f k : Nat), (ns.flatMap enc).length ≤ f → (badU f (ns.flatMap enc) k = none ↔ ∀ n ∈ ns, charB n = true)
  | [], _, f, k, _ => by
    have : badU f ([] : List UInt8) k = none := by cases f <;> rfl
    simp [this]
  | n :: ns, h, f, k, hf => by
    have hs := h n (by simp)
    have h0 := (sgn_iff n).1 hs
    have h1 := slen_one n hs
    have hl := enc_length n
    rw [List.flatMap_cons] at hf ⊢
    rw [List.length_append] at hf
    obtain ⟨f, rfl⟩ : ∃ f', f = f' + 1 := ⟨f - 1, by omega⟩
    unfold badU
    rw [if_neg (by intro e; have := congrArg List.length e; rw [List.length_append, List.length_nil] at this; omega), decU_enc n hs]
    simp only
    rw [Int.toNat_of_nonneg h0.1, show (slen n).toNat = (enc n).length from by omega, List.drop_left]
    by_cases hc : charB n = true
    · rw [if_pos hc, badU_flat ns (fun m hm => h m (by simp [hm])) f _ (by omega)]
      simp [hc]
    · rw [if_neg hc]
      simp [hc]
end Wb
namespace Go.Proofs.YtbeglliabpflpaaGreatDoor
open Go.RowKit Wb
theorem byte_info : (Tryz.prog.info? 5).map (fun i => (i.zero, i.size, i.bytes)) = some (some (.int .u8 0), 1, 1) := by kernel_rfl
theorem map_nil (o : Except Nat (List UInt8)) : o = o.map ([] ++ ·) := by cases o <;> rfl
theorem run_text_none (w : World) : (convert 78 9 (.slice none 0 0)).run Tryz.prog w = .ok (.string ⟨#[]⟩) w := by
  rw [run_convert_bytes_string w _ _ _ _ 0 0 Tryz.underlying78 Tryz.underlying5 Tryz.underlying9]
  unfold Conv.bytesToString
  simp [Sem.run_pure]
  rfl
theorem run_text_empty (w : World) (g c : Nat) : (convert 78 9 (.slice (some ⟨g, 0, none⟩) 0 c)).run Tryz.prog w = .ok (.string ⟨#[]⟩) w := by
  rw [run_text w g 0 c [] rfl (by simp)]
  rfl
end Go.Proofs.YtbeglliabpflpaaGreatDoor
namespace Go.Proofs.YtbeglliabpflpaaGreatDoor
open Go.RowKit Wb
theorem results_cell3 {P : Program} {fn : Func} {p u v : Tmp} {ty : TypeId} (h : fn.results = #[.cell p ty, .tmp u, .tmp v]) (tmps : Array Value) (w : World) (g : Nat) (t : TypeId) (cs : Array Value) (d : TypeDesc)
    (hp : tmps.getD p undef = .pointer (some ⟨g, 0, none⟩)) (hg : w.heap[g]? = some (.cells cs t (0, 0)))
    (hu : P.underlying ty = some d) (hd : (match d with | .struct _ | .array _ _ => true | _ => false) = true) (hi : (P.info? ty).map (·.size) = some cs.size) :
    (results fn tmps).run P w = .ok (.tuple #[.agg cs, tmps.getD u undef, tmps.getD v undef]) w := by
  have hp' : tmps[p]?.getD undef = .pointer (some ⟨g, 0, none⟩) := by simpa using hp
  simp only [results, h]
  simp [Result.andThen, hp', asAddr, run_loadVar_row w g t ty cs (0, 0) d hg hu hd hi]
end Go.Proofs.YtbeglliabpflpaaGreatDoor
namespace Go.Proofs.YtbeglliabpflpaaGreatDoor
open Go.RowKit Wb Go.Lib
theorem txt_bad {s : List UInt8} (h : TxtOK s) (f k : Nat) (hf : s.length ≤ f) : badU f s k = none := by
  obtain ⟨ns, hn, rfl⟩ := h
  exact (badU_flat ns (fun n hm => char_sgn n (hn n hm)) f k hf).2 hn
end Go.Proofs.YtbeglliabpflpaaGreatDoor
namespace Go.Proofs.YtbeglliabpflpaaGreatDoor
open Go.RowKit Wb
def cells1 (l : List ByteArray) : List Value := l.map .string
end Go.Proofs.YtbeglliabpflpaaGreatDoor
namespace Go.Proofs.YtbeglliabpflpaaGreatDoor
open Go.RowKit Wb
theorem txt_none {s : List UInt8} (hc : chk s = -1) (hb : badU s.length s 0 = none) : TxtOK s := by
  obtain ⟨ns, r, h1, h2, h3⟩ := form _ s (Nat.le_refl _)
  have hf := chk_form ns r h1 h3
  rw [← h2] at hf
  by_cases hr : r = []
  · subst hr
    rw [List.append_nil] at h2
    refine ⟨ns, (badU_flat ns h1 s.length 0 (by rw [← h2]; exact Nat.le_refl _)).1 ?_, h2⟩
    rw [← h2]; exact hb
  · rw [if_neg hr] at hf
    omega
end Go.Proofs.YtbeglliabpflpaaGreatDoor
namespace Wb
open Go.Proofs.YtbeglliabpflpaaGreatDoor
def sgB (s : ByteArray) : Bool := (chk s.data.toList == -1) && (badU s.size s.data.toList 0).isNone
theorem sgB_iff (s : ByteArray) : sgB s = true ↔ TxtB s := by
  unfold sgB TxtB
  rw [Bool.and_eq_true, beq_iff_eq, Option.isNone_iff_eq_none, Go.Lib.size_eq]
  constructor
  · rintro ⟨h1, h2⟩
    exact txt_none h1 h2
  · intro h
    refine ⟨?_, txt_bad h _ 0 (Nat.le_refl _)⟩
    obtain ⟨ns, hn, e⟩ := h
    have := chk_form ns [] (fun n hm => char_sgn n (hn n hm)) rfl
    rw [e]
    simpa using this
end Wb
namespace Wb
def cutC (c : UInt8) (s : List UInt8) : Option (List UInt8 × List UInt8) := if s.contains c then some (s.takeWhile (· != c), (s.dropWhile (· != c)).drop 1) else none
theorem tw_free {c : UInt8} : ∀ {a : List UInt8} (b : List UInt8), (∀ x ∈ a, x ≠ c) → (a ++ c :: b).takeWhile (· != c) = a ∧ (a ++ c :: b).dropWhile (· != c) = c :: b
  | [], b, _ => by simp
  | x :: a, b, h => by
    have hx : (x != c) = true := by rw [bne_iff_ne]; exact h x (by simp)
    obtain ⟨h1, h2⟩ := tw_free (a := a) b fun y hy => h y (by simp [hy])
    rw [List.cons_append, List.takeWhile_cons, List.dropWhile_cons, hx, h1, h2]
    exact ⟨rfl, rfl⟩
theorem cutC_at {c : UInt8} {a : List UInt8} (b : List UInt8) (h : ∀ x ∈ a, x ≠ c) : cutC c (a ++ c :: b) = some (a, b) := by
  obtain ⟨h1, h2⟩ := tw_free (c := c) b h
  unfold cutC
  rw [h1, h2, if_pos (by simp)]
  rfl
theorem cutC_none {c : UInt8} {a : List UInt8} (h : ∀ x ∈ a, x ≠ c) : cutC c a = none := by
  unfold cutC
  rw [if_neg]
  intro h2
  exact h c (List.contains_iff_mem.1 h2) rfl
theorem cutC_some {c : UInt8} {s a b : List UInt8} (h : cutC c s = some (a, b)) : s = a ++ c :: b ∧ ∀ x ∈ a, x ≠ c := by
  unfold cutC at h
  split at h
  · rename_i hc
    have hm := List.contains_iff_mem.1 hc
    obtain ⟨p, q, rfl⟩ := List.append_of_mem hm
    injection h with h
    injection h with h1 h2
    have hf : ∀ x ∈ (p ++ c :: q).takeWhile (· != c), x ≠ c := fun x hx => by
      have := tw_each (· != c) _ x hx
      rwa [bne_iff_ne] at this
    have hs := List.takeWhile_append_dropWhile (p := (· != c)) (l := p ++ c :: q)
    subst h1
    refine ⟨?_, hf⟩
    have hd : (p ++ c :: q).dropWhile (· != c) = c :: b := by
      cases hd : (p ++ c :: q).dropWhile (· != c) with
      | nil =>
        rw [hd, List.append_nil] at hs
        exact absurd rfl (hf c (by rw [hs]; exact hm))
      | cons y r =>
        have hy := List.head_dropWhile_not (p := (· != c)) (l := p ++ c :: q) (by rw [hd]; simp)
        rw [hd] at h2
        have : y = c := by
          have e : ((p ++ c :: q).dropWhile (· != c)).head (by rw [hd]; simp) = y := by simp [hd]
          rw [e] at hy
          simpa using hy
        subst this
        simp only [List.drop_succ_cons, List.drop_zero] at h2
        rw [h2]
    rw [hd] at hs
    exact hs.symm
  · cases h
def sBindK : List UInt8 := [120, 109, 108, 110, 115, 40]
def bind1 (s : List UInt8) : Option ((List UInt8 × List UInt8) × List UInt8) :=
  if s.take 6 = sBindK then match cutC 41 (s.drop 6) with
    | none => none
    | some (g, r) => match cutC 61 g with
      | none => none
      | some (n, sp) => if nameB n = true then some ((n, sp), r) else none
  else none
def bindsL : Nat → List UInt8 → List Pr → List Pr × Int
  | 0, _, _ => ([], 4)
  | f + 1, s, out => match s.dropWhile blkU with
    | [] => (out, 0)
    | c :: l => match bind1 (c :: l) with
      | none => ([], 4)
      | some ((n, sp), r) =>
        if 16 ≤ out.length then ([], 3) else if bindB ⟨n.toArray⟩ ⟨sp.toArray⟩ = 0 then bindsL f r (out ++ [(⟨n.toArray⟩, ⟨sp.toArray⟩)]) else ([], bindB ⟨n.toArray⟩ ⟨sp.toArray⟩)
def bindsP (q : List UInt8) : List Pr × Int := if (decP q).2 = 0 then bindsL ((decP q).1.length + 1) (decP q).1 [] else ([], (decP q).2)
theorem bind1_len {s : List UInt8} {n sp r : List UInt8} (h : bind1 s = some ((n, sp), r)) : r.length < s.length ∧ s = sBindK ++ (n ++ 61 :: sp) ++ 41 :: r ∧ nameB n = true ∧ (∀ x ∈ n, x ≠ 61) ∧ ∀ x ∈ n ++ 61 :: sp, x ≠ 41 := by
  unfold bind1 at h
  split at h
  · rename_i h6
    split at h
    · cases h
    · rename_i g r' hc
      obtain ⟨e1, e2⟩ := cutC_some hc
      split at h
      · cases h
      · rename_i n' sp' hc2
        obtain ⟨e3, e4⟩ := cutC_some hc2
        split at h
        · rename_i hn
          injection h with h
          injection h with h h2
          injection h with h h1
          subst h h1 h2
          have es : s = sBindK ++ (n' ++ 61 :: sp') ++ 41 :: r' := by
            rw [← e3, List.append_assoc, ← e1, ← h6, List.take_append_drop]
          refine ⟨?_, es, hn, e4, by rw [← e3]; exact e2⟩
          have := congrArg List.length es
          simp only [List.length_append, List.length_cons] at this
          omega
        · cases h
  · cases h
theorem bind1_is {n sp : List UInt8} (r : List UInt8) (hn : nameB n = true) (h61 : ∀ x ∈ n, x ≠ 61) (h41 : ∀ x ∈ n ++ 61 :: sp, x ≠ 41) : bind1 (sBindK ++ (n ++ 61 :: sp) ++ 41 :: r) = some ((n, sp), r) := by
  unfold bind1
  rw [List.append_assoc, if_pos (by rfl), show (6 : Nat) = sBindK.length from rfl, List.drop_left, cutC_at r h41]
  simp only
  rw [cutC_at sp h61]
  simp only
  rw [if_pos hn]
end Wb
namespace Wb
def dgN (n : Nat) : List UInt8 := if _h : n = 0 then [] else dgN (n / 10) ++ [UInt8.ofNat (48 + n % 10)]
termination_by n
decreasing_by omega
def valN (l : List UInt8) : Nat := l.foldl (fun a c => a * 10 + (c.toNat - 48)) 0
theorem dgN_le (n : Nat) : ∀ k, n < 10 ^ k → (dgN n).length ≤ k := by
  induction n using Nat.strongRecOn with
  | _ n ih =>
    intro k h
    rw [dgN]
    split
    · exact Nat.zero_le _
    · rename_i hn
      cases k with
      | zero => simp at h; omega
      | succ k =>
        rw [Nat.pow_succ] at h
        rw [List.length_append]
        have := ih (n / 10) (by omega) k (by omega)
        simp only [List.length_cons, List.length_nil]
        omega
def posP (t : List UInt8) : Nat := if 1 ≤ t.length ∧ t.length ≤ 4 ∧ t.head? ≠ some 48 ∧ (∀ c ∈ t, 48 ≤ c.toNat ∧ c.toNat ≤ 57) then valN t else 0
theorem valN_lt : ∀ (l : List UInt8), (∀ c ∈ l, 48 ≤ c.toNat ∧ c.toNat ≤ 57) → ∀ a k, a < 10 ^ k → l.foldl (fun a c => a * 10 + (c.toNat - 48)) a < 10 ^ (k + l.length)
  | [], _, a, k, h => h
  | c :: l, hc, a, k, h => by
    rw [List.foldl_cons, List.length_cons, show k + (l.length + 1) = (k + 1) + l.length by omega]
    have := hc c (by simp)
    refine valN_lt l (fun x hx => hc x (by simp [hx])) _ (k + 1) ?_
    rw [Nat.pow_succ]
    omega
theorem posP_le (t : List UInt8) : posP t ≤ 9999 := by
  unfold posP
  split
  · rename_i h
    have h2 := valN_lt t h.2.2.2 0 0 (by decide)
    have h3 : 10 ^ (0 + t.length) ≤ 10 ^ 4 := Nat.pow_le_pow_right (by decide) (by omega)
    unfold valN
    have h4 : 10 ^ 4 = 10000 := rfl
    omega
  · omega
def spOK (s : ByteArray) : Prop := s ≠ sE ∧ s ≠ sXMLNS ∧ (41 : UInt8) ∉ s.data.toList ∧ TxtB s
def hasB (l : List ByteArray) (x : ByteArray) : Bool := l.any fun y => decide (y = x)
theorem hasB_iff (l : List ByteArray) (x : ByteArray) : hasB l x = true ↔ x ∈ l := by
  unfold hasB
  rw [List.any_eq_true]
  constructor
  · rintro ⟨y, h1, h2⟩
    rw [decide_eq_true_eq] at h2
    rw [← h2]
    exact h1
  · exact fun h => ⟨x, h, by simp⟩
def nameT (n : Pr) (plain : ByteArray) (l : List ByteArray) : Except Int (List UInt8 × List ByteArray) :=
  if nameB n.2.data.toList = false then .error 12
  else if n.1 = plain then .ok (n.2.data.toList, l)
  else if n.1 = sXML then .ok (sXmlK ++ n.2.data.toList, l)
  else if n.1 = sE ∨ n.1 = sXMLNS ∨ (41 : UInt8) ∈ n.1.data.toList ∨ sgB n.1 = false then .error 13
  else if hasB l n.1 = true then .ok (numT (idxB n.1 l) ++ 58 :: n.2.data.toList, l)
  else if 16 ≤ l.length then .error 3
  else .ok (numT l.length ++ 58 :: n.2.data.toList, l ++ [n.1])
theorem idxB_new : ∀ {l : List ByteArray} {x : ByteArray}, x ∉ l → idxB x (l ++ [x]) = l.length
  | [], x, _ => by
    rw [List.nil_append]
    unfold idxB
    rw [if_pos rfl]
    rfl
  | y :: l, x, h => by
    rw [List.cons_append]
    unfold idxB
    rw [if_neg (fun e => h (by simp [e])), idxB_new (l := l) (x := x) (fun e => h (by simp [e]))]
    simp
theorem nameT_cases {n : Pr} {plain : ByteArray} {l l' : List ByteArray} {t : List UInt8} (h : nameT n plain l = .ok (t, l')) :
    nameB n.2.data.toList = true ∧ ((n.1 = plain ∧ t = n.2.data.toList ∧ l' = l) ∨ (n.1 ≠ plain ∧ n.1 = sXML ∧ t = sXmlK ++ n.2.data.toList ∧ l' = l) ∨
      (n.1 ≠ plain ∧ n.1 ≠ sXML ∧ spOK n.1 ∧ n.1 ∈ l' ∧ t = numT (idxB n.1 l') ++ 58 :: n.2.data.toList ∧ (l' = l ∨ (l' = l ++ [n.1] ∧ l.length < 16)))) := by
  unfold nameT at h
  split at h
  · cases h
  · rename_i hn
    have hn : nameB n.2.data.toList = true := by simpa using hn
    refine ⟨hn, ?_⟩
    split at h
    · rename_i hp
      injection h with h
      injection h with h1 h2
      exact .inl ⟨hp, h1.symm, h2.symm⟩
    · rename_i hp
      split at h
      · rename_i hx
        injection h with h
        injection h with h1 h2
        exact .inr (.inl ⟨hp, hx, h1.symm, h2.symm⟩)
      · rename_i hx
        split at h
        · cases h
        · rename_i hs
          have hs : spOK n.1 := by
            simp only [not_or] at hs
            refine ⟨hs.1, hs.2.1, hs.2.2.1, (sgB_iff _).1 (by simpa using hs.2.2.2)⟩
          split at h
          · rename_i hm
            have hm := (hasB_iff _ _).1 hm
            injection h with h
            injection h with h1 h2
            subst h2
            exact .inr (.inr ⟨hp, hx, hs, hm, h1.symm, .inl rfl⟩)
          · rename_i hm
            have hm : n.1 ∉ l := fun e => hm ((hasB_iff _ _).2 e)
            split at h
            · cases h
            · rename_i hl
              injection h with h
              injection h with h1 h2
              subst h2
              exact .inr (.inr ⟨hp, hx, hs, by simp, by rw [← h1, idxB_new hm], .inr ⟨rfl, by omega⟩⟩)
end Wb
namespace Wb
inductive BR : List UInt8 → List Pr → Prop
  | done {s : List UInt8} (h : s.dropWhile blkU = []) : BR s []
  | more {s n sp r : List UInt8} {ls : List Pr} (hne : s.dropWhile blkU ≠ []) (h : bind1 (s.dropWhile blkU) = some ((n, sp), r)) (hb : bindB ⟨n.toArray⟩ ⟨sp.toArray⟩ = 0) (hr : BR r ls) : BR s ((⟨n.toArray⟩, ⟨sp.toArray⟩) :: ls)
theorem bindsL_ok : ∀ (f : Nat) (s : List UInt8) (out m : List Pr), out.length ≤ 16 → bindsL f s out = (m, 0) → ∃ ls, m = out ++ ls ∧ BR s ls ∧ m.length ≤ 16
  | 0, s, out, m, _, h => by
    rw [bindsL] at h
    simp at h
  | f + 1, s, out, m, ho, h => by
    rw [bindsL] at h
    split at h
    · rename_i hd
      injection h with h1 h2
      subst h1
      exact ⟨[], by simp, .done hd, ho⟩
    · rename_i c l hd
      split at h
      · simp at h
      · rename_i n sp r hb
        split at h
        · simp at h
        · rename_i h16
          split at h
          · rename_i h0
            obtain ⟨ls, h1, h2, h3⟩ := bindsL_ok f r _ m (by rw [List.length_append]; simp; omega) h
            exact ⟨_, by rw [h1, List.append_assoc]; rfl, .more (by rw [hd]; simp) (by rw [hd]; exact hb) h0 h2, h3⟩
          · rename_i h0
            injection h with h1 h2
            exact absurd h2 h0
theorem BR.nil : BR [] [] := .done rfl
theorem bindsP_ok {q : List UInt8} {m : List Pr} (h : bindsP q = (m, 0)) : ∃ s, decP q = (s, 0) ∧ BR s m ∧ m.length ≤ 16 := by
  unfold bindsP at h
  split at h
  · rename_i h0
    obtain ⟨ls, h1, h2, h3⟩ := bindsL_ok _ _ _ m (by simp) h
    rw [List.nil_append] at h1
    subst h1
    exact ⟨_, Prod.ext rfl h0, h2, h3⟩
  · rename_i h0
    injection h with _ h
    exact absurd h h0
theorem bindsP_bad (q : List UInt8) (h : (bindsP q).2 ≠ 0) : (bindsP q).1 = [] := by
  have key : ∀ (f : Nat) (s : List UInt8) (out : List Pr), (bindsL f s out).2 ≠ 0 → (bindsL f s out).1 = [] := by
    intro f
    induction f with
    | zero => intro s out _; rfl
    | succ f ih =>
      intro s out h
      rw [bindsL] at h ⊢
      split at h
      · exact absurd rfl h
      · split at h
        · rfl
        · split at h
          · rename_i h16
            simp [h16]
          · rename_i h16
            split at h
            · rename_i h0
              simp only [h16, h0, if_true, if_false]
              exact ih _ _ h
            · rename_i h0
              simp [h16, h0]
  unfold bindsP at h ⊢
  split
  · rename_i h0
    rw [if_pos h0] at h
    exact key _ _ _ h
  · rfl
def queryT : Nat → List ByteArray → List UInt8
  | _, [] => []
  | i, s :: sp => sBindK ++ (numT i ++ 61 :: s.data.toList) ++ 41 :: queryT (i + 1) sp
end Wb
namespace Wb
structure StV where
  kind : Int
  any : Bool
  name : Pr
  pos : Int
  by_ : Bool
  attr : Pr
  val : ByteArray
def nE : Pr := (sE, sE)
def testP (s : List UInt8) : Option (List UInt8 × List UInt8) :=
  if s.take 2 = [91, 64] then match cutC 61 (s.drop 2) with
    | none => none
    | some (n, t) => match t with
      | [] => none
      | q :: u => if q = 34 ∨ q = 39 then match cutC q u with
          | none => none
          | some (v, e) => if e = [93] ∧ (splitB ⟨n.toArray⟩).2.2 = true then some (n, v) else none
        else none
  else none
def headP (d : List UInt8) : List UInt8 × List UInt8 := (d.takeWhile (· != 91), d.dropWhile (· != 91))
def posnP (r : List UInt8) : Option (Nat × List UInt8) :=
  if r = [] ∨ r.take 2 = [91, 64] then some (0, r) else match cutC 93 (r.drop 1) with
    | none => none
    | some (t, r') => if posP t = 0 then none else some (posP t, r')
def unV (v : List UInt8) : List UInt8 × Int := match unL true (v.length + 1) v 0 with
  | .ok x => (x, 0)
  | .error _ => ([], 16)
def stepP (sc : List Pr) (d : List UInt8) : Except Int StV :=
  if (headP d).1 ≠ [42] ∧ (splitB ⟨(headP d).1.toArray⟩).2.2 = false then .error 33
  else match posnP (headP d).2 with
    | none => .error 33
    | some (p, r) =>
      if r = [] then
        if (headP d).1 = [42] then .ok ⟨1, true, nE, p, false, nE, sE⟩
        else if (resB sc ⟨(headP d).1.toArray⟩ false).2 = 0 then .ok ⟨1, false, (resB sc ⟨(headP d).1.toArray⟩ false).1, p, false, nE, sE⟩ else .error (resB sc ⟨(headP d).1.toArray⟩ false).2
      else match testP r with
        | none => .error 33
        | some (an, v) =>
          if (headP d).1 ≠ [42] ∧ (resB sc ⟨(headP d).1.toArray⟩ false).2 ≠ 0 then .error (resB sc ⟨(headP d).1.toArray⟩ false).2
          else if (resB sc ⟨an.toArray⟩ true).2 ≠ 0 then .error (resB sc ⟨an.toArray⟩ true).2
          else if (unV v).2 ≠ 0 then .error (unV v).2
          else .ok ⟨1, decide ((headP d).1 = [42]), if (headP d).1 = [42] then nE else (resB sc ⟨(headP d).1.toArray⟩ false).1, p, true, (resB sc ⟨an.toArray⟩ true).1, ⟨(unV v).1.toArray⟩⟩
def sNsAll : List UInt8 := [110, 97, 109, 101, 115, 112, 97, 99, 101, 58, 58, 42]
def oneP (sc : List Pr) (last : Bool) (d : List UInt8) : Except Int StV :=
  if last = true ∧ d = sNsAll then .ok ⟨3, false, nE, 0, false, nE, sE⟩
  else if last = true ∧ d.head? = some 64 then
    if (resB sc ⟨(d.drop 1).toArray⟩ true).2 = 0 then .ok ⟨2, false, (resB sc ⟨(d.drop 1).toArray⟩ true).1, 0, false, nE, sE⟩ else .error (resB sc ⟨(d.drop 1).toArray⟩ true).2
  else stepP sc d
def parseL' (sc : List Pr) : Bool → List (List UInt8) → Except Int (List StV)
  | _, [] => .ok []
  | first, p :: r => if (decP p).2 ≠ 0 then .error (decP p).2 else match oneP sc (!first && r.isEmpty) (decP p).1 with
    | .error e => .error e
    | .ok x => match parseL' sc false r with
      | .error e => .error e
      | .ok l => .ok (x :: l)
def parseS (s : List UInt8) (space : ByteArray) (binds : List Pr) : Except Int (List StV) :=
  if 16 < (pieceF 47 s).length then .error 3 else parseL' ((sE, space) :: binds) true (pieceF 47 s)
def shape1 (last : Bool) (x : StV) : Bool :=
  if x.kind = 1 then (x.any == decide (x.name = nE)) && decide (0 ≤ x.pos) && decide (x.pos ≤ 9999) && (x.by_ || (decide (x.attr = nE) && decide (x.val = sE)))
  else if x.kind = 2 then last && (!x.any && decide (x.pos = 0) && !x.by_ && decide (x.attr = nE) && decide (x.val = sE))
  else if x.kind = 3 then last && (!x.any && decide (x.pos = 0) && !x.by_ && decide (x.attr = nE) && decide (x.val = sE)) && decide (x.name = nE)
  else false
def shapeL : Bool → List StV → Bool
  | _, [] => true
  | first, x :: r => shape1 (!first && r.isEmpty) x && shapeL false r
def shapeS (l : List StV) : Bool := shapeL true l && (decide (1 ≤ l.length) && decide (l.length ≤ 16))
def posT (p : Int) : List UInt8 := if 0 < p then 91 :: dgN p.toNat ++ [93] else []
def testT (a v : List UInt8) : List UInt8 := [91, 64] ++ a ++ [61, 34] ++ v ++ [34, 93]
def elemT (x : StV) (space : ByteArray) (l : List ByteArray) : Except Int (List UInt8 × List ByteArray) := if x.any = true then .ok ([42], l) else nameT x.name space l
def stpT (x : StV) (space : ByteArray) (l : List ByteArray) : Except Int (List UInt8 × List ByteArray) :=
  if x.kind = 3 then .ok (sNsAll, l)
  else if x.kind = 2 then match nameT x.name sE l with
    | .error e => .error e
    | .ok (t, l') => .ok (64 :: t, l')
  else match elemT x space l with
    | .error e => .error e
    | .ok (t, l') =>
      if x.by_ = false then .ok (t ++ posT x.pos, l')
      else match nameT x.attr sE l' with
        | .error e => .error e
        | .ok (a, l2) => if sgB x.val = false then .error 11 else .ok (t ++ posT x.pos ++ testT a (escL true x.val.data.toList), l2)
def stpsT (space : ByteArray) : List StV → List ByteArray → Except Int (List (List UInt8) × List ByteArray)
  | [], l => .ok ([], l)
  | x :: r, l => match stpT x space l with
    | .error e => .error e
    | .ok (t, l') => match stpsT space r l' with
      | .error e => .error e
      | .ok (ts, l2) => .ok (t :: ts, l2)
def printS (space : ByteArray) (l : List StV) : Except Int (List UInt8 × List UInt8) :=
  if shapeS l = false then .error 33 else match stpsT space l [] with
    | .error e => .error e
    | .ok (ts, sp) => .ok (joinB 47 (ts.map (pctE [])), pctE [] (queryT 0 sp))
def nameC (c : UInt8) : Bool := wordB c && c != 91 && c != 93 && c != 64 && c != 42 && c != 41
theorem part_nameC : ∀ c : Fin 128, partB (c.val : Int) = true → nameC (UInt8.ofNat c.val) = true := by decide +kernel
theorem nm_nameC {l : List UInt8} (h : nameB l = true) : ∀ b ∈ l, nameC b = true ∧ b ≠ 58 := by
  obtain ⟨h1, n, ns, h2, h3, rfl⟩ := (nameB_iff l).1 h
  intro b hb
  obtain ⟨m, hm, hb⟩ := List.mem_flatMap.1 hb
  have hp : partB m = true := by
    rcases List.mem_cons.1 hm with rfl | hm
    · exact start_part m h2
    · exact h3 m hm
  refine ⟨?_, (enc_part_word hp hb).2.1⟩
  have hw := (enc_part_word hp hb).1
  by_cases hl : b.toNat < 128
  · obtain ⟨_, rfl⟩ := enc_low hb hl
    have := part_nameC ⟨b.toNat, hl⟩ hp
    simpa using this
  · unfold nameC
    rw [hw]
    have : ∀ d : UInt8, d.toNat < 128 → (b != d) = true := fun d hd => by
      rw [bne_iff_ne]
      intro e
      subst e
      exact hl hd
    rw [this 91 (by decide), this 93 (by decide), this 64 (by decide), this 42 (by decide), this 41 (by decide)]
    rfl
end Wb
namespace Go.Proofs.YtbeglliabpflpaaGreatDoor
open Go.RowKit Wb
theorem txt_byte : (Tryz.prog.info? 5).map (fun i => (i.zero, i.size, i.bytes)) = some (some (.int .u8 0), 1, 1) := by kernel_rfl
theorem run_txt {w : World} {base n : Nat} {e : TypeId} {v : Value} (l : List UInt8) (h : w.ownsRow base e 1 v n (cellsB l)) :
    (convert 78 9 v).run Tryz.prog w = .ok (.string ⟨l.toArray⟩) w := by
  have hn : n = l.length := by have := h.1; rw [cellsB_length] at this; omega
  have e8 : (b8 ∘ fun b : UInt8 => (b.toNat : Int)) = id := funext fun b => by
    show b8 (b.toNat : Int) = b
    unfold b8
    simp
  by_cases hl : l = []
  · subst hl
    rcases h.2 with ⟨rfl, _⟩ | ⟨g, cap, cur, rfl, _⟩
    · rw [List.length_nil] at hn
      subst hn
      rw [run_convert_bytes_string w _ _ _ _ 0 0 Tryz.underlying78 Tryz.underlying5 Tryz.underlying9]
      unfold Conv.bytesToString
      simp [Sem.run_pure]
      rfl
    · rw [List.length_nil] at hn
      subst hn
      rw [run_text w g 0 cap [] rfl (by intro j u hu; simp at hu)]
      rfl
  · obtain ⟨g, cap, rfl, _, _⟩ := h.form (by cases l with
      | nil => exact absurd rfl hl
      | cons a r => rw [hn]; simp)
    rw [run_text w g n cap (l.map fun b => (b.toNat : Int)) (by simp [hn]) (by
      intro j u hu
      have := h.cells (g := g) rfl j u (by simpa [cellsB] using hu)
      rw [Addr.add_lit, Nat.zero_add] at this
      exact this)]
    rw [List.map_map, e8, List.map_id]
end Go.Proofs.YtbeglliabpflpaaGreatDoor
namespace Go.Proofs.YtbeglliabpflpaaGreatDoor
open Go.RowKit Wb
set_option maxRecDepth 100000 in
set_option maxHeartbeats 4000000 in
theorem rdigit_any (c : UInt8) (w : World) :
    Calls Tryz.prog 49 #[.int .u8 c.toNat] w fun e w' => e = .returned (.int .i64 (dgV c)) ∧ w = w' := by
  have hr : (dgV c = c.toNat - 48 ∧ 48 ≤ c.toNat ∧ c.toNat ≤ 57) ∨ (dgV c = c.toNat - 55 ∧ 65 ≤ c.toNat ∧ c.toNat ≤ 70) ∨ (dgV c = c.toNat - 87 ∧ 97 ≤ c.toNat ∧ c.toNat ≤ 102) ∨
      (dgV c = -1 ∧ c.toNat < 48) ∨ (dgV c = -1 ∧ 57 < c.toNat ∧ c.toNat < 65) ∨ (dgV c = -1 ∧ 70 < c.toNat ∧ c.toNat < 97) ∨ (dgV c = -1 ∧ 102 < c.toNat) := by
    unfold dgV
    repeat' split
    all_goals omega
  have hk := c.toNat_lt
  go_enter Tryz.func49, Tryz.ntmps49
  rcases hr with ⟨hr, h1, h2⟩ | ⟨hr, h1, h2⟩ | ⟨hr, h1, h2⟩ | ⟨hr, h1⟩ | ⟨hr, h1, h2⟩ | ⟨hr, h1, h2⟩ | ⟨hr, h1⟩
  all_goals
    rw [hr]
    clear hr
    go_wp2
    go_ret
  all_goals first
    | exact ⟨rfl, rfl⟩
    | (refine ⟨?_, rfl⟩; go_num)
end Go.Proofs.YtbeglliabpflpaaGreatDoor
namespace Wb
open Go Go.RowKit
theorem op_at {ops : Array Oper} {i : Nat} {oi : Oper} {rest : List Oper} (h : ops.toList.drop i = oi :: rest) : ops[i]? = some oi := by
  have h2 : (ops.toList.drop i)[0]? = some oi := by rw [h]; rfl
  rw [List.getElem?_drop] at h2
  simpa using h2
theorem takeW {P : Program} {md : Region.Mode} {ops : Array Oper} {Q : Exit → Act → World → Prop} {S : World → Prop} {oi : Oper} {rest : List Oper} {v : Value} {fuel : Nat} {listed : Array Bool} {a : Act} {w : World} (i : Nat)
    (h : wpAnyH P md ops Q S fuel (listed.setIfInBounds i true) (a.put oi.dst v) w) (hi : ops.toList.drop i = oi :: rest := by rfl)
    (hy : ∀ w, S w → (execOp a.eval oi).run P w = .ok (.value v) w := by (intro w' hSw; (try dsimp only at hSw); go_simp; (try with_reducible rfl)))
    (hs : Region.noSelect ops = true := by kernel_rfl) (hf : Region.free md ops listed i = true := by kernel_rfl) (hr : (Region.ready md ops listed).contains i = true := by kernel_rfl)
    (hQ : ∀ c a w, Q (.panic c) (a.put oi.dst v) w → Q (.panic c) a w := by exact fun _ _ _ h => h) (hw : Region.wanted oi (yielded ops a.tmps) = true := by rfl) (hS : S w := by assumption) : wpAnyH P md ops Q S (fuel + 1) listed a w :=
  wpAnyH_take (op_at hi) hs hf hr hQ (.inl ⟨hw, hy⟩) hS h
theorem takeU {P : Program} {md : Region.Mode} {ops : Array Oper} {Q : Exit → Act → World → Prop} {S : World → Prop} {oi : Oper} {rest : List Oper} {fuel : Nat} {listed : Array Bool} {a : Act} {w : World} (i : Nat)
    (h : wpAnyH P md ops Q S fuel (listed.setIfInBounds i true) (a.put oi.dst undef) w)
    (hi : ops.toList.drop i = oi :: rest := by rfl) (hs : Region.noSelect ops = true := by kernel_rfl) (hf : Region.free md ops listed i = true := by kernel_rfl) (hr : (Region.ready md ops listed).contains i = true := by kernel_rfl)
    (hQ : ∀ c a w, Q (.panic c) (a.put oi.dst undef) w → Q (.panic c) a w := by exact fun _ _ _ h => h) (hw : Region.wanted oi (yielded ops a.tmps) = false := by rfl) (hS : S w := by assumption) : wpAnyH P md ops Q S (fuel + 1) listed a w :=
  wpAnyH_take (op_at hi) hs hf hr hQ (.inr ⟨hw, rfl⟩) hS h
end Wb
namespace Wb
theorem u8_eqn (a b : UInt8) : ((a.toNat : Int) == (b.toNat : Int)) = (a == b) := by
  rw [Bool.eq_iff_iff, beq_iff_eq, beq_iff_eq]
  exact ⟨fun h => UInt8.toNat_inj.1 (by omega), fun h => by rw [h]⟩
theorem hex_tab (n : Nat) (h : n < 16) : (ByteArray.mk #[48, 49, 50, 51, 52, 53, 54, 55, 56, 57, 65, 66, 67, 68, 69, 70])[n]'h = hexG n := by
  have t : ∀ v : Fin 16, (ByteArray.mk #[48, 49, 50, 51, 52, 53, 54, 55, 56, 57, 65, 66, 67, 68, 69, 70])[v.val]'v.isLt = hexG v.val := by decide
  exact t ⟨n, h⟩
end Wb
namespace Go.Proofs.YtbeglliabpflpaaGreatDoor
open Go.RowKit Wb
end Go.Proofs.YtbeglliabpflpaaGreatDoor
