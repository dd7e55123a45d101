/- UcF UcH and what they need of UeC, UeD. -/
import Derived.Deep.CutBlock
import Derived.Lib.Join
import Derived.Test.YtbdamneophbnnaaGreatDoorCZ16
namespace Go.Proofs.YtbdamneophbnnaaGreatDoor
open Go.RowKit Wb
theorem wh_info : (Tryz.prog.info? 26).map (·.size) = some 7 := by kernel_rfl
end Go.Proofs.YtbdamneophbnnaaGreatDoor
namespace Wb
open Go
def witE (U US D : ByteArray) (sel q : List UInt8) : Except Int WhV :=
  if (bindsP q).2 ≠ 0 then .error (bindsP q).2
  else match parseS sel ⟨(spc11 U.data.toList).toArray⟩ (bindsP q).1 with
    | .error e => .error e
    | .ok l => .ok ⟨U, US, D, true, l, mkT sel, (bindsP q).1⟩
end Wb
namespace Go.Proofs.YtbdamneophbnnaaGreatDoor
open Go.RowKit Wb
theorem noint7 (v0 v1 v2 v3 v4 v5 v6 : Value) (h0 : ∀ (k : IntKind) (v : Int), v0 ≠ .int k v) (h1 : ∀ (k : IntKind) (v : Int), v1 ≠ .int k v) (h2 : ∀ (k : IntKind) (v : Int), v2 ≠ .int k v) (h3 : ∀ (k : IntKind) (v : Int), v3 ≠ .int k v) (h4 : ∀ (k : IntKind) (v : Int), v4 ≠ .int k v) (h5 : ∀ (k : IntKind) (v : Int), v5 ≠ .int k v) (h6 : ∀ (k : IntKind) (v : Int), v6 ≠ .int k v) : ∀ (i : Nat) (k : IntKind) (v : Int), (#[v0, v1, v2, v3, v4, v5, v6] : Array Value)[i]? ≠ some (Value.int k v) := by
  intro i k v h
  match i with
  | 0 => injection h with h; exact h0 k v h
  | 1 => injection h with h; exact h1 k v h
  | 2 => injection h with h; exact h2 k v h
  | 3 => injection h with h; exact h3 k v h
  | 4 => injection h with h; exact h4 k v h
  | 5 => injection h with h; exact h5 k v h
  | 6 => injection h with h; exact h6 k v h
  | n + 7 => simp at h
theorem empty7 (b : Bool) (v4 v6 : Value) (h4 : ∀ s : ByteArray, v4 ≠ .string s := by simp) (h6 : ∀ s : ByteArray, v6 ≠ .string s := by simp) : ∀ (i : Nat) (s : ByteArray), (#[.string ⟨#[]⟩, .string ⟨#[]⟩, .string ⟨#[]⟩, .bool b, v4, .string ⟨#[]⟩, v6] : Array Value)[i]? = some (.string s) → s.size = 0 := by
  intro i s h
  match i with
  | 0 => injection h with h; injection h with h; rw [← h]; rfl
  | 1 => injection h with h; injection h with h; rw [← h]; rfl
  | 2 => injection h with h; injection h with h; rw [← h]; rfl
  | 3 => injection h with h; cases h
  | 4 => injection h with h; exact absurd h (h4 s)
  | 5 => injection h with h; injection h with h; rw [← h]; rfl
  | 6 => injection h with h; exact absurd h (h6 s)
  | n + 7 => simp at h
theorem so_form {o : Except Int (List StV)} {w w' : World} {e : Ending} (h : StepsOut o w e w') (hk : ∀ k, o = .error k → k ≠ 0) :
    ∃ (E : Option Addr) (ee : Nat) (l : List StV) (ek : Int), e = .returned (.tuple #[.slice E l.length ee, .int .i64 ek]) ∧ Sl9 w' E l ∧ Below w.heap.size w w' ∧ (ek = 0 → o = .ok l) ∧ (ek ≠ 0 → o = .error ek) := by
  obtain ⟨h1, h2, h3⟩ := h
  cases o with
  | error k => exact ⟨none, 0, [], k, h2 k rfl, Sl.nil _ 9 _, h1, fun h0 => absurd h0 (hk k rfl), fun _ => rfl⟩
  | ok m =>
    obtain ⟨C, k, e, hs⟩ := h3 m rfl
    exact ⟨C, k, m, 0, e, hs, h1, fun _ => rfl, fun h0 => absurd rfl h0⟩
end Go.Proofs.YtbdamneophbnnaaGreatDoor
namespace Wb
open Go
theorem frm_4 (u d : List UInt8) : frm11 [[], u, sGlob, d] = some (u, none, d) := by simp [frm11]
theorem frm_5 (u x d : List UInt8) : frm11 [[], u, sUsers, x, d] = some (u, some x, d) := by simp [frm11]
def glB (L : List (List UInt8)) : Bool := decide (L.length = 4) && decide (L[2]? = some sGlob)
def bdB (L : List (List UInt8)) (asked node : Bool) : Bool := !decide (L[0]? = some []) || (asked && !node || (!glB L && (!decide (L.length = 5) || !decide (L[2]? = some sUsers))))
theorem bd_true {L : List (List UInt8)} {asked node : Bool} (h : bdB L asked node = true) : frm11 L = none ∨ (asked && !node) = true := by
  by_cases ha : (asked && !node) = true
  · exact .inr ha
  · left
    have ha : (asked && !node) = false := by simpa using ha
    unfold bdB glB at h
    rw [ha, Bool.false_or] at h
    match L, h with
    | [], h => rfl
    | [a], h => cases a <;> rfl
    | [a, b], h => cases a <;> rfl
    | [a, b, c], h => cases a <;> rfl
    | [a, b, c, d], h =>
      cases a with
      | cons x a => rfl
      | nil => simp [frm11] at h ⊢; exact h
    | [a, b, c, d, e], h =>
      cases a with
      | cons x a => rfl
      | nil => simp [frm11] at h ⊢; exact h
    | a :: b :: c :: d :: e :: f :: r, h => cases a <;> rfl
theorem bd_false {L : List (List UInt8)} {asked node : Bool} (h : bdB L asked node = false) : (asked && !node) = false ∧ ((glB L = true ∧ ∃ u d, L = [[], u, sGlob, d]) ∨ (glB L = false ∧ ∃ u x d, L = [[], u, sUsers, x, d])) := by
  unfold bdB at h
  simp only [Bool.or_eq_false_iff] at h
  obtain ⟨h1, h2, h3⟩ := h
  refine ⟨h2, ?_⟩
  cases hg : glB L with
  | true =>
    left
    refine ⟨rfl, ?_⟩
    unfold glB at hg
    match L, h1, hg with
    | [a, b, c, d], h1, hg =>
      simp at h1 hg
      exact ⟨b, d, by rw [h1, hg]⟩
    | [], h1, hg => simp at hg
    | [a], h1, hg => simp at hg
    | [a, b], h1, hg => simp at hg
    | [a, b, c], h1, hg => simp at hg
    | a :: b :: c :: d :: e :: r, h1, hg => simp at hg
  | false =>
    right
    refine ⟨rfl, ?_⟩
    rw [hg] at h3
    match L, h1, h3 with
    | [a, b, c, d, e], h1, h3 =>
      simp at h1 h3
      exact ⟨b, d, e, by rw [h1, h3]⟩
    | [], h1, h3 => simp at h1
    | [a], h1, h3 => simp at h3
    | [a, b], h1, h3 => simp at h3
    | [a, b, c], h1, h3 => simp at h3
    | [a, b, c, d], h1, h3 => simp at h3
    | a :: b :: c :: d :: e :: f :: r, h1, h3 => simp at h3
def finE (u us d : List UInt8) (x : Option (List UInt8)) (node : Bool) (sel q : ByteArray) : Except Int WhV :=
  if ok11 x us d = false then .error 4
  else if node = false then .ok ⟨mkT u, mkT us, mkT d, false, [], sE, []⟩
  else witE (mkT u) (mkT us) (mkT d) sel.data.toList q.data.toList
theorem uri_fin {s h q doc sel : List UInt8} {asked node : Bool} {u d : List UInt8} {x : Option (List UInt8)} (h1 : Lib.cut s [63] = (h, q, asked)) (h2 : Lib.cut h ssl11 = (doc, sel, node)) (hl : ¬ 512 < s.length) (hf : frm11 (pieceF 47 doc) = some (u, x, d)) (ha : (asked && !node) = false) :
    uri11 s = if u ∉ usg11 then .error 34
        else if (usr11 x).2 ≠ 0 then .error (usr11 x).2
        else if (decP d).2 ≠ 0 then .error (decP d).2
        else finE u (usr11 x).1 (decP d).1 x node (mkT sel) (mkT q) := by
  rw [uri_ref h1 h2 hl, hf]
  simp only
  rw [if_neg (by rw [ha]; decide)]
  unfold finE witE
  rw [mkT_list, mkT_list, mkT_list]
  by_cases a3 : u ∉ usg11
  · rw [if_pos a3, if_pos a3]
  rw [if_neg a3, if_neg a3]
  by_cases a4 : (usr11 x).2 ≠ 0
  · rw [if_pos a4, if_pos a4]
  rw [if_neg a4, if_neg a4]
  by_cases a5 : (decP d).2 ≠ 0
  · rw [if_pos a5, if_pos a5]
  rw [if_neg a5, if_neg a5]
  by_cases a6 : ok11 x (usr11 x).1 (decP d).1 = false
  · rw [if_pos a6, if_pos a6]
  rw [if_neg a6, if_neg a6]
  cases node with
  | false => rfl
  | true =>
    by_cases a7 : (bindsP q).2 ≠ 0
    · simp [a7]
    · simp only [a7]
      cases parseS sel ⟨(spc11 u).toArray⟩ (bindsP q).1 <;> rfl
theorem uri_form {s h q doc sel : List UInt8} {asked node : Bool} (h1 : Lib.cut s [63] = (h, q, asked)) (h2 : Lib.cut h ssl11 = (doc, sel, node)) (hl : ¬ 512 < s.length) (hf : frm11 (pieceF 47 doc) = none ∨ (asked && !node) = true) :
    uri11 s = .error 4 := by
  rw [uri_ref h1 h2 hl]
  cases hc : frm11 (pieceF 47 doc) with
  | none => rfl
  | some t =>
    obtain ⟨u, x, d⟩ := t
    rcases hf with hf | hf
    · rw [hc] at hf; cases hf
    · simp only
      rw [if_pos hf]
end Wb
namespace Go.Proofs.YtbdamneophbnnaaGreatDoor
open Go.RowKit Wb
theorem pcs_map (s : ByteArray) : pieceF 47 s.data.toList = (pcsB 47 s).map fun x => x.data.toList := by unfold pcsB; rw [List.map_map]; exact (List.map_id _).symm
theorem pcs_z {s : ByteArray} : ∀ x ∈ pcsB 47 s, x.size ≤ s.size := fun x hx => by
  unfold pcsB at hx
  obtain ⟨y, hy, rfl⟩ := List.mem_map.1 hx
  have := piece_size 47 [] s.data.toList y hy
  have h4 : s.data.toList.length = s.size := by simp
  show y.toArray.size ≤ _
  rw [List.size_toArray]
  simp only [List.length_nil] at this
  omega
theorem pc_at {w : World} {A : Option Addr} {L : List ByteArray} (h : Sl1 w A L) (hL : 0 < L.length) : ∃ ad, A = some ad ∧ (∀ x, L[0]? = some x → w.cell? ad = some (.string x)) ∧ ∀ k x, 0 < k → L[k]? = some x → w.cell? ⟨ad.block, ad.off + k, none⟩ = some (.string x) := by
  obtain ⟨x0, hx0⟩ : ∃ x, L[0]? = some x := ⟨L[0], List.getElem?_eq_getElem hL⟩
  obtain ⟨ad, rfl, _, hc⟩ := h.at_ hx0
  refine ⟨ad, rfl, fun x hx => ?_, fun k x hk hx => ?_⟩
  · rw [hx0] at hx
    injection hx with hx
    subst hx
    exact hc
  · obtain ⟨ad', e, _, hc'⟩ := h.at_ hx
    injection e with e
    subst e
    have : ad.add k = ⟨ad.block, ad.off + k, none⟩ := by unfold Addr.add; rw [if_neg (by omega)]
    rw [← this]
    exact hc'
theorem gl_ba (L : List ByteArray) : glB (L.map fun x => x.data.toList) = (decide (L.length = 4) && decide (L[2]?.map (fun x => x.data.toList) = some sGlob)) := by
  unfold glB
  rw [List.length_map, List.getElem?_map]
theorem an_true {a n : Bool} (h : (a && !n) = true) : a = true ∧ n = false := by cases a <;> cases n <;> simp_all
theorem an_false {a n : Bool} (h : (a && !n) = false) : a = false ∨ (a = true ∧ n = true) := by cases a <;> cases n <;> simp_all
theorem fin_cs {L : List ByteArray} {gl bd : Bool} (hb : (!gl && (!decide (L.length = 5) || !decide (Option.map (fun x => x.data.toList) L[2]? = some sUsers))) = bd) :
    (gl = true ∧ bd = false) ∨ (gl = false ∧ (¬ (L.length = 5)) ∧ bd = true) ∨ (gl = false ∧ L.length = 5 ∧ (∃ x2 : ByteArray, L[2]? = some x2 ∧ (x2.toList == [117, 115, 101, 114, 115]) = !bd)) := by
  cases gl with
  | true => exact .inl ⟨rfl, by rw [← hb]; rfl⟩
  | false =>
    rw [Bool.not_false, Bool.true_and] at hb
    by_cases h5 : L.length = 5
    · right; right
      refine ⟨rfl, h5, ?_⟩
      match L, h5, hb with
      | [x0, x1, x2, x3, x4], _, hb =>
        refine ⟨x2, rfl, ?_⟩
        have hb2 : (!decide (x2.data.toList = sUsers)) = bd := by rw [← hb]; simp
        rw [← hb2, Bool.not_not, ByteArray.toList_eq, Bool.eq_iff_iff, beq_iff_eq, decide_eq_true_eq]
        exact Iff.rfl
    · exact .inr (.inl ⟨rfl, h5, by rw [← hb, decide_eq_false h5]; rfl⟩)
theorem ok_none {d : List UInt8} {D : ByteArray} (hD : D.data.toList = d) : (!ok11 none [] d) = (decide (D.size < 1) || (decide (64 < D.size) || decide (D = ⟨#[126, 126]⟩))) := by
  have hs : d.length = D.size := by rw [← hD]; simp
  have ht : decide (d = tt11) = decide (D = ⟨#[126, 126]⟩) := by rw [← hD, Bool.eq_iff_iff, decide_eq_true_eq, decide_eq_true_eq]; exact lst_tt D
  unfold ok11
  rw [hs, ht]
  have e1 : decide (1 ≤ D.size) = !decide (D.size < 1) := by
    by_cases h : D.size < 1
    · rw [decide_eq_true h, decide_eq_false (show ¬ 1 ≤ D.size by omega)]; rfl
    · rw [decide_eq_false h, decide_eq_true (show 1 ≤ D.size by omega)]; rfl
  have e2 : decide (D.size ≤ 64) = !decide (64 < D.size) := by rw [Bool.eq_iff_iff]; simp
  rw [e1, e2]
  generalize decide (D.size < 1) = p
  generalize decide (64 < D.size) = q
  generalize decide (D = ⟨#[126, 126]⟩) = r
  cases p <;> cases q <;> cases r <;> rfl
theorem ok_some {us d x : List UInt8} {US D : ByteArray} (hU : US.data.toList = us) (hD : D.data.toList = d) : (!ok11 (some x) us d) = (decide (D.size < 1) || (decide (64 < D.size) || (decide (64 < US.size) || (decide (US = ⟨#[]⟩) || (decide (D = ⟨#[126, 126]⟩) || decide (US = ⟨#[126, 126]⟩)))))) := by
  have hs : d.length = D.size := by rw [← hD]; simp
  have hu : us.length = US.size := by rw [← hU]; simp
  have ht : decide (d = tt11) = decide (D = ⟨#[126, 126]⟩) := by rw [← hD, Bool.eq_iff_iff, decide_eq_true_eq, decide_eq_true_eq]; exact lst_tt D
  have hv : decide (us = tt11) = decide (US = ⟨#[126, 126]⟩) := by rw [← hU, Bool.eq_iff_iff, decide_eq_true_eq, decide_eq_true_eq]; exact lst_tt US
  have he : decide (us = []) = decide (US = ⟨#[]⟩) := by rw [← hU, Bool.eq_iff_iff, decide_eq_true_eq, decide_eq_true_eq]; exact lst_nil US
  unfold ok11
  rw [hs, hu, ht, hv, he]
  have e1 : decide (1 ≤ D.size) = !decide (D.size < 1) := by
    by_cases h : D.size < 1
    · rw [decide_eq_true h, decide_eq_false (show ¬ 1 ≤ D.size by omega)]; rfl
    · rw [decide_eq_false h, decide_eq_true (show 1 ≤ D.size by omega)]; rfl
  have e2 : decide (D.size ≤ 64) = !decide (64 < D.size) := by rw [Bool.eq_iff_iff]; simp
  have e3 : decide (US.size ≤ 64) = !decide (64 < US.size) := by rw [Bool.eq_iff_iff]; simp
  rw [e1, e2, e3]
  generalize decide (D.size < 1) = p
  generalize decide (64 < D.size) = q
  generalize decide (D = ⟨#[126, 126]⟩) = r
  generalize decide (64 < US.size) = s
  generalize decide (US = ⟨#[]⟩) = t
  generalize decide (US = ⟨#[126, 126]⟩) = v
  cases p <;> cases q <;> cases r <;> cases s <;> cases t <;> cases v <;> rfl
theorem cut_link {s h0 q0 dc0 se0 h q dc se : List UInt8} {as0 nd0 a n : Bool} (h1 : Lib.cut s [63] = (h0, q0, as0)) (h2 : Lib.cut h0 ssl11 = (dc0, se0, nd0)) (c1 : Lib.cut s [63] = (h, q, a)) (c2 : Lib.cut h ssl11 = (dc, se, n)) : dc0 = dc ∧ as0 = a ∧ nd0 = n := by
  have e := h1.symm.trans c1
  injection e with ea eb
  injection eb with eb ec
  subst ea
  have f := h2.symm.trans c2
  injection f with fa fb
  injection fb with fb fc
  exact ⟨fa, ec, fc⟩
end Go.Proofs.YtbdamneophbnnaaGreatDoor
