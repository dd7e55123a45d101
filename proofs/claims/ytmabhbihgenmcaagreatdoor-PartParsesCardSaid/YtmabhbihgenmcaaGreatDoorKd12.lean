/- QaU QcA QcG. -/
import Derived.Lib.Split
import Derived.Deep.SlicePairs
import Derived.Carry
import Derived.Lib.ItoaMem
import Derived.Lib.AppendIntMem
import Derived.Shelf.Strconv.Itoa2
import Derived.BigCall
import Derived.Test.YtmabhbihgenmcaaGreatDoorKd3
import Derived.Test.YtmabhbihgenmcaaGreatDoorKd10
import Derived.Test.YtmabhbihgenmcaaGreatDoorKd11
namespace Wb
open Go
def takesF : Nat → List UInt8 → List Nat
  | _, [] => []
  | n, c :: l => if c.toNat < 48 ∨ 57 < c.toNat then [] else
    if 10 * n + (c.toNat - 48) = 0 ∨ 2147483648 < 10 * n + (c.toNat - 48) then [] else (10 * n + (c.toNat - 48)) :: takesF (10 * n + (c.toNat - 48)) l
theorem digs_step {n v : Nat} (hv : v < 10) (h : 10 * n + v ≠ 0) : digs (10 * n + v) = digs n ++ [UInt8.ofNat (48 + v)] := by
  rw [digs, dif_neg h, show (10 * n + v) / 10 = n from by omega, show (10 * n + v) % 10 = v from by omega]
theorem digs_c {c : UInt8} (h1 : 48 ≤ c.toNat) (h2 : c.toNat ≤ 57) : UInt8.ofNat (48 + (c.toNat - 48)) = c := by
  apply UInt8.toNat_inj.1
  rw [UInt8.toNat_ofNat']
  omega
theorem valD_app (a b : List UInt8) : valD a ≤ valD (a ++ b) := by
  unfold valD
  rw [List.foldl_append]
  generalize List.foldl _ 0 a = x
  induction b generalizing x with
  | nil => exact Nat.le_refl _
  | cons c b ih =>
    rw [List.foldl_cons]
    refine Nat.le_trans ?_ (ih _)
    omega
theorem digs_head {k : Nat} {c : UInt8} {l : List UInt8} (h : digs k = c :: l) : c ≠ 48 := by
  induction k using Nat.strongRecOn generalizing c l with
  | _ k ih =>
    rw [digs] at h
    split at h
    · cases h
    · rename_i hk
      by_cases h0 : k / 10 = 0
      · rw [h0, digs, dif_pos rfl, List.nil_append] at h
        injection h with h _
        rw [← h]
        intro e
        have e2 := congrArg UInt8.toNat e
        rw [dig_nat] at e2
        have : (48 : UInt8).toNat = 48 := rfl
        omega
      · obtain ⟨d, r, hd⟩ : ∃ d r, digs (k / 10) = d :: r := by
          cases hq : digs (k / 10) with
          | nil =>
            have := val_digs (k / 10)
            rw [hq] at this
            exact absurd this.symm h0
          | cons d r => exact ⟨d, r, rfl⟩
        rw [hd, List.cons_append] at h
        injection h with h _
        rw [← h]
        exact ih (k / 10) (by omega) hd
theorem takes_iff : ∀ (l : List UInt8) (n k : Nat), k ≤ 2147483648 → (k ∈ takesF n l ↔ ∃ d, d ≠ [] ∧ digs n ++ d = digs k ∧ d <+: l)
  | [], n, k, hk => by
    refine ⟨fun h => (by cases h), ?_⟩
    rintro ⟨d, h1, _, h3⟩
    exact absurd (List.prefix_nil.1 h3) h1
  | c :: l, n, k, hk => by
    rw [takesF]
    constructor
    · intro h
      split at h
      · cases h
      · rename_i hc
        split at h
        · cases h
        · rename_i hm
          have hst := digs_step (n := n) (v := c.toNat - 48) (by omega) (by omega)
          rw [digs_c (by omega) (by omega)] at hst
          rcases List.mem_cons.1 h with rfl | h
          · exact ⟨[c], by simp, hst.symm, ⟨l, rfl⟩⟩
          · obtain ⟨d, h1, h2, h3⟩ := (takes_iff l _ k hk).1 h
            refine ⟨c :: d, by simp, ?_, List.cons_prefix_cons.2 ⟨rfl, h3⟩⟩
            rw [← h2, hst, List.append_assoc]
            rfl
    · rintro ⟨d, h1, h2, h3⟩
      cases d with
      | nil => exact absurd rfl h1
      | cons c' d =>
        obtain ⟨hcc, h4⟩ := List.cons_prefix_cons.1 h3
        subst hcc
        clear h3
        have hb := digs_byte k c' (by rw [← h2]; simp)
        have hv : valD (digs n ++ [c']) = 10 * n + (c'.toNat - 48) := by
          have := val_digs n
          unfold valD at this ⊢
          rw [List.foldl_append, this]
          simp only [List.foldl_cons, List.foldl_nil]
          omega
        have hle : 10 * n + (c'.toNat - 48) ≤ k := by
          have := valD_app (digs n ++ [c']) d
          rw [hv, List.append_assoc] at this
          have e : digs n ++ ([c'] ++ d) = digs k := h2
          rw [e, val_digs] at this
          exact this
        have hne : 10 * n + (c'.toNat - 48) ≠ 0 := by
          intro h0
          have hn : n = 0 := by omega
          subst hn
          rw [show digs 0 = [] from by rw [digs, dif_pos rfl], List.nil_append] at h2
          refine digs_head h2.symm (UInt8.toNat_inj.1 ?_)
          have : (48 : UInt8).toNat = 48 := rfl
          omega
        rw [if_neg (by omega), if_neg (by omega)]
        have hst := digs_step (n := n) (v := c'.toNat - 48) (by omega) hne
        rw [digs_c (by omega) (by omega)] at hst
        rw [List.mem_cons]
        by_cases hd : d = []
        · subst hd
          left
          rw [← val_digs k, ← h2, hv]
        · right
          refine (takes_iff l _ k hk).2 ⟨d, hd, ?_, h4⟩
          rw [hst, ← h2, List.append_assoc]
          rfl
theorem takes_zero {l : List UInt8} {k : Nat} (h1 : 1 ≤ k) (hk : k ≤ 2147483648) : k ∈ takesF 0 l ↔ digs k <+: l := by
  rw [takes_iff l 0 k hk]
  have h0 : digs 0 = [] := by rw [digs, dif_pos rfl]
  constructor
  · rintro ⟨d, _, h2, h3⟩
    rw [h0, List.nil_append] at h2
    rw [← h2]; exact h3
  · intro h
    refine ⟨digs k, ?_, by rw [h0]; rfl, h⟩
    intro e
    have := val_digs k
    rw [e] at this
    have h : (0 : Nat) = k := this
    omega
theorem takes_len : ∀ (l : List UInt8) (n : Nat), (takesF n l).length ≤ l.length
  | [], _ => Nat.le_refl _
  | c :: l, n => by
    rw [takesF]
    split
    · exact Nat.zero_le _
    · split
      · exact Nat.zero_le _
      · have := takes_len l (10 * n + (c.toNat - 48))
        rw [List.length_cons, List.length_cons]
        omega
theorem inF_iff {t : List UInt8} (ht : t ≠ []) : ∀ s, inF t s = true ↔ ∃ j, t <+: s.drop j
  | [] => by
    constructor
    · intro h
      unfold inF at h
      cases t with
      | nil => exact absurd rfl ht
      | cons a r => cases h
    · rintro ⟨j, h⟩
      rw [List.drop_nil] at h
      exact absurd (List.prefix_nil.1 h) ht
  | c :: l => by
    rw [inF, Bool.or_eq_true, inF_iff ht l]
    constructor
    · rintro (h | ⟨j, h⟩)
      · exact ⟨0, List.isPrefixOf_iff_prefix.1 h⟩
      · exact ⟨j + 1, h⟩
    · rintro ⟨j, h⟩
      cases j with
      | zero => exact .inl (List.isPrefixOf_iff_prefix.2 h)
      | succ j => exact .inr ⟨j, h⟩
def sepW : List UInt8 := [13, 10, 45, 45, 119, 98]
theorem line_wb (k : Nat) : lineD (wbM k) = sepW ++ digs k := rfl
theorem split_miss {s : List UInt8} (h : Lib.index s sepW = -1) : Lib.split s sepW = [s] := by
  unfold Lib.split
  rw [Lib.count_miss h]
  rfl
theorem split_hit {s : List UInt8} {i : Nat} (h : Lib.index s sepW = i) : Lib.split s sepW = s.take i :: Lib.split (s.drop (i + 6)) sepW := by
  unfold Lib.split
  rw [Lib.count_hit (by decide) h, Nat.add_comm, Lib.splitK, if_neg (by rw [h]; simp)]
  rw [h]
  rfl
theorem split_first {k : Nat} (s : List UInt8) : ∃ p ps, Lib.split s sepW = p :: ps ∧ (digs k <+: p ↔ digs k <+: s) := by
  rcases Lib.index_spec s sepW with ⟨h, _⟩ | ⟨i, h, hi, ho, _⟩
  · exact ⟨s, [], split_miss h, Iff.rfl⟩
  · refine ⟨s.take i, _, split_hit h, fun hp => hp.trans (List.take_prefix _ _), fun hp => ?_⟩
    rw [List.prefix_take_iff]
    refine ⟨hp, ?_⟩
    cases Nat.lt_or_ge i (digs k).length with
    | inr h' => exact h'
    | inl h' =>
      exfalso
      have h13 := Lib.occAt_head (c := 13) (t := [10, 45, 45, 119, 98]) rfl ho
      have h1 := List.prefix_iff_getElem?.1 hp i h'
      rw [h13] at h1
      have hm : (13 : UInt8) ∈ digs k := by
        injection h1 with h1
        rw [h1]
        exact List.getElem_mem _
      have := (digs_byte k 13 hm).1
      revert this; decide
theorem split_iff {k : Nat} : ∀ (f : Nat) (s : List UInt8), s.length < f → ((∃ p ∈ (Lib.split s sepW).drop 1, digs k <+: p) ↔ inF (lineD (wbM k)) s = true)
  | 0, _, h => by omega
  | f + 1, s, hf => by
    have hne : lineD (wbM k) ≠ [] := by unfold lineD; simp
    rw [inF_iff hne, line_wb]
    rcases Lib.index_spec s sepW with ⟨h, hno⟩ | ⟨i, h, hi, ho, hno⟩
    · rw [split_miss h]
      constructor
      · rintro ⟨p, hp, _⟩; simp at hp
      · rintro ⟨j, hj⟩
        exfalso
        have h2 : sepW <+: s.drop j := (List.prefix_append _ _).trans hj
        have hl := h2.length_le
        rw [List.length_drop] at hl
        have h6 : sepW.length = 6 := rfl
        have := hno j (by omega)
        unfold Lib.occAt at this
        rw [List.isPrefixOf_iff_prefix.2 h2] at this
        cases this
    · rw [split_hit h]
      have ho' : sepW <+: s.drop i := List.isPrefixOf_iff_prefix.1 ho
      have hl := ho'.length_le
      rw [List.length_drop] at hl
      have h6 : sepW.length = 6 := rfl
      have ih := split_iff (k := k) f (s.drop (i + 6)) (by rw [List.length_drop]; omega)
      rw [inF_iff hne, line_wb] at ih
      obtain ⟨p, ps, hps, hpf⟩ := split_first (k := k) (s.drop (i + 6))
      have hsplit : s.drop i = sepW ++ s.drop (i + 6) := by
        obtain ⟨x, hx⟩ := ho'
        rw [← hx, show i + 6 = i + sepW.length from rfl, ← List.drop_drop, ← hx, List.drop_left]
      rw [List.drop_succ_cons, List.drop_zero]
      rw [hps, List.drop_succ_cons, List.drop_zero] at ih
      rw [hps]
      constructor
      · rintro ⟨q, hq, hd⟩
        rcases List.mem_cons.1 hq with rfl | hq
        · refine ⟨i, ?_⟩
          rw [hsplit, List.prefix_append_right_inj]
          exact hpf.1 hd
        · obtain ⟨j, hj⟩ := ih.1 ⟨q, hq, hd⟩
          rw [List.drop_drop] at hj
          exact ⟨i + 6 + j, hj⟩
      · rintro ⟨j, hj⟩
        have h2 : sepW <+: s.drop j := (List.prefix_append _ _).trans hj
        have hji : i ≤ j := by
          cases Nat.lt_or_ge j i with
          | inr h' => exact h'
          | inl h' =>
            exfalso
            have := hno j h'
            unfold Lib.occAt at this
            rw [List.isPrefixOf_iff_prefix.2 h2] at this
            cases this
        by_cases hj0 : j = i
        · subst hj0
          rw [hsplit, List.prefix_append_right_inj] at hj
          exact ⟨p, List.mem_cons_self .., hpf.2 hj⟩
        · by_cases hj6 : i + 6 ≤ j
          · obtain ⟨q, hq, hd⟩ := ih.2 ⟨j - (i + 6), by rw [List.drop_drop, show i + 6 + (j - (i + 6)) = j from by omega]; exact hj⟩
            exact ⟨q, List.mem_cons_of_mem _ hq, hd⟩
          · exfalso
            have h13 : s[j]? = some 13 := by
              have := List.prefix_iff_getElem?.1 h2 0 (by decide)
              rw [List.getElem?_drop] at this
              exact this
            obtain ⟨d, rfl⟩ : ∃ d, j = i + d := ⟨j - i, by omega⟩
            have hd : (sepW ++ s.drop (i + 6))[d]? = some 13 := by rw [← hsplit, List.getElem?_drop]; exact h13
            rw [List.getElem?_append_left (by omega)] at hd
            have hd5 : d = 1 ∨ d = 2 ∨ d = 3 ∨ d = 4 ∨ d = 5 := by omega
            rcases hd5 with rfl | rfl | rfl | rfl | rfl <;> (revert hd; decide)
def takenH (n : List UInt8) : List Nat := if ([45, 45, 119, 98] : List UInt8).isPrefixOf n = true then takesF 0 (n.drop 4) else []
def takenB (body : List UInt8) : List Nat := ((Lib.split (13 :: 10 :: body) sepW).drop 1).flatMap (takesF 0)
def takenP (p : Pt) : List Nat := p.1.flatMap (fun f => takenH f.1) ++ takenB p.2
def takenL (l : List Pt) : List Nat := l.flatMap takenP
theorem takenH_iff {n : List UInt8} {k : Nat} (h1 : 1 ≤ k) (hk : k ≤ 2147483648) : k ∈ takenH n ↔ (delB (wbM k)).isPrefixOf (n ++ [58]) = true := by
  have e : delB (wbM k) = [45, 45, 119, 98] ++ digs k := rfl
  rw [List.isPrefixOf_iff_prefix, e]
  have hx : [45, 45, 119, 98] ++ digs k <+: n ++ [58] ↔ [45, 45, 119, 98] ++ digs k <+: n := by
    refine ⟨fun h => ?_, fun h => h.trans (List.prefix_append _ _)⟩
    rcases List.prefix_concat_iff.1 h with h | h
    · exfalso
      have : (58 : UInt8) ∈ [45, 45, 119, 98] ++ digs k := by rw [h]; simp
      rcases List.mem_append.1 this with h | h
      · revert h; decide
      · have := (digs_byte k 58 h).2
        revert this; decide
    · exact h
  rw [hx]
  clear hx e
  unfold takenH
  split
  · rename_i hp
    rw [takes_zero h1 hk]
    obtain ⟨x, rfl⟩ := List.isPrefixOf_iff_prefix.1 hp
    have e4 : ([45, 45, 119, 98] ++ x).drop 4 = x := rfl
    rw [e4]
    exact (List.prefix_append_right_inj [45, 45, 119, 98]).symm
  · rename_i hp
    refine ⟨fun h => (by cases h), fun h => absurd (List.isPrefixOf_iff_prefix.2 ((List.prefix_append _ _).trans h)) hp⟩
theorem takenB_iff {b : List UInt8} {k : Nat} (h1 : 1 ≤ k) (hk : k ≤ 2147483648) : k ∈ takenB b ↔ clashB (wbM k) b = true := by
  unfold takenB clashB
  rw [← split_iff (k := k) ((13 :: 10 :: b).length + 1) _ (Nat.lt_succ_self _), List.mem_flatMap]
  constructor
  · rintro ⟨p, hp, h⟩
    exact ⟨p, hp, (takes_zero h1 hk).1 h⟩
  · rintro ⟨p, hp, h⟩
    exact ⟨p, hp, (takes_zero h1 hk).2 h⟩
theorem taken_iff {l : List Pt} {k : Nat} (h1 : 1 ≤ k) (hk : k ≤ 2147483648) : k ∈ takenL l ↔ clashL (wbM k) l = true := by
  unfold takenL clashL
  rw [List.mem_flatMap, List.any_eq_true]
  refine exists_congr fun p => and_congr_right fun _ => ?_
  unfold takenP clashP clashH
  rw [List.mem_append, Bool.or_eq_true, takenB_iff h1 hk, List.mem_flatMap, List.any_eq_true, or_comm]
  refine or_congr Iff.rfl (exists_congr fun f => and_congr_right fun _ => ?_)
  exact takenH_iff h1 hk
end Wb
namespace Wb
open Go Go.RowKit Go.Deep Go.ChangeShapes Go.WideShapes
abbrev PtV := (Option Addr × Nat) × (List Pr × ByteArray)
def ptOf (x : PtV) : Pt := (x.2.1.map ofPr, x.2.2.data.toList)
def ptsOf (L : List PtV) : List Pt := L.map ptOf
def cellsP (L : List PtV) : List Value := L.flatMap fun x => [.slice x.1.1 x.2.1.length x.1.2, .string x.2.2]
theorem cellsP_nil : cellsP [] = [] := rfl
theorem cellsP_cons (p : PtV) (l : List PtV) : cellsP (p :: l) = .slice p.1.1 p.2.1.length p.1.2 :: .string p.2.2 :: cellsP l := rfl
theorem cellsP_append (a b : List PtV) : cellsP (a ++ b) = cellsP a ++ cellsP b := by simp [cellsP]
theorem cellsP_at : ∀ (l : List PtV) (k : Nat) (x : PtV), l[k]? = some x → (cellsP l)[k * 2]? = some (.slice x.1.1 x.2.1.length x.1.2) ∧ (cellsP l)[k * 2 + 1]? = some (.string x.2.2)
  | [], k, x, h => by simp at h
  | p :: l, 0, x, h => by simp at h; subst h; simp [cellsP_cons]
  | p :: l, k + 1, x, h => by
    have := cellsP_at l k x (by simpa using h)
    rw [cellsP_cons, show (k + 1) * 2 = k * 2 + 1 + 1 from by omega]
    simpa using this
theorem cellsP_one (l : List PtV) : ∀ u ∈ cellsP l, u.oneCell' = true := by
  intro u hu
  simp only [cellsP, List.mem_flatMap] at hu
  obtain ⟨p, _, hp⟩ := hu
  simp at hp
  rcases hp with rfl | rfl <;> rfl
def SlP (w : World) (A : Option Addr) (L : List PtV) : Prop := Sl w 2 A L.length (cellsP L) ∧ ∀ x ∈ L, Sl2 w x.1.1 x.2.1
theorem SlP.nil (w : World) (A : Option Addr) : SlP w A [] := ⟨Sl.nil w 2 A, fun x hx => by cases hx⟩
theorem SlP.below {w w' : World} {A : Option Addr} {L : List PtV} (h : SlP w A L) (hb : Below w.heap.size w w') : SlP w' A L := ⟨h.1.below hb, fun x hx => (h.2 x hx).below hb⟩
theorem SlP.at_ {w : World} {A : Option Addr} {L : List PtV} (h : SlP w A L) {k : Nat} {x : PtV} (hx : L[k]? = some x) :
    ∃ ad, A = some ad ∧ ad.block < w.heap.size ∧ w.cell? (ad.add (k * 2)) = some (.slice x.1.1 x.2.1.length x.1.2) ∧ w.cell? ⟨(ad.add (k * 2)).block, (ad.add (k * 2)).off + 1, none⟩ = some (.string x.2.2) ∧ Sl2 w x.1.1 x.2.1 := by
  have hk : k < L.length := (List.getElem?_eq_some_iff.1 hx).1
  obtain ⟨ad, e, hb, hc⟩ := h.1.2 (by omega)
  obtain ⟨h1, h2⟩ := cellsP_at L k x hx
  refine ⟨ad, e, hb, hc _ _ h1, ?_, h.2 x (List.mem_of_getElem? hx)⟩
  rw [← hc _ _ h2, add_succ _ _ 1 (by omega)]
section
variable {H : Type} {enc : TypeId × Value → H} {P : Program} {W : World} {base : Nat} {spare : Nat → Bool} {held : Bool}
end
end Wb
namespace Wb
open Go
theorem dec_digs : ∀ n, 1 ≤ n → Lib.decDigits n = digs n := by
  intro n
  induction n using Nat.strongRecOn with
  | _ n ih =>
    intro h
    by_cases h10 : n < 10
    · rw [Lib.decDigits, dif_pos h10, digs, dif_neg (show ¬ n = 0 by omega), show n / 10 = 0 from by omega, show n % 10 = n from by omega, show digs 0 = [] from by rw [digs, dif_pos rfl]]
      rfl
    · rw [Lib.decDigits, dif_neg h10, ih (n / 10) (by omega) (by omega)]
      conv => rhs; rw [digs, dif_neg (show ¬ n = 0 by omega)]
end Wb
namespace Go.Proofs.YtmabhbihgenmcaaGreatDoor
open Go.RowKit Wb Go.Sort Go.Lib
def GvP (w : World) : Prop := GvF w ∧ Lib.TabIs Tryz.prog w "internal/strconv.uint64pow10" .u64 Lib.pow10Tab
theorem GvP.next {w w' : World} (h : GvP w) (hb : Below w.heap.size w w') : GvP w' :=
  ⟨h.1.next hb, Go.Joins.tab_stays (g := 0) (by kernel_rfl) h.2 hb (Nat.le_refl _)⟩
set_option maxHeartbeats 4000000 in
set_option maxRecDepth 100000 in
theorem fmtin_any (u : Nat) (w : World) (hu0 : 1 ≤ u) (hu64 : u < 18446744073709551616) (hG : GvP w) :
    Calls Tryz.prog 52 #[.int .u64 u, .int .i64 10] w fun e w' => e = .returned (.string ⟨(digs u).toArray⟩) ∧ Below w.heap.size w w' := by
  rw [← dec_digs u hu0]
  by_cases hs : u < 100
  · have h1 := fun (v : World) => Tryz.internal_strconv_small u hs v
    have iu : (u : Int) < 100 := by omega
    go_enter Tryz.func52, Tryz.ntmps52
    go_wp2_with fail
    refine (h1 _).mono ?_
    rintro e w' ⟨rfl, rfl⟩
    clear h1
    go_wp2
    go_ret
    exact ⟨rfl, Below.refl _ _⟩
  · have hnd20 : Lib.nDigits u ≤ 20 := by have := Lib.numDigits_eq u hu0 hu64; split at this <;> omega
    have hal : Tryz.prog.arrayLen 114 = 24 := by kernel_rfl
    have hel : Tryz.prog.elem 114 = 5 := by kernel_rfl
    have hsl : ∀ W, (Instr.sliceAt 114 (.pointer (some ⟨w.heap.size, 0, none⟩)) none (some (.int .i64 (Lib.nDigits u : Int))) none).run Tryz.prog W = .ok (.slice (some ⟨w.heap.size, 0, none⟩) (Lib.nDigits u) 24) W := fun W => by
      rw [run_sliceAt_array_h W 114 ⟨w.heap.size, 0, none⟩ (by rw [hel]; rfl) .i64 (Lib.nDigits u : Int) (by omega) (by rw [hal]; omega)]
      go_simp
    have hH0 := Lib.holds_zero0 w 114 (Lib.nDigits u) (by omega)
    have hfmt := Tryz.internal_strconv_formatBase10 w.heap.size 0 24 u (Array.replicate (Lib.nDigits u) 0) (w.alloc (.cells Lib.zeros24 114)) hH0 (by rw [Array.size_replicate]; exact Lib.lt_pow_nDigits u) hu64 (by rw [Array.size_replicate]; omega)
    rw [Array.size_replicate] at hfmt
    have hnum := Tryz.internal_strconv_numDigits u hu0 hu64 (w.alloc (.cells Lib.zeros24 114)) (Lib.tabIs_alloc hG.2 _)
    have HH0 := Lib.hid hH0
    have iu : ¬ (u : Int) < 100 := by omega
    clear hH0 hal
    go_enter Tryz.func52, Tryz.ntmps52
    go_wp2_with fail
    refine hnum.mono ?_
    rintro e w' ⟨rfl, rfl⟩
    clear hnum
    go_wp2_with fail
    refine hfmt.mono ?_
    rintro e w' ⟨rfl, k, v', dk, rfl, hF⟩
    have hcv : (convert 49 9 (.slice (some ⟨w.heap.size, 0, none⟩) (Lib.nDigits u) 24)).run Tryz.prog ((putRow (fun (b : UInt8) => Value.int .u8 (b.toNat : Int)) (w.alloc (.cells Lib.zeros24 114)) w.heap.size 0 dk).drewN k) = .ok (.string ⟨(Lib.decDigits u).toArray⟩) ((putRow (fun (b : UInt8) => Value.int .u8 (b.toNat : Int)) (w.alloc (.cells Lib.zeros24 114)) w.heap.size 0 dk).drewN k) := by
      have h := run_convert_bytes_back (P := Tryz.prog) ((putRow (fun (b : UInt8) => Value.int .u8 (b.toNat : Int)) (w.alloc (.cells Lib.zeros24 114)) w.heap.size 0 dk).drewN k) 49 9 5 ⟨w.heap.size, 0, none⟩ 24 (Lib.decDigits u) Tryz.underlying49 Tryz.underlying5 Tryz.underlying9 (fun j hj => by
        rw [Lib.row_is_numeral hF j hj, Lib.add_plain, World.cell?_drewN]
        exact cell?_putRow (fun (b : UInt8) => Value.int .u8 (b.toNat : Int)) _ w.heap.size 0 _ dk HH0.out (by rw [hF.size, Array.size_replicate]) j (by rw [hF.size]; rw [Lib.decDigits_length] at hj; exact hj))
      rw [Lib.decDigits_length] at h
      exact h
    obtain ⟨os, eo⟩ := Lib.fin_at w (.cells Lib.zeros24 114) dk k 0
    have hb : Below w.heap.size w ((putRow (fun (b : UInt8) => Value.int .u8 (b.toNat : Int)) (w.alloc (.cells Lib.zeros24 114)) w.heap.size 0 dk).drewN k) := by rw [eo]; exact Lib.below_grow _ w (Nat.le_refl _) k os
    generalize (putRow (fun (b : UInt8) => Value.int .u8 (b.toNat : Int)) (w.alloc (.cells Lib.zeros24 114)) w.heap.size 0 dk).drewN k = w2 at *
    have HB := Lib.hid hb
    clear eo hF hfmt hb
    go_wp2
    go_ret
    exact ⟨rfl, HB.out⟩
theorem fmtu_any (u : Nat) (w : World) (hu0 : 1 ≤ u) (hu64 : u < 18446744073709551616) (hG : GvP w) :
    Calls Tryz.prog 30 #[.int .u64 u, .int .i64 10] w fun e w' => e = .returned (.string ⟨(digs u).toArray⟩) ∧ Below w.heap.size w w' := by
  have h1 := fmtin_any u w hu0 hu64 hG
  go_enter Tryz.func30, Tryz.ntmps30
  go_wp2_with fail
  refine h1.mono ?_
  rintro e w1 ⟨rfl, hb⟩
  have HB := Lib.hid hb
  clear hb h1
  go_wp2
  go_ret
  exact ⟨rfl, HB.out⟩
end Go.Proofs.YtmabhbihgenmcaaGreatDoor
