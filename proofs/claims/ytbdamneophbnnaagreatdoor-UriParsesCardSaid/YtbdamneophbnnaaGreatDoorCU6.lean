/- QnD QnF Mem2 LeUn. -/
import Derived.Lib.Replace
import Derived.Lib.CountLaws
import Derived.Lib.IndexLaws
import Derived.Lib.IndexBytes
import Derived.Test.YtbdamneophbnnaaGreatDoorCU2
import Derived.Test.YtbdamneophbnnaaGreatDoorCU3
import Derived.Test.YtbdamneophbnnaaGreatDoorCU5
namespace Go.Proofs.YtbdamneophbnnaaGreatDoor
open Go.RowKit Wb
theorem name_info : (Tryz.prog.info? 44).map (·.size) = some 2 := by kernel_rfl
set_option maxHeartbeats 1000000 in
theorem resolve_any (A : Option Addr) (l : List Pr) (c : Nat) (q : ByteArray) (attr : Bool) (w : World) (hl : l.length ≤ 1000000000) (hq : q.size ≤ 1000000000) (hA : Sl2 w A l) :
    Calls Tryz.prog 138 #[.slice A l.length c, .string q, .bool attr] w fun e w' =>
      e = .returned (.tuple #[.agg #[.string (resB l q attr).1.1, .string (resB l q attr).1.2], .int .i64 (resB l q attr).2]) ∧ Below w.heap.size w w' := by
  obtain ⟨n1, n2, er, hr⟩ : ∃ n1 n2 er, resB l q attr = ((n1, n2), er) := ⟨_, _, _, rfl⟩
  have HR := Lib.hid hr
  rw [hr]
  clear hr
  obtain ⟨p, lo, ok, hsp⟩ : ∃ p lo ok, splitB q = (p, lo, ok) := ⟨_, _, _, rfl⟩
  have HS := Lib.hid hsp
  clear hsp
  have t1 : (p.toList == [120, 109, 108, 110, 115]) = eqT p sXmlns := lit_of p sXmlns _ rfl
  obtain ⟨b1, k1⟩ : ∃ b, eqT p sXmlns = b := ⟨_, rfl⟩
  obtain ⟨e1, h1⟩ : ∃ b, eqT p sE = b := ⟨_, rfl⟩
  obtain ⟨s, fo, hf⟩ : ∃ s fo, findB l p = (s, fo) := ⟨_, _, rfl⟩
  have HF := Lib.hid hf
  have HK := Lib.hid k1
  have H1 := Lib.hid h1
  rw [k1] at t1
  clear k1 hf h1
  go_enter Tryz.func138, Tryz.ntmps138
  go_wp2_with fail
  refine (split_any q _ hq).mono ?_
  rw [HS.out]
  rintro e w2 ⟨rfl, hb⟩
  have HB := Lib.hid (kept_block hb)
  have hA2 := hA.below (of_alloc hb)
  replace hb := of_alloc hb
  have c0 := blk_cell HB.out 0
  have c1 := blk_cell HB.out 1
  have f0 := blk_free HB.out 0
  have f1 := blk_free HB.out 1
  simp only [List.getElem?_toArray, List.getElem?_cons_zero, List.getElem?_cons_succ] at c0 c1
  cases ok
  · obtain ⟨r1, r2, r3⟩ := res_end HR.out (resB_bad attr HS.out)
    clear HR HS HF HK H1 t1
    subst r1 r2 r3
    go_wp2
    refine bodyPost_ret (results_cell2 rfl _ _ w.heap.size _ _ _ rfl (blk_set (blk_set HB.out 0 _) 1 _) Tryz.underlying44 rfl name_info) rfl ?_
    exact ⟨rfl, (hb.setCell (Nat.le_refl _) _).setCell (Nat.le_refl _) _⟩
  · by_cases ha : (attr && e1) = true
    · obtain ⟨rfl, rfl⟩ : attr = true ∧ e1 = true := by simpa using ha
      obtain ⟨r1, r2, r3⟩ := res_end HR.out (resB_bare HS.out H1.out)
      have hp0 := nil_of p H1.out
      clear HR HS HF HK H1 t1 ha
      subst r1 r2 r3
      go_wp2
      refine bodyPost_ret (results_cell2 rfl _ _ w.heap.size _ _ _ rfl (blk_set (blk_set HB.out 0 _) 1 _) Tryz.underlying44 rfl name_info) rfl ?_
      exact ⟨rfl, (hb.setCell (Nat.le_refl _) _).setCell (Nat.le_refl _) _⟩
    · have ha' : (attr && eqT p sE) = false := by rw [H1.out]; simpa using ha
      have HX := Lib.hid (HR.out.symm.trans (resB_full HS.out ha' HF.out HK.out))
      clear HR HS HK ha'
      have hor : attr = false ∨ (attr = true ∧ e1 = false) := by cases attr <;> cases e1 <;> simp_all
      clear ha
      rcases hor with rfl | ⟨rfl, rfl⟩
      all_goals
        try have hp0 := ne_nil p H1.out
        try have hp1 := ne_empty p H1.out
        go_wp2_with fail
        refine (find_any A l c p _ hl hA2).mono ?_
        rw [HF.out]
        rintro e w3 ⟨rfl, rfl⟩
        cases fo
        · obtain ⟨r1, r2, r3⟩ := res_end rfl HX.out
          clear HX HF H1
          subst r1 r2 r3
          go_wp2
          refine bodyPost_ret (results_cell2 rfl _ _ w.heap.size _ _ _ rfl (blk_set (blk_set HB.out 0 _) 1 _) Tryz.underlying44 rfl name_info) rfl ?_
          exact ⟨rfl, (hb.setCell (Nat.le_refl _) _).setCell (Nat.le_refl _) _⟩
        · cases b1
          all_goals
            obtain ⟨r1, r2, r3⟩ := res_end rfl HX.out
            clear HX HF H1
            subst r1 r2 r3
            go_wp2
            refine bodyPost_ret (results_cell2 rfl _ _ w.heap.size _ _ _ rfl (blk_set (blk_set HB.out 0 _) 1 _) Tryz.underlying44 rfl name_info) rfl ?_
            exact ⟨rfl, (hb.setCell (Nat.le_refl _) _).setCell (Nat.le_refl _) _⟩
end Go.Proofs.YtbdamneophbnnaaGreatDoor
namespace Go.Proofs.YtbdamneophbnnaaGreatDoor
open Go.RowKit Wb
theorem bind_info : (Tryz.prog.info? 80).map (fun i => (i.zero, i.size, i.bytes)) = some (some (.agg #[.string ⟨#[]⟩, .string ⟨#[]⟩]), 2, 32) := by kernel_rfl
def Fresh (B : Nat) (A : Option Addr) : Prop := ∀ ad, A = some ad → B ≤ ad.block
theorem Fresh.mono {B B' : Nat} {A : Option Addr} (h : Fresh B A) (hB : B' ≤ B) : Fresh B' A := fun ad e => Nat.le_trans hB (h ad e)
theorem own2 {w : World} {base n : Nat} {e : TypeId} {v : Value} {xs : List Value} (l : List Pr) (h : w.ownsRow base e 2 v n xs) (hn : n = l.length) (hx : xs = cells2 l) :
    ∃ A c, v = .slice A l.length c ∧ Sl2 w A l ∧ Fresh base A := by
  subst hn; subst hx
  obtain ⟨A, c, rfl⟩ := own_shape h
  refine ⟨A, c, rfl, Sl2.of_own h, fun ad e => ?_⟩
  subst e
  exact (h.lt ad.block rfl).1
set_option maxHeartbeats 1000000 in
set_option maxRecDepth 100000 in
theorem extend_any (A B : Option Addr) (l m : List Pr) (c d : Nat) (w : World) (hl : l.length ≤ 1000000) (hm : m.length ≤ 1000000) (hA : Sl2 w A l) (hB : Sl2 w B m) :
    Calls Tryz.prog 92 #[.slice A l.length c, .slice B m.length d] w fun e w' =>
      ∃ C k, e = .returned (.slice C (l ++ m).length k) ∧ Sl2 w' C (l ++ m) ∧ Fresh w.heap.size C ∧ Below w.heap.size w w' := by
  obtain ⟨i0, hi, hz0, hz1, hz2⟩ := info_parts bind_info
  go_enter Tryz.func92, Tryz.ntmps92
  go_wp2_with (at_make; refine wpList_make_own _ rfl _ _ 24 rfl w.heap.size 80 i0 _ 2 Tryz.underlying24 hi hz0 hz1 .i64 .i64 _ (l.length + m.length) rfl rfl ?b1 ?b2 ?b3 (Nat.le_refl _) ?_)
  case b1 => omega
  case b2 => rw [hz2]; omega
  case b3 => simp only [maxLen]; omega
  intro w1 hown1 hg1
  have hb1 : Below w.heap.size w w1 := (Below.refl _ _).grown hg1 (Nat.le_refl _) (by simp)
  go_wp2_with (first
    | (at_builtin; refine wpList_append_sl _ rfl (.tmp 12) (.tmp 13) _ rfl w.heap.size 80 i0 _ 2 32 Tryz.underlying24 hi hz0 hz1 hz2 rfl (by omega) _ 0 [] rfl hown1 A l.length c (cells2 l) rfl (hA.below hb1) (cells2_one l) (by simp only [maxLen]; omega) (by omega) hb1.size ?_; intro v2 w2 hown2 hg2 hat2; have hb2 : Below w.heap.size w w2 := hb1.grown hg2 hb1.size (fun k hk => (hown1.lt k hk).1))
    | (at_builtin; refine wpList_append_sl _ rfl (.tmp 14) (.tmp 15) _ rfl w.heap.size 80 i0 _ 2 32 Tryz.underlying24 hi hz0 hz1 hz2 rfl (by omega) _ _ _ rfl hown2 B m.length d (cells2 m) rfl (hB.below hb2) (cells2_one m) (by simp only [maxLen]; omega) (by omega) hb2.size ?_; intro v3 w3 hown3 hg3 hat3; have hb3 : Below w.heap.size w w3 := hb2.grown hg3 hb2.size (fun k hk => (hown2.lt k hk).1)))
  go_ret
  obtain ⟨C, k, rfl, hC, hF⟩ := own2 (l ++ m) hown3 (by simp) (by simp [cells2_append])
  exact ⟨C, k, rfl, hC, hF, hb3⟩
def AddPost (l : List Pr) (p s : ByteArray) (w : World) (e : Ending) (w' : World) : Prop :=
  Below w.heap.size w w' ∧ (∀ B, B = bindB p s → if B = 0 then ∃ C k, e = .returned (.tuple #[.slice C (l ++ [(p, s)]).length k, .int .i64 0]) ∧ Sl2 w' C (l ++ [(p, s)]) ∧ Fresh w.heap.size C
    else e = .returned (.tuple #[.slice none 0 0, .int .i64 B]))
theorem AddPost.ok {l : List Pr} {p s : ByteArray} {w w' : World} {C : Option Addr} {k : Nat} (h : bindB p s = 0) (hb : Below w.heap.size w w') (hC : Sl2 w' C (l ++ [(p, s)])) (hF : Fresh w.heap.size C) :
    AddPost l p s w (.returned (.tuple #[.slice C (l.length + 1) k, .int .i64 0])) w' := by
  refine ⟨hb, fun B hB => ?_⟩
  rw [if_pos (hB.trans h)]
  exact ⟨C, k, by simp, hC, hF⟩
theorem AddPost.bad {l : List Pr} {p s : ByteArray} {w w' : World} {b : Int} (h : bindB p s = b) (h0 : b ≠ 0) (hb : Below w.heap.size w w') :
    AddPost l p s w (.returned (.tuple #[.slice none 0 0, .int .i64 b])) w' := by
  refine ⟨hb, fun B hB => ?_⟩
  rw [if_neg (by rw [hB, h]; exact h0), hB, h]
set_option maxHeartbeats 1000000 in
theorem add_any (A : Option Addr) (l : List Pr) (c : Nat) (p s : ByteArray) (w : World) (hl : l.length ≤ 1000000) (hp : p.size ≤ 1000000000) (hA : Sl2 w A l) :
    Calls Tryz.prog 62 #[.slice A l.length c, .string p, .string s] w (AddPost l p s w) := by
  obtain ⟨b, hb0⟩ : ∃ b, bindB p s = b := ⟨_, rfl⟩
  have HB := Lib.hid hb0
  clear hb0
  go_enter Tryz.func62, Tryz.ntmps62
  go_wp2_with fail
  refine (bind_any p s w hp).mono ?_
  rw [HB.out]
  rintro e w2 ⟨rfl, hb⟩
  by_cases h0 : b = 0
  · subst h0
    go_wp2_with fail
    refine (extend_any A (some ⟨w2.heap.size, 0, none⟩) l [(p, s)] c 1 _ hl (by simp) ((hA.below hb).alloc _) (Sl.lit w2 2 [.string p, .string s] _ 1 rfl)).mono ?_
    rintro e w3 ⟨C, k, rfl, hC, hF, hb3⟩
    have hF' : Fresh w.heap.size C := hF.mono (by have := hb.size; simp; omega)
    replace hb := hb.trans ((of_alloc hb3).mono hb.size)
    go_wp2
    go_ret2
    exact AddPost.ok HB.out hb hC hF'
  · have h1 : (b != 0) = true := by simpa using h0
    go_wp2
    go_ret2
    exact AddPost.bad HB.out h0 hb
end Go.Proofs.YtbdamneophbnnaaGreatDoor
namespace Wb
open Go Go.RowKit
theorem own_below {w w2 : World} {base sz n : Nat} {e : TypeId} {v : Value} {xs : List Value} (h : w.ownsRow base e sz v n xs) (hb : Below w.heap.size w w2) : w2.ownsRow base e sz v n xs := by
  refine ⟨h.1, ?_⟩
  rcases h.2 with hn | ⟨g, cap, cur, rfl, hbg, hg, rest⟩
  · exact .inl hn
  · exact .inr ⟨g, cap, cur, rfl, hbg, still_block hg hb, rest⟩
theorem grown_block {w w2 : World} {g : Nat} {o : Obj} {row : Option Nat} (h : w.heap[g]? = some o) (hg : w.grownBy w2 row) (hne : some g ≠ row) : w2.heap[g]? = some o :=
  (hg.block g (Array.getElem?_eq_some_iff.1 h).1 hne).trans h
theorem Sl.grown {w w2 : World} {sz n : Nat} {A : Option Addr} {xs : List Value} {row : Option Nat} (h : Sl w sz A n xs) (hg : w.grownBy w2 row) (hne : 0 < n → ∀ ad, A = some ad → some ad.block ≠ row) : Sl w2 sz A n xs := by
  refine ⟨h.1, fun hn => ?_⟩
  obtain ⟨ad, rfl, hb, hc⟩ := h.2 hn
  refine ⟨ad, rfl, Nat.lt_of_lt_of_le hb hg.size, fun j u hu => ?_⟩
  exact (World.cell?_of_block (hg.block _ (by rw [add_block]; exact hb) (by rw [add_block]; exact hne hn ad rfl))).trans (hc j u hu)
def cells1 (l : List ByteArray) : List Value := l.map Value.string
theorem cells1_at (l : List ByteArray) (k : Nat) (x : ByteArray) (h : l[k]? = some x) : (cells1 l)[k]? = some (.string x) := by
  unfold cells1; rw [List.getElem?_map, h]; rfl
theorem cells1_one (l : List ByteArray) : ∀ u ∈ cells1 l, u.oneCell' = true := by
  intro u hu
  obtain ⟨x, _, rfl⟩ := List.mem_map.1 hu
  rfl
def Sl1 (w : World) (A : Option Addr) (l : List ByteArray) : Prop := Sl w 1 A l.length (cells1 l)
theorem Sl1.below {w w' : World} {A : Option Addr} {l : List ByteArray} (h : Sl1 w A l) (hb : Below w.heap.size w w') : Sl1 w' A l := Sl.below h hb
theorem Sl1.at_ {w : World} {A : Option Addr} {l : List ByteArray} (h : Sl1 w A l) {k : Nat} {x : ByteArray} (hx : l[k]? = some x) :
    ∃ ad, A = some ad ∧ ad.block < w.heap.size ∧ w.cell? (ad.add k) = some (.string x) := by
  have hk : k < l.length := (List.getElem?_eq_some_iff.1 hx).1
  obtain ⟨ad, e, hb, hc⟩ := h.2 (by omega)
  exact ⟨ad, e, hb, hc _ _ (cells1_at l k x hx)⟩
end Wb
namespace Wb
open Go
theorem rall_nil {o n : List UInt8} (ho : o ≠ []) (hn : o ≠ n) : Lib.replaceAll [] o n = [] := by
  have hi : Lib.index [] o = -1 := by
    unfold Lib.index
    cases o with
    | nil => exact absurd rfl ho
    | cons c l => rfl
  unfold Lib.replaceAll Lib.replace Lib.replaceNum
  rw [if_neg (by simpa using hn), if_pos (.inl (by omega)), Lib.count_miss hi]
  rfl
theorem rall_unf {o n : List UInt8} (hn : o ≠ n) (s : List UInt8) : Lib.replaceAll s o n = Lib.replaceK o n (Lib.count s o) s := by
  unfold Lib.replaceAll Lib.replace Lib.replaceNum
  rw [if_neg (by simpa using hn), if_pos (.inl (by omega))]
theorem rall_hit {o n l : List UInt8} (ho : o ≠ []) (hn : o ≠ n) (h : o.isPrefixOf l = true) : Lib.replaceAll l o n = n ++ Lib.replaceAll (l.drop o.length) o n := by
  have hl : l ≠ [] := by
    rintro rfl
    cases o with
    | nil => exact ho rfl
    | cons c r => cases h
  have hi : Lib.index l o = (0 : Nat) := by
    cases l with
    | nil => exact absurd rfl hl
    | cons c l =>
      unfold Lib.index
      rw [if_pos h]
      rfl
  rw [rall_unf hn, rall_unf hn, Lib.count_hit ho hi, Nat.add_comm, Lib.replaceK_hit _ _ _ _ _ hi]
  simp
theorem rall_skip {o n l : List UInt8} {c : UInt8} (ho : o ≠ []) (hn : o ≠ n) (h : o.isPrefixOf (c :: l) = false) : Lib.replaceAll (c :: l) o n = c :: Lib.replaceAll l o n := by
  have e : Lib.index (c :: l) o = if Lib.index l o == -1 then -1 else Lib.index l o + 1 := by
    conv => lhs; unfold Lib.index
    rw [if_neg (by simp [h])]
  rcases Lib.index_spec l o with ⟨hi, _⟩ | ⟨i, hi, _, _, _⟩
  · rw [hi] at e
    have e' : Lib.index (c :: l) o = -1 := by simpa using e
    rw [rall_unf hn, rall_unf hn, Lib.count_miss hi, Lib.count_miss e']
    rfl
  · have e' : Lib.index (c :: l) o = ((i + 1 : Nat) : Int) := by
      rw [e, hi, if_neg (by simp)]
      rfl
    rw [rall_unf hn, rall_unf hn, Lib.count_hit ho hi, Lib.count_hit ho e', show i + 1 + o.length = (i + o.length) + 1 from by omega, List.drop_succ_cons, Nat.add_comm 1, Lib.replaceK_hit _ _ _ _ _ hi, Lib.replaceK_hit _ _ _ _ _ e']
    simp [show i + 1 + o.length = (i + o.length) + 1 from by omega]
def swapB (c d x : UInt8) : UInt8 := if x = c then d else x
theorem rall_one (c d : UInt8) (h : c ≠ d) : ∀ l : List UInt8, Lib.replaceAll l [c] [d] = l.map (swapB c d)
  | [] => rall_nil (by simp) (by simpa using h)
  | x :: l => by
    by_cases hx : x = c
    · subst hx
      rw [rall_hit (by simp) (by simpa using h) (by simp)]
      simp [rall_one x d h l, swapB]
    · rw [rall_skip (by simp) (by simpa using h) (by simp [List.isPrefixOf]; exact fun e => hx e.symm), rall_one c d h l]
      simp [swapB, hx]
theorem rall_crlf : ∀ (n : Nat) (l : List UInt8), l.length ≤ n → (Lib.replaceAll l [13, 10] [10]).map (swapB 13 10) = endsL l := by
  intro n
  induction n with
  | zero =>
    intro l hl
    obtain rfl : l = [] := List.eq_nil_of_length_eq_zero (by omega)
    rw [rall_nil (by simp) (by simp)]
    rfl
  | succ n ih =>
    intro l hl
    cases l with
    | nil =>
      rw [rall_nil (by simp) (by simp)]
      rfl
    | cons c l =>
      simp only [List.length_cons] at hl
      by_cases h : [13, 10].isPrefixOf (c :: l) = true
      · obtain ⟨r, hr⟩ := List.isPrefixOf_iff_prefix.1 h
        have hr' : c :: l = 13 :: 10 :: r := hr.symm
        rw [rall_hit (by simp) (by simp) h, hr']
        simp only [List.cons.injEq] at hr'
        have hrl : r.length ≤ n := by have := congrArg List.length hr'.2; simp at this; omega
        simp only [List.length_cons, List.length_nil, List.drop_succ_cons, List.drop_zero, List.cons_append, List.nil_append, List.map_cons]
        rw [ih r hrl]
        rfl
      · rw [Bool.not_eq_true] at h
        rw [rall_skip (by simp) (by simp) h, List.map_cons, ih l (by omega)]
        by_cases hc : c = 13
        · subst hc
          have h10 : ¬ l.take 1 = [10] := by
            intro e
            cases l with
            | nil => cases e
            | cons d l => simp at e; subst e; simp at h
          conv => rhs; unfold endsL
          rw [if_pos rfl, if_neg h10]
          rfl
        · conv => rhs; unfold endsL
          rw [if_neg hc]
          simp [swapB, hc]
def linesL (attr : Bool) (l : List UInt8) : List UInt8 := if attr then ((endsL l).map (swapB 10 32)).map (swapB 9 32) else endsL l
theorem endsL_len : ∀ l : List UInt8, (endsL l).length ≤ l.length
  | [] => Nat.le_refl _
  | c :: l => by
    have := endsL_len l
    unfold endsL
    split
    · split <;> (simp only [List.length_cons]; omega)
    · simp only [List.length_cons]; omega
theorem linesL_len (attr : Bool) (l : List UInt8) : (linesL attr l).length ≤ l.length := by
  have := endsL_len l
  unfold linesL
  split <;> simp <;> omega
theorem linesL_nil (attr : Bool) : linesL attr [] = [] := by cases attr <;> rfl
theorem linesL_crlf (attr : Bool) (l : List UInt8) : linesL attr (13 :: 10 :: l) = (if attr then 32 else 10) :: linesL attr l := by
  have e : endsL (13 :: 10 :: l) = 10 :: endsL l := by
    conv => lhs; unfold endsL
    rw [if_pos rfl, if_pos (by rfl)]
    conv => lhs; unfold endsL
    rw [if_neg (by decide)]
  unfold linesL
  rw [e]
  cases attr <;> rfl
theorem linesL_cr (attr : Bool) (l : List UInt8) (h : ¬ l.take 1 = [10]) : linesL attr (13 :: l) = (if attr then 32 else 10) :: linesL attr l := by
  have e : endsL (13 :: l) = 10 :: endsL l := by
    conv => lhs; unfold endsL
    rw [if_pos rfl, if_neg h]
  unfold linesL
  rw [e]
  cases attr <;> rfl
theorem linesL_cons (attr : Bool) (c : UInt8) (l : List UInt8) (h : c ≠ 13) : linesL attr (c :: l) = (if attr && (c == 9 || c == 10) then 32 else c) :: linesL attr l := by
  have e : endsL (c :: l) = c :: endsL l := by
    conv => lhs; unfold endsL
    rw [if_neg h]
  unfold linesL
  rw [e]
  cases attr
  · rfl
  · simp only [if_true, List.map_cons, Bool.true_and, List.cons.injEq, and_true]
    unfold swapB
    by_cases h10 : c = 10
    · subst h10; rfl
    · rw [if_neg h10]
      by_cases h9 : c = 9
      · subst h9; rfl
      · rw [if_neg h9, if_neg (by simp [h9, h10])]
theorem unL_seg (attr : Bool) (t : List UInt8) (ht : t = [] ∨ t.take 1 = [38]) : ∀ (n : Nat) (a : List UInt8), a.length ≤ n → (∀ b ∈ a, b ≠ 38) → ∀ (k g h : Nat), (a ++ t).length < g → t.length < h →
    unL attr g (a ++ t) k = (unL attr h t (k + a.length)).map (linesL attr a ++ ·) := by
  have h10 : ¬ t.take 1 = [10] := by
    rcases ht with rfl | e
    · simp
    · rw [e]; decide
  intro n
  induction n with
  | zero =>
    intro a ha _ k g h hg hh
    obtain rfl : a = [] := List.eq_nil_of_length_eq_zero (by omega)
    rw [List.nil_append, unL_fuel attr t.length t (Nat.le_refl _) g h k (by simpa using hg) hh, linesL_nil]
    simp only [List.length_nil, Nat.add_zero]
    cases unL attr h t k <;> rfl
  | succ n ih =>
    intro a ha hno k g h hg hh
    cases a with
    | nil =>
      rw [List.nil_append, unL_fuel attr t.length t (Nat.le_refl _) g h k (by simpa using hg) hh, linesL_nil]
      simp only [List.length_nil, Nat.add_zero]
      cases unL attr h t k <;> rfl
    | cons c l =>
      obtain ⟨g, rfl⟩ : ∃ g', g = g' + 1 := ⟨g - 1, by omega⟩
      simp only [List.length_cons, List.length_append] at ha hg
      have h38 := hno c (by simp)
      have hnl : ∀ b ∈ l, b ≠ 38 := fun b hb => hno b (by simp [hb])
      rw [List.cons_append]
      conv => lhs; unfold unL
      rw [if_neg h38]
      by_cases h13 : c = 13
      · subst h13
        rw [if_pos rfl]
        cases l with
        | nil =>
          rw [List.nil_append, if_neg h10, linesL_cr attr [] (by simp), linesL_nil, unL_fuel attr t.length t (Nat.le_refl _) g h (k + 1) (by simp at hg; omega) hh]
          rfl
        | cons d l =>
          by_cases hd : d = 10
          · subst hd
            simp only [List.length_cons] at ha hg
            rw [if_pos (by rfl), linesL_crlf]
            simp only [List.cons_append, List.drop_succ_cons, List.drop_zero]
            rw [ih l (by omega) (fun b hb => hnl b (by simp [hb])) (k + 2) g h (by simp; omega) hh, map_one]
            congr 2
            simp only [List.length_cons]
            omega
          · have hd' : ¬ (d :: l ++ t).take 1 = [10] := by simpa using hd
            rw [if_neg hd', linesL_cr attr (d :: l) (by simpa using hd), ih (d :: l) (by omega) hnl (k + 1) g h (by simp at hg ⊢; omega) hh, map_one]
            congr 2
            simp only [List.length_cons]
            omega
      · rw [if_neg h13, linesL_cons attr c l h13, ih l (by omega) hnl (k + 1) g h (by simp; omega) hh, map_one]
        congr 2
        simp only [List.length_cons]
        omega
theorem unL_seg_end (attr : Bool) (a : List UInt8) (hno : ∀ b ∈ a, b ≠ 38) (k g : Nat) (hg : a.length < g) : unL attr g a k = .ok (linesL attr a) := by
  have := unL_seg attr [] (.inl rfl) a.length a (Nat.le_refl _) hno k g 1 (by simpa using hg) (by simp)
  rw [List.append_nil] at this
  rw [this]
  simp [unL, Except.map]
def refX (b : List UInt8) : List UInt8 × Nat :=
  match semi b with
  | none => ([], 0)
  | some (t, _) => match refV t with
    | none => ([], 0)
    | some x => (x, t.length + 2)
theorem unL_amp_bad (attr : Bool) (b : List UInt8) (h k : Nat) (hz : (refX b).2 = 0) : unL attr (h + 1) (38 :: b) k = .error k := by
  unfold refX at hz
  unfold unL
  rw [if_pos rfl]
  cases hs : semi b with
  | none => rfl
  | some p =>
    obtain ⟨t, r⟩ := p
    rw [hs] at hz
    simp only at hz ⊢
    cases hv : refV t with
    | none => rfl
    | some x => rw [hv] at hz; simp at hz
theorem unL_amp_ok (attr : Bool) (b : List UInt8) (h k n : Nat) (x : List UInt8) (hz : refX b = (x, n)) (hn : n ≠ 0) :
    unL attr (h + 1) (38 :: b) k = (unL attr h ((38 :: b).drop n) (k + n)).map (x ++ ·) ∧ n ≤ b.length + 1 ∧ 2 ≤ n ∧ x ≠ [] := by
  unfold refX at hz
  cases hs : semi b with
  | none => rw [hs] at hz; simp only [Prod.mk.injEq] at hz; omega
  | some p =>
    obtain ⟨t, r⟩ := p
    have hd := semi_drop hs
    rw [hs] at hz
    simp only at hz
    cases hv : refV t with
    | none => rw [hv] at hz; simp only [Prod.mk.injEq] at hz; omega
    | some x' =>
      rw [hv] at hz
      simp only [Prod.mk.injEq] at hz
      obtain ⟨rfl, rfl⟩ := hz
      have hr : (38 :: b).drop (t.length + 2) = r := by
        rw [hd, List.drop_succ_cons, show t.length + 1 = (t ++ [59]).length from by simp, show t ++ 59 :: r = (t ++ [59]) ++ r from by simp, List.drop_left]
      refine ⟨?_, ?_, by omega, ?_⟩
      · rw [hr]
        conv => lhs; unfold unL
        rw [if_pos rfl, hs]
        simp only [hv]
        rfl
      · rw [hd]; simp
      · intro e
        subst e
        unfold refV at hv
        repeat' split at hv
        all_goals first | (simp at hv; done) | skip
        rename_i n0 _ hch
        simp only [Option.some.injEq] at hv
        exact Wb.enc_ne n0 (char_sgn n0 hch) hv
end Wb
