
/- Contracts: Attrs on both sides. -/
import Derived.Test.YtkcpkgegkmockaaQnH
import Derived.Test.YtkcpkgegkmockaaMem2
namespace Go.Proofs.Ytkcpkgegkmockaa
open Go.RowKit Wb Go.Maps

theorem attr_info : (Try.prog.info? 63).map (fun i => (i.zero, i.size, i.bytes)) = some (some (.agg #[.string ⟨#[]⟩, .string ⟨#[]⟩, .string ⟨#[]⟩]), 3, 48) := by kernel_rfl

theorem own3 {w : World} {base n : Nat} {e : TypeId} {v : Value} {xs : List Value} (l : List Tr) (h : w.ownsRow base e 3 v n xs) (hn : n = l.length) (hx : xs = cells3 l) :
    ∃ A c, v = .slice A l.length c ∧ Sl3 w A l := by
  subst hn; subst hx
  obtain ⟨A, c, rfl⟩ := own_shape h
  exact ⟨A, c, rfl, Sl3.of_own h⟩

/-- What Attrs leaves. -/
def AttrsPost (sc l : List Pr) (w : World) (e : Ending) (w' : World) : Prop :=
  Below w.heap.size w w' ∧ ∀ r, r = attrL sc l [] → match r with
    | .ok out => ∃ C k, e = .returned (.tuple #[.slice C out.length k, .int .i64 0]) ∧ Sl3 w' C out
    | .error er => er ≠ 0 ∧ e = .returned (.tuple #[.slice none 0 0, .int .i64 er])

theorem AttrsPost.bad {sc l : List Pr} {w w' : World} {er : Int} (h : attrL sc l [] = .error er) (h0 : er ≠ 0) (hb : Below w.heap.size w w') : AttrsPost sc l w (.returned (.tuple #[.slice none 0 0, .int .i64 er])) w' := by
  refine ⟨hb, fun r hr => ?_⟩
  rw [h] at hr; subst hr
  exact ⟨h0, rfl⟩
theorem AttrsPost.ok {sc l : List Pr} {w w' : World} {out : List Tr} {C : Option Addr} {k : Nat} (h : attrL sc l [] = .ok out) (hC : Sl3 w' C out) (hb : Below w.heap.size w w') : AttrsPost sc l w (.returned (.tuple #[.slice C out.length k, .int .i64 0])) w' := by
  refine ⟨hb, fun r hr => ?_⟩
  rw [h] at hr; subst hr
  exact ⟨C, k, rfl, hC⟩

set_option maxHeartbeats 4000000 in
set_option maxRecDepth 100000 in
theorem attrs_any (A B : Option Addr) (sc l : List Pr) (c d : Nat) (w : World) (hsl : sc.length ≤ 1000000) (hl : l.length ≤ 1000000)
    (hs1 : ∀ x ∈ sc, x.2.size ≤ 1000000000) (hs2 : ∀ x ∈ l, x.1.size ≤ 1000000000) (hA : Sl2 w A sc) (hB : Sl2 w B l) :
    Calls Try.prog 23 #[.slice A sc.length c, .slice B l.length d] w (AttrsPost sc l w) := by
  obtain ⟨i0, hi, hz0, hz1, hz2⟩ := info_parts attr_info
  have hmm := @run_makeMap Try.prog
  go_enter Try.func23, Try.ntmps23
  go_wp2
  go_loopw [6, 15] (fun v i wr => ∃ (k : Nat) (out : List Tr), k ≤ l.length ∧ i = .int .i64 k ∧ out.length = k ∧ wr.ownsRow (w.heap.size + 1) 63 3 v out.length (cells3 out) ∧ SetW wr w.heap.size k (out.map (·.1)) ∧
      Hid (attrL sc l [] = attrL sc (l.drop k) out) ∧ Below w.heap.size w wr ∧ w.heap.size + 1 ≤ wr.heap.size) (fun _ i _ => ((l.length : Int) - intOf i).toNat)
  case atStart => exact ⟨0, [], by omega, rfl, rfl, World.ownsRow_nil _ _ _ _, SetW.made w, Lib.hid rfl, (Below.refl _ _).alloc (Nat.le_refl _) _, by simp⟩
  case round =>
    obtain ⟨k, out, hk, rfl, hout, hown, hS, HL, hb, hw⟩ := hrel
    by_cases h0 : k < l.length
    · obtain ⟨⟨x1, x2⟩, he⟩ : ∃ x, l[k]? = some x := ⟨l[k], List.getElem?_eq_getElem (by omega)⟩
      obtain ⟨ad, rfl, _, c1, c2⟩ := (hB.below hb).at_ he
      have hx1 := hs2 _ (List.mem_of_getElem? he)
      simp only at hx1
      have HE := Lib.hid he
      clear he
      obtain ⟨n1, n2, er, hr⟩ : ∃ n1 n2 er, resB sc x1 true = ((n1, n2), er) := ⟨_, _, _, rfl⟩
      have HR := Lib.hid hr
      have hsz := resB_size (attr := true) (q := x1) (by omega : 64 ≤ 1000000000) hs1 hx1
      rw [hr] at hsz
      obtain ⟨y1, y2⟩ := hsz
      simp only at y1 y2
      clear hr
      go_wp2_with fail
      refine (resolve_any A sc c x1 true _ (by omega) hx1 ((hA.below hb).alloc _)).mono ?_
      rw [HR.out]
      rintro e w2 ⟨rfl, hb2⟩
      have HX := Lib.hid (kept_block hb2)
      replace hb2 := of_alloc hb2
      have hb3 := hb.trans (hb2.mono hb.size)
      by_cases her : er = 0
      · subst her
        have hown2 := own_below hown hb2
        have hS2 := (hS.below hb2).below ((Below.refl _ w2).alloc (Nat.le_refl _) (.cells #[.string n1, .string n2] 40))
        have hw2 : w.heap.size + 1 ≤ w2.heap.size := Nat.le_trans hw hb2.size
        clear hown hS hb2
        go_wp2_with fail
        refine (nadd_any w.heap.size k _ n1 n2 _ hS2 (by omega) y1 y2).mono ?_
        rintro e w3 ⟨hg3, cc, rfl, hcc, hS3⟩
        have HN := Lib.hid (grown_block (heap_alloc_new w2 _) hg3 (by simp; omega))
        have HX3 := Lib.hid (grown_block ((Below.heap_alloc w2 _ _ (Array.getElem?_eq_some_iff.1 HX.out).1).trans HX.out) hg3 (by simp; omega))
        have hb4 : Below w.heap.size w w3 := (hb3.alloc hb3.size _).grown hg3 (hb3.alloc hb3.size _).size (by simp)
        have hown3 := (hown2.alloc (.cells #[.string n1, .string n2] 40)).kept hg3 (own_ne hown2 (Nat.lt_succ_self _))
        have e1 := blk_cell HN.out 0
        have e2 := blk_cell HN.out 1
        have e3 := blk_cell HX3.out 1
        simp only [List.getElem?_toArray, List.getElem?_cons_zero, List.getElem?_cons_succ] at e1 e2 e3
        have hw23 : w2.heap.size ≤ w3.heap.size := by have := hg3.size; simp at this; omega
        clear hown2 hS2 hb3 hg3
        cases cc
        · have HT : Hid (attrL sc l [] = .error 14) := HL.out.trans (attrL_twice HE.out HR.out (by simpa using hcc))
          clear hcc HL hS3
          go_wp2
          go_ret2
          exact AttrsPost.bad HT.out (by decide) hb4
        · have HT : Hid (attrL sc l [] = attrL sc (l.drop (k + 1)) (out ++ [((n1, n2), x2)])) := HL.out.trans (attrL_step HE.out HR.out (by simpa using hcc))
          replace hS3 := hS3 rfl
          have hw3 : w.heap.size + 1 ≤ w3.heap.size := Nat.le_trans hw2 hw23
          clear hcc HL
          go_wp2_with (at_builtin; refine wpList_append_sl _ rfl _ _ _ rfl (w.heap.size + 1) 63 i0 _ 3 48 Try.underlying52 hi hz0 hz1 hz2 rfl (by omega) _ out.length (cells3 out) rfl (hown3.alloc _) (some ⟨w3.heap.size, 0, none⟩) 1 1 [.string n1, .string n2, .string x2] rfl (Sl.lit w3 3 [.string n1, .string n2, .string x2] _ 1 rfl) (cells3_one [((n1, n2), x2)]) (by simp only [maxLen]; omega) (by omega) (by simp; omega) ?_; intro v4 w4 hown4 hg4 hat4)
          have hb5 : Below w.heap.size w w4 := (hb4.alloc hb4.size _).grown hg4 (hb4.alloc hb4.size _).size (fun g hg => by have := (hown3.lt g hg).1; omega)
          have hS5 : SetW w4 w.heap.size (k + 1) ((out ++ [((n1, n2), x2)]).map (·.1)) := by
            rw [List.map_append]
            exact (hS3.below ((Below.refl _ w3).alloc (Nat.le_refl _) _)).grown hg4 (fun h => by have := (hown3.lt _ h.symm).1; omega)
          have hw4 : w.heap.size + 1 ≤ w4.heap.size := by have := hg4.size; simp at this; omega
          clear hg4 hat4 hown3 hS3
          go_roundw
          case rel => exact ⟨k + 1, out ++ [((n1, n2), x2)], by omega, by go_num, by simp [hout], by simpa [cells3_append, cells3] using hown4, hS5, HT, hb5, hw4⟩
          case measure => simp [intOf]; omega
      · have her' : (er != 0) = true := by simpa using her
        have HT := Lib.hid (HL.out.trans (attrL_err HE.out HR.out her))
        go_wp2
        go_ret2
        exact AttrsPost.bad HT.out her (hb3.alloc hb3.size _)
    · have HT := Lib.hid (HL.out.trans (attrL_end (by omega)))
      obtain ⟨C, kk, rfl, hC⟩ := own3 out hown rfl rfl
      go_wp2
      go_ret2
      exact AttrsPost.ok HT.out hC hb
end Go.Proofs.Ytkcpkgegkmockaa
