
/- Contract: Declare. -/
import Derived.Test.YtkcpkgegkmockaaQnJ
namespace Go.Proofs.Ytkcpkgegkmockaa
open Go.RowKit Wb Go.Maps

theorem raw_info : (Try.prog.info? 61).map (fun i => (i.zero, i.size, i.bytes)) = some (some (.agg #[.string ⟨#[]⟩, .string ⟨#[]⟩]), 2, 32) := by kernel_rfl

/-- What Declare leaves. -/
def DeclPost (sc l : List Pr) (w : World) (e : Ending) (w' : World) : Prop :=
  Below w.heap.size w w' ∧ ∀ r, r = declL l [] [] [] → match r with
    | .ok (binds, rest) => ∃ C k D m, e = .returned (.tuple #[.slice C (sc ++ binds).length k, .slice D rest.length m, .int .i64 0]) ∧ Sl2 w' C (sc ++ binds) ∧ Sl2 w' D rest
    | .error er => er ≠ 0 ∧ e = .returned (.tuple #[.slice none 0 0, .slice none 0 0, .int .i64 er])

theorem DeclPost.bad {sc l : List Pr} {w w' : World} {er : Int} (h : declL l [] [] [] = .error er) (h0 : er ≠ 0) (hb : Below w.heap.size w w') : DeclPost sc l w (.returned (.tuple #[.slice none 0 0, .slice none 0 0, .int .i64 er])) w' := by
  refine ⟨hb, fun r hr => ?_⟩
  rw [h] at hr; subst hr
  exact ⟨h0, rfl⟩
theorem DeclPost.ok {sc l : List Pr} {w w' : World} {binds rest : List Pr} {C D : Option Addr} {k m N : Nat} (hN : N = (sc ++ binds).length) (h : declL l [] [] [] = .ok (binds, rest)) (hC : Sl2 w' C (sc ++ binds)) (hD : Sl2 w' D rest) (hb : Below w.heap.size w w') :
    DeclPost sc l w (.returned (.tuple #[.slice C N k, .slice D rest.length m, .int .i64 0])) w' := by
  subst hN
  refine ⟨hb, fun r hr => ?_⟩
  rw [h] at hr; subst hr
  exact ⟨C, k, D, m, rfl, hC, hD⟩

theorem seen_any (seen : List ByteArray) (p : ByteArray) : (seen.map (fun y => (sXMLNS, y))).any (fun y => eqP y (sXMLNS, p)) = seen.any (fun y => eqT y p) := by
  rw [List.any_map]
  congr 1
  funext y
  show (eqT sXMLNS sXMLNS && eqT y p) = eqT y p
  rw [eqT_self, Bool.true_and]

set_option maxHeartbeats 4000000 in
set_option maxRecDepth 100000 in
theorem declare_any (A B : Option Addr) (sc l : List Pr) (c d : Nat) (w : World) (hsl : sc.length ≤ 1000000) (hl : l.length ≤ 1000000)
    (hs2 : ∀ x ∈ l, x.1.size ≤ 1000000000) (hA : Sl2 w A sc) (hB : Sl2 w B l) :
    Calls Try.prog 21 #[.slice A sc.length c, .slice B l.length d] w (DeclPost sc l w) := by
  obtain ⟨i0, hi, hz0, hz1, hz2⟩ := info_parts bind_info
  obtain ⟨i1, hj, hy0, hy1, hy2⟩ := info_parts raw_info
  have hmm := @run_makeMap Try.prog
  go_enter Try.func21, Try.ntmps21
  go_wp2
  go_loopw [7, 8, 19] (fun v u i wr => ∃ (k : Nat) (seen : List ByteArray) (binds rest : List Pr), k ≤ l.length ∧ i = .int .i64 k ∧ binds.length ≤ k ∧ rest.length ≤ k ∧
      wr.ownsRow (w.heap.size + 1) 35 2 v binds.length (cells2 binds) ∧ wr.ownsRow (w.heap.size + 1) 61 2 u rest.length (cells2 rest) ∧ SetW wr w.heap.size k (seen.map (fun y => (sXMLNS, y))) ∧
      Hid (declL l [] [] [] = declL (l.drop k) seen binds rest) ∧ Below w.heap.size w wr ∧ w.heap.size + 1 ≤ wr.heap.size) (fun _ _ i _ => ((l.length : Int) - intOf i).toNat)
  case atStart => exact ⟨0, [], [], [], by omega, rfl, by simp, by simp, World.ownsRow_nil _ _ _ _, World.ownsRow_nil _ _ _ _, SetW.made w, Lib.hid rfl, (Below.refl _ _).alloc (Nat.le_refl _) _, by simp⟩
  case round =>
    obtain ⟨k, seen, binds, rest, hk, rfl, hbl, hrl, hown, hrest, hS, HL, hb, hw⟩ := hrel
    by_cases h0 : k < l.length
    · obtain ⟨⟨x1, x2⟩, he⟩ : ∃ x, l[k]? = some x := ⟨l[k], List.getElem?_eq_getElem (by omega)⟩
      obtain ⟨ad, rfl, had, c1, c2⟩ := (hB.below hb).at_ he
      have hx1 := hs2 _ (List.mem_of_getElem? he)
      simp only at hx1
      have HE := Lib.hid he
      clear he
      rcases declE_spec x1 with ⟨hE, hD⟩ | ⟨hE, hD, hn⟩ | ⟨p, hE, hD, hn⟩
      · -- no declaration
        have HX := Lib.hid hE
        have HT : Hid (declL l [] [] [] = declL (l.drop (k + 1)) seen binds (rest ++ [(x1, x2)])) := HL.out.trans (declL_rest HE.out hD)
        clear hE hD HL
        go_wp2_with fail
        refine (declared_any x1 _ hx1).mono ?_
        rw [HX.out]
        rintro e w2 ⟨rfl, hb2⟩
        have HB := Lib.hid (kept_block hb2)
        replace hb2 := of_alloc hb2
        have hb3 := hb.trans (hb2.mono hb.size)
        have hown2 := own_below hown hb2
        have hrest2 := own_below hrest hb2
        have hS2 := hS.below hb2
        have hw2 : w.heap.size + 1 ≤ w2.heap.size := Nat.le_trans hw hb2.size
        have e1 := blk_cell HB.out 0
        have e2 := blk_cell HB.out 1
        simp only [List.getElem?_toArray, List.getElem?_cons_zero, List.getElem?_cons_succ] at e1 e2
        clear hown hrest hS hb2
        go_wp2_with (at_builtin; refine wpList_append_sl _ rfl _ _ _ rfl (w.heap.size + 1) 61 i1 _ 2 32 Try.underlying46 hj hy0 hy1 hy2 rfl (by omega) _ rest.length (cells2 rest) rfl (hrest2.alloc _) (some ⟨w2.heap.size, 0, none⟩) 1 1 [.string x1, .string x2] rfl (Sl.lit w2 2 [.string x1, .string x2] _ 1 rfl) (cells2_one [(x1, x2)]) (by simp only [maxLen]; omega) (by omega) (by simp; omega) ?_; intro v4 w4 hown4 hg4 hat4)
        have hb5 : Below w.heap.size w w4 := (hb3.alloc hb3.size _).grown hg4 (hb3.alloc hb3.size _).size (fun g hg => by have := (hrest2.lt g hg).1; omega)
        have hS5 : SetW w4 w.heap.size k (seen.map (fun y => (sXMLNS, y))) := (hS2.below ((Below.refl _ w2).alloc (Nat.le_refl _) _)).grown hg4 (fun h => by have := (hrest2.lt _ h.symm).1; omega)
        have hown5 := own_beside (hown2.alloc (.cells #[.string x1, .string x2] 61)) (hrest2.alloc (.cells #[.string x1, .string x2] 61)) (by decide) hg4
        have hw4 : w.heap.size + 1 ≤ w4.heap.size := by have := hg4.size; simp at this; omega
        clear hg4 hat4 hown2 hrest2 hS2
        go_roundw
        case rel => exact ⟨k + 1, seen, binds, rest ++ [(x1, x2)], by omega, by go_num, by omega, by simp; omega, hown5, by simpa [cells2_append, cells2] using hown4, hS5.mono (by omega), HT, hb5, hw4⟩
        case measure => simp [intOf]; omega
      · -- no name
        have HX := Lib.hid hE
        have HT := Lib.hid (HL.out.trans (declL_12 HE.out hD hn))
        clear hE hD HL hn
        go_wp2_with fail
        refine (declared_any x1 _ hx1).mono ?_
        rw [HX.out]
        rintro e w2 ⟨rfl, hb2⟩
        replace hb2 := of_alloc hb2
        have hb3 := hb.trans (hb2.mono hb.size)
        go_wp2
        go_ret3
        exact DeclPost.bad HT.out (by decide) hb3
      · have HX := Lib.hid hE
        have hps : p.size ≤ 1000000000 := by have := declB_size (n := x1); rw [hD] at this; simp only at this; omega
        have HD := Lib.hid hD
        have HNN := Lib.hid hn
        clear hE hD hn
        go_wp2_with fail
        refine (declared_any x1 _ hx1).mono ?_
        rw [HX.out]
        rintro e w2 ⟨rfl, hb2⟩
        have HB := Lib.hid (kept_block hb2)
        replace hb2 := of_alloc hb2
        have hb3 := hb.trans (hb2.mono hb.size)
        have hown2 := own_below hown hb2
        have hrest2 := own_below hrest hb2
        have hS2 := hS.below hb2
        have hw2 : w.heap.size + 1 ≤ w2.heap.size := Nat.le_trans hw hb2.size
        clear hown hrest hS hb2
        go_wp2_with fail
        refine (nadd_any w.heap.size k _ sXMLNS p _ hS2 (by omega) (by decide) hps).mono ?_
        rintro e w3 ⟨hg3, cc, rfl, hcc, hS3⟩
        have HX3 := Lib.hid (grown_block HB.out hg3 (by have := (Array.getElem?_eq_some_iff.1 HB.out).1; simp; omega))
        have hb4 : Below w.heap.size w w3 := hb3.grown hg3 hb3.size (by simp)
        have hown3 := hown2.kept hg3 (own_ne hown2 (Nat.lt_succ_self _))
        have hrest3 := hrest2.kept hg3 (own_ne hrest2 (Nat.lt_succ_self _))
        have hw3 : w.heap.size + 1 ≤ w3.heap.size := Nat.le_trans hw2 hg3.size
        have e2 := blk_cell HX3.out 1
        simp only [List.getElem?_toArray, List.getElem?_cons_zero, List.getElem?_cons_succ] at e2
        rw [seen_any] at hcc
        clear hown2 hrest2 hS2 hb3 hg3
        cases cc
        · have HT := Lib.hid (HL.out.trans (declL_14 HE.out HD.out HNN.out (by simpa using hcc)))
          clear hcc HL hS3
          go_wp2
          go_ret3
          exact DeclPost.bad HT.out (by decide) hb4
        · have HC : Hid (seen.any (fun y => eqT y p) = false) := Lib.hid (by simpa using hcc)
          replace hS3 := hS3 rfl
          clear hcc
          obtain ⟨b, hbd⟩ : ∃ b, bindB p x2 = b := ⟨_, rfl⟩
          have HBD := Lib.hid hbd
          clear hbd
          go_wp2_with fail
          refine (bind_any p x2 _ hps).mono ?_
          rw [HBD.out]
          rintro e w5 ⟨rfl, hb5⟩
          have HX5 := Lib.hid (still_block HX3.out hb5)
          have hown5 := own_below hown3 hb5
          have hrest5 := own_below hrest3 hb5
          have hS5 := hS3.below hb5
          have hw5 : w.heap.size + 1 ≤ w5.heap.size := Nat.le_trans hw3 hb5.size
          have hb6 := hb4.trans (hb5.mono hb4.size)
          have e3 := blk_cell HX5.out 1
          simp only [List.getElem?_toArray, List.getElem?_cons_zero, List.getElem?_cons_succ] at e3
          clear hown3 hrest3 hS3 hb5 e2
          by_cases hb0 : b = 0
          · subst hb0
            have HT := Lib.hid (HL.out.trans (declL_step HE.out HD.out HNN.out HC.out HBD.out))
            clear HL
            go_wp2_with (at_builtin; refine wpList_append_sl _ rfl _ _ _ rfl (w.heap.size + 1) 35 i0 _ 2 32 Try.underlying26 hi hz0 hz1 hz2 rfl (by omega) _ binds.length (cells2 binds) rfl (hown5.alloc _) (some ⟨w5.heap.size, 0, none⟩) 1 1 [.string p, .string x2] rfl (Sl.lit w5 2 [.string p, .string x2] _ 1 rfl) (cells2_one [(p, x2)]) (by simp only [maxLen]; omega) (by omega) (by simp; omega) ?_; intro v7 w7 hown7 hg7 hat7)
            have hb8 : Below w.heap.size w w7 := (hb6.alloc hb6.size _).grown hg7 (hb6.alloc hb6.size _).size (fun g hg => by have := (hown5.lt g hg).1; omega)
            have hS8 : SetW w7 w.heap.size (k + 1) ((seen ++ [p]).map (fun y => (sXMLNS, y))) := by
              rw [List.map_append]
              exact (hS5.below ((Below.refl _ w5).alloc (Nat.le_refl _) _)).grown hg7 (fun h => by have := (hown5.lt _ h.symm).1; omega)
            have hrest8 := own_beside (hrest5.alloc (.cells #[.string p, .string x2] 35)) (hown5.alloc (.cells #[.string p, .string x2] 35)) (by decide) hg7
            have hw7 : w.heap.size + 1 ≤ w7.heap.size := by have := hg7.size; simp at this; omega
            clear hg7 hat7 hown5 hrest5 hS5
            go_roundw
            case rel => exact ⟨k + 1, seen ++ [p], binds ++ [(p, x2)], rest, by omega, by go_num, by simp; omega, by omega, by simpa [cells2_append, cells2] using hown7, hrest8, hS8, HT, hb8, hw7⟩
            case measure => simp [intOf]; omega
          · have hb0' : (b != 0) = true := by simpa using hb0
            have HT := Lib.hid (HL.out.trans (declL_bind HE.out HD.out HNN.out HC.out HBD.out hb0))
            clear HL
            go_wp2
            go_ret3
            exact DeclPost.bad HT.out hb0 hb6
    · have HT := Lib.hid (HL.out.trans (declL_end (by omega)))
      obtain ⟨C, kk, rfl, hC, _⟩ := own2 binds hown rfl rfl
      obtain ⟨D, mm, rfl, hD, _⟩ := own2 rest hrest rfl rfl
      go_wp2_with fail
      refine (extend_any A C sc binds c kk _ hsl (by omega) (hA.below hb) hC).mono ?_
      rintro e w2 ⟨E, ee, rfl, hE, _, hb2⟩
      go_wp2
      go_ret3
      exact DeclPost.ok (by simp) HT.out hE (hD.below hb2) (hb.trans (hb2.mono hb.size))
end Go.Proofs.Ytkcpkgegkmockaa
