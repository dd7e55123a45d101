
/- Contract: the reference's Declare. -/
import Derived.Test.YtkcpkgegkmockaaQnK
namespace Go.Proofs.Ytkcpkgegkmockaa
open Go.RowKit Wb Go.Maps

theorem str_info : (Try.prog.info? 9).map (fun i => (i.zero, i.size, i.bytes)) = some (some (.string ⟨#[]⟩), 1, 16) := by kernel_rfl

theorem Apart.fresh {w : World} {base sz n n' : Nat} {e : TypeId} {v : Value} {xs : List Value} {C : Option Addr} (h : w.ownsRow base e sz v n xs) (hF : Fresh w.heap.size C) : Apart C n' v := by
  intro _ ad hC hv
  have h1 := (h.lt _ hv).2
  have h2 := hF ad hC
  omega

theorem own1 {w : World} {base n : Nat} {e : TypeId} {v : Value} {xs : List Value} (l : List ByteArray) (h : w.ownsRow base e 1 v n xs) (hn : n = l.length) (hx : xs = cells1 l) :
    ∃ A c, v = .slice A l.length c ∧ Sl1 w A l := by
  subst hn; subst hx
  obtain ⟨A, c, rfl⟩ := own_shape h
  exact ⟨A, c, rfl, Sl.of_own h⟩

theorem miss_any1 {l : List ByteArray} {j : Nat} {y p : ByteArray} (hy : l[j]? = some y) (hj : (l.take j).any (fun y => eqT y p) = false) (h : (y.toList == p.toList) = false) : (l.take (j + 1)).any (fun y => eqT y p) = false := by
  rw [take_snoc l j y hy, List.any_append, hj]
  have : eqT y p = false := h
  simp [this]
theorem hit_any1 {l : List ByteArray} {j : Nat} {y p : ByteArray} (hy : l[j]? = some y) (h : (y.toList == p.toList) = true) : l.any (fun y => eqT y p) = true :=
  List.any_eq_true.2 ⟨y, List.mem_of_getElem? hy, h⟩
theorem miss_all1 {l : List ByteArray} {j : Nat} {p : ByteArray} (hl : l.length ≤ j) (hj : (l.take j).any (fun y => eqT y p) = false) : l.any (fun y => eqT y p) = false := by
  rw [List.take_of_length_le hl] at hj; exact hj

theorem AddPost.split {l : List Pr} {p s : ByteArray} {w w' : World} {e : Ending} {b : Int} (h : AddPost l p s w e w') (hb : bindB p s = b) :
    Below w.heap.size w w' ∧ (b = 0 → ∃ C k, e = .returned (.tuple #[.slice C (l ++ [(p, s)]).length k, .int .i64 0]) ∧ Sl2 w' C (l ++ [(p, s)]) ∧ Fresh w.heap.size C) ∧
      (b ≠ 0 → e = .returned (.tuple #[.slice none 0 0, .int .i64 b])) := by
  obtain ⟨h1, h2⟩ := h
  have := h2 b hb.symm
  refine ⟨h1, fun h0 => ?_, fun h0 => ?_⟩
  · rw [if_pos h0] at this; exact this
  · rw [if_neg h0] at this; exact this

/-- The part of a round from where the prefix is right: no such one ahead, its binding, its new scope. -/
def RelD (sc l : List Pr) (w : World) (v0 v7 v8 i : Value) (wr : World) : Prop :=
  ∃ (k : Nat) (seen : List ByteArray) (binds rest : List Pr) (S : Option Addr) (cs : Nat), k ≤ l.length ∧ i = .int .i64 k ∧ binds.length ≤ k ∧ rest.length ≤ k ∧ seen.length ≤ k ∧
    v0 = .slice S (sc ++ binds).length cs ∧ Sl2 wr S (sc ++ binds) ∧ wr.ownsRow w.heap.size 61 2 v7 rest.length (cells2 rest) ∧ wr.ownsRow w.heap.size 9 1 v8 seen.length (cells1 seen) ∧
    Apart S (sc ++ binds).length v7 ∧ Apart S (sc ++ binds).length v8 ∧ Hid (declL l [] [] [] = declL (l.drop k) seen binds rest) ∧ Below w.heap.size w wr

set_option maxHeartbeats 4000000 in
set_option maxRecDepth 100000 in
theorem rdeclare_any (A B : Option Addr) (sc l : List Pr) (c d : Nat) (w : World) (hsl : sc.length ≤ 10000) (hl : l.length ≤ 10000)
    (hs2 : ∀ x ∈ l, x.1.size ≤ 1000000000) (hA : Sl2 w A sc) (hB : Sl2 w B l) :
    Calls Try.prog 22 #[.slice A sc.length c, .slice B l.length d] w (DeclPost sc l w) := by
  obtain ⟨i1, hj, hy0, hy1, hy2⟩ := info_parts raw_info
  obtain ⟨i2, hk0, hu0, hu1, hu2⟩ := info_parts str_info
  go_enter Try.func22, Try.ntmps22
  go_wp2
  go_loopw [0, 7, 8, 9] (fun v0 v7 v8 i wr => RelD sc l w v0 v7 v8 i wr) (fun _ _ _ i _ => ((l.length : Int) - intOf i).toNat)
  case atStart => exact ⟨0, [], [], [], A, c, by omega, rfl, by simp, by simp, by simp, by rw [List.append_nil], by rw [List.append_nil]; exact hA, World.ownsRow_nil _ _ _ _, World.ownsRow_nil _ _ _ _, Apart.nil _ _, Apart.nil _ _, Lib.hid rfl, Below.refl _ _⟩
  case round =>
    obtain ⟨k, seen, binds, rest, S, cs, hk, rfl, hbl, hrl, hsn, rfl, hSc, hrest, hseen, ap7, ap8, HL, hb⟩ := hrel
    by_cases h0 : k < l.length
    · obtain ⟨⟨x1, x2⟩, he⟩ : ∃ x, l[k]? = some x := ⟨l[k], List.getElem?_eq_getElem (by omega)⟩
      obtain ⟨ad, rfl, had, c1, c2⟩ := (hB.below hb).at_ he
      have hx1 := hs2 _ (List.mem_of_getElem? he)
      simp only at hx1
      have HE := Lib.hid he
      clear he
      obtain ⟨p, is, hD⟩ : ∃ p is, declB x1 = (p, is) := ⟨_, _, rfl⟩
      have hps : p.size ≤ 1000000000 := by have := declB_size (n := x1); rw [hD] at this; simp only at this; omega
      have HD := Lib.hid hD
      clear hD
      go_wp2_with fail
      refine (declares_any x1 _ hx1).mono ?_
      rw [HD.out]
      rintro e w2 ⟨rfl, hb2⟩
      have hb3 := hb.trans (hb2.mono hb.size)
      have hSc2 := hSc.below hb2
      have hrest2 := own_below hrest hb2
      have hseen2 := own_below hseen hb2
      obtain ⟨ae, he2, had2, c1', c2'⟩ := (hB.below hb3).at_ HE.out
      injection he2 with he2
      subst he2
      clear hSc hrest hseen hb2 c1 c2 had
      cases is
      · have HT : Hid (declL l [] [] [] = declL (l.drop (k + 1)) seen binds (rest ++ [(x1, x2)])) := HL.out.trans (declL_rest HE.out (by rw [HD.out]))
        clear HL HD
        go_wp2_with (at_builtin; refine wpList_append_sl _ rfl _ _ _ rfl w.heap.size 61 i1 _ 2 32 Try.underlying46 hj hy0 hy1 hy2 rfl (by omega) _ rest.length (cells2 rest) rfl (hrest2.alloc _) (some ⟨w2.heap.size, 0, none⟩) 1 1 [.string x1, .string x2] rfl (Sl.lit w2 2 [.string x1, .string x2] _ 1 rfl) (cells2_one [(x1, x2)]) (by simp only [maxLen]; omega) (by omega) (hb3.alloc hb3.size _).size ?_; intro v4 w4 hown4 hg4 hat4)
        have hb5 : Below w.heap.size w w4 := (hb3.alloc hb3.size _).grown hg4 (hb3.alloc hb3.size _).size (fun g hg => (hrest2.lt g hg).1)
        have hseen5 := own_beside (hseen2.alloc (.cells #[.string x1, .string x2] 61)) (hrest2.alloc (.cells #[.string x1, .string x2] 61)) (by decide) hg4
        have hSc5 : Sl2 w4 S (sc ++ binds) := Sl.grown (hSc2.alloc _) hg4 ap7.ne
        have ap5 : Apart S (sc ++ binds).length v4 := ap7.next hSc2 hat4 (by simp)
        clear hg4 hat4 hrest2 hseen2 hSc2 ap7
        go_roundw
        case rel => exact ⟨k + 1, seen, binds, rest ++ [(x1, x2)], S, cs, by omega, by go_num, by omega, by simp; omega, by omega, by simp, hSc5, by simpa [cells2_append, cells2] using hown4, hseen5, ap5, ap8, HT, hb5⟩
        case measure => simp [intOf]; omega
      · -- a declaration
        have tx : (x1.toList == [120, 109, 108, 110, 115]) = eqT x1 sXmlns := lit_of x1 sXmlns _ rfl
        by_cases hbad : (!(eqT x1 sXmlns) && !(nameB p.data.toList)) = true
        · have HT := Lib.hid (HL.out.trans (declL_12 HE.out (by rw [HD.out]) (by rw [HD.out]; exact hbad)))
          have hq : eqT x1 sXmlns = false ∧ nameB p.data.toList = false := by simpa using hbad
          rw [hq.1] at tx
          have HN := Lib.hid hq.2
          clear hbad hq HL
          go_wp2_with fail
          refine (rname_any p _ hps).mono ?_
          rw [HN.out]
          rintro e w5 ⟨rfl, hb5⟩
          go_wp2
          go_ret3
          exact DeclPost.bad HT.out (by decide) (hb3.trans (hb5.mono hb3.size))
        · have hgood : (!(eqT x1 sXmlns) && !(nameB p.data.toList)) = false := by simpa using hbad
          have HG := Lib.hid hgood
          have hq : eqT x1 sXmlns = true ∨ (eqT x1 sXmlns = false ∧ nameB p.data.toList = true) := by
            cases h1 : eqT x1 sXmlns
            · right; rw [h1] at hgood; exact ⟨rfl, by simpa using hgood⟩
            · left; rfl
          clear hbad hgood
          rcases hq with hq | ⟨hq, hn⟩
          · rw [hq] at tx
            clear hq
            obtain ⟨E, em, rfl, hE⟩ := own1 seen hseen2 rfl rfl
            go_wp2
            go_loop [12] (fun i => ∃ j : Nat, j ≤ seen.length ∧ i = .int .i64 j ∧ Hid ((seen.take j).any (fun y => eqT y p) = false)) (fun i => ((seen.length : Int) - intOf i).toNat)
            case atStart => exact ⟨0, by omega, rfl, Lib.hid rfl⟩
            case round =>
              obtain ⟨j, hjl, rfl, HJ⟩ := hrel
              by_cases hjs : j < seen.length
              · obtain ⟨y, hy⟩ : ∃ y, seen[j]? = some y := ⟨seen[j], List.getElem?_eq_getElem (by omega)⟩
                obtain ⟨od, rfl, _, d1⟩ := hE.at_ hy
                have HY := Lib.hid hy
                clear hy
                cases hqq : (y.toList == p.toList)
                · go_wp2
                  go_round
                  case rel => exact ⟨j + 1, by omega, by go_num, Lib.hid (miss_any1 HY.out HJ.out hqq)⟩
                  case measure => simp [intOf]; omega
                · have HT := Lib.hid (HL.out.trans (declL_14 HE.out HD.out HG.out (hit_any1 HY.out hqq)))
                  go_wp2
                  go_ret3
                  exact DeclPost.bad HT.out (by decide) hb3
              · have HC := Lib.hid (miss_all1 (by omega) HJ.out)
                clear HJ
                go_wp2_with (at_builtin; refine wpList_append_sl _ rfl (.tmp 62) (.tmp 64) _ rfl w.heap.size 9 i2 _ 1 16 Try.underlying72 hk0 hu0 hu1 hu2 rfl (by omega) _ seen.length (cells1 seen) rfl (hseen2.alloc _) (some ⟨w2.heap.size, 0, none⟩) 1 1 [.string p] rfl (Sl.lit w2 1 [.string p] _ 1 rfl) (cells1_one [p]) (by simp only [maxLen]; omega) (by omega) (hb3.alloc hb3.size _).size ?_; intro v6 w6 hown6 hg6 hat6; have hb6 : Below w.heap.size w w6 := (hb3.alloc hb3.size _).grown hg6 (hb3.alloc hb3.size _).size (fun g hg => (hseen2.lt g hg).1); obtain ⟨af, he6, _, _, c6⟩ := (hB.below hb6).at_ HE.out; injection he6 with he6; subst he6)
                have hrest6 := own_beside (hrest2.alloc (.cells #[.string p] 9)) (hseen2.alloc (.cells #[.string p] 9)) (by decide) hg6
                have hSc6 : Sl2 w6 S (sc ++ binds) := Sl.grown (hSc2.alloc _) hg6 ap8.ne
                have ap6 : Apart S (sc ++ binds).length v6 := ap8.next hSc2 hat6 (by simp)
                have hseen6 : w6.ownsRow w.heap.size 9 1 v6 (seen ++ [p]).length (cells1 (seen ++ [p])) := by simpa [cells1_append, cells1] using hown6
                clear hg6 hat6 hrest2 hseen2 hSc2 ap8 hown6 hE
                obtain ⟨b, hbd⟩ : ∃ b, bindB p x2 = b := ⟨_, rfl⟩
                have HBD := Lib.hid hbd
                clear hbd
                have hradd := radd_any S (sc ++ binds) cs p x2 w6 (by simp; omega) hps hSc6
                rw [List.length_append] at hradd
                refine hradd.mono ?_
                clear hradd
                rintro e w7 hAP
                obtain ⟨hb7, hok, hno⟩ := hAP.split HBD.out
                clear hAP
                have hb8 := hb6.trans (hb7.mono hb6.size)
                by_cases hb0 : b = 0
                · subst hb0
                  have HT := Lib.hid (HL.out.trans (declL_step HE.out HD.out HG.out HC.out HBD.out))
                  obtain ⟨C, kc, rfl, hC, hF⟩ := hok rfl
                  have hrest8 := own_below hrest6 hb7
                  have hseen8 := own_below hseen6 hb7
                  have apc7 := Apart.fresh (n' := ((sc ++ binds) ++ [(p, x2)]).length) hrest6 hF
                  have apc8 : Apart C ((sc ++ binds) ++ [(p, x2)]).length v6 := Apart.fresh hseen6 hF
                  clear hok hno HL hb7 hF hrest6 hseen6 hSc6
                  go_wp2
                  go_roundw
                  case rel => exact ⟨k + 1, seen ++ [p], binds ++ [(p, x2)], rest, C, kc, by omega, by go_num, by simp; omega, by omega, by simp; omega, by simp, by simpa using hC, hrest8, hseen8, by simpa using apc7, by simpa using apc8, HT, hb8⟩
                  case measure => simp [intOf]; omega
                · have hb0' : (b != 0) = true := by simpa using hb0
                  have HT := Lib.hid (HL.out.trans (declL_bind HE.out HD.out HG.out HC.out HBD.out hb0))
                  obtain rfl := hno hb0
                  clear hok hno HL
                  go_wp2
                  go_ret3
                  exact DeclPost.bad HT.out hb0 hb8
          · rw [hq] at tx
            have HN := Lib.hid hn
            clear hq hn
            go_wp2_with fail
            refine (rname_any p _ hps).mono ?_
            rw [HN.out]
            rintro e w5 ⟨rfl, hb5⟩
            have hb9 := hb3.trans (hb5.mono hb3.size)
            replace hSc2 := hSc2.below hb5
            replace hrest2 := own_below hrest2 hb5
            replace hseen2 := own_below hseen2 hb5
            clear hb3 hb5 c1' c2' had2 tx
            have hb3 := hb9
            clear hb9
            obtain ⟨E, em, rfl, hE⟩ := own1 seen hseen2 rfl rfl
            go_wp2
            go_loop [12] (fun i => ∃ j : Nat, j ≤ seen.length ∧ i = .int .i64 j ∧ Hid ((seen.take j).any (fun y => eqT y p) = false)) (fun i => ((seen.length : Int) - intOf i).toNat)
            case atStart => exact ⟨0, by omega, rfl, Lib.hid rfl⟩
            case round =>
              obtain ⟨j, hjl, rfl, HJ⟩ := hrel
              by_cases hjs : j < seen.length
              · obtain ⟨y, hy⟩ : ∃ y, seen[j]? = some y := ⟨seen[j], List.getElem?_eq_getElem (by omega)⟩
                obtain ⟨od, rfl, _, d1⟩ := hE.at_ hy
                have HY := Lib.hid hy
                clear hy
                cases hqq : (y.toList == p.toList)
                · go_wp2
                  go_round
                  case rel => exact ⟨j + 1, by omega, by go_num, Lib.hid (miss_any1 HY.out HJ.out hqq)⟩
                  case measure => simp [intOf]; omega
                · have HT := Lib.hid (HL.out.trans (declL_14 HE.out HD.out HG.out (hit_any1 HY.out hqq)))
                  go_wp2
                  go_ret3
                  exact DeclPost.bad HT.out (by decide) hb3
              · have HC := Lib.hid (miss_all1 (by omega) HJ.out)
                clear HJ
                go_wp2_with (at_builtin; refine wpList_append_sl _ rfl (.tmp 62) (.tmp 64) _ rfl w.heap.size 9 i2 _ 1 16 Try.underlying72 hk0 hu0 hu1 hu2 rfl (by omega) _ seen.length (cells1 seen) rfl (hseen2.alloc _) (some ⟨w5.heap.size, 0, none⟩) 1 1 [.string p] rfl (Sl.lit w5 1 [.string p] _ 1 rfl) (cells1_one [p]) (by simp only [maxLen]; omega) (by omega) (hb3.alloc hb3.size _).size ?_; intro v6 w6 hown6 hg6 hat6; have hb6 : Below w.heap.size w w6 := (hb3.alloc hb3.size _).grown hg6 (hb3.alloc hb3.size _).size (fun g hg => (hseen2.lt g hg).1); obtain ⟨af, he6, _, _, c6⟩ := (hB.below hb6).at_ HE.out; injection he6 with he6; subst he6)
                have hrest6 := own_beside (hrest2.alloc (.cells #[.string p] 9)) (hseen2.alloc (.cells #[.string p] 9)) (by decide) hg6
                have hSc6 : Sl2 w6 S (sc ++ binds) := Sl.grown (hSc2.alloc _) hg6 ap8.ne
                have ap6 : Apart S (sc ++ binds).length v6 := ap8.next hSc2 hat6 (by simp)
                have hseen6 : w6.ownsRow w.heap.size 9 1 v6 (seen ++ [p]).length (cells1 (seen ++ [p])) := by simpa [cells1_append, cells1] using hown6
                clear hg6 hat6 hrest2 hseen2 hSc2 ap8 hown6 hE
                obtain ⟨b, hbd⟩ : ∃ b, bindB p x2 = b := ⟨_, rfl⟩
                have HBD := Lib.hid hbd
                clear hbd
                have hradd := radd_any S (sc ++ binds) cs p x2 w6 (by simp; omega) hps hSc6
                rw [List.length_append] at hradd
                refine hradd.mono ?_
                clear hradd
                rintro e w7 hAP
                obtain ⟨hb7, hok, hno⟩ := hAP.split HBD.out
                clear hAP
                have hb8 := hb6.trans (hb7.mono hb6.size)
                by_cases hb0 : b = 0
                · subst hb0
                  have HT := Lib.hid (HL.out.trans (declL_step HE.out HD.out HG.out HC.out HBD.out))
                  obtain ⟨C, kc, rfl, hC, hF⟩ := hok rfl
                  have hrest8 := own_below hrest6 hb7
                  have hseen8 := own_below hseen6 hb7
                  have apc7 := Apart.fresh (n' := ((sc ++ binds) ++ [(p, x2)]).length) hrest6 hF
                  have apc8 : Apart C ((sc ++ binds) ++ [(p, x2)]).length v6 := Apart.fresh hseen6 hF
                  clear hok hno HL hb7 hF hrest6 hseen6 hSc6
                  go_wp2
                  go_roundw
                  case rel => exact ⟨k + 1, seen ++ [p], binds ++ [(p, x2)], rest, C, kc, by omega, by go_num, by simp; omega, by omega, by simp; omega, by simp, by simpa using hC, hrest8, hseen8, by simpa using apc7, by simpa using apc8, HT, hb8⟩
                  case measure => simp [intOf]; omega
                · have hb0' : (b != 0) = true := by simpa using hb0
                  have HT := Lib.hid (HL.out.trans (declL_bind HE.out HD.out HG.out HC.out HBD.out hb0))
                  obtain rfl := hno hb0
                  clear hok hno HL
                  go_wp2
                  go_ret3
                  exact DeclPost.bad HT.out hb0 hb8
    · have HT := Lib.hid (HL.out.trans (declL_end (by omega)))
      obtain ⟨D, mm, rfl, hD, _⟩ := own2 rest hrest rfl rfl
      go_wp2
      go_ret3
      exact DeclPost.ok (by simp) HT.out hSc hD hb
end Go.Proofs.Ytkcpkgegkmockaa
