/- UbH. -/
import Derived.Deep.CutBlock
import Derived.Test.YtbdamneophbnnaaGreatDoorCZ19
import Derived.Test.YtbdamneophbnnaaGreatDoorCZ27
namespace Wb
theorem oneP_c {sc : List Pr} {last : Bool} {t : List UInt8} {c1 c2 : Bool} (h1 : (last && decide (t = sNsAll)) = c1) (h2 : (last && decide (t.head? = some 64)) = c2) :
    oneP sc last t = if c1 = true then .ok ⟨3, false, nE, 0, false, nE, sE⟩ else if c2 = true then
      (if (resB sc ⟨(t.drop 1).toArray⟩ true).2 = 0 then .ok ⟨2, false, (resB sc ⟨(t.drop 1).toArray⟩ true).1, 0, false, nE, sE⟩ else .error (resB sc ⟨(t.drop 1).toArray⟩ true).2)
    else stepP sc t := by
  unfold oneP
  subst h1 h2
  cases last <;> simp
end Wb
namespace Go.Proofs.YtbdamneophbnnaaGreatDoor
open Go.RowKit Wb
def st9 (x : StV) : Array Value := #[.int .i64 x.kind, .bool x.any, .string x.name.1, .string x.name.2, .int .i64 x.pos, .bool x.by_, .string x.attr.1, .string x.attr.2, .string x.val]
theorem st9_list (x : StV) : (st9 x).toList = cells9 x := rfl
set_option maxHeartbeats 16000000 in
set_option maxRecDepth 100000 in
theorem rparse_any (s space : ByteArray) (B : Option Addr) (binds : List Pr) (c : Nat) (w : World) (hB : Sl2 w B binds) (hs : s.size ≤ 1000000) (hsp : space.size ≤ 1000000) (hbl : binds.length ≤ 100000) (hbs : ∀ b ∈ binds, b.1.size ≤ 1000000 ∧ b.2.size ≤ 1000000) :
    Calls Tryz.prog 23 #[.string s, .string space, .slice B binds.length c] w (StepsOut (parseS s.data.toList space binds) w) := by
  obtain ⟨o, ho⟩ : ∃ o, parseS s.data.toList space binds = o := ⟨_, rfl⟩
  rw [ho]
  unfold parseS at ho
  have hpl : (pcsB 47 s).length = (pieceF 47 s.data.toList).length := by unfold pcsB; rw [List.length_map]
  have HPP := Lib.hid (rpieces_any s 47 w hs)
  by_cases h16 : 16 < (pieceF 47 s.data.toList).length
  · rw [if_pos h16] at ho
    subst ho
    have i16 : (16 : Int) < ((pcsB 47 s).length : Int) := by omega
    generalize pcsB 47 s = ps at *
    clear hbs hB
    go_enter Tryz.func23, Tryz.ntmps23
    go_wp2_with fail
    refine HPP.out.mono ?_
    rintro e w1 ⟨v1, rfl, hown1, hb1⟩
    obtain ⟨PA, pc, rfl⟩ := own_shape hown1
    clear HPP hown1
    go_wp2
    go_ret2
    exact StepsOut.bad' hb1
  · rw [if_neg h16] at ho
    have i16 : ¬ (16 : Int) < ((pcsB 47 s).length : Int) := by omega
    have hpn : (pcsB 47 s).length ≤ 16 := by omega
    have hsc : ScSm ((sE, space) :: binds) := by
      refine ⟨by simp; omega, fun x hx => ?_⟩
      rcases List.mem_cons.1 hx with rfl | hx
      · exact hsp
      · exact (hbs x hx).2
    have hpz : ∀ x ∈ pcsB 47 s, x.size ≤ 1000000 := fun x hx => by
      unfold pcsB at hx
      obtain ⟨y, hy, rfl⟩ := List.mem_map.1 hx
      have := piece_size 47 [] s.data.toList y hy
      have h4 : s.data.toList.length = s.size := by simp
      show y.toArray.size ≤ _
      rw [List.size_toArray]
      simp only [List.length_nil] at this
      omega
    have HPM : Hid (pieceF 47 s.data.toList = (pcsB 47 s).map fun x => x.data.toList) := Lib.hid (by unfold pcsB; rw [List.map_map]; exact (List.map_id _).symm)
    rw [HPM.out] at ho
    obtain ⟨sl, hsle⟩ : ∃ sl, (sE, space) :: binds = sl := ⟨_, rfl⟩
    rw [hsle] at ho hsc
    have hsl1 : sl.length = 1 + binds.length := by rw [← hsle]; simp; omega
    have HSLE := Lib.hid hsle
    clear hsle
    obtain ⟨i2, hk0, hu0, hu1, hu2⟩ := info_parts bind2_info
    obtain ⟨i9, hi9, hz0, hz1, hz2⟩ := info_parts step9_info'
    have HO := Lib.hid ho
    have HSC := Lib.hid hsc
    have HPZ := Lib.hid hpz
    generalize pcsB 47 s = ps at *
    have hm1 : 1 + binds.length ≤ maxLen := by unfold maxLen; omega
    have hm2 : (1 + binds.length) * 32 ≤ 140737488355328 := by omega
    have hone : ∀ u ∈ cells2 binds, u.oneCell' = true := by
      intro u hu
      unfold cells2 at hu
      obtain ⟨x, _, hx⟩ := List.mem_flatMap.1 hu
      simp only [List.mem_cons, List.not_mem_nil, or_false] at hx
      rcases hx with rfl | rfl <;> rfl
    clear ho hpl h16 hbs hsc hpz hs hsp HPM
    go_enter Tryz.func23, Tryz.ntmps23
    go_wp2_with fail
    refine HPP.out.mono ?_
    rintro e w1 ⟨v1, rfl, hown1, hb1⟩
    obtain ⟨PA, pc, rfl⟩ := own_shape hown1
    have hP1 : Sl1 w1 PA ps := Sl.of_own hown1
    have hB1 := hB.below hb1
    clear hown1 HPP hB
    have hlit := World.ownsRow_lit (base := w1.heap.size) (e := 80) (size := 2) w1 #[.string ⟨#[]⟩, .string space] 1 (Nat.le_refl _) (by unfold maxLen; omega) rfl
    have hBa := Sl.alloc hB1 (.cells #[.string ⟨#[]⟩, .string space] 80)
    have hb0 := (Below.refl w1.heap.size w1).alloc (Nat.le_refl _) (.cells #[.string ⟨#[]⟩, .string space] 80)
    have hs0 : w1.heap.size ≤ (w1.alloc (.cells #[.string ⟨#[]⟩, .string space] 80)).heap.size := by simp
    go_upto_region 4 with fail
    go_wp2_with (at_builtin; refine wpList_append_sl _ rfl _ _ _ rfl w1.heap.size 80 i2 _ 2 32 Tryz.underlying24 hk0 hu0 hu1 hu2 rfl (by omega) _ 1 _ rfl hlit B binds.length c (cells2 binds) rfl hBa hone hm1 hm2 hs0 ?_)
    intro v5 w5 hown5 hg5 hat5
    have hb5 := hb0.grown hg5 hs0 (fun k hk => by simp [Value.ownBlock] at hk; omega)
    have hown5 : w5.ownsRow w1.heap.size 80 2 v5 sl.length (cells2 sl) := by
      rw [hsl1, ← HSLE.out]
      exact hown5
    obtain ⟨SA, sc, rfl⟩ := own_shape hown5
    clear hsl1 HSLE
    have HSL6 : Hid (Sl2 w5 SA sl) := Lib.hid (Sl.of_own hown5)
    have HP6 : Hid (Sl1 w5 PA ps) := Lib.hid (Sl.below hP1 hb5)
    have HB6 := Lib.hid (hb1.trans (hb5.mono hb1.size))
    clear hown5 hg5 hat5 hlit hBa hb0 hone hs0 hm1 hm2 hb1 hb5 hP1 hB1
    go_wp2
    go_loopw [10, 11, 12, 13, 14, 15, 16, 17] (fun v10 v11 _ _ _ _ _ _ wr => ∃ (i : Nat) (out : List StV), i ≤ ps.length ∧ v11 = .int .i64 i ∧ out.length = i ∧ Hid (contS out (parseL' sl (decide (i = 0)) ((ps.drop i).map fun x => x.data.toList)) = o) ∧ Hid (wr.ownsRow w5.heap.size 46 9 v10 i (cells9L out)) ∧ Hid (Below w5.heap.size w5 wr)) (fun _ v11 _ _ _ _ _ _ _ => ps.length - (intOf v11).toNat)
    case atStart => exact ⟨0, [], by omega, rfl, rfl, Lib.hid (by rw [contS_nil, List.drop_zero]; exact HO.out), Lib.hid (World.ownsRow_nil _ _ _ _), Lib.hid (Below.refl _ _)⟩
    case round =>
      obtain ⟨i, out, hi, rfl, hol, HQ, HR, HB⟩ := hrel
      by_cases h0 : i < ps.length
      · obtain ⟨p, hp⟩ : ∃ p, ps[i]? = some p := ⟨ps[i], List.getElem?_eq_getElem h0⟩
        have hdr : ps.drop i = p :: ps.drop (i + 1) := by
          rw [List.drop_eq_getElem_cons h0]
          rw [List.getElem?_eq_getElem h0] at hp
          injection hp with hp
          rw [hp]
        have hpz := HPZ.out p (List.mem_of_getElem? hp)
        obtain ⟨ad, rfl, had, cp⟩ := (HP6.out.below HB.out).at_ hp
        have hde := fun v => rdecode_any p v hpz
        obtain ⟨t, ed, htd⟩ : ∃ t ed, decP p.data.toList = (t, ed) := ⟨_, _, rfl⟩
        have htl : t.length ≤ 1000000 := by
          have := decP_len p.data.toList
          rw [htd] at this
          have e : p.data.toList.length = p.size := by simp
          simp only at this
          omega
        rw [htd] at hde
        simp only at hde
        have HQ7 : Hid (contS out (parseL' sl (decide (i = 0)) (p.data.toList :: (ps.drop (i + 1)).map fun x => x.data.toList)) = o) := Lib.hid (by rw [← HQ.out, hdr]; rfl)
        by_cases hd0 : ed = 0
        · subst hd0
          have HD0 : Hid ((decP p.data.toList).2 = 0) := Lib.hid (by rw [htd])
          have HBw := Lib.hid (HB6.out.trans (HB.out.mono HB6.out.size))
          have hemp : ((ps.drop (i + 1)).map fun x => x.data.toList).isEmpty = decide (i + 1 = ps.length) := by
            rw [List.isEmpty_map, Bool.eq_iff_iff, List.isEmpty_iff, List.drop_eq_nil_iff, decide_eq_true_eq]
            omega
          obtain ⟨last, hlast⟩ : ∃ b, (!decide (i = 0) && ((ps.drop (i + 1)).map fun x => x.data.toList).isEmpty) = b := ⟨_, rfl⟩
          obtain ⟨oo, hoo⟩ : ∃ oo, oneP sl last t = oo := ⟨_, rfl⟩
          have HOO : Hid (oneP sl (!decide (i = 0) && ((ps.drop (i + 1)).map fun x => x.data.toList).isEmpty) (decP p.data.toList).1 = oo) := Lib.hid (by rw [hlast, htd]; exact hoo)
          have HNZ := Lib.hid (fun k (h : oo = .error k) => oneP_nz (hoo.trans h))
          have HBAD := Lib.hid (fun k (h : oo = .error k) => show .error k = o by rw [← HQ7.out]; exact (contS_bad out HD0.out (HOO.out.trans h)).symm)
          have HGOOD := Lib.hid (fun x (h : oo = .ok x) => show contS (out ++ [x]) (parseL' sl (decide (i + 1 = 0)) ((ps.drop (i + 1)).map fun x => x.data.toList)) = o by
            rw [← HQ7.out, contS_good out HD0.out (HOO.out.trans h), decide_eq_false (Nat.succ_ne_zero i)])
          have hcase : (i = 0 ∧ last = false) ∨ (0 < i ∧ i + 1 = ps.length ∧ last = true) ∨ (0 < i ∧ i + 1 ≠ ps.length ∧ last = false) := by
            rw [hemp] at hlast
            by_cases e0 : i = 0
            · exact .inl ⟨e0, by rw [← hlast, decide_eq_true e0]; rfl⟩
            · by_cases e1 : i + 1 = ps.length
              · exact .inr (.inl ⟨by omega, e1, by rw [← hlast, decide_eq_false e0, decide_eq_true e1]; rfl⟩)
              · exact .inr (.inr ⟨by omega, e1, by rw [← hlast, decide_eq_false e0, decide_eq_false e1]; rfl⟩)
          have hwr1 : IntKind.i64.wrap ((ps.length : Int) - 1) = (ps.length : Int) - 1 := by rw [IntKind.wrap_i64]; omega
          have hwr2 : IntKind.i64.wrap ((i : Int) + 1) = (i : Int) + 1 := by rw [IntKind.wrap_i64]; omega
          have hfacts : (decide ((0 : Int) < (i : Int)) = false ∧ ¬ (0 : Int) < (i : Int) ∧ last = false) ∨ (decide ((0 : Int) < (i : Int)) = true ∧ (0 : Int) < (i : Int) ∧ ((i : Int) == (ps.length : Int) - 1) = true ∧ last = true) ∨ (decide ((0 : Int) < (i : Int)) = true ∧ (0 : Int) < (i : Int) ∧ ((i : Int) == (ps.length : Int) - 1) = false ∧ last = false) := by
            rcases hcase with ⟨e0, e1⟩ | ⟨e0, e1, e2⟩ | ⟨e0, e1, e2⟩
            · exact .inl ⟨decide_eq_false (by omega), by omega, e1⟩
            · exact .inr (.inl ⟨decide_eq_true (by omega), by omega, by rw [beq_iff_eq]; omega, e2⟩)
            · exact .inr (.inr ⟨decide_eq_true (by omega), by omega, by rw [beq_eq_false_iff_ne]; omega, e2⟩)
          obtain ⟨c1, hc1⟩ : ∃ b, (last && decide (t = sNsAll)) = b := ⟨_, rfl⟩
          obtain ⟨c2, hc2⟩ : ∃ b, (last && decide (t.head? = some 64)) = b := ⟨_, rfl⟩
          have hone2 := oneP_c (sc := sl) hc1 hc2
          rw [hoo] at hone2
          have HON := Lib.hid hone2
          have HEL := Lib.hid (fun v hv => relement_any SA sl sc (mkT t) v HSC.out (by rw [mkT_size]; exact htl) hv)
          have HRS := Lib.hid (fun (q : ByteArray) v (hq : q.size ≤ 1000000) hv => rresolve_any SA sl sc q true v (by have := HSC.out.1; omega) (by omega) hv)
          clear hcase hlast hemp htd HQ hdr hoo hp hone2 HQ7 HOO HD0 HSC
          go_wp2_with fail
          refine (hde _).mono ?_
          rintro e w7 ⟨rfl, hb7⟩
          have HB7 := Lib.hid (HB.out.trans (hb7.mono HB.out.size))
          have HR7 := Lib.hid (own_below HR.out hb7)
          have HSC7 := Lib.hid (HSL6.out.below HB7.out)
          clear hb7 hde HB HR HBw cp had
          obtain ⟨D, hD⟩ : ∃ D, mkT t = D := ⟨_, rfl⟩
          rw [show (⟨t.toArray⟩ : ByteArray) = D from hD]
          rw [hD] at HEL
          have hDl : D.data.toList = t := by rw [← hD, mkT_list]
          have hDz : D.size ≤ 1000000 := by rw [← hD, mkT_size]; exact htl
          have HDL := Lib.hid hDl
          clear hD hDl htl
          go_upto_region 12 with fail
          go_cut [14] from 28 to 97 (fun v14 wx => v14 = .bool last ∧ Hid (wx = w7))
          case first =>
            rcases hfacts with ⟨hd1, hd2, rfl⟩ | ⟨hd1, hd3, hd2, rfl⟩ | ⟨hd1, hd3, hd2, rfl⟩
            all_goals
              clear HNZ HBAD HGOOD HON HEL HRS HDL hc1 hc2
              go_wp2
              go_meet
              case rel => exact ⟨rfl, Lib.hid rfl⟩
          case rest =>
            obtain ⟨rfl, hcut⟩ := hcut
            obtain rfl := hcut.out
            rename World => w7
            clear hcut hfacts
            have hx8 := (OwnB.new0 w7 #[.int .i64 0, .bool false, .string ⟨#[]⟩, .string ⟨#[]⟩, .int .i64 0, .bool false, .string ⟨#[]⟩, .string ⟨#[]⟩, .string ⟨#[]⟩] 46)
            have hb8 := (Below.refl w7.heap.size w7).alloc (Nat.le_refl _) (.cells #[.int .i64 0, .bool false, .string ⟨#[]⟩, .string ⟨#[]⟩, .int .i64 0, .bool false, .string ⟨#[]⟩, .string ⟨#[]⟩, .string ⟨#[]⟩] 46)
            go_upto_block 2 with fail
            generalize w7.alloc (.cells #[.int .i64 0, .bool false, .string ⟨#[]⟩, .string ⟨#[]⟩, .int .i64 0, .bool false, .string ⟨#[]⟩, .string ⟨#[]⟩, .string ⟨#[]⟩] 46) = w8 at *
            go_cut [] from 28 to 97 (fun wx => ∃ x : StV, Hid (oo = .ok x) ∧ Hid (OwnB w7.heap.size w7 wx (st9 x) 46) ∧ Hid (Below w7.heap.size w7 wx))
            case first =>
              have XF : ∀ k : Nat, True := fun _ => trivial
              clear XF HGOOD HP6 HO HPZ
              go_upto_region 17 with fail
              go_cut [63] from 28 to 97 (fun v63 wx => v63 = .bool c1 ∧ Hid (wx = w8))
              case first =>
                have hm := mkT_eq t sNsAll
                rw [show mkT t = D from by rw [← HDL.out]; exact to_list D] at hm
                have hm2 : (D.toList == [110, 97, 109, 101, 115, 112, 97, 99, 101, 58, 58, 42]) = decide (t = sNsAll) := hm
                cases last with
                | false =>
                  obtain rfl : false = c1 := by rw [← hc1]; rfl
                  clear HNZ HBAD HON HEL HRS HDL hc1 hc2 hm hm2
                  go_wp2
                  go_meet
                  case rel => exact ⟨rfl, Lib.hid rfl⟩
                | true =>
                  rw [Bool.true_and] at hc1
                  rw [hc1] at hm2
                  clear HNZ HBAD HON HEL HRS HDL hc1 hc2 hm
                  go_wp2
                  go_meet
                  case rel => exact ⟨rfl, Lib.hid rfl⟩
              case rest =>
                obtain ⟨rfl, hcut⟩ := hcut
                obtain rfl := hcut.out
                rename World => w8
                clear hcut
                cases c1 with
                | true =>
                  have hon := HON.out
                  rw [if_pos rfl] at hon
                  have HON2 := Lib.hid hon
                  have x0 := hx8.cell 0
                  have xf0 := hx8.free 0
                  have x1 := hx8.cell 1
                  have xf1 := hx8.free 1
                  have x2 := hx8.cell 2
                  have xf2 := hx8.free 2
                  have x3 := hx8.cell 3
                  have xf3 := hx8.free 3
                  have x4 := hx8.cell 4
                  have xf4 := hx8.free 4
                  have x5 := hx8.cell 5
                  have xf5 := hx8.free 5
                  have x6 := hx8.cell 6
                  have xf6 := hx8.free 6
                  have x7 := hx8.cell 7
                  have xf7 := hx8.free 7
                  have x8 := hx8.cell 8
                  have xf8 := hx8.free 8
                  simp only [List.getElem?_toArray, List.getElem?_cons_zero, List.getElem?_cons_succ] at x0 x1 x2 x3 x4 x5 x6 x7 x8
                  clear HNZ HBAD HON HEL HRS HDL hc1 hc2 hon
                  go_wp2
                  go_meet
                  case rel => exact ⟨⟨3, false, nE, 0, false, nE, sE⟩, HON2, Lib.hid (hx8.all9 _ _ _ _ _ _ _ _ _), Lib.hid ((((((((((hb8.setCell (Nat.le_refl _) _).setCell (Nat.le_refl _) _).setCell (Nat.le_refl _) _).setCell (Nat.le_refl _) _).setCell (Nat.le_refl _) _).setCell (Nat.le_refl _) _).setCell (Nat.le_refl _) _).setCell (Nat.le_refl _) _).setCell (Nat.le_refl _) _))⟩
                | false =>
                  have hon := HON.out
                  rw [if_neg (by decide)] at hon
                  have HON2 := Lib.hid hon
                  clear hon HON hc1
                  go_upto_region 19 with fail
                  go_cut [70] from 28 to 97 (fun v70 wx => v70 = .bool c2 ∧ Hid (wx = w8))
                  case first =>
                    cases last with
                    | false =>
                      obtain rfl : false = c2 := by rw [← hc2]; rfl
                      clear HNZ HBAD HON2 HEL HRS HDL hc2
                      go_wp2
                      go_meet
                      case rel => exact ⟨rfl, Lib.hid rfl⟩
                    | true =>
                      rw [Bool.true_and] at hc2
                      by_cases hD0 : D.size = 0
                      · have hdn : D.data.toList = [] := List.eq_nil_iff_length_eq_zero.2 (by simpa using hD0)
                        obtain rfl : false = c2 := by rw [← hc2, ← HDL.out, hdn]; rfl
                        have i0 : ¬ (0 : Int) < (D.size : Int) := by omega
                        clear HNZ HBAD HON2 HEL HRS HDL hc2 hdn hD0
                        go_wp2
                        go_meet
                        case rel => exact ⟨rfl, Lib.hid rfl⟩
                      · have hlt : 0 < D.size := by omega
                        have i0 : (0 : Int) < (D.size : Int) := by omega
                        have hd : D.data.toList.head? = some D[0] := by
                          rw [List.head?_eq_getElem?, List.getElem?_eq_getElem (by simpa using hlt)]
                          rfl
                        have he : ((D[0].toNat : Int) == 64) = c2 := by
                          rw [← hc2, ← HDL.out, hd, Bool.eq_iff_iff, beq_iff_eq, decide_eq_true_eq, Option.some.injEq]
                          exact ⟨fun h => UInt8.toNat_inj.1 (by show D[0].toNat = 64; omega), fun h => by rw [h]; rfl⟩
                        clear HNZ HBAD HON2 HEL HRS HDL hc2 hd hD0
                        go_wp2
                        go_meet
                        case rel => exact ⟨by first | rfl | rw [he], Lib.hid rfl⟩
                  case rest =>
                    obtain ⟨rfl, hcut⟩ := hcut
                    obtain rfl := hcut.out
                    rename World => w8
                    clear hcut
                    cases c2 with
                    | true =>
                      have hon := HON2.out
                      rw [if_pos rfl] at hon
                      have hlt : 0 < D.size := by
                        cases last with
                        | false => simp at hc2
                        | true =>
                          rw [Bool.true_and, decide_eq_true_eq, ← HDL.out] at hc2
                          rcases Nat.eq_zero_or_pos D.size with h0 | h0
                          · have hdn : D.data.toList = [] := List.eq_nil_iff_length_eq_zero.2 (by simpa using h0)
                            rw [hdn] at hc2
                            simp at hc2
                          · exact h0
                      obtain ⟨E, hE⟩ : ∃ E, D.extract 1 D.size = E := ⟨_, rfl⟩
                      have hEz : E.size ≤ 1000000 := by rw [← hE]; simp; omega
                      have hEl : (⟨(t.drop 1).toArray⟩ : ByteArray) = E := by
                        rw [← HDL.out, ← ext_drop11, hE]
                      rw [hEl] at hon
                      obtain ⟨s2, l2, e2, hr2⟩ : ∃ s lo er, resB sl E true = ((s, lo), er) := ⟨_, _, _, rfl⟩
                      rw [hr2] at hon
                      simp only at hon
                      have hrs := fun v hv => HRS.out E v hEz hv
                      rw [hr2] at hrs
                      simp only at hrs
                      have HRS2 := Lib.hid hrs
                      have HON3 := Lib.hid hon
                      have b1 : (1 : Int) ≤ (D.size : Int) := by omega
                      clear hrs hon HON2 HRS HEL hEl HDL hr2 hc2
                      go_wp2_with fail
                      refine (HRS2.out _ (HSC7.out.below hb8)).mono ?_
                      rintro e w9 ⟨rfl, hbx⟩
                      have hx9 := (hx8.next hbx).alloc (.cells #[.string s2, .string l2] 44)
                      have hb9a := hb8.trans (hbx.mono hb8.size)
                      have hn9 := OwnB.new #[.string s2, .string l2] 44 hb9a
                      have hb9 := hb9a.alloc hb9a.size (.cells #[.string s2, .string l2] 44)
                      clear hx8 hb8 hbx hb9a HRS2
                      go_upto_region 21 with fail
                      generalize w9.alloc (.cells #[.string s2, .string l2] 44) = w10 at *
                      generalize w9.heap.size = gn at *
                      have n0 : w10.cell? ⟨gn, 0, none⟩ = some (.string s2) := hn9.cell 0
                      have n1 : w10.cell? ⟨gn, 1, none⟩ = some (.string l2) := hn9.cell 1
                      by_cases he2 : e2 = 0
                      · subst he2
                        have hon := HON3.out
                        rw [if_pos rfl] at hon
                        have HON4 := Lib.hid hon
                        have x0 := hx9.cell 0
                        have xf0 := hx9.free 0
                        have x1 := hx9.cell 1
                        have xf1 := hx9.free 1
                        have x2 := hx9.cell 2
                        have xf2 := hx9.free 2
                        have x3 := hx9.cell 3
                        have xf3 := hx9.free 3
                        have x4 := hx9.cell 4
                        have xf4 := hx9.free 4
                        have x5 := hx9.cell 5
                        have xf5 := hx9.free 5
                        have x6 := hx9.cell 6
                        have xf6 := hx9.free 6
                        have x7 := hx9.cell 7
                        have xf7 := hx9.free 7
                        have x8 := hx9.cell 8
                        have xf8 := hx9.free 8
                        simp only [List.getElem?_toArray, List.getElem?_cons_zero, List.getElem?_cons_succ] at x0 x1 x2 x3 x4 x5 x6 x7 x8
                        clear HNZ HBAD HON3 hon
                        go_wp2
                        go_meet
                        case rel => exact ⟨⟨2, false, (s2, l2), 0, false, nE, sE⟩, HON4, Lib.hid (hx9.all9 _ _ _ _ _ _ _ _ _), Lib.hid ((((((((((hb9.setCell (Nat.le_refl _) _).setCell (Nat.le_refl _) _).setCell (Nat.le_refl _) _).setCell (Nat.le_refl _) _).setCell (Nat.le_refl _) _).setCell (Nat.le_refl _) _).setCell (Nat.le_refl _) _).setCell (Nat.le_refl _) _).setCell (Nat.le_refl _) _))⟩
                      · have he2b : (e2 == 0) = false := by simpa using he2
                        have hon := HON3.out
                        rw [if_neg he2] at hon
                        have HOB := Lib.hid (HBAD.out e2 hon)
                        have HBZ := Lib.hid (HB6.out.trans ((HB7.out.trans (hb9.mono HB7.out.size)).mono HB6.out.size))
                        clear HNZ HBAD HON3 hon hx9 hn9 he2
                        go_wp2
                        go_ret2
                        rw [← HOB.out]
                        exact StepsOut.bad' HBZ.out
                    | false =>
                      have hon := HON2.out
                      rw [if_neg (by decide)] at hon
                      have hel := fun v hv => HEL.out v hv
                      rw [HDL.out, ← hon] at hel
                      have HEL2 := Lib.hid hel
                      clear hel hon HON2 HRS HEL HDL hc2
                      go_wp2_with fail
                      refine (HEL2.out _ (HSC7.out.below hb8)).mono ?_
                      rintro e w9 ⟨ho1, hbx⟩
                      have hx9 := hx8.next hbx
                      have hb9 := hb8.trans (hbx.mono hb8.size)
                      clear hx8 hb8 hbx HEL2
                      have x0 := hx9.cell 0
                      have xf0 := hx9.free 0
                      have x1 := hx9.cell 1
                      have xf1 := hx9.free 1
                      have x2 := hx9.cell 2
                      have xf2 := hx9.free 2
                      have x3 := hx9.cell 3
                      have xf3 := hx9.free 3
                      have x4 := hx9.cell 4
                      have xf4 := hx9.free 4
                      have x5 := hx9.cell 5
                      have xf5 := hx9.free 5
                      have x6 := hx9.cell 6
                      have xf6 := hx9.free 6
                      have x7 := hx9.cell 7
                      have xf7 := hx9.free 7
                      have x8 := hx9.cell 8
                      have xf8 := hx9.free 8
                      simp only [List.getElem?_toArray, List.getElem?_cons_zero, List.getElem?_cons_succ] at x0 x1 x2 x3 x4 x5 x6 x7 x8
                      cases oo with
                      | error kk =>
                        obtain rfl := ho1.1 kk rfl
                        have hkn : (kk == 0) = false := by simpa using HNZ.out kk rfl
                        have HOB := Lib.hid (HBAD.out kk rfl)
                        unfold stV nE
                        clear HNZ HBAD hx9 ho1
                        go_wp2
                        go_ret2
                        rw [← HOB.out]
                        refine StepsOut.bad' (HB6.out.trans (Below.mono (HB7.out.trans (Below.mono ?_ HB7.out.size)) HB6.out.size))
                        exact (((((((((hb9.setCell (Nat.le_refl _) _).setCell (Nat.le_refl _) _).setCell (Nat.le_refl _) _).setCell (Nat.le_refl _) _).setCell (Nat.le_refl _) _).setCell (Nat.le_refl _) _).setCell (Nat.le_refl _) _).setCell (Nat.le_refl _) _).setCell (Nat.le_refl _) _)
                      | ok x =>
                        obtain rfl := ho1.2 x rfl
                        obtain ⟨kind, any, ⟨n1, n2⟩, pos, by_, ⟨a1, a2⟩, val⟩ := x
                        unfold stV
                        clear HNZ HBAD ho1
                        go_wp2
                        go_meet
                        case rel => exact ⟨⟨kind, any, (n1, n2), pos, by_, (a1, a2), val⟩, Lib.hid rfl, Lib.hid (hx9.all9 _ _ _ _ _ _ _ _ _), Lib.hid ((((((((((hb9.setCell (Nat.le_refl _) _).setCell (Nat.le_refl _) _).setCell (Nat.le_refl _) _).setCell (Nat.le_refl _) _).setCell (Nat.le_refl _) _).setCell (Nat.le_refl _) _).setCell (Nat.le_refl _) _).setCell (Nat.le_refl _) _).setCell (Nat.le_refl _) _))⟩
            case rest =>
              obtain ⟨x, HX, HXB, HXL⟩ := hcut
              rename World => w9
              have HQ9 := Lib.hid (HGOOD.out x HX.out)
              have HB8 := Lib.hid (HB7.out.trans (HXL.out.mono HB7.out.size))
              have HR8 := Lib.hid (own_below HR7.out HXL.out)
              have hcat : cells9L (out ++ [x]) = cells9L out ++ cells9 x := by unfold cells9L; simp
              have hx9 := HXB.out
              obtain ⟨kind, any, ⟨n1, n2⟩, pos, by_, ⟨a1, a2⟩, val⟩ := x
              unfold st9 at hx9
              simp only at hx9
              generalize w7.heap.size = gx at *
              clear HX HXB HNZ HBAD HGOOD HON HEL HRS HDL hc1 hc2 hx8 hb8 HXL HR7 HB7 HSC7
              have hb9 := HB8.out
              have hr9 := HR8.out
              have x0 : w9.cell? ⟨gx, 0, none⟩ = some (.int .i64 kind) := hx9.cell 0
              have x1 : w9.cell? ⟨gx, 1, none⟩ = some (.bool any) := hx9.cell 1
              have x2 : w9.cell? ⟨gx, 2, none⟩ = some (.string n1) := hx9.cell 2
              have x3 : w9.cell? ⟨gx, 3, none⟩ = some (.string n2) := hx9.cell 3
              have x4 : w9.cell? ⟨gx, 4, none⟩ = some (.int .i64 pos) := hx9.cell 4
              have x5 : w9.cell? ⟨gx, 5, none⟩ = some (.bool by_) := hx9.cell 5
              have x6 : w9.cell? ⟨gx, 6, none⟩ = some (.string a1) := hx9.cell 6
              have x7 : w9.cell? ⟨gx, 7, none⟩ = some (.string a2) := hx9.cell 7
              have x8 : w9.cell? ⟨gx, 8, none⟩ = some (.string val) := hx9.cell 8
              have hr10 := hr9.alloc (.cells #[.int .i64 kind, .bool any, .string n1, .string n2, .int .i64 pos, .bool by_, .string a1, .string a2, .string val] 46)
              have hb10 := hb9.alloc hb9.size (.cells #[.int .i64 kind, .bool any, .string n1, .string n2, .int .i64 pos, .bool by_, .string a1, .string a2, .string val] 46)
              have hsl : Sl (w9.alloc (.cells #[.int .i64 kind, .bool any, .string n1, .string n2, .int .i64 pos, .bool by_, .string a1, .string a2, .string val] 46)) 9 (some ⟨w9.heap.size, 0, none⟩) 1 [.int .i64 kind, .bool any, .string n1, .string n2, .int .i64 pos, .bool by_, .string a1, .string a2, .string val] := Sl.lit w9 9 [.int .i64 kind, .bool any, .string n1, .string n2, .int .i64 pos, .bool by_, .string a1, .string a2, .string val] _ 1 rfl
              have hone9 : ∀ u ∈ ([.int .i64 kind, .bool any, .string n1, .string n2, .int .i64 pos, .bool by_, .string a1, .string a2, .string val] : List Value), u.oneCell' = true := by
                intro u hu
                simp only [List.mem_cons, List.not_mem_nil, or_false] at hu
                rcases hu with rfl | rfl | rfl | rfl | rfl | rfl | rfl | rfl | rfl <;> rfl
              have hs10 : w5.heap.size ≤ (w9.alloc (.cells #[.int .i64 kind, .bool any, .string n1, .string n2, .int .i64 pos, .bool by_, .string a1, .string a2, .string val] 46)).heap.size := by have := hb10.size; omega
              have hm9 : i + 1 ≤ maxLen := by unfold maxLen; omega
              go_wp2_with (at_builtin; refine wpList_append_sl _ rfl _ _ _ rfl w5.heap.size 46 i9 _ 9 112 Tryz.underlying23 hi9 hz0 hz1 hz2 rfl (by omega) _ i (cells9L out) rfl hr10 (some ⟨w9.heap.size, 0, none⟩) 1 1 [.int .i64 kind, .bool any, .string n1, .string n2, .int .i64 pos, .bool by_, .string a1, .string a2, .string val] rfl hsl hone9 hm9 (by omega) hs10 ?_)
              intro v11 w11 hown11 hg11 hat11
              have HB11 := Lib.hid (hb10.grown hg11 hs10 (fun k hk => (HR8.out.lt k hk).1))
              have HR11 := Lib.hid (show w11.ownsRow w5.heap.size 46 9 v11 (i + 1) (cells9L (out ++ [⟨kind, any, (n1, n2), pos, by_, (a1, a2), val⟩])) from by rw [hcat]; exact hown11)
              clear hown11 hg11 hat11 hb10 hr10 hsl hone9 hcat hr9 hb9 hx9 x0 x1 x2 x3 x4 x5 x6 x7 x8
              go_wp2
              go_roundw
              case rel => exact ⟨i + 1, out ++ [⟨kind, any, (n1, n2), pos, by_, (a1, a2), val⟩], by omega, by go_num, by simp; omega, HQ9, HR11, HB11⟩
              case measure => simp [intOf]; omega
        · have hdn : (ed == 0) = false := by simpa using hd0
          obtain rfl : .error ed = o := by
            rw [← HQ7.out, contS_dec out (by rw [htd]; exact hd0), htd]
          clear HQ7 HQ htd hdr hp hd0
          go_wp2_with fail
          refine (hde _).mono ?_
          rintro e w7 ⟨rfl, hb7⟩
          have HB7 := Lib.hid (HB6.out.trans ((HB.out.trans (hb7.mono HB.out.size)).mono HB6.out.size))
          clear hb7 hde cp
          go_wp2
          go_ret2
          exact StepsOut.bad' HB7.out
      · have hend : i = ps.length := by omega
        have hq := HQ.out
        rw [hend, List.drop_length, List.map_nil, parseL'] at hq
        obtain rfl : .ok out = o := by rw [← hq]; simp [contS]
        obtain ⟨C, kc, rfl⟩ := own_shape HR.out
        have HS9 : Hid (Sl9 wr C out) := Lib.hid (by
          have := Sl.of_own HR.out
          unfold Sl9
          rw [hol]
          exact this)
        have hi0 : ¬ (i : Int) < (ps.length : Int) := by omega
        have HOL := Lib.hid hol
        clear hq HQ hend h0
        go_wp2
        go_ret2
        have := StepsOut.good' (c := kc) (HB6.out.trans (HB.out.mono HB6.out.size)) HS9.out
        rw [HOL.out] at this
        exact this
end Go.Proofs.YtbdamneophbnnaaGreatDoor
