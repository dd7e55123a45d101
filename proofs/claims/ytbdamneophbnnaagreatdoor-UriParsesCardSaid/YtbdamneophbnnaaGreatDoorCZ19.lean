/- ScI. -/
import Derived.Test.YtbdamneophbnnaaGreatDoorCZ16
import Derived.Test.YtbdamneophbnnaaGreatDoorCZ18
namespace Wb
def contS (out : List StV) (o : Except Int (List StV)) : Except Int (List StV) :=
  match o with
  | .error e => .error e
  | .ok l => .ok (out ++ l)
theorem contS_nil (o : Except Int (List StV)) : contS [] o = o := by cases o <;> rfl
theorem contS_dec {sc : List Pr} {f : Bool} {p : List UInt8} {r : List (List UInt8)} (out : List StV) (h : (decP p).2 ≠ 0) : contS out (parseL' sc f (p :: r)) = .error (decP p).2 := by
  rw [parseL', if_pos h]
  rfl
theorem contS_bad {sc : List Pr} {f : Bool} {p : List UInt8} {r : List (List UInt8)} {k : Int} (out : List StV) (h : (decP p).2 = 0) (h1 : oneP sc (!f && r.isEmpty) (decP p).1 = .error k) : contS out (parseL' sc f (p :: r)) = .error k := by
  rw [parseL', if_neg (by omega), h1]
  rfl
theorem contS_good {sc : List Pr} {f : Bool} {p : List UInt8} {r : List (List UInt8)} {x : StV} (out : List StV) (h : (decP p).2 = 0) (h1 : oneP sc (!f && r.isEmpty) (decP p).1 = .ok x) : contS out (parseL' sc f (p :: r)) = contS (out ++ [x]) (parseL' sc false r) := by
  rw [parseL', if_neg (by omega), h1]
  simp only
  cases parseL' sc false r with
  | error e => rfl
  | ok l => simp [contS]
end Wb
namespace Go.Proofs.YtbdamneophbnnaaGreatDoor
open Go.RowKit Wb
theorem step9_info' : (Tryz.prog.info? 46).map (fun i => (i.zero, i.size, i.bytes)) = some (some (.agg #[.int .i64 0, .bool false, .string ⟨#[]⟩, .string ⟨#[]⟩, .int .i64 0, .bool false, .string ⟨#[]⟩, .string ⟨#[]⟩, .string ⟨#[]⟩]), 9, 112) := by kernel_rfl
theorem bind2_info : (Tryz.prog.info? 80).map (fun i => (i.zero, i.size, i.bytes)) = some (some (.agg #[.string ⟨#[]⟩, .string ⟨#[]⟩]), 2, 32) := by kernel_rfl
theorem StepsOut.bad' {k : Int} {w w' : World} (hb : Below w.heap.size w w') : StepsOut (.error k) w (.returned (.tuple #[.slice none 0 0, .int .i64 k])) w' :=
  ⟨hb, fun k' h => (by injection h with h; rw [h]), fun l h => by cases h⟩
theorem StepsOut.good' {C : Option Addr} {c : Nat} {l : List StV} {w w' : World} (hb : Below w.heap.size w w') (h : Sl9 w' C l) : StepsOut (.ok l) w (.returned (.tuple #[.slice C l.length c, .int .i64 0])) w' :=
  ⟨hb, fun k' h => (by cases h), fun l' h' => by injection h' with h'; subst h'; exact ⟨C, c, rfl, h⟩⟩
set_option maxHeartbeats 16000000 in
set_option maxRecDepth 100000 in
theorem sparse_any (s space : ByteArray) (B : Option Addr) (binds : List Pr) (c : Nat) (w : World) (hB : Sl2 w B binds) (hs : s.size ≤ 1000000) (hsp : space.size ≤ 1000000) (hbl : binds.length ≤ 100000) (hbs : ∀ b ∈ binds, b.1.size ≤ 1000000 ∧ b.2.size ≤ 1000000) (hG : GvS w) :
    Calls Tryz.prog 39 #[.string s, .string space, .slice B binds.length c] w (StepsOut (parseS s.data.toList space binds) w) := by
  obtain ⟨o, ho⟩ : ∃ o, parseS s.data.toList space binds = o := ⟨_, rfl⟩
  rw [ho]
  unfold parseS at ho
  obtain ⟨m, hm⟩ := hG.m
  have hcn := Tryz.strings_Count_any s ⟨#[47]⟩ m w (by omega) hm (by decide)
  have hpc := pcs_cnt 47 s
  have hpl : (pcsB 47 s).length = (pieceF 47 s.data.toList).length := by unfold pcsB; rw [List.length_map]
  by_cases h16 : 16 < (pieceF 47 s.data.toList).length
  · rw [if_pos h16] at ho
    subst ho
    have hge : (16 : Int) ≤ (Lib.countB s ⟨#[47]⟩ : Int) := by omega
    clear hm hpc hpl h16 hbs
    generalize Lib.countB s ⟨#[47]⟩ = n at *
    go_enter Tryz.func39, Tryz.ntmps39
    go_wp2_with fail
    refine hcn.mono ?_
    rintro e w1 ⟨rfl, rfl⟩
    go_wp2
    go_ret2
    exact StepsOut.bad' (Below.refl _ _)
  · rw [if_neg h16] at ho
    have hlt : ¬ (16 : Int) ≤ (Lib.countB s ⟨#[47]⟩ : Int) := by omega
    have hpn : (pcsB 47 s).length ≤ 16 := by omega
    have hsc : ScSm ((sE, space) :: binds) := by
      refine ⟨by simp; omega, fun x hx => ?_⟩
      rcases List.mem_cons.1 hx with rfl | hx
      · exact hsp
      · exact (hbs x hx).2
    have hpz : ∀ x ∈ pcsB 47 s, x.size ≤ 1000000 := fun x hx => by
      unfold pcsB at hx
      obtain ⟨y, hy, rfl⟩ := List.mem_map.1 hx
      have := piece_size 47 [] s.data.toList y hy
      have h4 : s.data.toList.length = s.size := by simp
      show y.toArray.size ≤ _
      rw [List.size_toArray]
      simp only [List.length_nil] at this
      omega
    have hpp := fun v hv => pieces_any s 47 v hs hv
    have HPM : Hid (pieceF 47 s.data.toList = (pcsB 47 s).map fun x => x.data.toList) := Lib.hid (by unfold pcsB; rw [List.map_map]; exact (List.map_id _).symm)
    rw [HPM.out] at ho
    obtain ⟨i2, hk0, hu0, hu1, hu2⟩ := info_parts bind2_info
    obtain ⟨i9, hi9, hz0, hz1, hz2⟩ := info_parts step9_info'
    have HG := Lib.hid (fun v (hb : Below w.heap.size w v) => hG.next hb)
    have HO := Lib.hid ho
    have HSC := Lib.hid hsc
    have HPZ := Lib.hid hpz
    have HPP := Lib.hid hpp
    generalize pcsB 47 s = ps at *
    have hlit := World.ownsRow_lit (base := w.heap.size) (e := 80) (size := 2) w #[.string ⟨#[]⟩, .string space] 1 (Nat.le_refl _) (by unfold maxLen; omega) rfl
    have hBa := Sl.alloc hB (.cells #[.string ⟨#[]⟩, .string space] 80)
    have hb0 := (Below.refl w.heap.size w).alloc (Nat.le_refl _) (.cells #[.string ⟨#[]⟩, .string space] 80)
    have hm1 : 1 + binds.length ≤ maxLen := by unfold maxLen; omega
    have hm2 : (1 + binds.length) * 32 ≤ 140737488355328 := by omega
    have hs0 : w.heap.size ≤ (w.alloc (.cells #[.string ⟨#[]⟩, .string space] 80)).heap.size := by simp
    have hone : ∀ u ∈ cells2 binds, u.oneCell' = true := by
      intro u hu
      unfold cells2 at hu
      obtain ⟨x, _, hx⟩ := List.mem_flatMap.1 hu
      simp only [List.mem_cons, List.not_mem_nil, or_false] at hx
      rcases hx with rfl | rfl <;> rfl
    clear ho hm hpc hpl h16 hbs hG hsc hpz hpp hs hsp
    generalize Lib.countB s ⟨#[47]⟩ = n at *
    go_enter Tryz.func39, Tryz.ntmps39
    go_wp2_with fail
    refine hcn.mono ?_
    rintro e w1 ⟨rfl, rfl⟩
    clear hcn
    go_wp2_with (at_builtin; refine wpList_append_sl _ rfl _ _ _ rfl w1.heap.size 80 i2 _ 2 32 Tryz.underlying24 hk0 hu0 hu1 hu2 rfl (by omega) _ 1 _ rfl hlit B binds.length c (cells2 binds) rfl hBa hone hm1 hm2 hs0 ?_)
    intro v5 w5 hown5 hg5 hat5
    have HB5 := Lib.hid (hb0.grown hg5 hs0 (fun k hk => by simp [Value.ownBlock] at hk; omega))
    have hown5 : w5.ownsRow w1.heap.size 80 2 v5 ((sE, space) :: binds).length (cells2 ((sE, space) :: binds)) := by
      rw [show ((sE, space) :: binds).length = 1 + binds.length by simp; omega]
      exact hown5
    obtain ⟨SA, sc, rfl⟩ := own_shape hown5
    have HSL : Hid (Sl2 w5 SA ((sE, space) :: binds)) := Lib.hid (Sl.of_own hown5)
    clear hown5 hg5 hat5 hlit hBa hb0 hone hs0 hm1 hm2
    go_wp2_with fail
    refine (HPP.out _ (HG.out _ HB5.out).m).mono ?_
    rintro e w6 ⟨v6, rfl, hown6, hb6⟩
    obtain ⟨PA, pc, rfl⟩ := own_shape hown6
    have HP6 : Hid (Sl1 w6 PA ps) := Lib.hid (Sl.of_own hown6)
    have HSL6 := Lib.hid (HSL.out.below hb6)
    have HB6 := Lib.hid (HB5.out.trans (hb6.mono HB5.out.size))
    clear hown6 hb6 HSL HB5 HPP
    go_wp2
    go_loopw [10, 11, 12, 13, 14, 15, 28] (fun v10 _ _ _ _ _ v28 wr => ∃ (i : Nat) (out : List StV), i ≤ ps.length ∧ v28 = .int .i64 i ∧ out.length = i ∧ Hid (contS out (parseL' ((sE, space) :: binds) (decide (i = 0)) ((ps.drop i).map fun x => x.data.toList)) = o) ∧ Hid (wr.ownsRow w6.heap.size 46 9 v10 i (cells9L out)) ∧ Hid (Below w6.heap.size w6 wr)) (fun _ _ _ _ _ _ v28 _ => ps.length - (intOf v28).toNat)
    case atStart => exact ⟨0, [], by omega, rfl, rfl, Lib.hid (by rw [contS_nil, List.drop_zero]; exact HO.out), Lib.hid (World.ownsRow_nil _ _ _ _), Lib.hid (Below.refl _ _)⟩
    case round =>
      obtain ⟨i, out, hi, rfl, hol, HQ, HR, HB⟩ := hrel
      by_cases h0 : i < ps.length
      · obtain ⟨p, hp⟩ : ∃ p, ps[i]? = some p := ⟨ps[i], List.getElem?_eq_getElem h0⟩
        have hdr : ps.drop i = p :: ps.drop (i + 1) := by
          rw [List.drop_eq_getElem_cons h0]
          rw [List.getElem?_eq_getElem h0] at hp
          injection hp with hp
          rw [hp]
        have hpz := HPZ.out p (List.mem_of_getElem? hp)
        obtain ⟨ad, rfl, had, cp⟩ := (HP6.out.below HB.out).at_ hp
        have hde := fun v => decode_any p v hpz
        obtain ⟨t, ed, htd⟩ : ∃ t ed, decP p.data.toList = (t, ed) := ⟨_, _, rfl⟩
        have htl : t.length ≤ 1000000 := by
          have := decP_len p.data.toList
          rw [htd] at this
          have e : p.data.toList.length = p.size := by simp
          simp only at this
          omega
        rw [htd] at hde
        simp only at hde
        have HQ7 : Hid (contS out (parseL' ((sE, space) :: binds) (decide (i = 0)) (p.data.toList :: (ps.drop (i + 1)).map fun x => x.data.toList)) = o) := Lib.hid (by rw [← HQ.out, hdr]; rfl)
        by_cases hd0 : ed = 0
        · subst hd0
          have HD0 : Hid ((decP p.data.toList).2 = 0) := Lib.hid (by rw [htd])
          have HBw := Lib.hid (HB6.out.trans (HB.out.mono HB6.out.size))
          have hemp : ((ps.drop (i + 1)).map fun x => x.data.toList).isEmpty = decide (i + 1 = ps.length) := by
            rw [List.isEmpty_map, Bool.eq_iff_iff, List.isEmpty_iff, List.drop_eq_nil_iff, decide_eq_true_eq]
            omega
          obtain ⟨last, hlast⟩ : ∃ b, (!decide (i = 0) && ((ps.drop (i + 1)).map fun x => x.data.toList).isEmpty) = b := ⟨_, rfl⟩
          obtain ⟨oo, hoo⟩ : ∃ oo, oneP ((sE, space) :: binds) last t = oo := ⟨_, rfl⟩
          have HOO : Hid (oneP ((sE, space) :: binds) (!decide (i = 0) && ((ps.drop (i + 1)).map fun x => x.data.toList).isEmpty) (decP p.data.toList).1 = oo) := Lib.hid (by rw [hlast, htd]; exact hoo)
          have hstep := fun v hv hg => step_any SA ((sE, space) :: binds) sc (mkT t) last v HSC.out (by rw [mkT_size]; exact htl) hv hg
          rw [mkT_list, hoo] at hstep
          have hcase : (i = 0 ∧ last = false) ∨ (0 < i ∧ i + 1 = ps.length ∧ last = true) ∨ (0 < i ∧ i + 1 ≠ ps.length ∧ last = false) := by
            rw [hemp] at hlast
            by_cases e0 : i = 0
            · exact .inl ⟨e0, by rw [← hlast, decide_eq_true e0]; rfl⟩
            · by_cases e1 : i + 1 = ps.length
              · exact .inr (.inl ⟨by omega, e1, by rw [← hlast, decide_eq_false e0, decide_eq_true e1]; rfl⟩)
              · exact .inr (.inr ⟨by omega, e1, by rw [← hlast, decide_eq_false e0, decide_eq_false e1]; rfl⟩)
          have hwr1 : IntKind.i64.wrap ((ps.length : Int) - 1) = (ps.length : Int) - 1 := by rw [IntKind.wrap_i64]; omega
          have hwr2 : IntKind.i64.wrap ((i : Int) + 1) = (i : Int) + 1 := by rw [IntKind.wrap_i64]; omega
          have hfacts : (decide ((0 : Int) < (i : Int)) = false ∧ ¬ (0 : Int) < (i : Int) ∧ last = false) ∨ (decide ((0 : Int) < (i : Int)) = true ∧ (0 : Int) < (i : Int) ∧ ((i : Int) == (ps.length : Int) - 1) = true ∧ last = true) ∨ (decide ((0 : Int) < (i : Int)) = true ∧ (0 : Int) < (i : Int) ∧ ((i : Int) == (ps.length : Int) - 1) = false ∧ last = false) := by
            rcases hcase with ⟨e0, e1⟩ | ⟨e0, e1, e2⟩ | ⟨e0, e1, e2⟩
            · exact .inl ⟨decide_eq_false (by omega), by omega, e1⟩
            · exact .inr (.inl ⟨decide_eq_true (by omega), by omega, by rw [beq_iff_eq]; omega, e2⟩)
            · exact .inr (.inr ⟨decide_eq_true (by omega), by omega, by rw [beq_eq_false_iff_ne]; omega, e2⟩)
          clear hcase hlast hemp htd HQ hdr hoo hp
          go_wp2_with fail
          refine (hde _).mono ?_
          rintro e w7 ⟨rfl, hb7⟩
          have HB7 := Lib.hid (HB.out.trans (hb7.mono HB.out.size))
          have HB7w := Lib.hid (HBw.out.trans (hb7.mono HBw.out.size))
          have HR7 := Lib.hid (own_below HR.out hb7)
          have HSC7 := Lib.hid (HSL6.out.below HB7.out)
          clear hb7 hde HB HR HBw cp had
          rcases hfacts with ⟨hd1, hd2, rfl⟩ | ⟨hd1, hd3, hd2, rfl⟩ | ⟨hd1, hd3, hd2, rfl⟩
          · go_wp2_with fail
            refine (hstep _ (HSC7.out) (HG.out _ HB7w.out)).mono ?_
            rintro e w8 ⟨ho1, hb8⟩
            have HB8 := Lib.hid (HB7.out.trans (hb8.mono HB7.out.size))
            have HR8 := Lib.hid (own_below HR7.out hb8)
            clear hb8 hstep HSC7 HB7w HR7 HB7
            cases oo with
            | error kk =>
              have hk : kk ≠ 0 := oneP_nz HOO.out
              have hkn : (kk == 0) = false := by simpa using hk
              obtain rfl := ho1.1 kk rfl
              obtain rfl : .error kk = o := by rw [← HQ7.out]; exact (contS_bad out HD0.out HOO.out).symm
              unfold stV nE
              clear HQ7 HOO ho1 hk
              go_wp2
              go_ret2
              exact StepsOut.bad' (HB6.out.trans ((HB8.out.alloc HB8.out.size _).mono HB6.out.size))
            | ok x =>
              obtain rfl := ho1.2 x rfl
              have HQ9 : Hid (contS (out ++ [x]) (parseL' ((sE, space) :: binds) (decide (i + 1 = 0)) ((ps.drop (i + 1)).map fun x => x.data.toList)) = o) := Lib.hid (by
                rw [← HQ7.out, contS_good out HD0.out HOO.out, decide_eq_false (Nat.succ_ne_zero i)])
              have hcat : cells9L (out ++ [x]) = cells9L out ++ cells9 x := by unfold cells9L; simp
              obtain ⟨kind, any, ⟨n1, n2⟩, pos, by_, ⟨a1, a2⟩, val⟩ := x
              unfold stV
              clear HQ7 HOO ho1
              have hx9 := OwnB.new0 w8 #[.int .i64 kind, .bool any, .string n1, .string n2, .int .i64 pos, .bool by_, .string a1, .string a2, .string val] 46
              have hb9 := HB8.out.alloc HB8.out.size (.cells #[.int .i64 kind, .bool any, .string n1, .string n2, .int .i64 pos, .bool by_, .string a1, .string a2, .string val] 46)
              have hr9 := HR8.out.alloc (.cells #[.int .i64 kind, .bool any, .string n1, .string n2, .int .i64 pos, .bool by_, .string a1, .string a2, .string val] 46)
              go_upto_region 13 with fail
              generalize w8.alloc (.cells #[.int .i64 kind, .bool any, .string n1, .string n2, .int .i64 pos, .bool by_, .string a1, .string a2, .string val] 46) = w9 at *
              generalize w8.heap.size = gx at *
              have x0 : w9.cell? ⟨gx, 0, none⟩ = some (.int .i64 kind) := hx9.cell 0
              have x1 : w9.cell? ⟨gx, 1, none⟩ = some (.bool any) := hx9.cell 1
              have x2 : w9.cell? ⟨gx, 2, none⟩ = some (.string n1) := hx9.cell 2
              have x3 : w9.cell? ⟨gx, 3, none⟩ = some (.string n2) := hx9.cell 3
              have x4 : w9.cell? ⟨gx, 4, none⟩ = some (.int .i64 pos) := hx9.cell 4
              have x5 : w9.cell? ⟨gx, 5, none⟩ = some (.bool by_) := hx9.cell 5
              have x6 : w9.cell? ⟨gx, 6, none⟩ = some (.string a1) := hx9.cell 6
              have x7 : w9.cell? ⟨gx, 7, none⟩ = some (.string a2) := hx9.cell 7
              have x8 : w9.cell? ⟨gx, 8, none⟩ = some (.string val) := hx9.cell 8
              have hr10 := hr9.alloc (.cells #[.int .i64 kind, .bool any, .string n1, .string n2, .int .i64 pos, .bool by_, .string a1, .string a2, .string val] 46)
              have hb10 := hb9.alloc hb9.size (.cells #[.int .i64 kind, .bool any, .string n1, .string n2, .int .i64 pos, .bool by_, .string a1, .string a2, .string val] 46)
              have hsl : Sl (w9.alloc (.cells #[.int .i64 kind, .bool any, .string n1, .string n2, .int .i64 pos, .bool by_, .string a1, .string a2, .string val] 46)) 9 (some ⟨w9.heap.size, 0, none⟩) 1 [.int .i64 kind, .bool any, .string n1, .string n2, .int .i64 pos, .bool by_, .string a1, .string a2, .string val] := Sl.lit w9 9 [.int .i64 kind, .bool any, .string n1, .string n2, .int .i64 pos, .bool by_, .string a1, .string a2, .string val] _ 1 rfl
              have hone9 : ∀ u ∈ ([.int .i64 kind, .bool any, .string n1, .string n2, .int .i64 pos, .bool by_, .string a1, .string a2, .string val] : List Value), u.oneCell' = true := by
                intro u hu
                simp only [List.mem_cons, List.not_mem_nil, or_false] at hu
                rcases hu with rfl | rfl | rfl | rfl | rfl | rfl | rfl | rfl | rfl <;> rfl
              have hs10 : w6.heap.size ≤ (w9.alloc (.cells #[.int .i64 kind, .bool any, .string n1, .string n2, .int .i64 pos, .bool by_, .string a1, .string a2, .string val] 46)).heap.size := by have := hb10.size; omega
              have hm9 : i + 1 ≤ maxLen := by unfold maxLen; omega
              go_wp2_with (at_builtin; refine wpList_append_sl _ rfl _ _ _ rfl w6.heap.size 46 i9 _ 9 112 Tryz.underlying23 hi9 hz0 hz1 hz2 rfl (by omega) _ i (cells9L out) rfl hr10 (some ⟨w9.heap.size, 0, none⟩) 1 1 [.int .i64 kind, .bool any, .string n1, .string n2, .int .i64 pos, .bool by_, .string a1, .string a2, .string val] rfl hsl hone9 hm9 (by omega) hs10 ?_)
              intro v11 w11 hown11 hg11 hat11
              have HB11 := Lib.hid (hb10.grown hg11 hs10 (fun k hk => (HR8.out.lt k hk).1))
              have HR11 := Lib.hid (show w11.ownsRow w6.heap.size 46 9 v11 (i + 1) (cells9L (out ++ [⟨kind, any, (n1, n2), pos, by_, (a1, a2), val⟩])) from by rw [hcat]; exact hown11)
              clear hown11 hg11 hat11 hb10 hr10 hsl hone9 hcat hr9 hb9 hx9 x0 x1 x2 x3 x4 x5 x6 x7 x8
              go_wp2
              go_roundw
              case rel => exact ⟨i + 1, out ++ [⟨kind, any, (n1, n2), pos, by_, (a1, a2), val⟩], by omega, by go_num, by simp; omega, HQ9, HR11, HB11⟩
              case measure => simp [intOf]; omega
          · go_wp2_with fail
            refine (hstep _ (HSC7.out) (HG.out _ HB7w.out)).mono ?_
            rintro e w8 ⟨ho1, hb8⟩
            have HB8 := Lib.hid (HB7.out.trans (hb8.mono HB7.out.size))
            have HR8 := Lib.hid (own_below HR7.out hb8)
            clear hb8 hstep HSC7 HB7w HR7 HB7
            cases oo with
            | error kk =>
              have hk : kk ≠ 0 := oneP_nz HOO.out
              have hkn : (kk == 0) = false := by simpa using hk
              obtain rfl := ho1.1 kk rfl
              obtain rfl : .error kk = o := by rw [← HQ7.out]; exact (contS_bad out HD0.out HOO.out).symm
              unfold stV nE
              clear HQ7 HOO ho1 hk
              go_wp2
              go_ret2
              exact StepsOut.bad' (HB6.out.trans ((HB8.out.alloc HB8.out.size _).mono HB6.out.size))
            | ok x =>
              obtain rfl := ho1.2 x rfl
              have HQ9 : Hid (contS (out ++ [x]) (parseL' ((sE, space) :: binds) (decide (i + 1 = 0)) ((ps.drop (i + 1)).map fun x => x.data.toList)) = o) := Lib.hid (by
                rw [← HQ7.out, contS_good out HD0.out HOO.out, decide_eq_false (Nat.succ_ne_zero i)])
              have hcat : cells9L (out ++ [x]) = cells9L out ++ cells9 x := by unfold cells9L; simp
              obtain ⟨kind, any, ⟨n1, n2⟩, pos, by_, ⟨a1, a2⟩, val⟩ := x
              unfold stV
              clear HQ7 HOO ho1
              have hx9 := OwnB.new0 w8 #[.int .i64 kind, .bool any, .string n1, .string n2, .int .i64 pos, .bool by_, .string a1, .string a2, .string val] 46
              have hb9 := HB8.out.alloc HB8.out.size (.cells #[.int .i64 kind, .bool any, .string n1, .string n2, .int .i64 pos, .bool by_, .string a1, .string a2, .string val] 46)
              have hr9 := HR8.out.alloc (.cells #[.int .i64 kind, .bool any, .string n1, .string n2, .int .i64 pos, .bool by_, .string a1, .string a2, .string val] 46)
              go_upto_region 13 with fail
              generalize w8.alloc (.cells #[.int .i64 kind, .bool any, .string n1, .string n2, .int .i64 pos, .bool by_, .string a1, .string a2, .string val] 46) = w9 at *
              generalize w8.heap.size = gx at *
              have x0 : w9.cell? ⟨gx, 0, none⟩ = some (.int .i64 kind) := hx9.cell 0
              have x1 : w9.cell? ⟨gx, 1, none⟩ = some (.bool any) := hx9.cell 1
              have x2 : w9.cell? ⟨gx, 2, none⟩ = some (.string n1) := hx9.cell 2
              have x3 : w9.cell? ⟨gx, 3, none⟩ = some (.string n2) := hx9.cell 3
              have x4 : w9.cell? ⟨gx, 4, none⟩ = some (.int .i64 pos) := hx9.cell 4
              have x5 : w9.cell? ⟨gx, 5, none⟩ = some (.bool by_) := hx9.cell 5
              have x6 : w9.cell? ⟨gx, 6, none⟩ = some (.string a1) := hx9.cell 6
              have x7 : w9.cell? ⟨gx, 7, none⟩ = some (.string a2) := hx9.cell 7
              have x8 : w9.cell? ⟨gx, 8, none⟩ = some (.string val) := hx9.cell 8
              have hr10 := hr9.alloc (.cells #[.int .i64 kind, .bool any, .string n1, .string n2, .int .i64 pos, .bool by_, .string a1, .string a2, .string val] 46)
              have hb10 := hb9.alloc hb9.size (.cells #[.int .i64 kind, .bool any, .string n1, .string n2, .int .i64 pos, .bool by_, .string a1, .string a2, .string val] 46)
              have hsl : Sl (w9.alloc (.cells #[.int .i64 kind, .bool any, .string n1, .string n2, .int .i64 pos, .bool by_, .string a1, .string a2, .string val] 46)) 9 (some ⟨w9.heap.size, 0, none⟩) 1 [.int .i64 kind, .bool any, .string n1, .string n2, .int .i64 pos, .bool by_, .string a1, .string a2, .string val] := Sl.lit w9 9 [.int .i64 kind, .bool any, .string n1, .string n2, .int .i64 pos, .bool by_, .string a1, .string a2, .string val] _ 1 rfl
              have hone9 : ∀ u ∈ ([.int .i64 kind, .bool any, .string n1, .string n2, .int .i64 pos, .bool by_, .string a1, .string a2, .string val] : List Value), u.oneCell' = true := by
                intro u hu
                simp only [List.mem_cons, List.not_mem_nil, or_false] at hu
                rcases hu with rfl | rfl | rfl | rfl | rfl | rfl | rfl | rfl | rfl <;> rfl
              have hs10 : w6.heap.size ≤ (w9.alloc (.cells #[.int .i64 kind, .bool any, .string n1, .string n2, .int .i64 pos, .bool by_, .string a1, .string a2, .string val] 46)).heap.size := by have := hb10.size; omega
              have hm9 : i + 1 ≤ maxLen := by unfold maxLen; omega
              go_wp2_with (at_builtin; refine wpList_append_sl _ rfl _ _ _ rfl w6.heap.size 46 i9 _ 9 112 Tryz.underlying23 hi9 hz0 hz1 hz2 rfl (by omega) _ i (cells9L out) rfl hr10 (some ⟨w9.heap.size, 0, none⟩) 1 1 [.int .i64 kind, .bool any, .string n1, .string n2, .int .i64 pos, .bool by_, .string a1, .string a2, .string val] rfl hsl hone9 hm9 (by omega) hs10 ?_)
              intro v11 w11 hown11 hg11 hat11
              have HB11 := Lib.hid (hb10.grown hg11 hs10 (fun k hk => (HR8.out.lt k hk).1))
              have HR11 := Lib.hid (show w11.ownsRow w6.heap.size 46 9 v11 (i + 1) (cells9L (out ++ [⟨kind, any, (n1, n2), pos, by_, (a1, a2), val⟩])) from by rw [hcat]; exact hown11)
              clear hown11 hg11 hat11 hb10 hr10 hsl hone9 hcat hr9 hb9 hx9 x0 x1 x2 x3 x4 x5 x6 x7 x8
              go_wp2
              go_roundw
              case rel => exact ⟨i + 1, out ++ [⟨kind, any, (n1, n2), pos, by_, (a1, a2), val⟩], by omega, by go_num, by simp; omega, HQ9, HR11, HB11⟩
              case measure => simp [intOf]; omega
          · go_wp2_with fail
            refine (hstep _ (HSC7.out) (HG.out _ HB7w.out)).mono ?_
            rintro e w8 ⟨ho1, hb8⟩
            have HB8 := Lib.hid (HB7.out.trans (hb8.mono HB7.out.size))
            have HR8 := Lib.hid (own_below HR7.out hb8)
            clear hb8 hstep HSC7 HB7w HR7 HB7
            cases oo with
            | error kk =>
              have hk : kk ≠ 0 := oneP_nz HOO.out
              have hkn : (kk == 0) = false := by simpa using hk
              obtain rfl := ho1.1 kk rfl
              obtain rfl : .error kk = o := by rw [← HQ7.out]; exact (contS_bad out HD0.out HOO.out).symm
              unfold stV nE
              clear HQ7 HOO ho1 hk
              go_wp2
              go_ret2
              exact StepsOut.bad' (HB6.out.trans ((HB8.out.alloc HB8.out.size _).mono HB6.out.size))
            | ok x =>
              obtain rfl := ho1.2 x rfl
              have HQ9 : Hid (contS (out ++ [x]) (parseL' ((sE, space) :: binds) (decide (i + 1 = 0)) ((ps.drop (i + 1)).map fun x => x.data.toList)) = o) := Lib.hid (by
                rw [← HQ7.out, contS_good out HD0.out HOO.out, decide_eq_false (Nat.succ_ne_zero i)])
              have hcat : cells9L (out ++ [x]) = cells9L out ++ cells9 x := by unfold cells9L; simp
              obtain ⟨kind, any, ⟨n1, n2⟩, pos, by_, ⟨a1, a2⟩, val⟩ := x
              unfold stV
              clear HQ7 HOO ho1
              have hx9 := OwnB.new0 w8 #[.int .i64 kind, .bool any, .string n1, .string n2, .int .i64 pos, .bool by_, .string a1, .string a2, .string val] 46
              have hb9 := HB8.out.alloc HB8.out.size (.cells #[.int .i64 kind, .bool any, .string n1, .string n2, .int .i64 pos, .bool by_, .string a1, .string a2, .string val] 46)
              have hr9 := HR8.out.alloc (.cells #[.int .i64 kind, .bool any, .string n1, .string n2, .int .i64 pos, .bool by_, .string a1, .string a2, .string val] 46)
              go_upto_region 13 with fail
              generalize w8.alloc (.cells #[.int .i64 kind, .bool any, .string n1, .string n2, .int .i64 pos, .bool by_, .string a1, .string a2, .string val] 46) = w9 at *
              generalize w8.heap.size = gx at *
              have x0 : w9.cell? ⟨gx, 0, none⟩ = some (.int .i64 kind) := hx9.cell 0
              have x1 : w9.cell? ⟨gx, 1, none⟩ = some (.bool any) := hx9.cell 1
              have x2 : w9.cell? ⟨gx, 2, none⟩ = some (.string n1) := hx9.cell 2
              have x3 : w9.cell? ⟨gx, 3, none⟩ = some (.string n2) := hx9.cell 3
              have x4 : w9.cell? ⟨gx, 4, none⟩ = some (.int .i64 pos) := hx9.cell 4
              have x5 : w9.cell? ⟨gx, 5, none⟩ = some (.bool by_) := hx9.cell 5
              have x6 : w9.cell? ⟨gx, 6, none⟩ = some (.string a1) := hx9.cell 6
              have x7 : w9.cell? ⟨gx, 7, none⟩ = some (.string a2) := hx9.cell 7
              have x8 : w9.cell? ⟨gx, 8, none⟩ = some (.string val) := hx9.cell 8
              have hr10 := hr9.alloc (.cells #[.int .i64 kind, .bool any, .string n1, .string n2, .int .i64 pos, .bool by_, .string a1, .string a2, .string val] 46)
              have hb10 := hb9.alloc hb9.size (.cells #[.int .i64 kind, .bool any, .string n1, .string n2, .int .i64 pos, .bool by_, .string a1, .string a2, .string val] 46)
              have hsl : Sl (w9.alloc (.cells #[.int .i64 kind, .bool any, .string n1, .string n2, .int .i64 pos, .bool by_, .string a1, .string a2, .string val] 46)) 9 (some ⟨w9.heap.size, 0, none⟩) 1 [.int .i64 kind, .bool any, .string n1, .string n2, .int .i64 pos, .bool by_, .string a1, .string a2, .string val] := Sl.lit w9 9 [.int .i64 kind, .bool any, .string n1, .string n2, .int .i64 pos, .bool by_, .string a1, .string a2, .string val] _ 1 rfl
              have hone9 : ∀ u ∈ ([.int .i64 kind, .bool any, .string n1, .string n2, .int .i64 pos, .bool by_, .string a1, .string a2, .string val] : List Value), u.oneCell' = true := by
                intro u hu
                simp only [List.mem_cons, List.not_mem_nil, or_false] at hu
                rcases hu with rfl | rfl | rfl | rfl | rfl | rfl | rfl | rfl | rfl <;> rfl
              have hs10 : w6.heap.size ≤ (w9.alloc (.cells #[.int .i64 kind, .bool any, .string n1, .string n2, .int .i64 pos, .bool by_, .string a1, .string a2, .string val] 46)).heap.size := by have := hb10.size; omega
              have hm9 : i + 1 ≤ maxLen := by unfold maxLen; omega
              go_wp2_with (at_builtin; refine wpList_append_sl _ rfl _ _ _ rfl w6.heap.size 46 i9 _ 9 112 Tryz.underlying23 hi9 hz0 hz1 hz2 rfl (by omega) _ i (cells9L out) rfl hr10 (some ⟨w9.heap.size, 0, none⟩) 1 1 [.int .i64 kind, .bool any, .string n1, .string n2, .int .i64 pos, .bool by_, .string a1, .string a2, .string val] rfl hsl hone9 hm9 (by omega) hs10 ?_)
              intro v11 w11 hown11 hg11 hat11
              have HB11 := Lib.hid (hb10.grown hg11 hs10 (fun k hk => (HR8.out.lt k hk).1))
              have HR11 := Lib.hid (show w11.ownsRow w6.heap.size 46 9 v11 (i + 1) (cells9L (out ++ [⟨kind, any, (n1, n2), pos, by_, (a1, a2), val⟩])) from by rw [hcat]; exact hown11)
              clear hown11 hg11 hat11 hb10 hr10 hsl hone9 hcat hr9 hb9 hx9 x0 x1 x2 x3 x4 x5 x6 x7 x8
              go_wp2
              go_roundw
              case rel => exact ⟨i + 1, out ++ [⟨kind, any, (n1, n2), pos, by_, (a1, a2), val⟩], by omega, by go_num, by simp; omega, HQ9, HR11, HB11⟩
              case measure => simp [intOf]; omega
        · have hdn : (ed == 0) = false := by simpa using hd0
          obtain rfl : .error ed = o := by
            rw [← HQ7.out, contS_dec out (by rw [htd]; exact hd0), htd]
          clear HQ7 HQ htd hdr hp hd0
          go_wp2_with fail
          refine (hde _).mono ?_
          rintro e w7 ⟨rfl, hb7⟩
          have HB7 := Lib.hid (HB6.out.trans ((HB.out.trans (hb7.mono HB.out.size)).mono HB6.out.size))
          clear hb7 hde cp
          go_wp2
          go_ret2
          exact StepsOut.bad' HB7.out
      · have hend : i = ps.length := by omega
        have hq := HQ.out
        rw [hend, List.drop_length, List.map_nil, parseL'] at hq
        obtain rfl : .ok out = o := by rw [← hq]; simp [contS]
        obtain ⟨C, kc, rfl⟩ := own_shape HR.out
        have HS9 : Hid (Sl9 wr C out) := Lib.hid (by
          have := Sl.of_own HR.out
          unfold Sl9
          rw [hol]
          exact this)
        have hi0 : ¬ (i : Int) < (ps.length : Int) := by omega
        have HOL := Lib.hid hol
        clear hq HQ hend h0
        go_wp2
        go_ret2
        have := StepsOut.good' (c := kc) (HB6.out.trans (HB.out.mono HB6.out.size)) HS9.out
        rw [HOL.out] at this
        exact this
end Go.Proofs.YtbdamneophbnnaaGreatDoor
