/- UbG. -/
import Derived.Test.YtbdamneophbnnaaGreatDoorCZ16
import Derived.Test.YtbdamneophbnnaaGreatDoorCZ26
namespace Go.Proofs.YtbdamneophbnnaaGreatDoor
open Go.RowKit Wb
theorem hd91 {d : List UInt8} {N R : ByteArray} (h : headP d = (N.data.toList, R.data.toList)) : R = ⟨#[]⟩ ∨ ∃ r, R.data.toList = 91 :: r := by
  have h2 := congrArg Prod.snd h
  rcases head_rest d with h3 | ⟨r, h3⟩
  · left
    rw [h3] at h2
    have : R.data = #[] := Array.toList_inj.1 h2.symm
    rw [← this]
  · right
    exact ⟨r, h2.symm.trans h3⟩
set_option maxHeartbeats 16000000 in
set_option maxRecDepth 100000 in
theorem relement_any (A : Option Addr) (l : List Pr) (c : Nat) (d : ByteArray) (w : World) (hl : ScSm l) (hd : d.size ≤ 1000000) (hA : Sl2 w A l) :
    Calls Tryz.prog 46 #[.string d, .slice A l.length c] w fun e w' => OneOut (stepP l d.data.toList) e ∧ Below w.heap.size w w' := by
  obtain ⟨o, ho⟩ : ∃ o, stepP l d.data.toList = o := ⟨_, rfl⟩
  rw [ho]
  have hdl : d.data.toList.length = d.size := by simp
  have HE := Lib.hid (ElHyp.of (c := c) hl.1 hA)
  have HIX := Lib.hid (fun v => index_any d ⟨#[91]⟩ 0 v (by omega) (by decide) (by omega))
  have hr0 := OwnB.new0 w #[.int .i64 0, .bool false, .string ⟨#[]⟩, .string ⟨#[]⟩, .int .i64 0, .bool false, .string ⟨#[]⟩, .string ⟨#[]⟩, .string ⟨#[]⟩] 46
  have hb0 := (Below.refl w.heap.size w).alloc (Nat.le_refl _) (.cells #[.int .i64 0, .bool false, .string ⟨#[]⟩, .string ⟨#[]⟩, .int .i64 0, .bool false, .string ⟨#[]⟩, .string ⟨#[]⟩, .string ⟨#[]⟩] 46)
  clear hA
  go_enter Tryz.func46, Tryz.ntmps46
  go_upto_region 1 with fail
  generalize w.alloc (.cells #[.int .i64 0, .bool false, .string ⟨#[]⟩, .string ⟨#[]⟩, .int .i64 0, .bool false, .string ⟨#[]⟩, .string ⟨#[]⟩, .string ⟨#[]⟩] 46) = w0 at *
  go_wp2_with fail
  refine (HIX.out _).mono ?_
  rintro e w1 ⟨re, rfl, hre, rfl⟩
  have hre := idx_list hre
  rw [List.drop_zero] at hre
  clear HIX
  go_upto_if 27 with fail
  go_cut [6] (fun v6 wx => ∃ k : Nat, k ≤ d.size ∧ v6 = .int .i64 k ∧ Hid (headP d.data.toList = ((d.extract 0 k).data.toList, (d.extract k d.size).data.toList)) ∧ wx = w0)
  case first =>
    rcases hre with ⟨rfl, hno⟩ | ⟨k, rfl, _, hk, hdr, hX⟩
    · have hh : Hid (headP d.data.toList = ((d.extract 0 d.size).data.toList, (d.extract d.size d.size).data.toList)) := Lib.hid (by
        rw [uhead_none hno, ext_take, ext_drop11, ← hdl, List.take_length, List.drop_length])
      clear hno hdl ho hl
      go_wp2
      go_meet
      case rel => exact ⟨d.size, Nat.le_refl _, rfl, hh, rfl⟩
    · have hh : Hid (headP d.data.toList = ((d.extract 0 k).data.toList, (d.extract k d.size).data.toList)) := Lib.hid (by
        have e2 : d.data.toList.drop k = 91 :: d.data.toList.drop (k + 1) := by
          have e3 : (d.extract 0 k).data.toList.length = k := by rw [ext_take, List.length_take]; omega
          conv => lhs; rw [hdr]
          rw [List.drop_append_of_le_length (by omega), List.drop_of_length_le (by omega), List.nil_append]
        rw [ext_drop11, e2]
        conv => lhs; rw [hdr]
        exact uhead_at hX)
      have k0 : ¬ (k : Int) < 0 := by omega
      clear hdr hX hdl ho hl
      go_wp2
      go_meet
      case rel => exact ⟨k, by omega, rfl, hh, rfl⟩
  case rest =>
    obtain ⟨k, hkd, rfl, HH, rfl⟩ := hcut
    rename World => w0
    clear hre
    have b1 : (0 : Int) ≤ (k : Int) := by omega
    have b2 : (k : Int) ≤ (d.size : Int) := by omega
    obtain ⟨N, hN⟩ : ∃ N, d.extract 0 k = N := ⟨_, rfl⟩
    obtain ⟨R, hR⟩ : ∃ R, d.extract k d.size = R := ⟨_, rfl⟩
    have hNz : N.size ≤ 1000000 := by rw [← hN]; simp; omega
    have hRz : R.size ≤ 1000000 := by rw [← hR]; simp; omega
    have hst : StAt l d.data.toList N R := ⟨by rw [HH.out, hN, hR]⟩
    have hR91 : R = ⟨#[]⟩ ∨ ∃ r, R.data.toList = 91 :: r := hd91 hst.hd
    have HST := Lib.hid hst
    have HO := Lib.hid ho
    have HSP := Lib.hid (fun v => rsplit_any N v (by omega))
    clear HH hst ho hdl
    go_upto_region 4 with fail
    go_region
    have hr1 : OwnB w.heap.size w w0.drew #[.int .i64 0, .bool false, .string ⟨#[]⟩, .string ⟨#[]⟩, .int .i64 0, .bool false, .string ⟨#[]⟩, .string ⟨#[]⟩, .string ⟨#[]⟩] 46 := ⟨hr0.blk, hr0.low⟩
    have hb1 : Below w.heap.size w w0.drew := hb0.drew
    clear hr0 hb0
    generalize w0.drew = w1 at *
    obtain ⟨any, hany⟩ : ∃ b, (N.toList == [42]) = b := ⟨_, rfl⟩
    go_upto_region 6 with fail
    (try rw [hany])
    have hx2 := OwnB.new #[.int .i64 1, .bool any, .string ⟨#[]⟩, .string ⟨#[]⟩, .int .i64 0, .bool false, .string ⟨#[]⟩, .string ⟨#[]⟩, .string ⟨#[]⟩] 46 hb1
    have hr2 := hr1.alloc (.cells #[.int .i64 1, .bool any, .string ⟨#[]⟩, .string ⟨#[]⟩, .int .i64 0, .bool false, .string ⟨#[]⟩, .string ⟨#[]⟩, .string ⟨#[]⟩] 46)
    have hb2 := hb1.alloc hb1.size (.cells #[.int .i64 1, .bool any, .string ⟨#[]⟩, .string ⟨#[]⟩, .int .i64 0, .bool false, .string ⟨#[]⟩, .string ⟨#[]⟩, .string ⟨#[]⟩] 46)
    have hnex : w.heap.size ≠ w1.heap.size := by have := hr1.lt; omega
    generalize w1.alloc (.cells #[.int .i64 1, .bool any, .string ⟨#[]⟩, .string ⟨#[]⟩, .int .i64 0, .bool false, .string ⟨#[]⟩, .string ⟨#[]⟩, .string ⟨#[]⟩] 46) = w2 at *
    generalize w1.heap.size = gx at *
    clear hr1 hb1
    go_wp2_with fail
    refine (HSP.out _).mono ?_
    rintro e w3 ⟨rfl, hbx⟩
    have hx3 := hx2.next hbx
    have hr3 := hr2.next hbx
    have hb3 := hb2.trans (hbx.mono hb2.size)
    clear hx2 hr2 hb2 hbx HSP hN hR b1 b2 hkd
    have hN42 : N.data.toList = [42] ↔ any = true := by rw [← hany, ByteArray.toList_eq, beq_iff_eq]
    clear hany
    obtain ⟨sok, hsok⟩ : ∃ b, (splitB N).2.2 = b := ⟨_, rfl⟩
    rw [hsok]
    generalize (splitB N).1 = sp1
    generalize (splitB N).2.1 = sp2
    have x1 : w3.cell? ⟨gx, 1, none⟩ = some (.bool any) := hx3.cell 1
    by_cases hbad : sok = false ∧ any = false
    · obtain ⟨rfl, rfl⟩ := hbad
      obtain rfl : .error 33 = o := by rw [← HO.out, HST.out.name (fun h => by have := hN42.1 h; cases this) hsok]
      clear HO HST HE hN42 hsok hR91
      have d0 : w3.cell? ⟨w.heap.size, 0, none⟩ = some (.int .i64 0) := hr3.cell 0
      have d1 : w3.cell? ⟨w.heap.size, 1, none⟩ = some (.bool false) := hr3.cell 1
      have d2 : w3.cell? ⟨w.heap.size, 2, none⟩ = some (.string ⟨#[]⟩) := hr3.cell 2
      have d3 : w3.cell? ⟨w.heap.size, 3, none⟩ = some (.string ⟨#[]⟩) := hr3.cell 3
      have d4 : w3.cell? ⟨w.heap.size, 4, none⟩ = some (.int .i64 0) := hr3.cell 4
      have d5 : w3.cell? ⟨w.heap.size, 5, none⟩ = some (.bool false) := hr3.cell 5
      have d6 : w3.cell? ⟨w.heap.size, 6, none⟩ = some (.string ⟨#[]⟩) := hr3.cell 6
      have d7 : w3.cell? ⟨w.heap.size, 7, none⟩ = some (.string ⟨#[]⟩) := hr3.cell 7
      have d8 : w3.cell? ⟨w.heap.size, 8, none⟩ = some (.string ⟨#[]⟩) := hr3.cell 8
      have df0 := hr3.free 0
      have df1 := hr3.free 1
      have df2 := hr3.free 2
      have df3 := hr3.free 3
      have df4 := hr3.free 4
      have df5 := hr3.free 5
      have df6 := hr3.free 6
      have df7 := hr3.free 7
      have df8 := hr3.free 8
      clear hx3 hnex
      go_wp2
      refine bodyPost_ret (results_cell2 rfl _ _ w.heap.size _ _ _ rfl (hr3.all9 _ _ _ _ _ _ _ _ _).blk Tryz.underlying46 rfl step9_size) rfl ?_
      exact ⟨OneOut.bad, (((((((((hb3.setCell (Nat.le_refl _) _).setCell (Nat.le_refl _) _).setCell (Nat.le_refl _) _).setCell (Nat.le_refl _) _).setCell (Nat.le_refl _) _).setCell (Nat.le_refl _) _).setCell (Nat.le_refl _) _).setCell (Nat.le_refl _) _).setCell (Nat.le_refl _) _)⟩
    · have hnm : N.data.toList = [42] ∨ (splitB N).2.2 = true := by
        rw [hsok, hN42]
        cases sok <;> cases any <;> simp_all
      have hnm2 : any = false → (splitB N).2.2 = true := fun h => by
        rw [hsok]
        cases sok <;> simp_all
      go_upto_region 7 with fail
      go_cut [51] (fun v51 wx => v51 = .bool false ∧ Hid (wx = w3))
      case first =>
        cases sok with
        | true =>
          clear HO HST HE hN42 hsok hnm hnm2 hbad hR91
          go_wp2
          go_meet
          case rel => exact ⟨rfl, Lib.hid rfl⟩
        | false =>
          cases any with
          | true =>
            clear HO HST HE hN42 hsok hnm hnm2 hbad hR91
            go_wp2
            go_meet
            case rel => exact ⟨rfl, Lib.hid rfl⟩
          | false => exact absurd ⟨rfl, rfl⟩ hbad
      case rest =>
        obtain ⟨rfl, hcut⟩ := hcut
        obtain rfl := hcut.out
        rename World => w3
        clear hcut hbad hsok x1
        have HBG := Lib.hid (fun v => begins_any R ⟨#[91, 64]⟩ 0 v (by omega) (by decide) (by omega) (by omega))
        go_upto_region 9 with fail
        go_cut [59] (fun v59 wx => ∃ b : Bool, v59 = .bool b ∧ Hid (Pos9 R b) ∧ Hid (wx = w3))
        case first =>
          by_cases hRe : R = ⟨#[]⟩
          · subst hRe
            have h9 : Hid (Pos9 ⟨#[]⟩ false) := Lib.hid (.inl ⟨rfl, posn_nil⟩)
            clear HO HST HE hN42 hnm hnm2 HBG hR91
            go_wp2
            go_meet
            case rel => exact ⟨false, rfl, h9, Lib.hid rfl⟩
          · have hRn := ba_emp hRe
            by_cases hbg : begB R 0 ⟨#[91, 64]⟩ = true
            · have ht := (begB_0 R ⟨#[91, 64]⟩).1 hbg
              have h9 : Hid (Pos9 R false) := Lib.hid (.inl ⟨rfl, posn_test ht⟩)
              clear HO HST HE hN42 hnm hnm2 hR91 ht hRe
              go_wp2_with fail
              refine (HBG.out _).mono ?_
              rintro e w4 ⟨rfl, rfl⟩
              rw [hbg]
              clear HBG hbg
              go_wp2
              go_meet
              case rel => exact ⟨false, rfl, h9, Lib.hid rfl⟩
            · have hnt : R.data.toList.take 2 ≠ [91, 64] := fun h => hbg ((begB_0 R ⟨#[91, 64]⟩).2 h)
              have hbf : begB R 0 ⟨#[91, 64]⟩ = false := by simpa using hbg
              have h9 : Hid (Pos9 R true) := Lib.hid (.inr ⟨rfl, hRe, hnt⟩)
              clear HO HST HE hN42 hnm hnm2 hR91 hnt hRe hbg
              go_wp2_with fail
              refine (HBG.out _).mono ?_
              rintro e w4 ⟨rfl, rfl⟩
              rw [hbf]
              clear HBG hbf
              go_wp2
              go_meet
              case rel => exact ⟨true, rfl, h9, Lib.hid rfl⟩
        case rest =>
        obtain ⟨b9, rfl, H9, hcut⟩ := hcut
        obtain rfl := hcut.out
        rename World => w3
        clear hcut HBG
        go_upto_if 59 with fail
        go_cut [8] (fun v8 wx => ∃ (p : Nat) (Z : ByteArray), v8 = .string Z ∧ Z.size ≤ 1000000 ∧ Hid (posnP R.data.toList = some (p, Z.data.toList)) ∧ Hid (OwnB gx w wx #[.int .i64 1, .bool any, .string ⟨#[]⟩, .string ⟨#[]⟩, .int .i64 p, .bool false, .string ⟨#[]⟩, .string ⟨#[]⟩, .string ⟨#[]⟩] 46) ∧ Hid (OwnB w.heap.size w wx #[.int .i64 0, .bool false, .string ⟨#[]⟩, .string ⟨#[]⟩, .int .i64 0, .bool false, .string ⟨#[]⟩, .string ⟨#[]⟩, .string ⟨#[]⟩] 46) ∧ Hid (Below w.heap.size w wx))
        case first =>
          rcases H9.out with ⟨rfl, hps⟩ | ⟨rfl, hRe, hnt⟩
          · have hps2 := Lib.hid hps
            clear HO HST HE hN42 hnm hnm2 hps H9 hR91
            go_wp2
            go_meet
            case rel => exact ⟨0, R, rfl, hRz, hps2, Lib.hid hx3, Lib.hid hr3, Lib.hid hb3⟩
          · have hRn := ba_emp hRe
            have hRl := ba_nil hRe
            obtain ⟨r91, hr91⟩ := hR91.resolve_left hRe
            · have hRe2 := Lib.hid hRe
              clear hRe
              have HIX := Lib.hid (fun v => index_any R ⟨#[93]⟩ 0 v (by omega) (by decide) (by omega))
              go_wp2_with fail
              refine (HIX.out _).mono ?_
              rintro e w4 ⟨re, rfl, hre, rfl⟩
              have hre := idx_list hre
              rw [List.drop_zero] at hre
              clear HIX
              rcases hre with ⟨rfl, hno⟩ | ⟨k, rfl, _, hk, hdr, hX⟩
              · obtain rfl : .error 33 = o := by rw [← HO.out, HST.out.posn hnm (posn_open hRl hnt hno)]
                clear HO HST HE hN42 hnm hnm2 hno hr91 hnt hRl
                have d0 : w3.cell? ⟨w.heap.size, 0, none⟩ = some (.int .i64 0) := hr3.cell 0
                have d1 : w3.cell? ⟨w.heap.size, 1, none⟩ = some (.bool false) := hr3.cell 1
                have d2 : w3.cell? ⟨w.heap.size, 2, none⟩ = some (.string ⟨#[]⟩) := hr3.cell 2
                have d3 : w3.cell? ⟨w.heap.size, 3, none⟩ = some (.string ⟨#[]⟩) := hr3.cell 3
                have d4 : w3.cell? ⟨w.heap.size, 4, none⟩ = some (.int .i64 0) := hr3.cell 4
                have d5 : w3.cell? ⟨w.heap.size, 5, none⟩ = some (.bool false) := hr3.cell 5
                have d6 : w3.cell? ⟨w.heap.size, 6, none⟩ = some (.string ⟨#[]⟩) := hr3.cell 6
                have d7 : w3.cell? ⟨w.heap.size, 7, none⟩ = some (.string ⟨#[]⟩) := hr3.cell 7
                have d8 : w3.cell? ⟨w.heap.size, 8, none⟩ = some (.string ⟨#[]⟩) := hr3.cell 8
                have df0 := hr3.free 0
                have df1 := hr3.free 1
                have df2 := hr3.free 2
                have df3 := hr3.free 3
                have df4 := hr3.free 4
                have df5 := hr3.free 5
                have df6 := hr3.free 6
                have df7 := hr3.free 7
                have df8 := hr3.free 8
                clear hx3
                go_wp2
                refine bodyPost_ret (results_cell2 rfl _ _ w.heap.size _ _ _ rfl (hr3.all9 _ _ _ _ _ _ _ _ _).blk Tryz.underlying46 rfl step9_size) rfl ?_
                exact ⟨OneOut.bad, (((((((((hb3.setCell (Nat.le_refl _) _).setCell (Nat.le_refl _) _).setCell (Nat.le_refl _) _).setCell (Nat.le_refl _) _).setCell (Nat.le_refl _) _).setCell (Nat.le_refl _) _).setCell (Nat.le_refl _) _).setCell (Nat.le_refl _) _).setCell (Nat.le_refl _) _)⟩
              · have hRs : R.data.toList.length = R.size := by simp
                have hk1 : 1 ≤ k := by
                  rcases Nat.eq_zero_or_pos k with h0 | h0
                  · exfalso
                    subst h0
                    rw [show (R.extract 0 0).data.toList = [] from by simp, List.nil_append, hr91] at hdr
                    injection hdr with h1 _
                    exact absurd h1 (by decide)
                  · exact h0
                obtain ⟨T, hT⟩ : ∃ T, R.extract 1 k = T := ⟨_, rfl⟩
                obtain ⟨Z, hZ⟩ : ∃ Z, R.extract (k + 1) R.size = Z := ⟨_, rfl⟩
                have hTz : T.size ≤ 1000000 := by rw [← hT]; simp; omega
                have hZz : Z.size ≤ 1000000 := by rw [← hZ]; simp; omega
                have hTX : (R.extract 0 k).data.toList = 91 :: T.data.toList := by
                  rw [← hT, ext_take R k, ext_drop10 R 1 k]
                  obtain ⟨k', rfl⟩ : ∃ k', k = k' + 1 := ⟨k - 1, by omega⟩
                  rw [hr91, List.take_succ_cons, List.drop_succ_cons, List.drop_zero]
                  rfl
                have hRR : R.data.toList = 91 :: (T.data.toList ++ 93 :: Z.data.toList) := by
                  rw [← hZ, ext_drop11]
                  conv => lhs; rw [hdr, hTX]
                  rfl
                have hT93 : ∀ x ∈ T.data.toList, x ≠ 93 := fun x hx => hX x (by rw [hTX]; simp [hx])
                have hpa := posn_at (T := T.data.toList) (Z := Z.data.toList) (by rw [← hRR]; exact hnt) hT93
                rw [← hRR] at hpa
                have HPO := Lib.hid (fun v => rposition_any T v (by omega))
                have k0 : ¬ (k : Int) < 0 := by omega
                have c1 : (1 : Int) ≤ (k : Int) := by omega
                have c2 : (k : Int) ≤ (R.size : Int) := by omega
                have c3 : ((k + 1 : Nat) : Int) ≤ (R.size : Int) := by omega
                have w1 : IntKind.i64.wrap ((k : Int) + 1) = ((k + 1 : Nat) : Int) := by rw [IntKind.wrap_i64]; omega
                clear hdr hX hr91 hnt hRl hRs hTX hRR hT93
                have x4 := hx3.cell 4
                have xf4 := hx3.free 4
                simp only [List.getElem?_toArray, List.getElem?_cons_zero, List.getElem?_cons_succ] at x4
                go_wp2_with fail
                refine (HPO.out _).mono ?_
                rintro e w4 ⟨rfl, rfl⟩
                clear HPO
                go_upto_region 14 with fail
                have hb4 := hx3.below hb3 4 (.int .i64 (posP T.data.toList : Nat))
                have hr4 := hr3.other hnex 4 (.int .i64 (posP T.data.toList : Nat))
                have hx4 := hx3.put9_4 (.int .i64 (posP T.data.toList : Nat))
                generalize w3.setCell ⟨gx, 4, none⟩ (.int .i64 (posP T.data.toList : Nat)) = w4 at *
                generalize posP T.data.toList = p at *
                clear hx3 hr3 hb3 x4 xf4
                have x4 : w4.cell? ⟨gx, 4, none⟩ = some (.int .i64 (p : Nat)) := hx4.cell 4
                by_cases hp0 : p = 0
                · subst hp0
                  rw [if_pos rfl] at hpa
                  obtain rfl : .error 33 = o := by rw [← HO.out, HST.out.posn hnm hpa]
                  clear HO HST HE hN42 hnm hnm2 hpa
                  have d0 : w4.cell? ⟨w.heap.size, 0, none⟩ = some (.int .i64 0) := hr4.cell 0
                  have d1 : w4.cell? ⟨w.heap.size, 1, none⟩ = some (.bool false) := hr4.cell 1
                  have d2 : w4.cell? ⟨w.heap.size, 2, none⟩ = some (.string ⟨#[]⟩) := hr4.cell 2
                  have d3 : w4.cell? ⟨w.heap.size, 3, none⟩ = some (.string ⟨#[]⟩) := hr4.cell 3
                  have d4 : w4.cell? ⟨w.heap.size, 4, none⟩ = some (.int .i64 0) := hr4.cell 4
                  have d5 : w4.cell? ⟨w.heap.size, 5, none⟩ = some (.bool false) := hr4.cell 5
                  have d6 : w4.cell? ⟨w.heap.size, 6, none⟩ = some (.string ⟨#[]⟩) := hr4.cell 6
                  have d7 : w4.cell? ⟨w.heap.size, 7, none⟩ = some (.string ⟨#[]⟩) := hr4.cell 7
                  have d8 : w4.cell? ⟨w.heap.size, 8, none⟩ = some (.string ⟨#[]⟩) := hr4.cell 8
                  have df0 := hr4.free 0
                  have df1 := hr4.free 1
                  have df2 := hr4.free 2
                  have df3 := hr4.free 3
                  have df4 := hr4.free 4
                  have df5 := hr4.free 5
                  have df6 := hr4.free 6
                  have df7 := hr4.free 7
                  have df8 := hr4.free 8
                  clear hx4
                  go_wp2
                  refine bodyPost_ret (results_cell2 rfl _ _ w.heap.size _ _ _ rfl (hr4.all9 _ _ _ _ _ _ _ _ _).blk Tryz.underlying46 rfl step9_size) rfl ?_
                  exact ⟨OneOut.bad, (((((((((hb4.setCell (Nat.le_refl _) _).setCell (Nat.le_refl _) _).setCell (Nat.le_refl _) _).setCell (Nat.le_refl _) _).setCell (Nat.le_refl _) _).setCell (Nat.le_refl _) _).setCell (Nat.le_refl _) _).setCell (Nat.le_refl _) _).setCell (Nat.le_refl _) _)⟩
                · rw [if_neg hp0] at hpa
                  have hp0b : ((p : Int) == 0) = false := by
                    rw [beq_eq_false_iff_ne]
                    omega
                  have HPA := Lib.hid hpa
                  clear HO HST HE hN42 hnm hnm2 hpa
                  go_wp2
                  go_meet
                  case rel => exact ⟨p, Z, rfl, hZz, HPA, Lib.hid hx4, Lib.hid hr4, Lib.hid hb4⟩
        case rest =>
          obtain ⟨p, Z, rfl, hZz, HPA, HX, HR, HB⟩ := hcut
          rename World => w5
          have hx5 := HX.out
          have hr5 := HR.out
          have hb5 := HB.out
          clear hx3 hr3 hb3 HX HR HB hR91 H9
          go_upto_region 18 with fail
          go_upto_if 79 with fail
          go_cut [14, 15, 16] (fun v14 v15 v16 wx => ∃ (a v : ByteArray) (is : Bool), v14 = .string a ∧ v15 = .string v ∧ v16 = .bool is ∧ a.size ≤ 1000000 ∧ v.size ≤ 1000000 ∧ Hid (Tst9 Z a v is) ∧ Hid (OwnB gx w wx #[.int .i64 1, .bool any, .string ⟨#[]⟩, .string ⟨#[]⟩, .int .i64 p, .bool false, .string ⟨#[]⟩, .string ⟨#[]⟩, .string ⟨#[]⟩] 46) ∧ Hid (OwnB w.heap.size w wx #[.int .i64 0, .bool false, .string ⟨#[]⟩, .string ⟨#[]⟩, .int .i64 0, .bool false, .string ⟨#[]⟩, .string ⟨#[]⟩, .string ⟨#[]⟩] 46) ∧ Hid (Below w.heap.size w wx))
          case first =>
            by_cases hZe : Z = ⟨#[]⟩
            · subst hZe
              clear HO HST HE hN42 hnm hnm2 HPA
              simp only [show ((⟨#[]⟩ : ByteArray).toList.isEmpty) = true from (by rw [ByteArray.toList_eq]; rfl), Bool.not_true]
              go_wp2
              go_meet
              case rel => exact ⟨⟨#[]⟩, ⟨#[]⟩, false, rfl, rfl, rfl, by decide, by decide, Lib.hid (.inl ⟨rfl, rfl⟩), Lib.hid hx5, Lib.hid hr5, Lib.hid hb5⟩
            · have hZn := ba_emp hZe
              have hZl := ba_nil hZe
              (try simp only [hZn, Bool.not_false])
              go_wp2_with fail
              refine (rtest_any Z _ (by omega)).mono ?_
              rintro e w6 ⟨⟨a, v, is, rfl, hto⟩, hbx⟩
              have hx6 := hx5.next hbx
              have hr6 := hr5.next hbx
              have hb6 := hb5.trans (hbx.mono hb5.size)
              clear hx5 hr5 hb5 hbx
              rcases hto with ⟨rfl, ht⟩ | ⟨rfl, ht⟩
              · obtain rfl : .error 33 = o := by rw [← HO.out, HST.out.test hnm HPA.out hZl ht]
                clear HO HST HE hN42 hnm hnm2 HPA ht hZl
                have d0 : w6.cell? ⟨w.heap.size, 0, none⟩ = some (.int .i64 0) := hr6.cell 0
                have d1 : w6.cell? ⟨w.heap.size, 1, none⟩ = some (.bool false) := hr6.cell 1
                have d2 : w6.cell? ⟨w.heap.size, 2, none⟩ = some (.string ⟨#[]⟩) := hr6.cell 2
                have d3 : w6.cell? ⟨w.heap.size, 3, none⟩ = some (.string ⟨#[]⟩) := hr6.cell 3
                have d4 : w6.cell? ⟨w.heap.size, 4, none⟩ = some (.int .i64 0) := hr6.cell 4
                have d5 : w6.cell? ⟨w.heap.size, 5, none⟩ = some (.bool false) := hr6.cell 5
                have d6 : w6.cell? ⟨w.heap.size, 6, none⟩ = some (.string ⟨#[]⟩) := hr6.cell 6
                have d7 : w6.cell? ⟨w.heap.size, 7, none⟩ = some (.string ⟨#[]⟩) := hr6.cell 7
                have d8 : w6.cell? ⟨w.heap.size, 8, none⟩ = some (.string ⟨#[]⟩) := hr6.cell 8
                have df0 := hr6.free 0
                have df1 := hr6.free 1
                have df2 := hr6.free 2
                have df3 := hr6.free 3
                have df4 := hr6.free 4
                have df5 := hr6.free 5
                have df6 := hr6.free 6
                have df7 := hr6.free 7
                have df8 := hr6.free 8
                clear hx6
                go_wp2
                refine bodyPost_ret (results_cell2 rfl _ _ w.heap.size _ _ _ rfl (hr6.all9 _ _ _ _ _ _ _ _ _).blk Tryz.underlying46 rfl step9_size) rfl ?_
                exact ⟨OneOut.bad, (((((((((hb6.setCell (Nat.le_refl _) _).setCell (Nat.le_refl _) _).setCell (Nat.le_refl _) _).setCell (Nat.le_refl _) _).setCell (Nat.le_refl _) _).setCell (Nat.le_refl _) _).setCell (Nat.le_refl _) _).setCell (Nat.le_refl _) _).setCell (Nat.le_refl _) _)⟩
              · have hsz := test_size ht
                have hTT : Hid (Tst9 Z a v true) := Lib.hid (.inr ⟨rfl, hZl, ht⟩)
                have hZl2 : Z.data.toList.length = Z.size := by simp
                have hal : a.data.toList.length = a.size := by simp
                have hvl : v.data.toList.length = v.size := by simp
                have hsa : a.size ≤ 1000000 := by omega
                have hsv : v.size ≤ 1000000 := by omega
                clear hZl2 hal hvl
                clear HO HST HE hN42 hnm hnm2 HPA ht hZl hsz
                go_wp2
                go_meet
                case rel => exact ⟨a, v, true, rfl, rfl, rfl, hsa, hsv, hTT, Lib.hid hx6, Lib.hid hr6, Lib.hid hb6⟩
          case rest =>
            obtain ⟨a, v, is, rfl, rfl, rfl, hsa, hsv, HT, HX, HR, HB⟩ := hcut
            rename World => w6
            have hx6 := HX.out
            have hr6 := HR.out
            have hb6 := HB.out
            clear hx5 hr5 hb5 HX HR HB
            have x1 : w6.cell? ⟨gx, 1, none⟩ = some (.bool any) := hx6.cell 1
            go_upto_if 91 with fail
            go_cut [] (fun wx => ∃ (n1 n2 : ByteArray), Hid (NmIs l N any n1 n2) ∧ Hid (OwnB gx w wx #[.int .i64 1, .bool any, .string n1, .string n2, .int .i64 p, .bool false, .string ⟨#[]⟩, .string ⟨#[]⟩, .string ⟨#[]⟩] 46) ∧ Hid (OwnB w.heap.size w wx #[.int .i64 0, .bool false, .string ⟨#[]⟩, .string ⟨#[]⟩, .int .i64 0, .bool false, .string ⟨#[]⟩, .string ⟨#[]⟩, .string ⟨#[]⟩] 46) ∧ Hid (Below w.heap.size w wx))
            case first =>
              cases any with
              | true =>
                have hnn : Hid (NmIs l N true ⟨#[]⟩ ⟨#[]⟩) := Lib.hid (.inl ⟨hN42.2 rfl, rfl, rfl, rfl⟩)
                clear HO HST HE hN42 hnm hnm2 HPA HT
                go_wp2
                go_meet
                case rel => exact ⟨⟨#[]⟩, ⟨#[]⟩, hnn, Lib.hid hx6, Lib.hid hr6, Lib.hid hb6⟩
              | false =>
                obtain ⟨n1, n2, e1, hr1⟩ : ∃ s lo er, resB l N false = ((s, lo), er) := ⟨_, _, _, rfl⟩
                have HRN := Lib.hid (fun v hb => HE.out.res N false n1 n2 e1 v hNz hr1 hb)
                have h42 : Hid (¬ N.data.toList = [42]) := Lib.hid fun h => by have := hN42.1 h; cases this
                have hsok := Lib.hid (hnm2 rfl)
                have HR1 := Lib.hid hr1
                clear hN42 hnm hnm2 hr1
                go_wp2_with fail
                refine (HRN.out _ hb6).mono ?_
                rintro e w7 ⟨rfl, hbx⟩
                have hx7 := (hx6.next hbx).alloc (.cells #[.string n1, .string n2] 44)
                have hr7 := (hr6.next hbx).alloc (.cells #[.string n1, .string n2] 44)
                have hb7a := hb6.trans (hbx.mono hb6.size)
                have hn7 := OwnB.new #[.string n1, .string n2] 44 hb7a
                have hb7 := hb7a.alloc hb7a.size (.cells #[.string n1, .string n2] 44)
                clear hx6 hr6 hb6 hbx hb7a HRN x1
                go_upto_region 24 with fail
                generalize w7.alloc (.cells #[.string n1, .string n2] 44) = w8 at *
                generalize w7.heap.size = gn at *
                have y0 : w8.cell? ⟨gn, 0, none⟩ = some (.string n1) := hn7.cell 0
                have y1 : w8.cell? ⟨gn, 1, none⟩ = some (.string n2) := hn7.cell 1
                have hx8 := hx7
                have hr8 := hr7
                have hb8 := hb7
                clear hx7 hr7 hb7
                by_cases he1 : e1 = 0
                · subst he1
                  have hnn : Hid (NmIs l N false n1 n2) := Lib.hid (.inr ⟨h42.out, rfl, hsok.out, HR1.out⟩)
                  clear HO HST HE HPA HT HR1 h42 hsok
                  have x2 := hx8.cell 2
                  have x3 := hx8.cell 3
                  have xf2 := hx8.free 2
                  have xf3 := hx8.free 3
                  simp only [List.getElem?_toArray, List.getElem?_cons_zero, List.getElem?_cons_succ] at x2 x3
                  go_wp2
                  go_meet
                  case rel => exact ⟨n1, n2, hnn, Lib.hid ((hx8.put9_2 (.string n1)).put9_3 (.string n2)), Lib.hid ((hr8.other hnex 2 (.string n1)).other hnex 3 (.string n2)), Lib.hid ((hx8.put9_2 (.string n1)).below (hx8.below hb8 2 (.string n1)) 3 (.string n2))⟩
                · have he1b : (e1 == 0) = false := by simpa using he1
                  obtain rfl : .error e1 = o := by
                    rw [← HO.out, HST.out.finBad h42.out hsok.out HPA.out (by rcases HT.out with ⟨_, h⟩ | ⟨_, _, h⟩; exact .inl h; exact .inr ⟨a, v, h⟩) HR1.out he1]
                  clear HO HST HE HPA HT HR1 h42 hsok he1
                  have d0 : w8.cell? ⟨w.heap.size, 0, none⟩ = some (.int .i64 0) := hr8.cell 0
                  have d1 : w8.cell? ⟨w.heap.size, 1, none⟩ = some (.bool false) := hr8.cell 1
                  have d2 : w8.cell? ⟨w.heap.size, 2, none⟩ = some (.string ⟨#[]⟩) := hr8.cell 2
                  have d3 : w8.cell? ⟨w.heap.size, 3, none⟩ = some (.string ⟨#[]⟩) := hr8.cell 3
                  have d4 : w8.cell? ⟨w.heap.size, 4, none⟩ = some (.int .i64 0) := hr8.cell 4
                  have d5 : w8.cell? ⟨w.heap.size, 5, none⟩ = some (.bool false) := hr8.cell 5
                  have d6 : w8.cell? ⟨w.heap.size, 6, none⟩ = some (.string ⟨#[]⟩) := hr8.cell 6
                  have d7 : w8.cell? ⟨w.heap.size, 7, none⟩ = some (.string ⟨#[]⟩) := hr8.cell 7
                  have d8 : w8.cell? ⟨w.heap.size, 8, none⟩ = some (.string ⟨#[]⟩) := hr8.cell 8
                  have df0 := hr8.free 0
                  have df1 := hr8.free 1
                  have df2 := hr8.free 2
                  have df3 := hr8.free 3
                  have df4 := hr8.free 4
                  have df5 := hr8.free 5
                  have df6 := hr8.free 6
                  have df7 := hr8.free 7
                  have df8 := hr8.free 8
                  clear hx8
                  go_wp2
                  refine bodyPost_ret (results_cell2 rfl _ _ w.heap.size _ _ _ rfl (hr8.all9 _ _ _ _ _ _ _ _ _).blk Tryz.underlying46 rfl step9_size) rfl ?_
                  exact ⟨OneOut.bad, (((((((((hb8.setCell (Nat.le_refl _) _).setCell (Nat.le_refl _) _).setCell (Nat.le_refl _) _).setCell (Nat.le_refl _) _).setCell (Nat.le_refl _) _).setCell (Nat.le_refl _) _).setCell (Nat.le_refl _) _).setCell (Nat.le_refl _) _).setCell (Nat.le_refl _) _)⟩
            case rest =>
              obtain ⟨n1, n2, HNM, HX, HR, HB⟩ := hcut
              rename World => w7
              have hx7 := HX.out
              have hr7 := HR.out
              have hb7 := HB.out
              clear hx6 hr6 hb6 HX HR HB x1
              rcases HT.out with ⟨rfl, hz⟩ | ⟨rfl, hz, ht⟩
              · have hpa := HPA.out
                rw [hz] at hpa
                obtain rfl : .ok ⟨1, any, (n1, n2), p, false, nE, sE⟩ = o := by rw [← HO.out, HST.out.finNone HNM.out hpa]
                clear HO HST HE hN42 hnm hnm2 HPA HT hz hpa HNM
                have x0 := hx7.cell 0
                have x1 := hx7.cell 1
                have x2 := hx7.cell 2
                have x3 := hx7.cell 3
                have x4 := hx7.cell 4
                have x5 := hx7.cell 5
                have x6 := hx7.cell 6
                have x7 := hx7.cell 7
                have x8 := hx7.cell 8
                simp only [List.getElem?_toArray, List.getElem?_cons_zero, List.getElem?_cons_succ] at x0 x1 x2 x3 x4 x5 x6 x7 x8
                have d0 : w7.cell? ⟨w.heap.size, 0, none⟩ = some (.int .i64 0) := hr7.cell 0
                have d1 : w7.cell? ⟨w.heap.size, 1, none⟩ = some (.bool false) := hr7.cell 1
                have d2 : w7.cell? ⟨w.heap.size, 2, none⟩ = some (.string ⟨#[]⟩) := hr7.cell 2
                have d3 : w7.cell? ⟨w.heap.size, 3, none⟩ = some (.string ⟨#[]⟩) := hr7.cell 3
                have d4 : w7.cell? ⟨w.heap.size, 4, none⟩ = some (.int .i64 0) := hr7.cell 4
                have d5 : w7.cell? ⟨w.heap.size, 5, none⟩ = some (.bool false) := hr7.cell 5
                have d6 : w7.cell? ⟨w.heap.size, 6, none⟩ = some (.string ⟨#[]⟩) := hr7.cell 6
                have d7 : w7.cell? ⟨w.heap.size, 7, none⟩ = some (.string ⟨#[]⟩) := hr7.cell 7
                have d8 : w7.cell? ⟨w.heap.size, 8, none⟩ = some (.string ⟨#[]⟩) := hr7.cell 8
                have df0 := hr7.free 0
                have df1 := hr7.free 1
                have df2 := hr7.free 2
                have df3 := hr7.free 3
                have df4 := hr7.free 4
                have df5 := hr7.free 5
                have df6 := hr7.free 6
                have df7 := hr7.free 7
                have df8 := hr7.free 8
                clear hx7
                go_wp2
                refine bodyPost_ret (results_cell2 rfl _ _ w.heap.size _ _ _ rfl (hr7.all9 _ _ _ _ _ _ _ _ _).blk Tryz.underlying46 rfl step9_size) rfl ?_
                exact ⟨OneOut.good, (((((((((hb7.setCell (Nat.le_refl _) _).setCell (Nat.le_refl _) _).setCell (Nat.le_refl _) _).setCell (Nat.le_refl _) _).setCell (Nat.le_refl _) _).setCell (Nat.le_refl _) _).setCell (Nat.le_refl _) _).setCell (Nat.le_refl _) _).setCell (Nat.le_refl _) _)⟩
              · obtain ⟨s2, l2, e2, hr2⟩ : ∃ s lo er, resB l a true = ((s, lo), er) := ⟨_, _, _, rfl⟩
                have HRA := Lib.hid (fun v hb => HE.out.res a true s2 l2 e2 v hsa hr2 hb)
                have hfin := HST.out.finBy HNM.out HPA.out hz ht hr2
                rw [HO.out] at hfin
                have HFI := Lib.hid hfin
                have HU := Lib.hid (fun u => runv_any v u hsv)
                clear HO HST HE hN42 hnm hnm2 HPA HT hz HNM hfin hr2 ht
                go_wp2_with fail
                refine (HRA.out _ hb7).mono ?_
                rintro e w8 ⟨rfl, hbx⟩
                have hx8 := (hx7.next hbx).alloc (.cells #[.string s2, .string l2] 44)
                have hr8 := (hr7.next hbx).alloc (.cells #[.string s2, .string l2] 44)
                have hb8a := hb7.trans (hbx.mono hb7.size)
                have hn8 := OwnB.new #[.string s2, .string l2] 44 hb8a
                have hb8 := hb8a.alloc hb8a.size (.cells #[.string s2, .string l2] 44)
                have hngx : w8.heap.size ≠ gx := by have := (hx7.next hbx).lt; omega
                clear hx7 hr7 hb7 hbx hb8a HRA
                go_upto_region 29 with fail
                generalize w8.alloc (.cells #[.string s2, .string l2] 44) = w9 at *
                generalize w8.heap.size = gn at *
                have hx9 := hx8
                have hr9 := hr8
                have hb9 := hb8
                have hn9 := hn8
                clear hx8 hr8 hb8 hn8
                by_cases he2 : e2 = 0
                · subst he2
                  obtain ⟨up, hup⟩ := HU.out w9
                  go_wp2_with fail
                  refine hup.mono ?_
                  rintro e w10 ⟨rfl, hbx⟩
                  have hx10 := hx9.next hbx
                  have hr10 := hr9.next hbx
                  have hn10 := hn9.next hbx
                  have hb10 := hb9.trans (hbx.mono hb9.size)
                  clear hx9 hr9 hn9 hb9 hbx hup HU
                  obtain ⟨uv, huv⟩ : ∃ uv, mkT (unV v.data.toList).1 = uv := ⟨_, rfl⟩
                  have hfi := HFI.out
                  rw [huv] at hfi ⊢
                  generalize (unV v.data.toList).2 = e3 at *
                  by_cases he3 : e3 = 0
                  · subst he3
                    obtain rfl := hfi
                    clear HFI huv
                    have n0 : w10.cell? ⟨gn, 0, none⟩ = some (.string s2) := hn10.cell 0
                    have n1c : w10.cell? ⟨gn, 1, none⟩ = some (.string l2) := hn10.cell 1
                    have x5 := hx10.cell 5
                    have xf5 := hx10.free 5
                    simp only [List.getElem?_toArray, List.getElem?_cons_zero, List.getElem?_cons_succ] at x5
                    go_upto_region 35 with fail
                    have hb11 := hx10.below hb10 5 (.bool true)
                    have hr11 := hr10.other hnex 5 (.bool true)
                    have hn11 := hn10.other hngx 5 (.bool true)
                    have hx11 := hx10.put9_5 (.bool true)
                    generalize w10.setCell ⟨gx, 5, none⟩ (.bool true) = w11 at *
                    clear hx10 hr10 hn10 hb10 n0 n1c x5 xf5
                    have n0 : w11.cell? ⟨gn, 0, none⟩ = some (.string s2) := hn11.cell 0
                    have n1c : w11.cell? ⟨gn, 1, none⟩ = some (.string l2) := hn11.cell 1
                    have x6 := hx11.cell 6
                    have x7 := hx11.cell 7
                    have xf6 := hx11.free 6
                    have xf7 := hx11.free 7
                    simp only [List.getElem?_toArray, List.getElem?_cons_zero, List.getElem?_cons_succ] at x6 x7
                    go_upto_region 36 with fail
                    have hb12 := (hx11.put9_6 (.string s2)).below (hx11.below hb11 6 (.string s2)) 7 (.string l2)
                    have hr12 := (hr11.other hnex 6 (.string s2)).other hnex 7 (.string l2)
                    have hx12 := (hx11.put9_6 (.string s2)).put9_7 (.string l2)
                    generalize (w11.setCell ⟨gx, 6, none⟩ (.string s2)).setCell ⟨gx, 7, none⟩ (.string l2) = w12 at *
                    clear hx11 hr11 hn11 hb11 n0 n1c x6 x7 xf6 xf7
                    have x8 := hx12.cell 8
                    have xf8 := hx12.free 8
                    simp only [List.getElem?_toArray, List.getElem?_cons_zero, List.getElem?_cons_succ] at x8
                    go_upto_region 37 with fail
                    have hb13 := hx12.below hb12 8 (.string uv)
                    have hr13 := hr12.other hnex 8 (.string uv)
                    have hx13 := hx12.put9_8 (.string uv)
                    generalize w12.setCell ⟨gx, 8, none⟩ (.string uv) = w13 at *
                    clear hx12 hr12 hb12 x8 xf8
                    have x0 := hx13.cell 0
                    have x1 := hx13.cell 1
                    have x2 := hx13.cell 2
                    have x3 := hx13.cell 3
                    have x4 := hx13.cell 4
                    have x5 := hx13.cell 5
                    have x6 := hx13.cell 6
                    have x7 := hx13.cell 7
                    have x8 := hx13.cell 8
                    simp only [List.getElem?_toArray, List.getElem?_cons_zero, List.getElem?_cons_succ] at x0 x1 x2 x3 x4 x5 x6 x7 x8
                    have d0 : w13.cell? ⟨w.heap.size, 0, none⟩ = some (.int .i64 0) := hr13.cell 0
                    have d1 : w13.cell? ⟨w.heap.size, 1, none⟩ = some (.bool false) := hr13.cell 1
                    have d2 : w13.cell? ⟨w.heap.size, 2, none⟩ = some (.string ⟨#[]⟩) := hr13.cell 2
                    have d3 : w13.cell? ⟨w.heap.size, 3, none⟩ = some (.string ⟨#[]⟩) := hr13.cell 3
                    have d4 : w13.cell? ⟨w.heap.size, 4, none⟩ = some (.int .i64 0) := hr13.cell 4
                    have d5 : w13.cell? ⟨w.heap.size, 5, none⟩ = some (.bool false) := hr13.cell 5
                    have d6 : w13.cell? ⟨w.heap.size, 6, none⟩ = some (.string ⟨#[]⟩) := hr13.cell 6
                    have d7 : w13.cell? ⟨w.heap.size, 7, none⟩ = some (.string ⟨#[]⟩) := hr13.cell 7
                    have d8 : w13.cell? ⟨w.heap.size, 8, none⟩ = some (.string ⟨#[]⟩) := hr13.cell 8
                    have df0 := hr13.free 0
                    have df1 := hr13.free 1
                    have df2 := hr13.free 2
                    have df3 := hr13.free 3
                    have df4 := hr13.free 4
                    have df5 := hr13.free 5
                    have df6 := hr13.free 6
                    have df7 := hr13.free 7
                    have df8 := hr13.free 8
                    clear hx13
                    go_wp2
                    refine bodyPost_ret (results_cell2 rfl _ _ w.heap.size _ _ _ rfl (hr13.all9 _ _ _ _ _ _ _ _ _).blk Tryz.underlying46 rfl step9_size) rfl ?_
                    exact ⟨OneOut.good, (((((((((hb13.setCell (Nat.le_refl _) _).setCell (Nat.le_refl _) _).setCell (Nat.le_refl _) _).setCell (Nat.le_refl _) _).setCell (Nat.le_refl _) _).setCell (Nat.le_refl _) _).setCell (Nat.le_refl _) _).setCell (Nat.le_refl _) _).setCell (Nat.le_refl _) _)⟩
                  · have he3b : (e3 == 0) = false := by simpa using he3
                    rw [if_neg (by simp), if_pos he3] at hfi
                    obtain rfl := hfi
                    clear HFI huv he3 hn10
                    have d0 : w10.cell? ⟨w.heap.size, 0, none⟩ = some (.int .i64 0) := hr10.cell 0
                    have d1 : w10.cell? ⟨w.heap.size, 1, none⟩ = some (.bool false) := hr10.cell 1
                    have d2 : w10.cell? ⟨w.heap.size, 2, none⟩ = some (.string ⟨#[]⟩) := hr10.cell 2
                    have d3 : w10.cell? ⟨w.heap.size, 3, none⟩ = some (.string ⟨#[]⟩) := hr10.cell 3
                    have d4 : w10.cell? ⟨w.heap.size, 4, none⟩ = some (.int .i64 0) := hr10.cell 4
                    have d5 : w10.cell? ⟨w.heap.size, 5, none⟩ = some (.bool false) := hr10.cell 5
                    have d6 : w10.cell? ⟨w.heap.size, 6, none⟩ = some (.string ⟨#[]⟩) := hr10.cell 6
                    have d7 : w10.cell? ⟨w.heap.size, 7, none⟩ = some (.string ⟨#[]⟩) := hr10.cell 7
                    have d8 : w10.cell? ⟨w.heap.size, 8, none⟩ = some (.string ⟨#[]⟩) := hr10.cell 8
                    have df0 := hr10.free 0
                    have df1 := hr10.free 1
                    have df2 := hr10.free 2
                    have df3 := hr10.free 3
                    have df4 := hr10.free 4
                    have df5 := hr10.free 5
                    have df6 := hr10.free 6
                    have df7 := hr10.free 7
                    have df8 := hr10.free 8
                    clear hx10
                    go_wp2
                    refine bodyPost_ret (results_cell2 rfl _ _ w.heap.size _ _ _ rfl (hr10.all9 _ _ _ _ _ _ _ _ _).blk Tryz.underlying46 rfl step9_size) rfl ?_
                    exact ⟨OneOut.bad, (((((((((hb10.setCell (Nat.le_refl _) _).setCell (Nat.le_refl _) _).setCell (Nat.le_refl _) _).setCell (Nat.le_refl _) _).setCell (Nat.le_refl _) _).setCell (Nat.le_refl _) _).setCell (Nat.le_refl _) _).setCell (Nat.le_refl _) _).setCell (Nat.le_refl _) _)⟩
                · have he2b : (e2 == 0) = false := by simpa using he2
                  have hfi := HFI.out
                  rw [if_pos he2] at hfi
                  obtain rfl := hfi
                  clear HFI he2 hn9 HU
                  have d0 : w9.cell? ⟨w.heap.size, 0, none⟩ = some (.int .i64 0) := hr9.cell 0
                  have d1 : w9.cell? ⟨w.heap.size, 1, none⟩ = some (.bool false) := hr9.cell 1
                  have d2 : w9.cell? ⟨w.heap.size, 2, none⟩ = some (.string ⟨#[]⟩) := hr9.cell 2
                  have d3 : w9.cell? ⟨w.heap.size, 3, none⟩ = some (.string ⟨#[]⟩) := hr9.cell 3
                  have d4 : w9.cell? ⟨w.heap.size, 4, none⟩ = some (.int .i64 0) := hr9.cell 4
                  have d5 : w9.cell? ⟨w.heap.size, 5, none⟩ = some (.bool false) := hr9.cell 5
                  have d6 : w9.cell? ⟨w.heap.size, 6, none⟩ = some (.string ⟨#[]⟩) := hr9.cell 6
                  have d7 : w9.cell? ⟨w.heap.size, 7, none⟩ = some (.string ⟨#[]⟩) := hr9.cell 7
                  have d8 : w9.cell? ⟨w.heap.size, 8, none⟩ = some (.string ⟨#[]⟩) := hr9.cell 8
                  have df0 := hr9.free 0
                  have df1 := hr9.free 1
                  have df2 := hr9.free 2
                  have df3 := hr9.free 3
                  have df4 := hr9.free 4
                  have df5 := hr9.free 5
                  have df6 := hr9.free 6
                  have df7 := hr9.free 7
                  have df8 := hr9.free 8
                  clear hx9
                  go_wp2
                  refine bodyPost_ret (results_cell2 rfl _ _ w.heap.size _ _ _ rfl (hr9.all9 _ _ _ _ _ _ _ _ _).blk Tryz.underlying46 rfl step9_size) rfl ?_
                  exact ⟨OneOut.bad, (((((((((hb9.setCell (Nat.le_refl _) _).setCell (Nat.le_refl _) _).setCell (Nat.le_refl _) _).setCell (Nat.le_refl _) _).setCell (Nat.le_refl _) _).setCell (Nat.le_refl _) _).setCell (Nat.le_refl _) _).setCell (Nat.le_refl _) _).setCell (Nat.le_refl _) _)⟩
end Go.Proofs.YtbdamneophbnnaaGreatDoor
