/- LeX. -/
import Derived.Test.YtlcjepnaljfpkaaGreatDoorQl22
namespace Go.Proofs.YtlcjepnaljfpkaaGreatDoor
open Go.RowKit Wb
theorem fold_low (p : List UInt8) (hp : ∀ d ∈ p, d ∈ [120, 109, 108, 117, 116, 102, 45, 56]) : ∀ l, foldB l p = decide (lowL l = p) := by
  induction p with
  | nil =>
    intro l
    cases l with
    | nil => rfl
    | cons c l => rfl
  | cons d p ih =>
    intro l
    cases l with
    | nil => rfl
    | cons c l =>
      have h := low_all d (hp d (by simp)) ⟨c.toNat, c.toNat_lt⟩
      simp only [UInt8.ofNat_toNat] at h
      have hi := ih (fun e he => hp e (by simp [he])) l
      simp only [foldB]
      rw [h, hi]
      show _ = decide ((if 65 ≤ c ∧ c ≤ 90 then c + 32 else c) :: lowL l = d :: p)
      generalize (if 65 ≤ c ∧ c ≤ 90 then c + 32 else c) = c'
      by_cases h1 : c' = d
      · by_cases h2 : lowL l = p <;> simp [h1, h2]
      · simp [h1]
theorem eqf_any (s p : ByteArray) (w : World) (hG : Gv w) (hs : s.size ≤ 1000000) (hps : p.size ≤ 1000) (hp : ∀ d ∈ p.data.toList, d ∈ [120, 109, 108, 117, 116, 102, 45, 56]) :
    Calls Tryz.prog 66 #[.string s, .string p] w fun e w' => e = .returned (.bool (decide (lowL s.data.toList = p.data.toList))) ∧ Below w.heap.size w w' := by
  rw [← fold_low p.data.toList hp]
  refine fold_any s p w hG hs hps ?_
  intro j b hb
  have hm := hp b (List.mem_of_getElem? hb)
  have : ∀ d ∈ [120, 109, 108, 117, 116, 102, 45, 56], UInt8.toNat d < 128 ∧ d ≠ 75 ∧ d ≠ 83 ∧ d ≠ 107 ∧ d ≠ 115 := by decide
  exact this b hm
set_option maxRecDepth 100000 in
theorem trimL_any (z : ByteArray) (w : World) :
    Calls Tryz.prog 104 #[.string z, .func (.func 105) #[] #[]] w fun e w' => e = .returned (.string (Lib.trimLeftF (fun x => partB (x : Int)) z)) ∧ Below w.heap.size w w' :=
  Tryz.strings_TrimLeftFunc_grows 105 #[] (fun _ _ => rfl) (fun x => partB (x : Int)) z w (fun W x _ _ => part_any x W)
theorem trimS_any (z y : ByteArray) (w : World) (k : Nat) (hy : y.data.toList = z.data.toList.drop k) (hz : z.size ≤ 1000000) :
    Calls Tryz.prog 106 #[.string z, .string y] w fun e w' => e = .returned (.string ⟨(z.data.toList.take (z.data.toList.length - y.data.toList.length)).toArray⟩) ∧ w' = w := by
  have h := Tryz.strings_TrimSuffix z y w (by omega)
  have e : Lib.trimSuffix z.data.toList y.data.toList = z.data.toList.take (z.data.toList.length - y.data.toList.length) := by
    unfold Lib.trimSuffix Lib.hasSuffix
    rw [if_pos (by rw [List.isSuffixOf_iff_suffix, hy]; exact List.drop_suffix _ _)]
  rw [e] at h
  exact h
set_option maxHeartbeats 1000000 in
set_option maxRecDepth 100000 in
theorem instruction_any (D : Nat) (s : ByteArray) (fr : Nat) (w : World) (h : DocW w D s fr fr) (hG : Gv w) (hD : 11 ≤ D) (hat : fr + 2 ≤ s.size) (hs : s.size ≤ 1000000) :
    Calls Tryz.prog 70 #[.pointer (some ⟨D, 0, none⟩)] w fun e w' => UnitOut D s fr (instructionU s.data.toList fr) w e w' := by
  have HUP := Lib.hid fun w2 (hw : DocW w2 D s fr (fr + 2)) (hg : Gv w2) => upTo_two D s ⟨#[63, 62]⟩ fr (fr + 2) w2 hw hg hat hs (by simp) (by decide)
  have HRS := Lib.hid fun w2 (hw : DocW w2 D s fr (fr + 2)) => rest_k D s fr (fr + 2) w2 hw hat
  have HK := Lib.hid ((Keeps.refl D w).setCell 2 (.int .i64 ((fr : Int) + 2)))
  have HD := Lib.hid (h.set2' (v := (fr : Int) + 2) (a := fr + 2) (by omega))
  have c2 := h.c2
  have f2 := h.f 2
  have hDl := Lib.hid h.lt
  have hex : (s.extract (fr + 2) s.size).data.toList = s.data.toList.drop (fr + 2) := by rw [extract_L, List.take_of_length_le (by simp)]
  have hzs : (s.extract (fr + 2) s.size).size ≤ 1000000 := by simp; omega
  obtain ⟨z, hz⟩ : ∃ z, s.extract (fr + 2) s.size = z := ⟨_, rfl⟩
  rw [hz] at hex hzs HRS
  obtain ⟨r, hr⟩ : ∃ r, instructionU s.data.toList fr = r := ⟨_, rfl⟩
  rw [hr]
  unfold instructionU at hr
  rw [← hex] at hr
  simp only at hr
  obtain ⟨y, hy⟩ : ∃ y, Lib.trimLeftF (fun x => partB (x : Int)) z = y := ⟨_, rfl⟩
  have hyl : y.data.toList = behindU z.data.toList.length z.data.toList := by rw [← hy, trim_behind, Lib.size_eq]
  obtain ⟨k, hk, hkd⟩ := behindU_drop z.data.toList.length z.data.toList
  rw [← hyl] at hr hkd
  obtain ⟨n, hn⟩ : ∃ n : ByteArray, (⟨(z.data.toList.take (z.data.toList.length - y.data.toList.length)).toArray⟩ : ByteArray) = n := ⟨_, rfl⟩
  have hnl : n.data.toList = z.data.toList.take (z.data.toList.length - y.data.toList.length) := by rw [← hn]
  rw [← hnl] at hr
  have HTL := Lib.hid fun w2 => trimL_any z w2
  rw [hy] at HTL
  have HTS := Lib.hid fun w2 => trimS_any z y w2 k hkd hzs
  rw [hn] at HTS
  have hns : n.size ≤ 1000000 := by
    rw [Lib.size_eq, hnl, List.length_take]
    rw [Lib.size_eq] at hzs
    omega
  have HR := Lib.hid hr
  have HY := Lib.hid hkd
  clear h hr hz hy hyl hk hkd hn hnl hex
  go_enter Tryz.func70, Tryz.ntmps70
  go_wp2_with fail
  refine (HRS.out _ HD.out).mono ?_
  rintro e w1 ⟨rfl, hd1, hk1⟩
  replace HK := Lib.hid (HK.out.trans hk1)
  clear c2 f2 HD hk1
  go_wp2_with fail
  refine (HTL.out _).mono ?_
  rintro e w2 ⟨rfl, hb2⟩
  have hd2 := hd1.below hb2
  replace HK := Lib.hid (HK.out.next hb2)
  clear hd1 hb2
  go_wp2_with fail
  refine (HRS.out _ hd2).mono ?_
  rintro e w3 ⟨rfl, hd3, hk3⟩
  replace HK := Lib.hid (HK.out.trans hk3)
  clear hd2 hk3
  go_wp2_with fail
  refine (HTS.out _).mono ?_
  rintro e w4 ⟨rfl, rfl⟩
  go_wp2_with fail
  refine (name_any n _ (by omega)).mono ?_
  rintro e w5 ⟨rfl, hb5⟩
  have hd5 := hd3.below hb5
  replace HK := Lib.hid (HK.out.next hb5)
  clear hd3 hb5
  have bad : ∀ (c : Nat), r = .error (fr, c) → ∀ w', Keeps D w w' → UnitOut D s fr r w (.panicked [flt fr c]) w' := fun c hc w' hk => by rw [hc]; exact ⟨hk, rfl⟩
  have HD5 := Lib.hid hd5
  have c1 := hd5.c1
  have hr := HR.out
  clear HR hd5
  cases hnb : nameB n.data.toList with
  | false =>
    rw [hnb, if_pos (.inl rfl)] at hr
    have HB := Lib.hid (bad 12 hr.symm)
    clear hr bad hnb
    go_wp2_with fail
    refine (fail_any fr 12 _).mono ?_
    rintro e w6 ⟨rfl, rfl⟩
    exact ⟨rfl, HB.out _ HK.out⟩
  | true =>
    rw [hnb] at hr
    have hef := eqf_any n ⟨#[120, 109, 108]⟩ w5 (HK.out.gv hG hD) hns (by decide) (by decide)
    rw [show (⟨#[120, 109, 108]⟩ : ByteArray).data.toList = sXml from rfl] at hef
    by_cases hx : lowL n.data.toList = sXml
    · rw [if_pos (.inr hx)] at hr
      rw [decide_eq_true hx] at hef
      have HB := Lib.hid (bad 12 hr.symm)
      clear hr bad hnb hx
      go_wp2_with fail
      refine hef.mono ?_
      rintro e w6 ⟨rfl, hb6⟩
      have c1 := (HD5.out.below hb6).c1
      replace HK := Lib.hid (HK.out.next hb6)
      clear hb6
      go_wp2_with fail
      refine (fail_any fr 12 _).mono ?_
      rintro e w7 ⟨rfl, rfl⟩
      exact ⟨rfl, HB.out _ HK.out⟩
    · rw [if_neg (by rintro (e | e); · cases e
                     · exact hx e)] at hr
      rw [decide_eq_false hx] at hef
      have HR := Lib.hid hr
      clear hr hnb hx
      go_wp2_with fail
      refine hef.mono ?_
      rintro e w6 ⟨rfl, hb6⟩
      replace HD5 := Lib.hid (HD5.out.below hb6)
      have c1 := HD5.out.c1
      replace HK := Lib.hid (HK.out.next hb6)
      clear hb6 hef
      cases hyd : y.data.toList with
      | nil =>
        have hr := HR.out
        rw [hyd, if_neg (by simp)] at hr
        have z0 : y.toList = [] := by rw [ByteArray.toList_eq]; exact hyd
        have z1 : y.toList.isEmpty = true := by rw [ByteArray.toList_eq, hyd]; rfl
        clear bad hyd HR
        have HGu := HK.out.gv hG hD
        go_wp2_with fail
        refine (HUP.out _ HD5.out HGu).mono ?_
        rintro e w9 (⟨h1, rfl, hk9⟩ | ⟨v, a, h1, rfl, hd9, hk9, ha, hv⟩)
        · rw [h1] at hr
          exact ⟨rfl, by rw [← hr]; exact ⟨HK.out.trans hk9, rfl⟩⟩
        · rw [h1] at hr
          go_wp2
          go_end0
          rw [← hr]
          exact ⟨HK.out.trans hk9, rfl, hd9⟩
      | cons c q =>
        have hys : 0 < y.size := by rw [Lib.size_eq, hyd]; simp
        have y0 : y[0] = c := by
          have h := Lib.data_getElem? y 0 hys
          rw [hyd] at h
          exact (Option.some.inj h).symm
        have z0 : ¬ y.toList = [] := by rw [ByteArray.toList_eq, hyd]; simp
        have z1 : y.toList.isEmpty = false := by rw [ByteArray.toList_eq, hyd]; rfl
        have hph := hasp_any y ⟨#[63, 62]⟩ [63, 62] 2 rfl rfl w6
        have hr := HR.out
        cases hbc : blkB c with
        | true =>
          rw [hyd, if_neg (by simp [hbc])] at hr
          clear bad HR hph hyd
          go_wp2_with fail
          refine (blankC c _).mono ?_
          rintro e w7 ⟨rfl, rfl⟩
          rw [hbc]
          clear hbc
          have HGu := HK.out.gv hG hD
          go_wp2_with fail
          refine (HUP.out _ HD5.out HGu).mono ?_
          rintro e w9 (⟨h1, rfl, hk9⟩ | ⟨v, a, h1, rfl, hd9, hk9, ha, hv⟩)
          · rw [h1] at hr
            exact ⟨rfl, by rw [← hr]; exact ⟨HK.out.trans hk9, rfl⟩⟩
          · rw [h1] at hr
            go_wp2
            go_end0
            rw [← hr]
            exact ⟨HK.out.trans hk9, rfl, hd9⟩
        | false =>
          by_cases hp : y.data.toList.take 2 = [63, 62]
          · rw [if_neg (fun h => h.2.2 hp)] at hr
            rw [decide_eq_true hp] at hph
            clear bad HR hp hyd
            go_wp2_with fail
            refine (blankC c _).mono ?_
            rintro e w7 ⟨rfl, rfl⟩
            rw [hbc]
            clear hbc
            go_wp2_with fail
            refine hph.mono ?_
            rintro e w8 ⟨rfl, rfl⟩
            have HGu := HK.out.gv hG hD
            go_wp2_with fail
            refine (HUP.out _ HD5.out HGu).mono ?_
            rintro e w9 (⟨h1, rfl, hk9⟩ | ⟨v, a, h1, rfl, hd9, hk9, ha, hv⟩)
            · rw [h1] at hr
              exact ⟨rfl, by rw [← hr]; exact ⟨HK.out.trans hk9, rfl⟩⟩
            · rw [h1] at hr
              go_wp2
              go_end0
              rw [← hr]
              exact ⟨HK.out.trans hk9, rfl, hd9⟩
          · rw [if_pos ⟨by rw [hyd]; simp, by rw [hyd]; simp [hbc], hp⟩] at hr
            rw [decide_eq_false hp] at hph
            have HB := Lib.hid (bad 4 hr.symm)
            clear bad HR hp hyd hr
            go_wp2_with fail
            refine (blankC c _).mono ?_
            rintro e w7 ⟨rfl, rfl⟩
            rw [hbc]
            clear hbc
            go_wp2_with fail
            refine hph.mono ?_
            rintro e w8 ⟨rfl, rfl⟩
            go_wp2_with fail
            refine (fail_any fr 4 _).mono ?_
            rintro e w9 ⟨rfl, rfl⟩
            exact ⟨rfl, HB.out _ HK.out⟩
end Go.Proofs.YtlcjepnaljfpkaaGreatDoor
