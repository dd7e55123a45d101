/- PfW. -/
import Derived.Deep.Cut
import Derived.Deep.DeepCutAuto
import Derived.Test.YtlcjepnaljfpkaaQb7
import Derived.Test.YtlcjepnaljfpkaaQb10
import Derived.Test.YtlcjepnaljfpkaaQb12
import Derived.Test.YtlcjepnaljfpkaaQb13
import Derived.Test.YtlcjepnaljfpkaaQb14
import Derived.Test.YtlcjepnaljfpkaaQb15
namespace Wb
open Go Go.RowKit
theorem adj_at : ∀ {ks : List Nd} {c : Int} {i : Nat} {k j : Nd}, noAdj c ks → ks[i]? = some k → ks[i + 1]? = some j → k.kind = 2 → ¬ j.kind = 2
  | [], _, i, k, j, _, h, _, _ => by simp at h
  | x :: ks, c, 0, k, j, h, h1, h2, hk => by
    simp only [List.getElem?_cons_zero, Option.some.injEq, List.getElem?_cons_succ] at h1 h2
    subst h1
    cases ks with
    | nil => simp at h2
    | cons y ys =>
      simp only [List.getElem?_cons_zero, Option.some.injEq] at h2
      subst h2
      exact fun e => h.2.1 ⟨hk, e⟩
  | x :: ks, c, i + 1, k, j, h, h1, h2, hk => by
    simp only [List.getElem?_cons_succ] at h1 h2
    exact adj_at h.2 h1 h2 hk
end Wb
namespace Go.Proofs.Ytlcjepnaljfpkaa
open Go.RowKit Wb
set_option maxRecDepth 100000 in
set_option maxHeartbeats 16000000 in
theorem pback_walk (n x : Nd) (A K XA XK : Option Addr) (ca ck xca xck : Nat) (p : Int) (a1 a2 a3 : ByteArray) (l : List Int) (PA : Option Addr) (cp : Nat) (w : World) (hVn : NodeV w n A K) (hVx : NodeV w x XA XK) (hln : lenN 9223372036854775807 n) (hlx : lenN 9223372036854775807 x)
    (hP : SlI w PA l) (hcp : l.length ≤ cp) :
    Calls Try.prog 3 #[ndV n A ca K ck, ndV x XA xca XK xck, .int .i64 p, .agg #[.string a1, .string a2, .string a3], .slice PA l.length cp] w fun e w' => e = .returned (.bool true) ∧ Below w.heap.size w w' := by
  obtain ⟨hb3, h0, h1, h2, hs3⟩ := three_allocs w (.cells #[.int .i64 n.kind, .string n.name.1, .string n.name.2, .slice A n.attrs.length ca, .slice K n.kids.length ck, .string n.text] 27) (.cells #[.int .i64 x.kind, .string x.name.1, .string x.name.2, .slice XA x.attrs.length xca, .slice XK x.kids.length xck, .string x.text] 27) (.cells #[.string a1, .string a2, .string a3] 29)
  have HB := Lib.hid hb3
  have HN := Lib.hid h0
  have HX := Lib.hid h1
  have HAT := Lib.hid h2
  have VN := Lib.hid (NodeV.below hVn hb3)
  have VX := Lib.hid (NodeV.below hVx hb3)
  have PL := Lib.hid (hP.below hb3)
  have HLN := Lib.hid hln
  have HLX := Lib.hid hlx
  have HCP := Lib.hid hcp
  clear hb3 h0 h1 h2 hs3 hVn hVx hP hln hlx hcp
  unfold ndV ndCells
  go_enter Try.func3, Try.ntmps3
  go_upto_region 1 with fail
  revert HB HN HX HAT VN VX PL
  generalize ((w.alloc (.cells #[.int .i64 n.kind, .string n.name.1, .string n.name.2, .slice A n.attrs.length ca, .slice K n.kids.length ck, .string n.text] 27)).alloc (.cells #[.int .i64 x.kind, .string x.name.1, .string x.name.2, .slice XA x.attrs.length xca, .slice XK x.kids.length xck, .string x.text] 27)).alloc (.cells #[.string a1, .string a2, .string a3] 29) = wz
  intro HB HN HX HAT VN VX PL
  generalize hT : w.heap.size = T at *
  have HT := Lib.hid hT
  clear hT
  have CN := Lib.hid (fun (v : World) (h : Below wz.heap.size wz v) => cells_of_nd (still_block HN.out h))
  have CX := Lib.hid (fun (v : World) (h : Below wz.heap.size wz v) => cells_of_nd (still_block HX.out h))
  have CA := Lib.hid (fun (v : World) (h : Below wz.heap.size wz v) => (show v.cell? ⟨T + 1 + 1, 0, none⟩ = some (.string a1) ∧ v.cell? ⟨T + 1 + 1, 1, none⟩ = some (.string a2) ∧ v.cell? ⟨T + 1 + 1, 2, none⟩ = some (.string a3) from by
    have e1 := still_block HAT.out h
    have c0 := blk_cell e1 0
    have c1 := blk_cell e1 1
    have c2 := blk_cell e1 2
    simp only [List.getElem?_toArray, List.getElem?_cons_zero, List.getElem?_cons_succ] at c0 c1 c2
    exact ⟨c0, c1, c2⟩))
  have HBT : Hid (∀ v, Below wz.heap.size wz v → Below w.heap.size w v) := Lib.hid (fun v h => by rw [HT.out]; exact HB.out.trans (h.mono (by rw [← HT.out]; exact HB.out.size)))
  clear HN HX HAT
  go_wp2_with fail
  refine (awake6 wz).mono ?_
  rintro e w3 ⟨rfl, hb3⟩
  have HB3 := Lib.hid hb3
  clear hb3
  obtain ⟨n0, n1, n2, n3, n4, n5⟩ := CN.out w3 HB3.out
  have hf := tfew_any n A K ca ck w3 (NodeV.below VN.out HB3.out) HLN.out
  unfold ndV ndCells at hf
  by_cases hq : weighN n 30000 ≤ 30000
  case neg =>
    rw [decide_eq_false hq] at hf
    clear hq
    go_wp2_with fail
    refine hf.mono ?_
    rintro e w4 ⟨rfl, hb⟩
    have HB4 := Lib.hid (HB3.out.trans (hb.mono HB3.out.size))
    clear n0 n1 n2 n3 n4 n5 hf hb
    go_wp2
    go_ret
    exact ⟨rfl, HBT.out _ HB4.out⟩
  case pos =>
  rw [decide_eq_true hq] at hf
  have HFN := Lib.hid hq
  clear hq
  go_wp2_with fail
  refine hf.mono ?_
  rintro e w4 ⟨rfl, hb⟩
  have HB4 := Lib.hid (HB3.out.trans (hb.mono HB3.out.size))
  clear n0 n1 n2 n3 n4 n5 hf hb HB3
  obtain ⟨x0, x1, x2, x3, x4, x5⟩ := CX.out w4 HB4.out
  have hf := tfew_any x XA XK xca xck w4 (NodeV.below VX.out HB4.out) HLX.out
  unfold ndV ndCells at hf
  by_cases hq : weighN x 30000 ≤ 30000
  case neg =>
    rw [decide_eq_false hq] at hf
    clear hq
    go_wp2_with fail
    refine hf.mono ?_
    rintro e w5 ⟨rfl, hb⟩
    have HB5 := Lib.hid (HB4.out.trans (hb.mono HB4.out.size))
    clear x0 x1 x2 x3 x4 x5 hf hb
    go_wp2
    go_ret
    exact ⟨rfl, HBT.out _ HB5.out⟩
  case pos =>
  rw [decide_eq_true hq] at hf
  have HFX := Lib.hid hq
  clear hq
  go_wp2_with fail
  refine hf.mono ?_
  rintro e w5 ⟨rfl, hb⟩
  have HB5 := Lib.hid (HB4.out.trans (hb.mono HB4.out.size))
  clear x0 x1 x2 x3 x4 x5 hf hb HB4
  have HSN := Lib.hid (few_lenN n 30000 30000 (by omega) HFN.out)
  have HZN := Lib.hid (few_sz n 30000 (by omega) HFN.out)
  have HSX := Lib.hid (few_lenN x 30000 30000 (by omega) HFX.out)
  have HCN := Lib.hid (Nat.le_trans (few_cost n 30000 HFN.out).2.1 HFN.out)
  have HCX := Lib.hid (Nat.le_trans (few_cost x 30000 HFX.out).2.1 HFX.out)
  have HMN := Lib.hid (lenN_mono (C := 1000000) (by omega) n HSN.out)
  have HMX := Lib.hid (lenN_mono (C := 1000000) (by omega) x HSX.out)
  clear HFN HFX HLN HLX
  obtain ⟨n0, n1, n2, n3, n4, n5⟩ := CN.out w5 HB5.out
  have hf := Right_b n A K ca ck w5 HZN.out HMN.out (NodeV.below VN.out HB5.out)
  unfold ndV ndCells at hf
  by_cases hq : rightB n = true
  case neg =>
    rw [show rightB n = false from by simpa using hq] at hf
    clear hq
    go_wp2_with fail
    refine hf.mono ?_
    rintro e w6 ⟨rfl, hb⟩
    have HB6 := Lib.hid (HB5.out.trans (hb.mono HB5.out.size))
    clear n0 n1 n2 n3 n4 n5 hf hb
    go_wp2
    go_ret
    exact ⟨rfl, HBT.out _ HB6.out⟩
  case pos =>
  rw [hq] at hf
  have HRN := Lib.hid hq
  clear hq
  go_wp2_with fail
  refine hf.mono ?_
  rintro e w6 ⟨rfl, hb⟩
  have HB6 := Lib.hid (HB5.out.trans (hb.mono HB5.out.size))
  clear n0 n1 n2 n3 n4 n5 hf hb HB5
  have HOK := Lib.hid ((rightB_iff n).1 HRN.out).2.1
  clear HRN HZN
  obtain ⟨x0, _, _, _, _, _⟩ := CX.out w6 HB6.out
  by_cases hxk : x.kind = 1
  case neg =>
    have hne : (x.kind != 1) = true := by simpa using hxk
    clear hxk
    go_wp2
    go_ret
    exact ⟨rfl, HBT.out _ HB6.out⟩
  case pos =>
  rw [hxk] at x0
  have HXK := Lib.hid hxk
  clear hxk
  by_cases hl : 100 < l.length
  case pos =>
    have hl1 : (100 : Int) < (l.length : Int) := by omega
    clear hl
    go_wp2
    go_ret
    exact ⟨rfl, HBT.out _ HB6.out⟩
  case neg =>
  have hl1 : ¬ (100 : Int) < (l.length : Int) := by omega
  have HL := Lib.hid hl
  clear hl
  go_upto_region 5 with fail
  clear hl1 x0
  obtain ⟨n0, n1, n2, n3, n4, n5⟩ := CN.out w6 HB6.out
  obtain ⟨x0, x1, x2, x3, x4, x5⟩ := CX.out w6 HB6.out
  have hins := (Insert_any n x A K XA XK ca ck xca xck p l PA cp w6 (NodeV.below VN.out HB6.out) (NodeV.below VX.out HB6.out) ⟨HMN.out, by have := HCN.out; omega⟩ ⟨HMX.out, by have := HCX.out; omega⟩ (PL.out.below HB6.out) HCP.out (by have := HL.out; omega)).mono (fun e w' h => NdOut.z h)
  obtain ⟨r, hr⟩ : ∃ r, chP (insF x p) n l = r := ⟨_, rfl⟩
  rw [hr] at hins
  obtain ⟨m, hm⟩ : ∃ m, r.getD zNd = m := ⟨_, rfl⟩
  obtain ⟨b, hb⟩ : ∃ b, r.isSome = b := ⟨_, rfl⟩
  unfold NdZ at hins
  rw [hm, hb] at hins
  have HR := Lib.hid hr
  have HMM := Lib.hid hm
  have HBB := Lib.hid hb
  clear hr hm hb
  unfold ndV ndCells at hins
  go_wp2_with fail
  refine (hins).mono ?_
  rintro e wA ⟨B, cb, L, cl, rfl, hV, hb⟩
  have hba : Below w6.heap.size w6 (wA.alloc (.cells #[.int .i64 m.kind, .string m.name.1, .string m.name.2, .slice B m.attrs.length cb, .slice L m.kids.length cl, .string m.text] 27)) := hb.alloc hb.size _
  have HB9 := Lib.hid (HB6.out.trans (hba.mono HB6.out.size))
  have HM := Lib.hid (heap_alloc_new wA (.cells #[.int .i64 m.kind, .string m.name.1, .string m.name.2, .slice B m.attrs.length cb, .slice L m.kids.length cl, .string m.text] 27))
  have VM1 := Lib.hid (hV.below ((Below.refl wA.heap.size wA).alloc (Nat.le_refl _) (.cells #[.int .i64 m.kind, .string m.name.1, .string m.name.2, .slice B m.attrs.length cb, .slice L m.kids.length cl, .string m.text] 27)))
  clear n0 n1 n2 n3 n4 n5 x0 x1 x2 x3 x4 x5 hV hb hba hins HB6
  go_upto_if 70 with fail
  revert HB9  HM VM1
  generalize wA.alloc (.cells #[.int .i64 m.kind, .string m.name.1, .string m.name.2, .slice B m.attrs.length cb, .slice L m.kids.length cl, .string m.text] 27) = w9
  intro HB9  HM VM1
  generalize wA.heap.size = M1 at *
  have CM1 := Lib.hid (fun (v : World) (h : Below w9.heap.size w9 v) => cells_of_nd (still_block HM.out h))
  have SM1 := Lib.hid (Below.refl w9.heap.size w9)
  clear HM
  go_cut [] (fun wx => Hid (Below w9.heap.size w9 wx))
  case first =>
    rcases b with _ | _
    case false =>
      go_wp2
      go_meet
      case rel => exact Lib.hid (Below.refl _ _)
    have HCM : Hid (chP (insF x p) n l = some m) := Lib.hid (by
      have h1 := HR.out
      have h2 := HBB.out
      have h3 := HMM.out
      cases r with
      | none => cases h2
      | some q => rw [h1]; exact congrArg some h3)
    have HIB := Lib.hid (ins_back HOK.out HXK.out HCM.out)
    have HGM : Hid (GN m) := Lib.hid (by
      obtain ⟨_, _, hp0, e, he, hpe, hme⟩ := HIB.out
      rw [hme]
      exact ins_gn HSN.out HSX.out HCN.out HCX.out he (by omega))
    clear HR HMM HBB HCM
    obtain ⟨i0, hi, hz0, hz1, hz2⟩ := info_parts int_info
    have HOWN := Lib.hid (World.ownsRow_made (base := w9.heap.size) (e := 3) (size := 1) w9 #[] 0 (Nat.le_refl _) (Nat.zero_le _) (by simp))
    have HSL := Lib.hid (Sl.alloc (PL.out.below HB9.out) (.cells #[] 3))
    have HBA := Lib.hid ((Below.refl w9.heap.size w9).alloc (Nat.le_refl _) (.cells #[] 3))
    have hm1 : 0 + l.length ≤ maxLen := by have := HL.out; unfold maxLen; omega
    have hm2 : (0 + l.length) * 8 ≤ 140737488355328 := by have := HL.out; omega
    have hm3 : l.length + 1 ≤ maxLen := by have := HL.out; unfold maxLen; omega
    have hm4 : (l.length + 1) * 8 ≤ 140737488355328 := by have := HL.out; omega
    have hs : w9.heap.size ≤ (w9.alloc (.cells #[] 3)).heap.size := by simp
    go_wp2_with (at_builtin; refine wpList_append_sl _ rfl (.tmp 71) (.tmp 72) _ rfl w9.heap.size 3 i0 _ 1 8 Try.underlying30 hi hz0 hz1 hz2 rfl (by omega) _ 0 [] rfl HOWN.out PA l.length cp (cellsI l) rfl HSL.out (cellsI_one l) hm1 hm2 hs ?_)
    intro v5 w5 hown5 hg5 hat5
    have HB5 := Lib.hid (HBA.out.grown hg5 hs (fun k hk => by simp [Value.ownBlock] at hk; omega))
    have HOWN5 := Lib.hid (show (w5.alloc (.cells #[.int .i64 p] 3)).ownsRow w9.heap.size 3 1 v5 l.length (cellsI l) from by have h := hown5.alloc (.cells #[.int .i64 p] 3); simpa using h)
    have HLIT := Lib.hid (Sl.lit w5 1 [.int .i64 p] 3 1 rfl)
    have hs5 : w9.heap.size ≤ (w5.alloc (.cells #[.int .i64 p] 3)).heap.size := by have := HB5.out.size; simp; omega
    have HB5a := Lib.hid (HB5.out.alloc HB5.out.size (.cells #[.int .i64 p] 3))
    have HLT5 := Lib.hid hown5.lt
    clear hown5 hg5 hat5 HOWN HSL HBA hs
    go_wp2_with (at_builtin; refine wpList_append_sl _ rfl (.tmp 73) (.tmp 75) _ rfl w9.heap.size 3 i0 _ 1 8 Try.underlying30 hi hz0 hz1 hz2 rfl (by omega) v5 l.length (cellsI l) rfl HOWN5.out (some ⟨w5.heap.size, 0, none⟩) 1 1 [.int .i64 p] rfl HLIT.out (cellsI_one [p]) hm3 hm4 hs5 ?_)
    intro v7 w7 hown7 hg7 hat7
    have HB7 := Lib.hid (HB5a.out.grown hg7 hs5 (fun k hk => (HLT5.out k hk).1))
    obtain ⟨TA, tc, rfl⟩ := own_shape hown7
    have HTH : Hid (SlI w7 TA (l ++ [p]) ∧ l.length + 1 ≤ tc) := Lib.hid (by
      refine ⟨?_, ?_⟩
      · have h := Sl.of_own hown7
        unfold SlI
        rw [show cellsI (l ++ [p]) = cellsI l ++ [.int .i64 p] from by simp [cellsI], show (l ++ [p]).length = l.length + 1 from by simp]
        exact h
      · rcases hown7.2 with ⟨y, _⟩ | ⟨g', cap', cur, y, _, _, hnc, _⟩
        · simp at y
        · simp only [Value.slice.injEq] at y
          omega)
    have HZ7 := Lib.hid (HB9.out.trans (HB7.out.mono HB9.out.size))
    have HTW := Lib.hid (Below.refl w7.heap.size w7)
    clear hown7 hg7 hat7 HB5 HOWN5 HLIT HB5a HLT5 hm1 hm2 hm3 hm4 hs5 hi hz0 hz1 hz2
    go_upto_region 8 with fail
    have hat : Calls Try.prog 9 #[ndV m B cb L cl, .slice TA (l.length + 1) tc] w7 fun e w' => ∃ A' ca' K' ck', e = .returned (.tuple #[ndV x A' ca' K' ck', .bool true]) ∧ NodeV w' x A' K' ∧ Below w7.heap.size w7 w' := by
      have h := At_z m B L cb cl (l ++ [p]) TA tc w7 (NodeV.below VM1.out HB7.out) HGM.out.1 HTH.out.1 (by have := HL.out; simp; omega)
      rw [show (l ++ [p]).length = l.length + 1 from by simp] at h
      unfold atZ at h
      rw [HIB.out.1] at h
      exact h
    unfold ndV ndCells at hat
    obtain ⟨m0, m1, m2, m3, m4, m5⟩ := CM1.out w7 HB7.out
    go_wp2_with fail
    refine (hat).mono ?_
    rintro e wA ⟨E1, ec1, E2, ec2, rfl, hV, hb⟩
    have hba : Below w7.heap.size w7 (wA.alloc (.cells #[.int .i64 x.kind, .string x.name.1, .string x.name.2, .slice E1 x.attrs.length ec1, .slice E2 x.kids.length ec2, .string x.text] 27)) := hb.alloc hb.size _
    have HZ10 := Lib.hid (HZ7.out.trans (hba.mono HZ7.out.size))
    replace HB7 := Lib.hid (HB7.out.trans (hba.mono HB7.out.size))
    replace HTW := Lib.hid (HTW.out.trans (hba.mono HTW.out.size))
    have HM := Lib.hid (heap_alloc_new wA (.cells #[.int .i64 x.kind, .string x.name.1, .string x.name.2, .slice E1 x.attrs.length ec1, .slice E2 x.kids.length ec2, .string x.text] 27))
    have VM2 := Lib.hid (hV.below ((Below.refl wA.heap.size wA).alloc (Nat.le_refl _) (.cells #[.int .i64 x.kind, .string x.name.1, .string x.name.2, .slice E1 x.attrs.length ec1, .slice E2 x.kids.length ec2, .string x.text] 27)))
    clear m0 m1 m2 m3 m4 m5 hV hb hba hat
    go_upto_region 9 with fail
    revert HZ10 HB7 HTW HM VM2
    generalize wA.alloc (.cells #[.int .i64 x.kind, .string x.name.1, .string x.name.2, .slice E1 x.attrs.length ec1, .slice E2 x.kids.length ec2, .string x.text] 27) = w10
    intro HZ10 HB7 HTW HM VM2
    generalize wA.heap.size = M2 at *
    have CM2 := Lib.hid (fun (v : World) (h : Below w10.heap.size w10 v) => cells_of_nd (still_block HM.out h))
    have SM2 := Lib.hid (Below.refl w10.heap.size w10)
    clear HM
    have hrem : Calls Try.prog 10 #[ndV m B cb L cl, .slice TA (l.length + 1) tc] w10 fun e w' => ∃ A' ca' K' ck', e = .returned (.tuple #[ndV n A' ca' K' ck', .bool true]) ∧ NodeV w' n A' K' ∧ Below w10.heap.size w10 w' := by
      have h := Remove_any m B L cb cl (l ++ [p]) TA tc w10 (NodeV.below VM1.out HB7.out) HGM.out (HTH.out.1.below HTW.out) (by have := HTH.out.2; simp; omega) (by have := HL.out; simp; omega)
      rw [show (l ++ [p]).length = l.length + 1 from by simp, HIB.out.2.1] at h
      exact h.mono (fun e w' h => NdOut.z h)
    unfold ndV ndCells at hrem
    obtain ⟨m0, m1, m2, m3, m4, m5⟩ := CM1.out w10 HB7.out
    obtain ⟨s0, hs0⟩ : ∃ s, decide ((0 : Int) < p) = s := ⟨_, rfl⟩
    go_wp2_with fail
    refine (hrem).mono ?_
    rintro e wA ⟨F1, fc1, F2, fc2, rfl, hV, hb⟩
    have hba : Below w10.heap.size w10 (wA.alloc (.cells #[.int .i64 n.kind, .string n.name.1, .string n.name.2, .slice F1 n.attrs.length fc1, .slice F2 n.kids.length fc2, .string n.text] 27)) := hb.alloc hb.size _
    have HZ11 := Lib.hid (HZ10.out.trans (hba.mono HZ10.out.size))
    replace HB7 := Lib.hid (HB7.out.trans (hba.mono HB7.out.size))
    replace SM2 := Lib.hid (SM2.out.trans (hba.mono SM2.out.size))
    have HM := Lib.hid (heap_alloc_new wA (.cells #[.int .i64 n.kind, .string n.name.1, .string n.name.2, .slice F1 n.attrs.length fc1, .slice F2 n.kids.length fc2, .string n.text] 27))
    have VM3 := Lib.hid (hV.below ((Below.refl wA.heap.size wA).alloc (Nat.le_refl _) (.cells #[.int .i64 n.kind, .string n.name.1, .string n.name.2, .slice F1 n.attrs.length fc1, .slice F2 n.kids.length fc2, .string n.text] 27)))
    clear m0 m1 m2 m3 m4 m5 hV hb hba hrem
    go_upto_region 11 with fail
    revert HZ11 HB7 SM2 HM VM3
    generalize wA.alloc (.cells #[.int .i64 n.kind, .string n.name.1, .string n.name.2, .slice F1 n.attrs.length fc1, .slice F2 n.kids.length fc2, .string n.text] 27) = w11
    intro HZ11 HB7 SM2 HM VM3
    generalize wA.heap.size = M3 at *
    have CM3 := Lib.hid (fun (v : World) (h : Below w11.heap.size w11 v) => cells_of_nd (still_block HM.out h))
    have SM3 := Lib.hid (Below.refl w11.heap.size w11)
    clear HM
    have HS0 := Lib.hid hs0
    clear hs0
    obtain ⟨e, hee, hpe⟩ : ∃ e, atP n l = some e ∧ p ≤ (e.kids.length : Int) := by
      obtain ⟨_, _, _, e, he, hpe, _⟩ := HIB.out
      exact ⟨e, he, hpe⟩
    have hat : Calls Try.prog 9 #[ndV n A ca K ck, .slice PA l.length cp] w11 fun q w' => ∃ A' ca' K' ck', q = .returned (.tuple #[ndV e A' ca' K' ck', .bool true]) ∧ NodeV w' e A' K' ∧ Below w11.heap.size w11 w' := by
      have h := At_z n A K ca ck l PA cp w11 (NodeV.below VN.out HZ11.out) HMN.out (PL.out.below HZ11.out) (by have := HL.out; omega)
      unfold atZ at h
      rw [hee] at h
      exact h
    unfold ndV ndCells at hat
    have HADJ := Lib.hid (right_adj HOK.out hee)
    have hel : e.kids.length ≤ 30000 := ((lenN_is _ _).1 (atP_lenN 30000 l n e HSN.out hee)).2.1
    have HPE := Lib.hid hpe
    have HP0 := Lib.hid HIB.out.2.2.1
    clear hee hpe
    obtain ⟨n0, n1, n2, n3, n4, n5⟩ := CN.out w11 HZ11.out
    go_wp2_with fail
    refine (hat).mono ?_
    rintro e wA ⟨G1, gc1, G2, gc2, rfl, hV, hb⟩
    have hba : Below w11.heap.size w11 (wA.alloc (.cells #[.int .i64 e.kind, .string e.name.1, .string e.name.2, .slice G1 e.attrs.length gc1, .slice G2 e.kids.length gc2, .string e.text] 27)) := hb.alloc hb.size _
    have HZ12 := Lib.hid (HZ11.out.trans (hba.mono HZ11.out.size))
    replace HB7 := Lib.hid (HB7.out.trans (hba.mono HB7.out.size))
    replace SM2 := Lib.hid (SM2.out.trans (hba.mono SM2.out.size))
    replace SM3 := Lib.hid (SM3.out.trans (hba.mono SM3.out.size))
    have HM := Lib.hid (heap_alloc_new wA (.cells #[.int .i64 e.kind, .string e.name.1, .string e.name.2, .slice G1 e.attrs.length gc1, .slice G2 e.kids.length gc2, .string e.text] 27))
    have VM4 := Lib.hid (hV.below ((Below.refl wA.heap.size wA).alloc (Nat.le_refl _) (.cells #[.int .i64 e.kind, .string e.name.1, .string e.name.2, .slice G1 e.attrs.length gc1, .slice G2 e.kids.length gc2, .string e.text] 27)))
    clear n0 n1 n2 n3 n4 n5 hV hb hba hat
    go_upto_region 12 with fail
    revert HZ12 HB7 SM2 SM3 HM VM4
    generalize wA.alloc (.cells #[.int .i64 e.kind, .string e.name.1, .string e.name.2, .slice G1 e.attrs.length gc1, .slice G2 e.kids.length gc2, .string e.text] 27) = w12
    intro HZ12 HB7 SM2 SM3 HM VM4
    generalize wA.heap.size = M4 at *
    have CM4 := Lib.hid (fun (v : World) (h : Below w12.heap.size w12 v) => cells_of_nd (still_block HM.out h))
    have SM4 := Lib.hid (Below.refl w12.heap.size w12)
    clear HM
    rcases s0 with _ | _
    case false =>
      obtain ⟨k0, k1, k2, k3, k4, k5⟩ := CM2.out w12 SM2.out
      obtain ⟨x0, x1, x2, x3, x4, x5⟩ := CX.out w12 HZ12.out
      have heq := equal_self x E1 E2 XA XK ec1 ec2 xca xck w12 HMX.out (VM2.out.below SM2.out) (VX.out.below HZ12.out)
      unfold ndV ndCells at heq
      go_wp2_with fail
      refine heq.mono ?_
      rintro q w13 ⟨rfl, hb⟩
      have HY3 := Lib.hid (SM3.out.trans (hb.mono SM3.out.size))
      have HYZ := Lib.hid (HZ12.out.trans (hb.mono HZ12.out.size))
      have HY9 := Lib.hid (HB7.out.trans (hb.mono HB7.out.size))
      clear k0 k1 k2 k3 k4 k5 x0 x1 x2 x3 x4 x5 heq hb
      obtain ⟨k0, k1, k2, k3, k4, k5⟩ := CM3.out w13 HY3.out
      obtain ⟨n0, n1, n2, n3, n4, n5⟩ := CN.out w13 HYZ.out
      have heq := equal_self n F1 F2 A K fc1 fc2 ca ck w13 HMN.out (VM3.out.below HY3.out) (VN.out.below HYZ.out)
      unfold ndV ndCells at heq
      go_wp2_with fail
      refine heq.mono ?_
      rintro q w14 ⟨rfl, hb⟩
      have HYE := Lib.hid (HY9.out.trans (hb.mono HY9.out.size))
      clear k0 k1 k2 k3 k4 k5 n0 n1 n2 n3 n4 n5 heq hb
      go_wp2
      go_meet
      case rel => exact HYE
    have hp0 : (0 : Int) < p := of_decide_eq_true HS0.out
    obtain ⟨i, rfl⟩ : ∃ i : Nat, p = (i : Int) + 1 := ⟨(p - 1).toNat, by omega⟩
    obtain ⟨g0, g1, g2, g3, g4, g5⟩ := CM4.out w12 SM4.out
    by_cases hlt : i + 1 < e.kids.length
    case neg =>
      have hni : ¬ (i : Int) + 1 < (e.kids.length : Int) := by omega
      clear hlt hp0
      obtain ⟨k0, k1, k2, k3, k4, k5⟩ := CM2.out w12 SM2.out
      obtain ⟨x0, x1, x2, x3, x4, x5⟩ := CX.out w12 HZ12.out
      have heq := equal_self x E1 E2 XA XK ec1 ec2 xca xck w12 HMX.out (VM2.out.below SM2.out) (VX.out.below HZ12.out)
      unfold ndV ndCells at heq
      go_wp2_with fail
      refine heq.mono ?_
      rintro q w13 ⟨rfl, hb⟩
      have HY3 := Lib.hid (SM3.out.trans (hb.mono SM3.out.size))
      have HYZ := Lib.hid (HZ12.out.trans (hb.mono HZ12.out.size))
      have HY9 := Lib.hid (HB7.out.trans (hb.mono HB7.out.size))
      clear k0 k1 k2 k3 k4 k5 x0 x1 x2 x3 x4 x5 heq hb
      obtain ⟨k0, k1, k2, k3, k4, k5⟩ := CM3.out w13 HY3.out
      obtain ⟨n0, n1, n2, n3, n4, n5⟩ := CN.out w13 HYZ.out
      have heq := equal_self n F1 F2 A K fc1 fc2 ca ck w13 HMN.out (VM3.out.below HY3.out) (VN.out.below HYZ.out)
      unfold ndV ndCells at heq
      go_wp2_with fail
      refine heq.mono ?_
      rintro q w14 ⟨rfl, hb⟩
      have HYE := Lib.hid (HY9.out.trans (hb.mono HY9.out.size))
      clear k0 k1 k2 k3 k4 k5 n0 n1 n2 n3 n4 n5 heq hb
      go_wp2
      go_meet
      case rel => exact HYE
    case pos =>
    have hni : (i : Int) + 1 < (e.kids.length : Int) := by omega
    obtain ⟨k1, hk1⟩ : ∃ k, e.kids[i]? = some k := ⟨e.kids[i], List.getElem?_eq_getElem (by omega)⟩
    obtain ⟨k2, hk2⟩ : ∃ k, e.kids[i + 1]? = some k := ⟨e.kids[i + 1], List.getElem?_eq_getElem (by omega)⟩
    obtain ⟨ad, _, _, _, _, hG2, had, y0, _, _, _, _, _, _, _⟩ := VM4.out.2.at_ hk1
    obtain ⟨ad2, _, _, _, _, hG3, _, z0, _, _, _, _, _, _, _⟩ := VM4.out.2.at_ hk2
    rw [hG2] at hG3
    injection hG3 with hG3
    subst hG3
    subst hG2
    have HK12 := Lib.hid (fun (h : k1.kind = 2) => adj_at HADJ.out hk1 hk2 h)
    have hwr : IntKind.i64.wrap ((i : Int) + 1 - 1) = (i : Int) := by rw [IntKind.wrap_i64]; omega
    have hi0 : (0 : Int) ≤ (i : Int) := by omega
    have hi1 : (i : Int) < (e.kids.length : Int) := by omega
    have hi2 : (0 : Int) ≤ (i : Int) + 1 := by omega
    clear hk1 hk2 hp0 hlt
    by_cases hkk : k1.kind = 2
    case neg =>
      have hne : (k1.kind == 2) = false := by simpa using hkk
      clear hkk
      go_upto_region 15 with fail
      obtain ⟨k0, k1, k2, k3, k4, k5⟩ := CM2.out w12 SM2.out
      obtain ⟨x0, x1, x2, x3, x4, x5⟩ := CX.out w12 HZ12.out
      have heq := equal_self x E1 E2 XA XK ec1 ec2 xca xck w12 HMX.out (VM2.out.below SM2.out) (VX.out.below HZ12.out)
      unfold ndV ndCells at heq
      go_wp2_with fail
      refine heq.mono ?_
      rintro q w13 ⟨rfl, hb⟩
      have HY3 := Lib.hid (SM3.out.trans (hb.mono SM3.out.size))
      have HYZ := Lib.hid (HZ12.out.trans (hb.mono HZ12.out.size))
      have HY9 := Lib.hid (HB7.out.trans (hb.mono HB7.out.size))
      clear k0 k1 k2 k3 k4 k5 x0 x1 x2 x3 x4 x5 heq hb
      obtain ⟨k0, k1, k2, k3, k4, k5⟩ := CM3.out w13 HY3.out
      obtain ⟨n0, n1, n2, n3, n4, n5⟩ := CN.out w13 HYZ.out
      have heq := equal_self n F1 F2 A K fc1 fc2 ca ck w13 HMN.out (VM3.out.below HY3.out) (VN.out.below HYZ.out)
      unfold ndV ndCells at heq
      go_wp2_with fail
      refine heq.mono ?_
      rintro q w14 ⟨rfl, hb⟩
      have HYE := Lib.hid (HY9.out.trans (hb.mono HY9.out.size))
      clear k0 k1 k2 k3 k4 k5 n0 n1 n2 n3 n4 n5 heq hb
      go_wp2
      go_meet
      case rel => exact HYE
    case pos =>
    have hk2 := HK12.out hkk
    have hne : (k2.kind == 2) = false := by simpa using hk2
    rw [hkk] at y0
    clear hk2 hkk
    go_upto_region 15 with fail
    obtain ⟨k0, k1, k2, k3, k4, k5⟩ := CM2.out w12 SM2.out
    obtain ⟨x0, x1, x2, x3, x4, x5⟩ := CX.out w12 HZ12.out
    have heq := equal_self x E1 E2 XA XK ec1 ec2 xca xck w12 HMX.out (VM2.out.below SM2.out) (VX.out.below HZ12.out)
    unfold ndV ndCells at heq
    go_wp2_with fail
    refine heq.mono ?_
    rintro q w13 ⟨rfl, hb⟩
    have HY3 := Lib.hid (SM3.out.trans (hb.mono SM3.out.size))
    have HYZ := Lib.hid (HZ12.out.trans (hb.mono HZ12.out.size))
    have HY9 := Lib.hid (HB7.out.trans (hb.mono HB7.out.size))
    clear k0 k1 k2 k3 k4 k5 x0 x1 x2 x3 x4 x5 heq hb
    obtain ⟨k0, k1, k2, k3, k4, k5⟩ := CM3.out w13 HY3.out
    obtain ⟨n0, n1, n2, n3, n4, n5⟩ := CN.out w13 HYZ.out
    have heq := equal_self n F1 F2 A K fc1 fc2 ca ck w13 HMN.out (VM3.out.below HY3.out) (VN.out.below HYZ.out)
    unfold ndV ndCells at heq
    go_wp2_with fail
    refine heq.mono ?_
    rintro q w14 ⟨rfl, hb⟩
    have HYE := Lib.hid (HY9.out.trans (hb.mono HY9.out.size))
    clear k0 k1 k2 k3 k4 k5 n0 n1 n2 n3 n4 n5 heq hb
    go_wp2
    go_meet
    case rel => exact HYE
  case rest =>
    obtain ⟨wq, rfl⟩ : ∃ wq, wq = wc := ⟨wc, rfl⟩
    have HBq := Lib.hid (HB9.out.trans (hcut.out.mono HB9.out.size))
    clear hcut HB9 SM1 CM1 VM1 HR HMM HBB
    obtain ⟨d, hd⟩ : ∃ d, atZ n l = d := ⟨_, rfl⟩
    obtain ⟨is, his⟩ : ∃ b, (atP n l).isSome = b := ⟨_, rfl⟩
    have hat := At_z n A K ca ck l PA cp wq (NodeV.below VN.out HBq.out) HMN.out (PL.out.below HBq.out) (by have := HL.out; omega)
    rw [hd, his] at hat
    have HD := Lib.hid hd
    have HIS := Lib.hid his
    clear hd his
    unfold ndV ndCells at hat
    go_upto_region 17 with fail
    obtain ⟨n0, n1, n2, n3, n4, n5⟩ := CN.out wq HBq.out
    go_wp2_with fail
    refine (hat).mono ?_
    rintro e wA ⟨D1, dc1, D2, dc2, rfl, hV, hb⟩
    have hba : Below wq.heap.size wq (wA.alloc (.cells #[.int .i64 d.kind, .string d.name.1, .string d.name.2, .slice D1 d.attrs.length dc1, .slice D2 d.kids.length dc2, .string d.text] 27)) := hb.alloc hb.size _
    have HB15 := Lib.hid (HBq.out.trans (hba.mono HBq.out.size))
    have HM := Lib.hid (heap_alloc_new wA (.cells #[.int .i64 d.kind, .string d.name.1, .string d.name.2, .slice D1 d.attrs.length dc1, .slice D2 d.kids.length dc2, .string d.text] 27))
    have VN1 := Lib.hid (hV.below ((Below.refl wA.heap.size wA).alloc (Nat.le_refl _) (.cells #[.int .i64 d.kind, .string d.name.1, .string d.name.2, .slice D1 d.attrs.length dc1, .slice D2 d.kids.length dc2, .string d.text] 27)))
    clear n0 n1 n2 n3 n4 n5 hV hb hba hat HBq
    go_upto_region 18 with fail
    revert HB15  HM VN1
    generalize wA.alloc (.cells #[.int .i64 d.kind, .string d.name.1, .string d.name.2, .slice D1 d.attrs.length dc1, .slice D2 d.kids.length dc2, .string d.text] 27) = w15
    intro HB15  HM VN1
    generalize wA.heap.size = N1 at *
    have CN1 := Lib.hid (fun (v : World) (h : Below w15.heap.size w15 v) => cells_of_nd (still_block HM.out h))
    have SN1 := Lib.hid (Below.refl w15.heap.size w15)
    clear HM
    rcases is with _ | _
    case false =>
      clear SN1 CN1 VN1
      go_wp2
      go_ret
      exact ⟨rfl, HBT.out _ HB15.out⟩
    obtain ⟨d0, _, _, _, _, _⟩ := CN1.out w15 SN1.out
    by_cases hdk : d.kind = 1
    case neg =>
      have hne : (d.kind == 1) = false := by simpa using hdk
      clear hdk
      go_wp2
      go_ret
      exact ⟨rfl, HBT.out _ HB15.out⟩
    case pos =>
    rw [hdk] at d0
    have HAD : Hid (atP n l = some d) := Lib.hid (by
      have h1 := HD.out
      have h2 := HIS.out
      unfold atZ at h1
      cases he : atP n l with
      | none => rw [he] at h2; cases h2
      | some q => rw [he] at h1; exact congrArg some h1)
    have HDK := Lib.hid hdk
    clear hdk
    have HRB := Lib.hid (repl_back HOK.out HXK.out HAD.out HDK.out)
    have HLD := Lib.hid (atP_lenN 30000 l n d HSN.out HAD.out)
    have HSD := Lib.hid (lenN_mono (C := 1000000) (by omega) d HLD.out)
    have HCD := Lib.hid (atP_cost HAD.out)
    have HGR := Lib.hid (repl_gn (l := l) HSN.out HSX.out HCN.out HCX.out)
    go_upto_region 19 with fail
    clear d0
    obtain ⟨m2, hm2⟩ : ∃ m, setP n l x = m := ⟨_, rfl⟩
    have hr1 : Calls Try.prog 12 #[ndV n A ca K ck, ndV x XA xca XK xck, .slice PA l.length cp] w15 fun q w' => ∃ A' ca' K' ck', q = .returned (.tuple #[ndV m2 A' ca' K' ck', .bool true]) ∧ NodeV w' m2 A' K' ∧ Below w15.heap.size w15 w' := by
      have h := Replace_any n x A K XA XK ca ck xca xck l PA cp w15 (NodeV.below VN.out HB15.out) (NodeV.below VX.out HB15.out) ⟨HMN.out, by have := HCN.out; omega⟩ ⟨HMX.out, by have := HCX.out; omega⟩ (PL.out.below HB15.out) HCP.out (by have := HL.out; omega)
      rw [HRB.out.1, hm2] at h
      exact h.mono (fun e w' h => NdOut.z h)
    have HM2 := Lib.hid hm2
    clear hm2
    unfold ndV ndCells at hr1
    obtain ⟨n0, n1, n2, n3, n4, n5⟩ := CN.out w15 HB15.out
    obtain ⟨x0, x1, x2, x3, x4, x5⟩ := CX.out w15 HB15.out
    go_wp2_with fail
    refine (hr1).mono ?_
    rintro e wA ⟨P1, pc1, P2, pc2, rfl, hV, hb⟩
    have hba : Below w15.heap.size w15 (wA.alloc (.cells #[.int .i64 m2.kind, .string m2.name.1, .string m2.name.2, .slice P1 m2.attrs.length pc1, .slice P2 m2.kids.length pc2, .string m2.text] 27)) := hb.alloc hb.size _
    have HB16 := Lib.hid (HB15.out.trans (hba.mono HB15.out.size))
    replace SN1 := Lib.hid (SN1.out.trans (hba.mono SN1.out.size))
    have HM := Lib.hid (heap_alloc_new wA (.cells #[.int .i64 m2.kind, .string m2.name.1, .string m2.name.2, .slice P1 m2.attrs.length pc1, .slice P2 m2.kids.length pc2, .string m2.text] 27))
    have VN2 := Lib.hid (hV.below ((Below.refl wA.heap.size wA).alloc (Nat.le_refl _) (.cells #[.int .i64 m2.kind, .string m2.name.1, .string m2.name.2, .slice P1 m2.attrs.length pc1, .slice P2 m2.kids.length pc2, .string m2.text] 27)))
    clear n0 n1 n2 n3 n4 n5 x0 x1 x2 x3 x4 x5 hV hb hba hr1 HB15
    go_upto_region 20 with fail
    revert HB16 SN1 HM VN2
    generalize wA.alloc (.cells #[.int .i64 m2.kind, .string m2.name.1, .string m2.name.2, .slice P1 m2.attrs.length pc1, .slice P2 m2.kids.length pc2, .string m2.text] 27) = w16
    intro HB16 SN1 HM VN2
    generalize wA.heap.size = N2 at *
    have CN2 := Lib.hid (fun (v : World) (h : Below w16.heap.size w16 v) => cells_of_nd (still_block HM.out h))
    have SN2 := Lib.hid (Below.refl w16.heap.size w16)
    clear HM
    have hr2 : Calls Try.prog 12 #[ndV m2 P1 pc1 P2 pc2, ndV d D1 dc1 D2 dc2, .slice PA l.length cp] w16 fun q w' => ∃ A' ca' K' ck', q = .returned (.tuple #[ndV n A' ca' K' ck', .bool true]) ∧ NodeV w' n A' K' ∧ Below w16.heap.size w16 w' := by
      have h := Replace_any m2 d P1 P2 D1 D2 pc1 pc2 dc1 dc2 l PA cp w16 (NodeV.below VN2.out SN2.out) (NodeV.below VN1.out SN1.out) (by rw [← HM2.out]; exact HGR.out) ⟨HSD.out, by have := HCD.out; have := HCN.out; omega⟩ (PL.out.below HB16.out) HCP.out (by have := HL.out; omega)
      rw [← HM2.out, HRB.out.2, HM2.out] at h
      exact h.mono (fun e w' h => NdOut.z h)
    unfold ndV ndCells at hr2
    obtain ⟨m0, m1, m2, m3, m4, m5⟩ := CN2.out w16 SN2.out
    obtain ⟨d0, d1, d2, d3, d4, d5⟩ := CN1.out w16 SN1.out
    go_wp2_with fail
    refine (hr2).mono ?_
    rintro e wA ⟨Q1, qc1, Q2, qc2, rfl, hV, hb⟩
    have hba : Below w16.heap.size w16 (wA.alloc (.cells #[.int .i64 n.kind, .string n.name.1, .string n.name.2, .slice Q1 n.attrs.length qc1, .slice Q2 n.kids.length qc2, .string n.text] 27)) := hb.alloc hb.size _
    have HB17 := Lib.hid (HB16.out.trans (hba.mono HB16.out.size))
    replace SN1 := Lib.hid (SN1.out.trans (hba.mono SN1.out.size))
    have HM := Lib.hid (heap_alloc_new wA (.cells #[.int .i64 n.kind, .string n.name.1, .string n.name.2, .slice Q1 n.attrs.length qc1, .slice Q2 n.kids.length qc2, .string n.text] 27))
    have VN3 := Lib.hid (hV.below ((Below.refl wA.heap.size wA).alloc (Nat.le_refl _) (.cells #[.int .i64 n.kind, .string n.name.1, .string n.name.2, .slice Q1 n.attrs.length qc1, .slice Q2 n.kids.length qc2, .string n.text] 27)))
    clear m0 m1 m2 m3 m4 m5 d0 d1 d2 d3 d4 d5 hV hb hba hr2 HB16 SN2 CN2 VN2
    go_upto_region 21 with fail
    revert HB17 SN1 HM VN3
    generalize wA.alloc (.cells #[.int .i64 n.kind, .string n.name.1, .string n.name.2, .slice Q1 n.attrs.length qc1, .slice Q2 n.kids.length qc2, .string n.text] 27) = w17
    intro HB17 SN1 HM VN3
    generalize wA.heap.size = N3 at *
    have CN3 := Lib.hid (fun (v : World) (h : Below w17.heap.size w17 v) => cells_of_nd (still_block HM.out h))
    have SN3 := Lib.hid (Below.refl w17.heap.size w17)
    clear HM
    have heq := equal_self n Q1 Q2 A K qc1 qc2 ca ck w17 HMN.out (VN3.out.below SN3.out) (VN.out.below HB17.out)
    unfold ndV ndCells at heq
    obtain ⟨k0, k1, k2, k3, k4, k5⟩ := CN3.out w17 SN3.out
    obtain ⟨n0, n1, n2, n3, n4, n5⟩ := CN.out w17 HB17.out
    go_wp2_with fail
    refine heq.mono ?_
    rintro q w18 ⟨rfl, hb⟩
    have HB18 := Lib.hid (HB17.out.trans (hb.mono HB17.out.size))
    replace SN1 := Lib.hid (SN1.out.trans (hb.mono SN1.out.size))
    clear k0 k1 k2 k3 k4 k5 n0 n1 n2 n3 n4 n5 heq hb HB17 SN3 CN3 VN3 HM2 HGR HRB
    go_upto_region 23 with fail
    have hget := get_any d (a1, a2) D1 D2 dc1 dc2 w18 (VN1.out.below SN1.out) (by have := ((lenN_is _ _).1 HLD.out).1; omega)
    obtain ⟨gr, hgr⟩ : ∃ g, getA (a1, a2) d.attrs = g := ⟨_, rfl⟩
    rw [hgr] at hget
    unfold ndV ndCells at hget
    obtain ⟨c0, c1, c2⟩ := CA.out w18 HB18.out
    obtain ⟨d0, d1, d2, d3, d4, d5⟩ := CN1.out w18 SN1.out
    rcases gr with _ | v
    case some =>
      go_wp2_with fail
      refine hget.mono ?_
      rintro q w19 ⟨rfl, hb⟩
      have HB19 := Lib.hid (HB18.out.trans (hb.mono HB18.out.size))
      clear d0 d1 d2 d3 d4 d5 hget hb hgr c0 c1 c2
      go_wp2
      go_ret
      exact ⟨rfl, HBT.out _ HB19.out⟩
    case none =>
    have HNEW := Lib.hid hgr
    clear hgr
    go_wp2_with fail
    refine hget.mono ?_
    rintro q w19 ⟨rfl, hb⟩
    have HB19 := Lib.hid (HB18.out.trans (hb.mono HB18.out.size))
    clear d0 d1 d2 d3 d4 d5 hget hb c0 c1 c2 HB18 SN1 CN1 VN1
    go_upto_region 25 with fail
    have HAB := Lib.hid (attr_back (a := ((a1, a2), a3)) HAD.out HDK.out HNEW.out)
    have HJL := Lib.hid (show (d.attrs ++ [((a1, a2), a3)]).length ≤ 30001 from by have := ((lenN_is _ _).1 HLD.out).1; simp; omega)
    have HS3 := Lib.hid (attr_small (J := d.attrs ++ [((a1, a2), a3)]) HSN.out HAD.out HJL.out)
    obtain ⟨d3, hd3⟩ : ∃ q, d.withAttrs (d.attrs ++ [((a1, a2), a3)]) = q := ⟨_, rfl⟩
    have HD3L : Hid (d3.attrs.length ≤ 30001) := Lib.hid (by rw [← hd3]; exact HJL.out)
    rw [hd3] at HAB HS3
    clear hd3 HJL
    obtain ⟨m3, hm3⟩ : ∃ m, setP n l d3 = m := ⟨_, rfl⟩
    rw [hm3] at HAB HS3
    clear hm3
    have hset : Calls Try.prog 14 #[ndV n A ca K ck, .agg #[.string a1, .string a2, .string a3], .slice PA l.length cp] w19 fun q w' => ∃ A' ca' K' ck', q = .returned (.tuple #[ndV m3 A' ca' K' ck', .bool true]) ∧ NodeV w' m3 A' K' ∧ Below w19.heap.size w19 w' := by
      have h := SetAttr_new n ((a1, a2), a3) A K ca ck l PA cp w19 (NodeV.below VN.out HB19.out) HMN.out (fun e he => by
        rw [HAD.out] at he
        injection he with he
        subst he
        exact ⟨by have := ((lenN_is _ _).1 HLD.out).1; omega, idxA_new.1 HNEW.out⟩) (PL.out.below HB19.out) HCP.out (by have := HL.out; omega)
      rw [HAB.out.1] at h
      exact h.mono (fun e w' h => NdOut.z h)
    unfold ndV ndCells at hset
    obtain ⟨c0, c1, c2⟩ := CA.out w19 HB19.out
    obtain ⟨n0, n1, n2, n3, n4, n5⟩ := CN.out w19 HB19.out
    go_wp2_with fail
    refine (hset).mono ?_
    rintro e wA ⟨R1, rc1, R2, rc2, rfl, hV, hb⟩
    have hba : Below w19.heap.size w19 (wA.alloc (.cells #[.int .i64 m3.kind, .string m3.name.1, .string m3.name.2, .slice R1 m3.attrs.length rc1, .slice R2 m3.kids.length rc2, .string m3.text] 27)) := hb.alloc hb.size _
    have HB20 := Lib.hid (HB19.out.trans (hba.mono HB19.out.size))
    have HM := Lib.hid (heap_alloc_new wA (.cells #[.int .i64 m3.kind, .string m3.name.1, .string m3.name.2, .slice R1 m3.attrs.length rc1, .slice R2 m3.kids.length rc2, .string m3.text] 27))
    have VN4 := Lib.hid (hV.below ((Below.refl wA.heap.size wA).alloc (Nat.le_refl _) (.cells #[.int .i64 m3.kind, .string m3.name.1, .string m3.name.2, .slice R1 m3.attrs.length rc1, .slice R2 m3.kids.length rc2, .string m3.text] 27)))
    clear n0 n1 n2 n3 n4 n5 c0 c1 c2 hV hb hba hset HB19
    go_upto_region 26 with fail
    revert HB20  HM VN4
    generalize wA.alloc (.cells #[.int .i64 m3.kind, .string m3.name.1, .string m3.name.2, .slice R1 m3.attrs.length rc1, .slice R2 m3.kids.length rc2, .string m3.text] 27) = w20
    intro HB20  HM VN4
    generalize wA.heap.size = N4 at *
    have CN4 := Lib.hid (fun (v : World) (h : Below w20.heap.size w20 v) => cells_of_nd (still_block HM.out h))
    have SN4 := Lib.hid (Below.refl w20.heap.size w20)
    clear HM
    have hdrop : Calls Try.prog 15 #[ndV m3 R1 rc1 R2 rc2, .agg #[.string a1, .string a2], .slice PA l.length cp] w20 fun q w' => ∃ A' ca' K' ck', q = .returned (.tuple #[ndV n A' ca' K' ck', .bool true]) ∧ NodeV w' n A' K' ∧ Below w20.heap.size w20 w' := by
      have h := DropAttr_any m3 (a1, a2) R1 R2 rc1 rc2 l PA cp w20 (NodeV.below VN4.out SN4.out) HS3.out (fun e he => by
        rw [HAB.out.2.1] at he
        injection he with he
        subst he
        have := HD3L.out; omega) (PL.out.below HB20.out) HCP.out (by have := HL.out; omega)
      rw [HAB.out.2.2.1] at h
      exact h.mono (fun e w' h => NdOut.z h)
    unfold ndV ndCells at hdrop
    obtain ⟨c0, c1, c2⟩ := CA.out w20 HB20.out
    obtain ⟨m0, m1, m2, m3, m4, m5⟩ := CN4.out w20 SN4.out
    go_wp2_with fail
    refine (hdrop).mono ?_
    rintro e wA ⟨T1, tc1, T2, tc2, rfl, hV, hb⟩
    have hba : Below w20.heap.size w20 (wA.alloc (.cells #[.int .i64 n.kind, .string n.name.1, .string n.name.2, .slice T1 n.attrs.length tc1, .slice T2 n.kids.length tc2, .string n.text] 27)) := hb.alloc hb.size _
    have HB21 := Lib.hid (HB20.out.trans (hba.mono HB20.out.size))
    replace SN4 := Lib.hid (SN4.out.trans (hba.mono SN4.out.size))
    have HM := Lib.hid (heap_alloc_new wA (.cells #[.int .i64 n.kind, .string n.name.1, .string n.name.2, .slice T1 n.attrs.length tc1, .slice T2 n.kids.length tc2, .string n.text] 27))
    have VN5 := Lib.hid (hV.below ((Below.refl wA.heap.size wA).alloc (Nat.le_refl _) (.cells #[.int .i64 n.kind, .string n.name.1, .string n.name.2, .slice T1 n.attrs.length tc1, .slice T2 n.kids.length tc2, .string n.text] 27)))
    clear m0 m1 m2 m3 m4 m5 c0 c1 c2 hV hb hba hdrop HB20
    go_upto_region 27 with fail
    revert HB21 SN4 HM VN5
    generalize wA.alloc (.cells #[.int .i64 n.kind, .string n.name.1, .string n.name.2, .slice T1 n.attrs.length tc1, .slice T2 n.kids.length tc2, .string n.text] 27) = w21
    intro HB21 SN4 HM VN5
    generalize wA.heap.size = N5 at *
    have CN5 := Lib.hid (fun (v : World) (h : Below w21.heap.size w21 v) => cells_of_nd (still_block HM.out h))
    have SN5 := Lib.hid (Below.refl w21.heap.size w21)
    clear HM
    have hat : Calls Try.prog 9 #[ndV m3 R1 rc1 R2 rc2, .slice PA l.length cp] w21 fun q w' => ∃ A' ca' K' ck', q = .returned (.tuple #[ndV d3 A' ca' K' ck', .bool true]) ∧ NodeV w' d3 A' K' ∧ Below w21.heap.size w21 w' := by
      have h := At_z m3 R1 R2 rc1 rc2 l PA cp w21 (NodeV.below VN4.out SN4.out) HS3.out (PL.out.below HB21.out) (by have := HL.out; omega)
      unfold atZ at h
      rw [HAB.out.2.1] at h
      exact h
    unfold ndV ndCells at hat
    obtain ⟨m0, m1, m2, m3, m4, m5⟩ := CN4.out w21 SN4.out
    go_wp2_with fail
    refine (hat).mono ?_
    rintro e wA ⟨U1, uc1, U2, uc2, rfl, hV, hb⟩
    have hba : Below w21.heap.size w21 (wA.alloc (.cells #[.int .i64 d3.kind, .string d3.name.1, .string d3.name.2, .slice U1 d3.attrs.length uc1, .slice U2 d3.kids.length uc2, .string d3.text] 27)) := hb.alloc hb.size _
    have HB22 := Lib.hid (HB21.out.trans (hba.mono HB21.out.size))
    replace SN5 := Lib.hid (SN5.out.trans (hba.mono SN5.out.size))
    have HM := Lib.hid (heap_alloc_new wA (.cells #[.int .i64 d3.kind, .string d3.name.1, .string d3.name.2, .slice U1 d3.attrs.length uc1, .slice U2 d3.kids.length uc2, .string d3.text] 27))
    have VN6 := Lib.hid (hV.below ((Below.refl wA.heap.size wA).alloc (Nat.le_refl _) (.cells #[.int .i64 d3.kind, .string d3.name.1, .string d3.name.2, .slice U1 d3.attrs.length uc1, .slice U2 d3.kids.length uc2, .string d3.text] 27)))
    clear m0 m1 m2 m3 m4 m5 hV hb hba hat HB21 SN4 CN4 VN4
    go_upto_region 28 with fail
    revert HB22 SN5 HM VN6
    generalize wA.alloc (.cells #[.int .i64 d3.kind, .string d3.name.1, .string d3.name.2, .slice U1 d3.attrs.length uc1, .slice U2 d3.kids.length uc2, .string d3.text] 27) = w22
    intro HB22 SN5 HM VN6
    generalize wA.heap.size = N6 at *
    have CN6 := Lib.hid (fun (v : World) (h : Below w22.heap.size w22 v) => cells_of_nd (still_block HM.out h))
    have SN6 := Lib.hid (Below.refl w22.heap.size w22)
    clear HM
    have hget := get_any d3 (a1, a2) U1 U2 uc1 uc2 w22 (VN6.out.below SN6.out) (by have := HD3L.out; omega)
    rw [HAB.out.2.2.2] at hget
    unfold ndV ndCells at hget
    obtain ⟨c0, c1, c2⟩ := CA.out w22 HB22.out
    obtain ⟨d0, d1, d2, d3, d4, d5⟩ := CN6.out w22 SN6.out
    go_wp2_with fail
    refine hget.mono ?_
    rintro q w23 ⟨rfl, hb⟩
    have HB23 := Lib.hid (HB22.out.trans (hb.mono HB22.out.size))
    replace SN5 := Lib.hid (SN5.out.trans (hb.mono SN5.out.size))
    clear d0 d1 d2 d3 d4 d5 hget hb c0 c1 c2 HB22 SN6 CN6 VN6
    go_upto_region 29 with fail
    have heq := equal_self n T1 T2 A K tc1 tc2 ca ck w23 HMN.out (VN5.out.below SN5.out) (VN.out.below HB23.out)
    unfold ndV ndCells at heq
    obtain ⟨c0, c1, c2⟩ := CA.out w23 HB23.out
    obtain ⟨k0, k1, k2, k3, k4, k5⟩ := CN5.out w23 SN5.out
    obtain ⟨n0, n1, n2, n3, n4, n5⟩ := CN.out w23 HB23.out
    go_wp2_with fail
    refine heq.mono ?_
    rintro q w24 ⟨rfl, hb⟩
    have HB24 := Lib.hid (HB23.out.trans (hb.mono HB23.out.size))
    clear k0 k1 k2 k3 k4 k5 n0 n1 n2 n3 n4 n5 heq hb c0 c1 c2
    go_wp2
    go_ret
    exact ⟨rfl, HBT.out _ HB24.out⟩
end Go.Proofs.Ytlcjepnaljfpkaa
