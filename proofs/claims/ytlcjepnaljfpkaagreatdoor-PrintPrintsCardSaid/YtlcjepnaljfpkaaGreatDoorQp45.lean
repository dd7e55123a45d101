/- PrK. -/
import Derived.Deep.Cut
import Derived.Test.YtlcjepnaljfpkaaGreatDoorQp33
import Derived.Test.YtlcjepnaljfpkaaGreatDoorQp44
namespace Go.Proofs.YtlcjepnaljfpkaaGreatDoor
open Go.RowKit Wb
theorem put_lit {base b most : Nat} {t : List UInt8} {w : World} (l : List ByteArray) (n : Nat) (hn : l.length = n) (h : PgT base b t most w) (hm : most ≤ 140737488355328) (hl : l.length ≤ 1000) :
    Calls Tryz.prog 51 #[.pointer (some ⟨b, 0, none⟩), .slice (some ⟨w.heap.size, 0, none⟩) n n] (w.alloc (.cells (cells1 l).toArray 9)) fun e w' => e = .returned (.tuple #[]) ∧ PgT base b (t ++ flatS l) most w' ∧ PgK base b w w' := by
  subst hn
  refine (pput_any l l.length (h.alloc (.cells (cells1 l).toArray 9)) (g := w.heap.size) (heap_alloc_new w _) (by have := h.lt; omega) hl (by omega) (.inl hm)).mono ?_
  rintro e w' ⟨rfl, h1, h2⟩
  exact ⟨rfl, h1, (PgK.alloc w _).trans h2⟩
set_option maxRecDepth 100000 in
set_option maxHeartbeats 8000000 in
theorem element_any (W0 : World) (base b most : Nat) (hm : most ≤ 140737488355328) (h0 : W0.heap.size ≤ base) (n : Nd) : ∀ (d : Nat) (A K : Option Addr) (ca ck : Nat) (space : ByteArray) (t : List UInt8) (w : World), okN d n → n.kind = 1 → szN n → smallN n → NodeV W0 n A K →
    Below W0.heap.size W0 w → PgT base b t most w →
    Calls Tryz.prog 30 #[.pointer (some ⟨b, 0, none⟩), ndV n A ca K ck, .string space] w fun e w' => e = .returned (.tuple #[]) ∧ PgT base b (t ++ nodeT n space) most w' ∧ PgK base b w w' := by
  induction n using Nd.induct with
  | h n ih =>
    intro d A K ca ck space t w hok hkd hsz hsm hV hB0 hP
    have hm2 : most ≤ 9223372036854775807 := by omega
    obtain ⟨kd, ⟨sp, lo⟩, al, ks, tx⟩ := n
    simp only [Nd.kind] at hkd
    subst hkd
    have hok2 : d ≤ 24 ∧ tx = sE ∧ nameOK (sp, lo) ∧ attrsOK al ∧ okKs (d + 1) 0 ks := by
      unfold okN at hok
      rcases hok with ⟨_, h⟩ | ⟨h, _⟩
      · exact h
      · exact absurd h (by decide)
    obtain ⟨_, rfl, _, hat, hkk⟩ := hok2
    obtain ⟨hl32, hpw, _⟩ := hat
    obtain ⟨hsz1, hsz2, hsz3, _, hsz5⟩ := hsz
    have hszk := (szKs_iff ks).1 hsz5
    have hsk := ((smallN_is _).1 hsm).2.2
    have hskl : ks.length ≤ 1000000 := ((smallN_is _).1 hsm).2.1
    have hzlo : lo.size ≤ 1000000000 := hsz2
    have hzsp : sp.size ≤ 1000000000 := hsz1
    have hN : nodeT (.mk 1 (sp, lo) al ks sE) space = 60 :: (tagT (sp, lo) ++ nsT (sp, lo) space ++ attrsT al ++ (if ks.isEmpty then [47, 62] else 62 :: (kidsT ks (ownT (sp, lo) space) ++ [60, 47] ++ tagT (sp, lo) ++ [62]))) := by
      rw [nodeT, if_neg (by decide)]
    obtain ⟨EN, hEN⟩ : ∃ EN, (if ks.isEmpty then [47, 62] else 62 :: (kidsT ks (ownT (sp, lo) space) ++ [60, 47] ++ tagT (sp, lo) ++ [62])) = EN := ⟨_, rfl⟩
    rw [hN, hEN]
    have HEN := Lib.hid hEN
    clear hEN
    unfold ndV ndCells
    simp only [Nd.kind, Nd.name, Nd.attrs, Nd.kids, Nd.text]
    have hbb := hP.lt
    have HA := Lib.hid (fun (v : World) (t2 : List UInt8) (h : Below W0.heap.size W0 v) (hp : PgT base b t2 most v) => pattrs_any A al ca hp hm (hV.1.below h) hl32 hpw hsz3)
    have HVK := Lib.hid hV.2
    have HKK := Lib.hid hkk
    have HSZ := Lib.hid hszk
    have HSK := Lib.hid hsk
    have IH := Lib.hid ih
    have hT0 := heap_alloc_new w (.cells #[.int .i64 1, .string sp, .string lo, .slice A al.length ca, .slice K ks.length ck, .string sE] 37)
    have HT0 := Lib.hid hT0
    have HP0 := Lib.hid (hP.alloc (.cells #[.int .i64 1, .string sp, .string lo, .slice A al.length ca, .slice K ks.length ck, .string sE] 37))
    have HK0 := Lib.hid (PgK.alloc (base := base) (b := b) w (.cells #[.int .i64 1, .string sp, .string lo, .slice A al.length ca, .slice K ks.length ck, .string sE] 37))
    have HB0 := Lib.hid (hB0.alloc hB0.size (.cells #[.int .i64 1, .string sp, .string lo, .slice A al.length ca, .slice K ks.length ck, .string sE] 37))
    have hxl : sXML.toList = [104, 116, 116, 112, 58, 47, 47, 119, 119, 119, 46, 119, 51, 46, 111, 114, 103, 47, 88, 77, 76, 47, 49, 57, 57, 56, 47, 110, 97, 109, 101, 115, 112, 97, 99, 101] := by rw [ByteArray.toList_eq]; rfl
    have HX := Lib.hid hxl
    have hTb : w.heap.size ≠ b := by omega
    clear hxl hT0 ih hszk hsk hkk hV hB0 hP hsz1 hsz2 hsz3 hsz5 hsm hok hpw hN
    go_enter Tryz.func30, Tryz.ntmps30
    go_upto_region 1 with fail
    revert HT0 HP0 HK0 HB0
    generalize (w.alloc (.cells #[.int .i64 1, .string sp, .string lo, .slice A al.length ca, .slice K ks.length ck, .string sE] 37)) = wa
    intro HT0 HP0 HK0 HB0
    generalize w.heap.size = T at *
    have HT := Lib.hid (fun (v : World) (hv : PgK base b wa v) => (show v.cell? ⟨T, 3, none⟩ = some (.slice A al.length ca) ∧ v.cell? ⟨T, 4, none⟩ = some (.slice K ks.length ck) from by
      have hb := PgK.blk hv HT0.out (by decide) hTb
      exact ⟨blk_cell hb 3, blk_cell hb 4⟩))
    have n1 : wa.cell? ⟨T, 1, none⟩ = some (.string sp) := blk_cell HT0.out 1
    have n2 : wa.cell? ⟨T, 2, none⟩ = some (.string lo) := blk_cell HT0.out 2
    have n1d : wa.drew.cell? ⟨T, 1, none⟩ = some (.string sp) := n1
    have n2d : wa.drew.cell? ⟨T, 2, none⟩ = some (.string lo) := n2
    go_region
    have hbwa : base ≤ wa.heap.size := by have := HP0.out.lt; omega
    have HPd : Hid (PgT base b t most wa.drew) := Lib.hid (HP0.out.other (Below.refl _ wa).drew)
    have HKd : Hid (PgK base b wa wa.drew) := Lib.hid ((PgK.refl base b wa).drew)
    clear HP0 n1 n2 n1d n2d HT0
    revert HPd HKd
    generalize wa.drew = wb
    intro HPd HKd
    by_cases hx : sp = sXML
    · have hb2 : (sp.toList == [104, 116, 116, 112, 58, 47, 47, 119, 119, 119, 46, 119, 51, 46, 111, 114, 103, 47, 88, 77, 76, 47, 49, 57, 57, 56, 47, 110, 97, 109, 101, 115, 112, 97, 99, 101]) = true := by rw [hx, HX.out]; rfl
      have hTG : tagT (sp, lo) = (ByteArray.mk #[120, 109, 108, 58] ++ lo).data.toList := by
        unfold tagT
        rw [if_pos hx, ByteArray.data_append]
        simp [sXmlK]
      have hOW : ownT (sp, lo) space = space := by unfold ownT; rw [if_pos hx]
      have hNS : nsT (sp, lo) space = [] := by unfold nsT; rw [hOW, if_pos rfl]
      have hz4 : ¬ 9223372036854775807 < 4 + lo.size := by omega
      have hsp2 : (space.toList == space.toList) = true := beq_self_eq_true _
      have hspn : space = space := rfl
      have Htg := Lib.hid hTG
      have How := Lib.hid hOW
      have Hns := Lib.hid hNS
      clear hx hTG hOW hNS HX
      go_upto_region 4 with fail
      generalize (ByteArray.mk #[120, 109, 108, 58] ++ lo) = tagB at *
      have hput := put_lit [⟨#[60]⟩, tagB] 2 rfl HPd.out hm (by simp)
      rw [flat2] at hput
      unfold cells1 at hput
      simp only [List.map_cons, List.map_nil] at hput
      go_wp2_with fail
      refine hput.mono ?_
      rintro e wc ⟨rfl, hpc, hkc⟩
      rw [← Htg.out] at hpc
      have HPc := Lib.hid hpc
      have HKc := Lib.hid (HKd.out.trans hkc)
      clear hput hpc hkc HPd HKd
      have HPc2 := Lib.hid (show PgT base b (t ++ ([60] ++ tagT (sp, lo)) ++ nsT (sp, lo) space) most wc from by rw [Hns.out, List.append_nil]; exact HPc.out)
      clear HPc
      have HPc := HPc2
      clear HPc2
      have hBc : Below W0.heap.size W0 wc := HB0.out.trans ((HKc.out.below hbwa).mono h0)
      obtain ⟨c3, c4⟩ := HT.out _ HKc.out
      have ha := HA.out wc _ hBc HPc.out
      clear c4 HPc hBc
      go_wp2_with fail
      refine ha.mono ?_
      rintro e wd ⟨rfl, hpd, hkd⟩
      have HPd := Lib.hid hpd
      have HKd := Lib.hid (HKc.out.trans hkd)
      clear ha hpd hkd c3 HKc
      obtain ⟨c3, c4⟩ := HT.out _ HKd.out
      by_cases hks : ks = []
      · subst hks
        have hput := put_lit [⟨#[47, 62]⟩] 1 rfl HPd.out hm (by simp)
        rw [flat1] at hput
        unfold cells1 at hput
        simp only [List.map_cons, List.map_nil] at hput
        simp only [List.length_nil] at c4
        go_wp2_with fail
        refine hput.mono ?_
        rintro e we ⟨rfl, hpe, hke⟩
        have HPe := Lib.hid hpe
        have HKe := Lib.hid (HK0.out.trans (HKd.out.trans hke))
        clear hput hpe hke HPd HKd c3 c4
        go_wp2
        (try simp only [Exit.inBlock, Exit.then])
        refine bodyPost_ret (results_none rfl _ _ _) rfl ?_
        refine ⟨rfl, ?_, HKe.out⟩
        have := HPe.out
        rw [← HEN.out]
        (try rw [hlt])
        simpa using this
      · have hke0 : ks.isEmpty = false := by cases ks with | nil => exact absurd rfl hks | cons _ _ => rfl
        have hkl0 : 0 < ks.length := List.length_pos_iff.2 hks
        have hput := put_lit [⟨#[62]⟩] 1 rfl HPd.out hm (by simp)
        rw [flat1] at hput
        unfold cells1 at hput
        simp only [List.map_cons, List.map_nil] at hput
        clear hks
        go_wp2_with fail
        refine hput.mono ?_
        rintro e we ⟨rfl, hpe, hke⟩
        have HPe := Lib.hid hpe
        have HKe := Lib.hid (HKd.out.trans hke)
        clear hput hpe hke HPd HKd c3 c4
        obtain ⟨c3, c4⟩ := HT.out _ HKe.out
        clear c3
        go_wp2
        go_loopw [48] (fun vi wr => ∃ i : Nat, i ≤ ks.length ∧ vi = .int .i64 i ∧ Hid (PgT base b (t ++ ([60] ++ tagT (sp, lo)) ++ nsT (sp, lo) space ++ attrsT al ++ [62] ++ kidsT (ks.take i) space) most wr) ∧ Hid (PgK base b wa wr)) (fun vi _ => ((ks.length : Int) - intOf vi).toNat)
        case atStart => exact ⟨0, by omega, rfl, Lib.hid (by simpa [kidsT] using HPe.out), HKe⟩
        case round =>
          obtain ⟨i, hi, rfl, HPr, HKr⟩ := hrel
          by_cases h1 : i < ks.length
          · obtain ⟨x, he⟩ : ∃ x, ks[i]? = some x := ⟨ks[i], List.getElem?_eq_getElem h1⟩
            obtain ⟨ad, A1, ca1, K1, ck1, rfl, had, d0, d1, d2, d3, d4, d5, hA1, hK1⟩ := HVK.out.at_ he
            have hBr : Below W0.heap.size W0 wr := HB0.out.trans ((HKr.out.below hbwa).mono h0)
            have cell : ∀ j o, W0.cell? ⟨(ad.add (i * 6)).block, o, none⟩ = j → wr.cell? ⟨(ad.add (i * 6)).block, o, none⟩ = j := fun j o h => (hBr.cell (by rw [add_block]; exact had)).trans h
            have d0' : wr.cell? (ad.add (i * 6)) = _ := (hBr.cell (by rw [add_block]; exact had)).trans d0
            have d1' := cell _ _ d1
            have d2' := cell _ _ d2
            have d3' := cell _ _ d3
            have d4' := cell _ _ d4
            have d5' := cell _ _ d5
            obtain ⟨o1, o2, o3⟩ := okKs_at HKK.out he
            have hmem := List.mem_of_getElem? he
            have hkt := kidsT_take he space
            have hBx := hBr.alloc hBr.size (.cells (ndCells x.kind x.name A1 x.attrs.length ca1 K1 x.kids.length ck1 x.text).toArray 37)
            have hPx := HPr.out.alloc (.cells (ndCells x.kind x.name A1 x.attrs.length ca1 K1 x.kids.length ck1 x.text).toArray 37)
            have HKx := Lib.hid (HKr.out.trans (PgK.alloc (base := base) (b := b) wr (.cells (ndCells x.kind x.name A1 x.attrs.length ca1 K1 x.kids.length ck1 x.text).toArray 37)))
            have hkd2 : x.kind = 1 ∨ x.kind = 2 := by
              obtain ⟨k0, _, _, _, _⟩ := x
              unfold okN at o2
              rcases o2 with ⟨h, _⟩ | ⟨h, _⟩
              · exact .inl h
              · exact .inr h
            have hszx := HSZ.out x hmem
            have hskx := HSK.out x hmem
            rcases hkd2 with hk1 | hk2
            · have hI := IH.out x hmem (d + 1) A1 K1 ca1 ck1 space (t ++ ([60] ++ tagT (sp, lo)) ++ nsT (sp, lo) space ++ attrsT al ++ [62] ++ kidsT (ks.take i) space) _ o2 hk1 hszx hskx ⟨hA1, hK1⟩ hBx hPx
              rw [List.append_assoc _ (kidsT (ks.take i) space), ← hkt] at hI
              unfold ndV ndCells at hI
              unfold ndCells at HKx
              rw [hk1] at hI d0' HKx
              clear d0 d1 d2 d3 d4 d5 cell o1 o2 o3 hmem hkt hBx hPx hszx hskx hBr had hA1 hK1 he
              go_wp2_with fail
              refine hI.mono ?_
              rintro e wf ⟨rfl, hpf, hkf⟩
              have HPf := Lib.hid hpf
              have HKf := Lib.hid (HKx.out.trans hkf)
              clear hI hpf hkf d0' d1' d2' d3' d4' d5'
              go_wp2
              go_roundw
              case rel => exact ⟨i + 1, by omega, by go_num, HPf, HKf⟩
              case measure => simp [intOf]; omega
            · have hnt : nodeT x space = escL false x.text.data.toList := by rw [nodeT_is, if_pos hk2]
              rw [hnt] at hkt
              have htz : x.text.size ≤ 1000000000 := by
                obtain ⟨_, _, _, _, _⟩ := x
                exact hszx.2.2.2.1
              have hesc := pescape_any x.text false hPx hm2 htz (.inl hm)
              rw [List.append_assoc _ (kidsT (ks.take i) space), ← hkt] at hesc
              unfold ndCells at hesc HKx
              rw [hk2] at hesc d0' HKx
              clear d0 d1 d2 d3 d4 d5 cell o1 o2 o3 hmem hkt hBx hPx hszx hskx hBr had hA1 hK1 he hnt htz
              go_wp2_with fail
              refine hesc.mono ?_
              rintro e wf ⟨rfl, hpf, hkf⟩
              have HPf := Lib.hid hpf
              have HKf := Lib.hid (HKx.out.trans hkf)
              clear hesc hpf hkf d0' d1' d2' d3' d4' d5'
              go_wp2
              go_roundw
              case rel => exact ⟨i + 1, by omega, by go_num, HPf, HKf⟩
              case measure => simp [intOf]; omega
          · have : i = ks.length := by omega
            subst this
            rw [List.take_length] at HPr
            have hput := put_lit [⟨#[60, 47]⟩, tagB, ⟨#[62]⟩] 3 rfl HPr.out hm (by simp)
            rw [flat3] at hput
            unfold cells1 at hput
            simp only [List.map_cons, List.map_nil] at hput
            go_wp2_with fail
            refine hput.mono ?_
            rintro e wf ⟨rfl, hpf, hkf⟩
            have HPf := Lib.hid hpf
            have HKf := Lib.hid (HK0.out.trans (HKr.out.trans hkf))
            clear hput hpf hkf
            go_wp2
            go_end0
            refine ⟨rfl, ?_, HKf.out⟩
            have := HPf.out
            rw [← Htg.out] at this
            rw [← HEN.out, hke0, How.out]
            (try rw [hlt])
            simpa using this
    · have hb2 : (sp.toList == [104, 116, 116, 112, 58, 47, 47, 119, 119, 119, 46, 119, 51, 46, 111, 114, 103, 47, 88, 77, 76, 47, 49, 57, 57, 56, 47, 110, 97, 109, 101, 115, 112, 97, 99, 101]) = false := by
        have h3 : eqT sp sXML = false := by rw [eqT_dec]; exact decide_eq_false hx
        unfold eqT at h3
        rw [HX.out] at h3
        exact h3
      have hTG : tagT (sp, lo) = lo.data.toList := by unfold tagT; rw [if_neg hx]
      have hOW : ownT (sp, lo) space = sp := by unfold ownT; rw [if_neg hx]
      have Htg := Lib.hid hTG
      have How := Lib.hid hOW
      by_cases hns : sp = space
      · have hsp2 : (sp.toList == space.toList) = true := by rw [hns]; exact beq_self_eq_true _
        have hNS : nsT (sp, lo) space = [] := by unfold nsT; rw [hOW, if_pos hns]
        have Hns := Lib.hid hNS
        clear hx hTG hOW hNS HX hns
        go_upto_region 4 with fail
        generalize hlt : lo = tagB at *
        have hput := put_lit [⟨#[60]⟩, tagB] 2 rfl HPd.out hm (by simp)
        rw [flat2] at hput
        unfold cells1 at hput
        simp only [List.map_cons, List.map_nil] at hput
        go_wp2_with fail
        refine hput.mono ?_
        rintro e wc ⟨rfl, hpc, hkc⟩
        rw [← Htg.out] at hpc
        have HPc := Lib.hid hpc
        have HKc := Lib.hid (HKd.out.trans hkc)
        clear hput hpc hkc HPd HKd
        have HPc2 := Lib.hid (show PgT base b (t ++ ([60] ++ tagT (sp, tagB)) ++ nsT (sp, tagB) space) most wc from by rw [Hns.out, List.append_nil]; exact HPc.out)
        clear HPc
        have HPc := HPc2
        clear HPc2
        have hBc : Below W0.heap.size W0 wc := HB0.out.trans ((HKc.out.below hbwa).mono h0)
        obtain ⟨c3, c4⟩ := HT.out _ HKc.out
        have ha := HA.out wc _ hBc HPc.out
        clear c4 HPc hBc
        go_wp2_with fail
        refine ha.mono ?_
        rintro e wd ⟨rfl, hpd, hkd⟩
        have HPd := Lib.hid hpd
        have HKd := Lib.hid (HKc.out.trans hkd)
        clear ha hpd hkd c3 HKc
        obtain ⟨c3, c4⟩ := HT.out _ HKd.out
        by_cases hks : ks = []
        · subst hks
          have hput := put_lit [⟨#[47, 62]⟩] 1 rfl HPd.out hm (by simp)
          rw [flat1] at hput
          unfold cells1 at hput
          simp only [List.map_cons, List.map_nil] at hput
          simp only [List.length_nil] at c4
          go_wp2_with fail
          refine hput.mono ?_
          rintro e we ⟨rfl, hpe, hke⟩
          have HPe := Lib.hid hpe
          have HKe := Lib.hid (HK0.out.trans (HKd.out.trans hke))
          clear hput hpe hke HPd HKd c3 c4
          go_wp2
          (try simp only [Exit.inBlock, Exit.then])
          refine bodyPost_ret (results_none rfl _ _ _) rfl ?_
          refine ⟨rfl, ?_, HKe.out⟩
          have := HPe.out
          rw [← HEN.out]
          (try rw [hlt])
          simpa using this
        · have hke0 : ks.isEmpty = false := by cases ks with | nil => exact absurd rfl hks | cons _ _ => rfl
          have hkl0 : 0 < ks.length := List.length_pos_iff.2 hks
          have hput := put_lit [⟨#[62]⟩] 1 rfl HPd.out hm (by simp)
          rw [flat1] at hput
          unfold cells1 at hput
          simp only [List.map_cons, List.map_nil] at hput
          clear hks
          go_wp2_with fail
          refine hput.mono ?_
          rintro e we ⟨rfl, hpe, hke⟩
          have HPe := Lib.hid hpe
          have HKe := Lib.hid (HKd.out.trans hke)
          clear hput hpe hke HPd HKd c3 c4
          obtain ⟨c3, c4⟩ := HT.out _ HKe.out
          clear c3
          go_wp2
          go_loopw [48] (fun vi wr => ∃ i : Nat, i ≤ ks.length ∧ vi = .int .i64 i ∧ Hid (PgT base b (t ++ ([60] ++ tagT (sp, tagB)) ++ nsT (sp, tagB) space ++ attrsT al ++ [62] ++ kidsT (ks.take i) sp) most wr) ∧ Hid (PgK base b wa wr)) (fun vi _ => ((ks.length : Int) - intOf vi).toNat)
          case atStart => exact ⟨0, by omega, rfl, Lib.hid (by simpa [kidsT] using HPe.out), HKe⟩
          case round =>
            obtain ⟨i, hi, rfl, HPr, HKr⟩ := hrel
            by_cases h1 : i < ks.length
            · obtain ⟨x, he⟩ : ∃ x, ks[i]? = some x := ⟨ks[i], List.getElem?_eq_getElem h1⟩
              obtain ⟨ad, A1, ca1, K1, ck1, rfl, had, d0, d1, d2, d3, d4, d5, hA1, hK1⟩ := HVK.out.at_ he
              have hBr : Below W0.heap.size W0 wr := HB0.out.trans ((HKr.out.below hbwa).mono h0)
              have cell : ∀ j o, W0.cell? ⟨(ad.add (i * 6)).block, o, none⟩ = j → wr.cell? ⟨(ad.add (i * 6)).block, o, none⟩ = j := fun j o h => (hBr.cell (by rw [add_block]; exact had)).trans h
              have d0' : wr.cell? (ad.add (i * 6)) = _ := (hBr.cell (by rw [add_block]; exact had)).trans d0
              have d1' := cell _ _ d1
              have d2' := cell _ _ d2
              have d3' := cell _ _ d3
              have d4' := cell _ _ d4
              have d5' := cell _ _ d5
              obtain ⟨o1, o2, o3⟩ := okKs_at HKK.out he
              have hmem := List.mem_of_getElem? he
              have hkt := kidsT_take he sp
              have hBx := hBr.alloc hBr.size (.cells (ndCells x.kind x.name A1 x.attrs.length ca1 K1 x.kids.length ck1 x.text).toArray 37)
              have hPx := HPr.out.alloc (.cells (ndCells x.kind x.name A1 x.attrs.length ca1 K1 x.kids.length ck1 x.text).toArray 37)
              have HKx := Lib.hid (HKr.out.trans (PgK.alloc (base := base) (b := b) wr (.cells (ndCells x.kind x.name A1 x.attrs.length ca1 K1 x.kids.length ck1 x.text).toArray 37)))
              have hkd2 : x.kind = 1 ∨ x.kind = 2 := by
                obtain ⟨k0, _, _, _, _⟩ := x
                unfold okN at o2
                rcases o2 with ⟨h, _⟩ | ⟨h, _⟩
                · exact .inl h
                · exact .inr h
              have hszx := HSZ.out x hmem
              have hskx := HSK.out x hmem
              rcases hkd2 with hk1 | hk2
              · have hI := IH.out x hmem (d + 1) A1 K1 ca1 ck1 sp (t ++ ([60] ++ tagT (sp, tagB)) ++ nsT (sp, tagB) space ++ attrsT al ++ [62] ++ kidsT (ks.take i) sp) _ o2 hk1 hszx hskx ⟨hA1, hK1⟩ hBx hPx
                rw [List.append_assoc _ (kidsT (ks.take i) sp), ← hkt] at hI
                unfold ndV ndCells at hI
                unfold ndCells at HKx
                rw [hk1] at hI d0' HKx
                clear d0 d1 d2 d3 d4 d5 cell o1 o2 o3 hmem hkt hBx hPx hszx hskx hBr had hA1 hK1 he
                go_wp2_with fail
                refine hI.mono ?_
                rintro e wf ⟨rfl, hpf, hkf⟩
                have HPf := Lib.hid hpf
                have HKf := Lib.hid (HKx.out.trans hkf)
                clear hI hpf hkf d0' d1' d2' d3' d4' d5'
                go_wp2
                go_roundw
                case rel => exact ⟨i + 1, by omega, by go_num, HPf, HKf⟩
                case measure => simp [intOf]; omega
              · have hnt : nodeT x sp = escL false x.text.data.toList := by rw [nodeT_is, if_pos hk2]
                rw [hnt] at hkt
                have htz : x.text.size ≤ 1000000000 := by
                  obtain ⟨_, _, _, _, _⟩ := x
                  exact hszx.2.2.2.1
                have hesc := pescape_any x.text false hPx hm2 htz (.inl hm)
                rw [List.append_assoc _ (kidsT (ks.take i) sp), ← hkt] at hesc
                unfold ndCells at hesc HKx
                rw [hk2] at hesc d0' HKx
                clear d0 d1 d2 d3 d4 d5 cell o1 o2 o3 hmem hkt hBx hPx hszx hskx hBr had hA1 hK1 he hnt htz
                go_wp2_with fail
                refine hesc.mono ?_
                rintro e wf ⟨rfl, hpf, hkf⟩
                have HPf := Lib.hid hpf
                have HKf := Lib.hid (HKx.out.trans hkf)
                clear hesc hpf hkf d0' d1' d2' d3' d4' d5'
                go_wp2
                go_roundw
                case rel => exact ⟨i + 1, by omega, by go_num, HPf, HKf⟩
                case measure => simp [intOf]; omega
            · have : i = ks.length := by omega
              subst this
              rw [List.take_length] at HPr
              have hput := put_lit [⟨#[60, 47]⟩, tagB, ⟨#[62]⟩] 3 rfl HPr.out hm (by simp)
              rw [flat3] at hput
              unfold cells1 at hput
              simp only [List.map_cons, List.map_nil] at hput
              go_wp2_with fail
              refine hput.mono ?_
              rintro e wf ⟨rfl, hpf, hkf⟩
              have HPf := Lib.hid hpf
              have HKf := Lib.hid (HK0.out.trans (HKr.out.trans hkf))
              clear hput hpf hkf
              go_wp2
              go_end0
              refine ⟨rfl, ?_, HKf.out⟩
              have := HPf.out
              rw [← Htg.out] at this
              rw [← HEN.out, hke0, How.out]
              (try rw [hlt])
              simpa using this
      · have hsp2 : (sp.toList == space.toList) = false := by
          have h3 : eqT sp space = false := by rw [eqT_dec]; exact decide_eq_false hns
          exact h3
        have hNS : nsT (sp, lo) space = attrT sXmlnsL sp.data.toList := by unfold nsT; rw [hOW, if_neg hns]
        have Hns := Lib.hid hNS
        clear hx hTG hOW hNS HX hns
        go_upto_region 4 with fail
        generalize hlt : lo = tagB at *
        have hput := put_lit [⟨#[60]⟩, tagB] 2 rfl HPd.out hm (by simp)
        rw [flat2] at hput
        unfold cells1 at hput
        simp only [List.map_cons, List.map_nil] at hput
        go_wp2_with fail
        refine hput.mono ?_
        rintro e wc ⟨rfl, hpc, hkc⟩
        rw [← Htg.out] at hpc
        have HPc := Lib.hid hpc
        have HKc := Lib.hid (HKd.out.trans hkc)
        clear hput hpc hkc HPd HKd
        have hatt := pattr_any ⟨#[120, 109, 108, 110, 115]⟩ sp HPc.out hm2 hzsp (.inl hm)
        go_wp2_with fail
        refine hatt.mono ?_
        rintro e wc2 ⟨rfl, hpc, hkc⟩
        have HPc2 := Lib.hid (show PgT base b (t ++ ([60] ++ tagT (sp, tagB)) ++ nsT (sp, tagB) space) most wc2 from by rw [Hns.out]; exact hpc)
        have HKc2 := Lib.hid (HKc.out.trans hkc)
        clear HPc HKc hatt hpc hkc
        have HPc := HPc2
        have HKc := HKc2
        clear HPc2 HKc2
        generalize wc2 = wc at *
        have hBc : Below W0.heap.size W0 wc := HB0.out.trans ((HKc.out.below hbwa).mono h0)
        obtain ⟨c3, c4⟩ := HT.out _ HKc.out
        have ha := HA.out wc _ hBc HPc.out
        clear c4 HPc hBc
        go_wp2_with fail
        refine ha.mono ?_
        rintro e wd ⟨rfl, hpd, hkd⟩
        have HPd := Lib.hid hpd
        have HKd := Lib.hid (HKc.out.trans hkd)
        clear ha hpd hkd c3 HKc
        obtain ⟨c3, c4⟩ := HT.out _ HKd.out
        by_cases hks : ks = []
        · subst hks
          have hput := put_lit [⟨#[47, 62]⟩] 1 rfl HPd.out hm (by simp)
          rw [flat1] at hput
          unfold cells1 at hput
          simp only [List.map_cons, List.map_nil] at hput
          simp only [List.length_nil] at c4
          go_wp2_with fail
          refine hput.mono ?_
          rintro e we ⟨rfl, hpe, hke⟩
          have HPe := Lib.hid hpe
          have HKe := Lib.hid (HK0.out.trans (HKd.out.trans hke))
          clear hput hpe hke HPd HKd c3 c4
          go_wp2
          (try simp only [Exit.inBlock, Exit.then])
          refine bodyPost_ret (results_none rfl _ _ _) rfl ?_
          refine ⟨rfl, ?_, HKe.out⟩
          have := HPe.out
          rw [← HEN.out]
          (try rw [hlt])
          simpa using this
        · have hke0 : ks.isEmpty = false := by cases ks with | nil => exact absurd rfl hks | cons _ _ => rfl
          have hkl0 : 0 < ks.length := List.length_pos_iff.2 hks
          have hput := put_lit [⟨#[62]⟩] 1 rfl HPd.out hm (by simp)
          rw [flat1] at hput
          unfold cells1 at hput
          simp only [List.map_cons, List.map_nil] at hput
          clear hks
          go_wp2_with fail
          refine hput.mono ?_
          rintro e we ⟨rfl, hpe, hke⟩
          have HPe := Lib.hid hpe
          have HKe := Lib.hid (HKd.out.trans hke)
          clear hput hpe hke HPd HKd c3 c4
          obtain ⟨c3, c4⟩ := HT.out _ HKe.out
          clear c3
          go_wp2
          go_loopw [48] (fun vi wr => ∃ i : Nat, i ≤ ks.length ∧ vi = .int .i64 i ∧ Hid (PgT base b (t ++ ([60] ++ tagT (sp, tagB)) ++ nsT (sp, tagB) space ++ attrsT al ++ [62] ++ kidsT (ks.take i) sp) most wr) ∧ Hid (PgK base b wa wr)) (fun vi _ => ((ks.length : Int) - intOf vi).toNat)
          case atStart => exact ⟨0, by omega, rfl, Lib.hid (by simpa [kidsT] using HPe.out), HKe⟩
          case round =>
            obtain ⟨i, hi, rfl, HPr, HKr⟩ := hrel
            by_cases h1 : i < ks.length
            · obtain ⟨x, he⟩ : ∃ x, ks[i]? = some x := ⟨ks[i], List.getElem?_eq_getElem h1⟩
              obtain ⟨ad, A1, ca1, K1, ck1, rfl, had, d0, d1, d2, d3, d4, d5, hA1, hK1⟩ := HVK.out.at_ he
              have hBr : Below W0.heap.size W0 wr := HB0.out.trans ((HKr.out.below hbwa).mono h0)
              have cell : ∀ j o, W0.cell? ⟨(ad.add (i * 6)).block, o, none⟩ = j → wr.cell? ⟨(ad.add (i * 6)).block, o, none⟩ = j := fun j o h => (hBr.cell (by rw [add_block]; exact had)).trans h
              have d0' : wr.cell? (ad.add (i * 6)) = _ := (hBr.cell (by rw [add_block]; exact had)).trans d0
              have d1' := cell _ _ d1
              have d2' := cell _ _ d2
              have d3' := cell _ _ d3
              have d4' := cell _ _ d4
              have d5' := cell _ _ d5
              obtain ⟨o1, o2, o3⟩ := okKs_at HKK.out he
              have hmem := List.mem_of_getElem? he
              have hkt := kidsT_take he sp
              have hBx := hBr.alloc hBr.size (.cells (ndCells x.kind x.name A1 x.attrs.length ca1 K1 x.kids.length ck1 x.text).toArray 37)
              have hPx := HPr.out.alloc (.cells (ndCells x.kind x.name A1 x.attrs.length ca1 K1 x.kids.length ck1 x.text).toArray 37)
              have HKx := Lib.hid (HKr.out.trans (PgK.alloc (base := base) (b := b) wr (.cells (ndCells x.kind x.name A1 x.attrs.length ca1 K1 x.kids.length ck1 x.text).toArray 37)))
              have hkd2 : x.kind = 1 ∨ x.kind = 2 := by
                obtain ⟨k0, _, _, _, _⟩ := x
                unfold okN at o2
                rcases o2 with ⟨h, _⟩ | ⟨h, _⟩
                · exact .inl h
                · exact .inr h
              have hszx := HSZ.out x hmem
              have hskx := HSK.out x hmem
              rcases hkd2 with hk1 | hk2
              · have hI := IH.out x hmem (d + 1) A1 K1 ca1 ck1 sp (t ++ ([60] ++ tagT (sp, tagB)) ++ nsT (sp, tagB) space ++ attrsT al ++ [62] ++ kidsT (ks.take i) sp) _ o2 hk1 hszx hskx ⟨hA1, hK1⟩ hBx hPx
                rw [List.append_assoc _ (kidsT (ks.take i) sp), ← hkt] at hI
                unfold ndV ndCells at hI
                unfold ndCells at HKx
                rw [hk1] at hI d0' HKx
                clear d0 d1 d2 d3 d4 d5 cell o1 o2 o3 hmem hkt hBx hPx hszx hskx hBr had hA1 hK1 he
                go_wp2_with fail
                refine hI.mono ?_
                rintro e wf ⟨rfl, hpf, hkf⟩
                have HPf := Lib.hid hpf
                have HKf := Lib.hid (HKx.out.trans hkf)
                clear hI hpf hkf d0' d1' d2' d3' d4' d5'
                go_wp2
                go_roundw
                case rel => exact ⟨i + 1, by omega, by go_num, HPf, HKf⟩
                case measure => simp [intOf]; omega
              · have hnt : nodeT x sp = escL false x.text.data.toList := by rw [nodeT_is, if_pos hk2]
                rw [hnt] at hkt
                have htz : x.text.size ≤ 1000000000 := by
                  obtain ⟨_, _, _, _, _⟩ := x
                  exact hszx.2.2.2.1
                have hesc := pescape_any x.text false hPx hm2 htz (.inl hm)
                rw [List.append_assoc _ (kidsT (ks.take i) sp), ← hkt] at hesc
                unfold ndCells at hesc HKx
                rw [hk2] at hesc d0' HKx
                clear d0 d1 d2 d3 d4 d5 cell o1 o2 o3 hmem hkt hBx hPx hszx hskx hBr had hA1 hK1 he hnt htz
                go_wp2_with fail
                refine hesc.mono ?_
                rintro e wf ⟨rfl, hpf, hkf⟩
                have HPf := Lib.hid hpf
                have HKf := Lib.hid (HKx.out.trans hkf)
                clear hesc hpf hkf d0' d1' d2' d3' d4' d5'
                go_wp2
                go_roundw
                case rel => exact ⟨i + 1, by omega, by go_num, HPf, HKf⟩
                case measure => simp [intOf]; omega
            · have : i = ks.length := by omega
              subst this
              rw [List.take_length] at HPr
              have hput := put_lit [⟨#[60, 47]⟩, tagB, ⟨#[62]⟩] 3 rfl HPr.out hm (by simp)
              rw [flat3] at hput
              unfold cells1 at hput
              simp only [List.map_cons, List.map_nil] at hput
              go_wp2_with fail
              refine hput.mono ?_
              rintro e wf ⟨rfl, hpf, hkf⟩
              have HPf := Lib.hid hpf
              have HKf := Lib.hid (HK0.out.trans (HKr.out.trans hkf))
              clear hput hpf hkf
              go_wp2
              go_end0
              refine ⟨rfl, ?_, HKf.out⟩
              have := HPf.out
              rw [← Htg.out] at this
              rw [← HEN.out, hke0, How.out]
              (try rw [hlt])
              simpa using this
end Go.Proofs.YtlcjepnaljfpkaaGreatDoor
