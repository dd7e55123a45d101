/- LeN. -/
import Derived.Test.YtlcjepnaljfpkaaGreatDoorQl14
namespace Go.Proofs.YtlcjepnaljfpkaaGreatDoor
open Go.RowKit Wb
theorem lenL (s : ByteArray) : s.data.toList.length = s.size := (Lib.size_eq s).symm
theorem DocW.set2' {w : World} {D : Nat} {s : ByteArray} {fr at_ : Nat} (h : DocW w D s fr at_) {a : Nat} {v : Int} (hv : v = (a : Int)) : DocW (w.setCell ⟨D, 2, none⟩ (.int .i64 v)) D s fr a := by
  subst hv; exact h.set2 a
theorem next_k (D : Nat) (s : ByteArray) (fr at_ : Nat) (w : World) (h : DocW w D s fr at_) (hat : at_ ≤ s.size) :
    Calls Tryz.prog 112 #[.pointer (some ⟨D, 0, none⟩)] w fun e w' => NextOut s.data.toList fr at_ e ∧ DocW w' D s fr at_ ∧ Keeps D w w' := by
  refine (next_any D s fr at_ w h hat).mono ?_
  rintro e w' ⟨he, m, rfl⟩
  exact ⟨he, h.drewN m, Keeps.drewN D w m⟩
theorem word_k (D : Nat) (s : ByteArray) (fr at_ : Nat) (w : World) (h : DocW w D s fr at_) (hat : at_ ≤ s.size) (hs : s.size ≤ 1000000) :
    Calls Tryz.prog 139 #[.pointer (some ⟨D, 0, none⟩)] w fun e w' => e = .returned (.string ⟨(wordX s.data.toList at_).toArray⟩) ∧ DocW w' D s fr at_ ∧ Keeps D w w' := by
  refine (word_any D s fr at_ w h hat hs).mono ?_
  rintro e w' ⟨he, m, rfl⟩
  exact ⟨he, h.drewN m, Keeps.drewN D w m⟩
theorem rest_k (D : Nat) (s : ByteArray) (fr at_ : Nat) (w : World) (h : DocW w D s fr at_) (hat : at_ ≤ s.size) :
    Calls Tryz.prog 67 #[.pointer (some ⟨D, 0, none⟩)] w fun e w' => e = .returned (.string (s.extract at_ s.size)) ∧ DocW w' D s fr at_ ∧ Keeps D w w' := by
  refine (rest_any D s fr at_ w h hat).mono ?_
  rintro e w' ⟨he, rfl⟩
  exact ⟨he, h.drew, (Keeps.refl D w).drew⟩
theorem wordX_le (s : ByteArray) (at_ : Nat) (hat : at_ ≤ s.size) : at_ + (wordX s.data.toList at_).length ≤ s.size := by
  unfold wordX
  split
  · have := tw_le wordB (s.data.toList.drop at_)
    rw [List.length_drop, lenL] at this
    omega
  · simpa using hat
theorem next_nil {L : List UInt8} {fr at_ : Nat} (hl : L.drop at_ = []) {e : Ending} (he : NextOut L fr at_ e) : e = .panicked [flt fr 2] := by unfold NextOut at he; rw [hl] at he; exact he
theorem next_cons {L : List UInt8} {fr at_ : Nat} {d : UInt8} {r : List UInt8} (hl : L.drop at_ = d :: r) {e : Ending} (he : NextOut L fr at_ e) : e = .returned (.int .u8 (d.toNat : Int)) := by unfold NextOut at he; rw [hl] at he; exact he
theorem named_any (D : Nat) (s p : ByteArray) (fr at_ : Nat) (w : World) (h : DocW w D s fr at_) (hat : at_ + p.size ≤ s.size) (hs : s.size ≤ 1000000) :
    Calls Tryz.prog 109 #[.pointer (some ⟨D, 0, none⟩), .string p] w fun e w' => StrOut D s fr (namedX s.data.toList fr (at_ + p.size)) w e w' := by
  have HK := Lib.hid ((Keeps.refl D w).setCell 2 (.int .i64 ((at_ : Int) + (p.size : Int))))
  have hnx := next_k D s fr (at_ + p.size) _ (h.set2' (v := (at_ : Int) + (p.size : Int)) (by omega)) hat
  have c2 := h.c2
  have f2 := h.f 2
  have hwd := Lib.hid fun w2 (hw : DocW w2 D s fr (at_ + p.size)) => word_k D s fr (at_ + p.size) w2 hw hat hs
  have hx1 := wordX_le s (at_ + p.size) hat
  have HNN := Lib.hid fun (hl : s.data.toList.drop (at_ + p.size) = []) e (he : NextOut s.data.toList fr (at_ + p.size) e) => next_nil hl he
  have HNC := Lib.hid fun d r (hl : s.data.toList.drop (at_ + p.size) = d :: r) e (he : NextOut s.data.toList fr (at_ + p.size) e) => next_cons hl he
  obtain ⟨r, hr⟩ : ∃ r, namedX s.data.toList fr (at_ + p.size) = r := ⟨_, rfl⟩
  rw [hr]
  unfold namedX at hr
  clear h
  generalize NextOut s.data.toList fr (at_ + p.size) = NO at *
  generalize wordX s.data.toList (at_ + p.size) = x at *
  cases hl : s.data.toList.drop (at_ + p.size) with
  | nil =>
    rw [hl] at hr
    subst hr
    have HNN' := Lib.hid fun e he => HNN.out hl e he
    clear hl HNN HNC
    go_enter Tryz.func109, Tryz.ntmps109
    go_wp2_with fail
    refine hnx.mono ?_
    rintro e w1 ⟨he, hd1, hk1⟩
    obtain rfl := HNN'.out e he
    exact ⟨rfl, HK.out.trans hk1, rfl⟩
  | cons d q =>
    rw [hl] at hr
    simp only at hr
    have HNC' := Lib.hid fun e he => HNC.out _ _ hl e he
    clear hl HNN HNC
    by_cases hx0 : x = []
    · rw [if_pos hx0] at hr
      subst hx0 hr
      have z0 : (⟨([] : List UInt8).toArray⟩ : ByteArray).toList = [] := by rw [ByteArray.toList_eq]
      have z1 : (⟨([] : List UInt8).toArray⟩ : ByteArray).toList.isEmpty = true := by rw [ByteArray.toList_eq]; rfl
      go_enter Tryz.func109, Tryz.ntmps109
      go_wp2_with fail
      refine hnx.mono ?_
      rintro e w1 ⟨he, hd1, hk1⟩
      obtain rfl := HNC'.out e he
      replace HK := Lib.hid (HK.out.trans hk1)
      clear he hk1 c2 f2
      go_wp2_with fail
      refine (hwd.out _ hd1).mono ?_
      rintro e w2 ⟨rfl, hd2, hk2⟩
      replace HK := Lib.hid (HK.out.trans hk2)
      have c2 := hd2.c2
      clear hd1 hk2 hd2
      go_wp2_with fail
      refine (fail_any _ 12 _).mono ?_
      rintro e w3 ⟨rfl, rfl⟩
      exact ⟨rfl, HK.out, rfl⟩
    · rw [if_neg hx0] at hr
      subst hr
      have z0 : ¬ (⟨x.toArray⟩ : ByteArray).toList = [] := by rw [ByteArray.toList_eq]; exact hx0
      have z1 : (⟨x.toArray⟩ : ByteArray).toList.isEmpty = false := by rw [ByteArray.toList_eq]; simpa using hx0
      have hz : (⟨x.toArray⟩ : ByteArray).size = x.length := by rw [Lib.size_eq]
      obtain ⟨z, hze⟩ : ∃ z : ByteArray, (⟨x.toArray⟩ : ByteArray) = z := ⟨_, rfl⟩
      rw [hze] at z0 z1 hz hwd
      have HZ := Lib.hid hze
      have HX := Lib.hid hz
      clear hze hx0 hz
      go_enter Tryz.func109, Tryz.ntmps109
      go_wp2_with fail
      refine hnx.mono ?_
      rintro e w1 ⟨he, hd1, hk1⟩
      obtain rfl := HNC'.out e he
      replace HK := Lib.hid (HK.out.trans hk1)
      clear he hk1 c2 f2
      go_wp2_with fail
      refine (hwd.out _ hd1).mono ?_
      rintro e w2 ⟨rfl, hd2, hk2⟩
      replace HK := Lib.hid (HK.out.trans hk2)
      have c2 := hd2.c2
      have f2 := hd2.f 2
      have HD := Lib.hid hd2
      clear hd1 hk2 hd2
      have b1 : (z.size : Int) ≤ 1000000 := by have := HX.out; omega
      go_wp2
      go_ret
      exact ⟨HK.out.setCell 2 _, by rw [HZ.out]; rfl, HD.out.set2' (by have := HX.out; omega)⟩
theorem idx60 (v : List UInt8) : (Lib.indexByte v 60 = -1 ∧ v.findIdx? (· == 60) = none) ∨ ∃ k : Nat, Lib.indexByte v 60 = k ∧ v.findIdx? (· == 60) = some k ∧ k < v.length := by
  induction v with
  | nil => exact .inl ⟨rfl, rfl⟩
  | cons c v ih =>
    by_cases hc : c = 60
    · subst hc
      right
      exact ⟨0, rfl, rfl, by simp⟩
    · have hb : (c == 60) = false := by simpa using hc
      have e1 : Lib.indexByte (c :: v) 60 = if Lib.indexByte v 60 == -1 then -1 else Lib.indexByte v 60 + 1 := by
        conv => lhs; unfold Lib.indexByte
        rw [if_neg (by simpa using hc)]
      rw [List.findIdx?_cons, hb]
      rcases ih with ⟨h1, h2⟩ | ⟨k, h1, h2, h3⟩
      · left
        exact ⟨by rw [e1, h1]; rfl, by rw [h2]; rfl⟩
      · right
        exact ⟨k + 1, by rw [e1, h1, if_neg (by simp)]; rfl, by rw [h2]; rfl, by simpa using h3⟩
theorem dvalue_any (D : Nat) (s : ByteArray) (fr at_ : Nat) (w : World) (h : DocW w D s fr at_) (hG : Gv w) (hD : 11 ≤ D) (hat : at_ ≤ s.size) (hs : s.size ≤ 1000000) :
    Calls Tryz.prog 140 #[.pointer (some ⟨D, 0, none⟩)] w fun e w' => StrOut D s fr (valueX s.data.toList fr at_) w e w' := by
  have HK := Lib.hid (Keeps.refl D w)
  have hnx := next_k D s fr at_ w h hat
  have HNN := Lib.hid fun (hl : s.data.toList.drop at_ = []) e (he : NextOut s.data.toList fr at_ e) => next_nil hl he
  have HNC := Lib.hid fun d r (hl : s.data.toList.drop at_ = d :: r) e (he : NextOut s.data.toList fr at_ e) => next_cons hl he
  have hup := Lib.hid fun (p : ByteArray) w2 (hw : DocW w2 D s fr (at_ + 1)) (hg : Gv w2) => upTo_any D s p fr (at_ + 1) w2 hw hg
  obtain ⟨r, hr⟩ : ∃ r, valueX s.data.toList fr at_ = r := ⟨_, rfl⟩
  rw [hr]
  unfold valueX at hr
  generalize NextOut s.data.toList fr at_ = NO at *
  clear h
  cases hl : s.data.toList.drop at_ with
  | nil =>
    rw [hl] at hr
    subst hr
    have HNN' := Lib.hid fun e he => HNN.out hl e he
    clear hl HNN HNC
    go_enter Tryz.func140, Tryz.ntmps140
    go_wp2_with fail
    refine hnx.mono ?_
    rintro e w1 ⟨he, hd1, hk1⟩
    obtain rfl := HNN'.out e he
    exact ⟨rfl, HK.out.trans hk1, rfl⟩
  | cons q l =>
    have hlt := drop_cons_len hl
    rw [lenL] at hlt
    have hnxt := drop_cons_next hl
    rw [hl] at hr
    simp only at hr
    have HNC' := Lib.hid fun e he => HNC.out _ _ hl e he
    clear hl HNN HNC
    by_cases hq : q = 34 ∨ q = 39
    · rw [if_pos hq] at hr
      have hup1 := fun w2 hw hg => hup.out ⟨#[q]⟩ w2 hw hg (by omega) hs (by simp) (show 1 ≤ 1000 by omega)
      have eq1 : (⟨#[q]⟩ : ByteArray).data.toList = [q] := rfl
      rw [eq1] at hup1
      unfold upToX at hup1
      rw [hnxt] at hup1
      have hE1 : Utf8.encode 34 = ⟨#[34]⟩ := by kernel_rfl
      have hE2 : Utf8.encode 39 = ⟨#[39]⟩ := by kernel_rfl
      have hix : ∀ (s : ByteArray) w, Calls Tryz.prog 45 #[.string s, .int .u8 60] w fun e w' => e = .returned (.int .i64 (Lib.indexByte s.data.toList 60)) ∧ w = w' := fun s w =>
        (Tryz.strings_IndexByte s 60 w).mono (by rintro e w' ⟨rfl, rfl⟩; exact ⟨rfl, rfl⟩)
      cases hu : untilR [q] l with
      | none =>
        rw [hu] at hr hup1
        simp only at hr
        subst hr
        have HUP := Lib.hid hup1
        clear hup1 hu hnxt eq1 hup
        rcases hq with rfl | rfl
        all_goals
          go_enter Tryz.func140, Tryz.ntmps140
          go_wp2_with fail
          refine hnx.mono ?_
          rintro e w1 ⟨he, hd1, hk1⟩
          obtain rfl := HNC'.out e he
          have c2 := hd1.c2
          have f2 := hd1.f 2
          have HD := Lib.hid (hd1.set2' (a := at_ + 1) (v := (at_ : Int) + 1) rfl)
          replace HK := Lib.hid (hk1.setCell 2 (.int .i64 ((at_ : Int) + 1)))
          clear he hd1 hk1
          go_wp2_with fail
          refine (HUP.out _ HD.out (HK.out.gv hG hD)).mono ?_
          rintro e w2 ⟨hk2, he⟩
          obtain rfl := he
          exact ⟨rfl, HK.out.trans hk2, rfl⟩
      | some nv =>
        obtain ⟨n, v⟩ := nv
        have hnv := untilR_le hu
        have hnl : at_ + 1 + n ≤ s.size := by
          have : l.length = s.data.toList.length - (at_ + 1) := by rw [← hnxt, List.length_drop]
          rw [lenL] at this
          omega
        have hvl : v.length ≤ s.size := by have := hnv.2; omega
        rw [hu] at hr hup1
        simp only at hr
        have HUP := Lib.hid hup1
        have hxv := hix ⟨v.toArray⟩
        rw [toL] at hxv
        have hun := fun w2 hg => unescape_any ⟨v.toArray⟩ true (at_ + 1) w2 hg (by rw [Lib.size_eq, toL]; omega) (by omega)
        rw [Lib.size_eq, toL] at hun
        obtain ⟨z, hz⟩ : ∃ z : ByteArray, (⟨v.toArray⟩ : ByteArray) = z := ⟨_, rfl⟩
        have HZ := Lib.hid hz
        rw [hz] at hxv hun
        rcases idx60 v with ⟨h1, h2⟩ | ⟨k, h1, h2, h3⟩
        · rw [h1] at hxv
          rw [h2] at hr
          simp only at hr
          clear hup1 hu hnxt eq1 hup hnv hix hvl hz h1 h2
          rcases hq with rfl | rfl
          all_goals
            go_enter Tryz.func140, Tryz.ntmps140
            go_wp2_with fail
            refine hnx.mono ?_
            rintro e w1 ⟨he, hd1, hk1⟩
            obtain rfl := HNC'.out e he
            have c2 := hd1.c2
            have f2 := hd1.f 2
            have HD := Lib.hid (hd1.set2' (a := at_ + 1) (v := (at_ : Int) + 1) rfl)
            replace HK := Lib.hid (hk1.setCell 2 (.int .i64 ((at_ : Int) + 1)))
            clear he hd1 hk1
            go_wp2_with fail
            refine (HUP.out _ HD.out (HK.out.gv hG hD)).mono ?_
            rintro e w2 ⟨hk2, he, hd2⟩
            rw [HZ.out] at he
            obtain rfl := he
            replace HK := Lib.hid (HK.out.trans hk2)
            clear hk2
            go_wp2_with fail
            refine (hxv _).mono ?_
            rintro e w3 ⟨rfl, rfl⟩
            go_wp2_with fail
            refine (hun _ (HK.out.gv hG hD)).mono ?_
            rintro e w3 ⟨he, hb3⟩
            replace HK := Lib.hid (HK.out.next hb3)
            have hd3 := Lib.hid (hd2.below hb3)
            clear hb3 hd2
            cases hU : unL true (v.length + 1) v (at_ + 1) with
            | error p =>
              rw [hU] at he hr
              obtain rfl := he
              subst hr
              exact ⟨rfl, HK.out, rfl⟩
            | ok x =>
              rw [hU] at he hr
              obtain rfl := he
              subst hr
              clear hU
              go_wp2
              go_ret
              exact ⟨HK.out, rfl, hd3.out⟩
        · rw [h1] at hxv
          rw [h2] at hr
          simp only at hr
          subst hr
          have h0k : (0 : Int) ≤ (k : Int) := by omega
          clear hup1 hu hnxt eq1 hup hnv hix hz h1 h2 hun
          rcases hq with rfl | rfl
          all_goals
            go_enter Tryz.func140, Tryz.ntmps140
            go_wp2_with fail
            refine hnx.mono ?_
            rintro e w1 ⟨he, hd1, hk1⟩
            obtain rfl := HNC'.out e he
            have c2 := hd1.c2
            have f2 := hd1.f 2
            have HD := Lib.hid (hd1.set2' (a := at_ + 1) (v := (at_ : Int) + 1) rfl)
            replace HK := Lib.hid (hk1.setCell 2 (.int .i64 ((at_ : Int) + 1)))
            clear he hd1 hk1
            go_wp2_with fail
            refine (HUP.out _ HD.out (HK.out.gv hG hD)).mono ?_
            rintro e w2 ⟨hk2, he, hd2⟩
            rw [HZ.out] at he
            obtain rfl := he
            replace HK := Lib.hid (HK.out.trans hk2)
            clear hk2
            go_wp2_with fail
            refine (hxv _).mono ?_
            rintro e w3 ⟨rfl, rfl⟩
            go_wp2_with fail
            refine (fail_any _ 11 _).mono ?_
            rintro e w3 ⟨rfl, rfl⟩
            exact ⟨rfl, HK.out, rfl⟩
    · rw [if_neg hq] at hr
      subst hr
      have n1 : ¬ (q.toNat : Int) = 34 := fun e => hq (.inl (UInt8.toNat_inj.1 (by simpa using (by omega : q.toNat = 34))))
      have n2 : ¬ (q.toNat : Int) = 39 := fun e => hq (.inr (UInt8.toNat_inj.1 (by simpa using (by omega : q.toNat = 39))))
      have q1 : ((q.toNat : Int) != 34) = true := by simpa using n1
      have q2 : ((q.toNat : Int) != 39) = true := by simpa using n2
      clear hq n1 n2
      go_enter Tryz.func140, Tryz.ntmps140
      go_wp2_with fail
      refine hnx.mono ?_
      rintro e w1 ⟨he, hd1, hk1⟩
      obtain rfl := HNC'.out e he
      have c2 := hd1.c2
      clear he hd1
      go_wp2_with fail
      refine (fail_any _ 4 _).mono ?_
      rintro e w3 ⟨rfl, rfl⟩
      exact ⟨rfl, hk1, rfl⟩
end Go.Proofs.YtlcjepnaljfpkaaGreatDoor
