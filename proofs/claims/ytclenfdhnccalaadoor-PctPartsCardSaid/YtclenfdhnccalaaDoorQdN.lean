
/- Walk: PctParts. -/
import Derived.Test.YtclenfdhnccalaaDoorQdM
namespace Wb
theorem app_list (a b : ByteArray) : (a ++ b).data.toList = a.data.toList ++ b.data.toList := by
  rw [ByteArray.data_append, Array.toList_append]
theorem mk_app (a b : List UInt8) : (⟨a.toArray⟩ : ByteArray) ++ ⟨b.toArray⟩ = ⟨(a ++ b).toArray⟩ := by
  apply ByteArray.ext
  apply Array.toList_inj.1
  rw [app_list]
theorem of_list {a b : ByteArray} (h : a.data.toList = b.data.toList) : a = b := ByteArray.ext (Array.toList_inj.1 h)
theorem mk_size (l : List UInt8) : (⟨l.toArray⟩ : ByteArray).size = l.length := by
  show l.toArray.size = _
  rw [List.size_toArray]
theorem decM_app {s t a b c : ByteArray} {e f g : Int} (h1 : decP s.data.toList = (a.data.toList, e)) (h2 : decP t.data.toList = (b.data.toList, f)) (h3 : decP (s ++ t).data.toList = (c.data.toList, g))
    (he : e = 0) (hf : f = 0) : c = a ++ b ∧ g = 0 := by
  subst he
  subst hf
  have h := decP_append h1 h2
  rw [← app_list, h3, Prod.mk.injEq] at h
  exact ⟨of_list (by rw [h.1, app_list]), h.2⟩
end Wb
namespace Go.Proofs.YtclenfdhnccalaaDoor
open Go.RowKit Wb

set_option maxRecDepth 100000 in
set_option maxHeartbeats 8000000 in
theorem parts_walk (s t keep : ByteArray) (w : World) (hG : GvM w) :
    Calls Tryd.prog 6 #[.string s, .string t, .string keep] w fun e w' => e = .returned (.bool true) ∧ Below w.heap.size w w' := by
  have HG := Lib.hid hG
  clear hG
  go_enter Tryd.func6, Tryd.ntmps6
  go_wp2_with fail
  refine (awake9 w HG.out).mono ?_
  rintro e w1 ⟨rfl, hb1⟩
  by_cases h1 : s.size ≤ 5000
  · by_cases h2 : t.size ≤ 5000
    · by_cases h4 : keep.size ≤ 1000
      · obtain ⟨a, e1, x1, y1, z1⟩ := decM s
        obtain ⟨b, f1, x2, y2, z2⟩ := decM t
        obtain ⟨c, g1, x3, y3, z3⟩ := decM (s ++ t)
        have hst : (s ++ t).size = s.size + t.size := ByteArray.size_append
        have HAB := Lib.hid (decM_app y1 y2 y3)
        have D1 := fun v => decode_any s v (by omega)
        have D2 := fun v => decode_any t v (by omega)
        have D3 := fun v => decode_any (s ++ t) v (by omega)
        have E1 := fun v => encode_any (s ++ t) keep v (by omega) (by omega)
        have E2 := fun v => encode_any s keep v (by omega) (by omega)
        have E3 := fun v => encode_any t keep v (by omega) (by omega)
        rw [Prod.mk.injEq] at x1 x2 x3
        rw [x1.1, x1.2] at D1
        rw [x2.1, x2.2] at D2
        rw [x3.1, x3.2] at D3
        have hpe : (⟨(pctE keep.data.toList s.data.toList).toArray⟩ : ByteArray) ++ ⟨(pctE keep.data.toList t.data.toList).toArray⟩ = ⟨(pctE keep.data.toList (s ++ t).data.toList).toArray⟩ := by
          rw [mk_app, app_list, pctE_append]
        have p1 : (⟨(pctE keep.data.toList s.data.toList).toArray⟩ : ByteArray).size ≤ 15000 := by
          rw [mk_size]
          have := pctE_len keep.data.toList s.data.toList
          have : s.data.toList.length = s.size := by simp
          omega
        have p2 : (⟨(pctE keep.data.toList t.data.toList).toArray⟩ : ByteArray).size ≤ 15000 := by
          rw [mk_size]
          have := pctE_len keep.data.toList t.data.toList
          have : t.data.toList.length = t.size := by simp
          omega
        have gs : ¬ 9223372036854775807 < s.size + t.size := by omega
        have ga : ¬ 9223372036854775807 < a.size + b.size := by omega
        clear x1 x2 x3 y1 y2 y3
        generalize (⟨(pctE keep.data.toList (s ++ t).data.toList).toArray⟩ : ByteArray) = pst at *
        generalize (⟨(pctE keep.data.toList s.data.toList).toArray⟩ : ByteArray) = ps at *
        generalize (⟨(pctE keep.data.toList t.data.toList).toArray⟩ : ByteArray) = pt at *
        have gp : ¬ 9223372036854775807 < ps.size + pt.size := by omega
        obtain ⟨st, hs⟩ : ∃ st, s ++ t = st := ⟨_, rfl⟩
        rw [hs] at D3 E1
        clear hst z1 z2 z3 p1 p2
        have D2h := Lib.hid D2
        have D3h := Lib.hid D3
        have E1h := Lib.hid E1
        have E2h := Lib.hid E2
        have E3h := Lib.hid E3
        clear D2 D3 E1 E2 E3
        go_wp2_with fail
        refine (D1 _).mono ?_
        rintro e w2 ⟨rfl, hb2⟩
        have HB2 := Lib.hid (hb1.trans (hb2.mono hb1.size))
        clear hb1 hb2 D1
        go_wp2_with fail
        refine (D2h.out _).mono ?_
        rintro e w3 ⟨rfl, hb3⟩
        have HB3 := Lib.hid (HB2.out.trans (hb3.mono HB2.out.size))
        clear hb3 D2h
        go_wp2_with fail
        refine (D3h.out _).mono ?_
        rintro e w4 ⟨rfl, hb4⟩
        have HB4 := Lib.hid (HB3.out.trans (hb4.mono HB3.out.size))
        clear hb4 D3h
        have hcs : (e1 = 0 ∧ f1 = 0 ∧ c = a ++ b ∧ g1 = 0) ∨ (e1 == 0) = false ∨ ((e1 == 0) = true ∧ (f1 == 0) = false) := by
          by_cases he : e1 = 0
          · by_cases hf : f1 = 0
            · exact .inl ⟨he, hf, HAB.out he hf⟩
            · exact .inr (.inr ⟨by simpa using he, by simpa using hf⟩)
          · exact .inr (.inl (by simpa using he))
        clear HAB
        rcases hcs with ⟨rfl, rfl, rfl, rfl⟩ | he | ⟨he, hf⟩
        case' inl => generalize hab : a ++ b = ab at *
        all_goals
          go_wp2_with fail
          refine (E1h.out _).mono ?_
          rintro e w5 ⟨rfl, hb5⟩
          have HB5 := Lib.hid (HB4.out.trans (hb5.mono HB4.out.size))
          clear hb5
          go_wp2_with fail
          refine (E2h.out _).mono ?_
          rintro e w6 ⟨rfl, hb6⟩
          have HB6 := Lib.hid (HB5.out.trans (hb6.mono HB5.out.size))
          clear hb6
          go_wp2_with fail
          refine (E3h.out _).mono ?_
          rintro e w7 ⟨rfl, hb7⟩
          have HB7 := Lib.hid (HB6.out.trans (hb7.mono HB6.out.size))
          clear hb7
          go_wp2
          go_ret
          exact ⟨rfl, HB7.out⟩
      · have h3 : 1000 < keep.size := by omega
        go_wp2
        go_ret
        exact ⟨rfl, hb1⟩
    · have h3 : 5000 < t.size := by omega
      go_wp2
      go_ret
      exact ⟨rfl, hb1⟩
  · have h3 : 5000 < s.size := by omega
    go_wp2
    go_ret
    exact ⟨rfl, hb1⟩
end Go.Proofs.YtclenfdhnccalaaDoor
