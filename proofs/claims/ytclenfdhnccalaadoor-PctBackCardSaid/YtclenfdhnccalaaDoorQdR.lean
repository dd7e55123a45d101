
/- Walk: PctBack. -/
import Derived.Test.YtclenfdhnccalaaDoorQdN
namespace Wb
/-- May a byte stand in an encoded text, so far as k bytes of keep tell? -/
def okJ (keep : List UInt8) (c : UInt8) (k : Nat) : Bool := (plC c || c == 37) || (keep.take k).contains c
theorem okJ_step {keep : List UInt8} {c : UInt8} {k : Nat} (h : k < keep.length) : okJ keep c (k + 1) = (okJ keep c k || (keep[k] == c)) := by
  have e : (c == keep[k]) = (keep[k] == c) := by
    rw [Bool.eq_iff_iff, beq_iff_eq, beq_iff_eq]
    exact eq_comm
  have e2 : ([keep[k]] : List UInt8).contains c = (keep[k] == c) := by
    rw [List.contains_cons, List.contains_nil, Bool.or_false, e]
  unfold okJ
  rw [← List.take_append_getElem h, List.contains_append, e2, ← Bool.or_assoc]
theorem okJ_end {keep s : List UInt8} {c : UInt8} {k : Nat} (h : keep.length ≤ k) (hc : c ∈ pctE keep s) : okJ keep c k = true := by
  unfold okJ
  rw [List.take_of_length_le h]
  rcases pctE_mem keep s c hc with h | rfl | h
  · rw [h]; rfl
  · simp
  · rw [h]; simp
theorem mk_list (l : List UInt8) : (⟨l.toArray⟩ : ByteArray).data.toList = l := by simp
end Wb
namespace Go.Proofs.YtclenfdhnccalaaDoor
open Go.RowKit Wb

set_option maxRecDepth 100000 in
set_option maxHeartbeats 8000000 in
theorem back9_walk (s keep : ByteArray) (w : World) (hG : GvM w) :
    Calls Tryd.prog 4 #[.string s, .string keep] w fun e w' => e = .returned (.bool true) ∧ Below w.heap.size w w' := by
  have HG := Lib.hid hG
  clear hG
  go_enter Tryd.func4, Tryd.ntmps4
  go_wp2_with fail
  refine (awake9 w HG.out).mono ?_
  rintro e w1 ⟨rfl, hb1⟩
  by_cases h1 : s.size ≤ 5000
  case neg =>
    have h3 : 5000 < s.size := by omega
    go_wp2
    go_ret
    exact ⟨rfl, hb1⟩
  by_cases h4 : keep.size ≤ 1000
  case neg =>
    have h3 : 1000 < keep.size := by omega
    go_wp2
    go_ret
    exact ⟨rfl, hb1⟩
  have HB1 := Lib.hid hb1
  clear hb1
  go_wp2
  go_loopw [5] (fun v5 wr => ∃ i : Nat, i ≤ keep.size ∧ v5 = .int .i64 i ∧ Hid (∀ c ∈ keep.data.toList.take i, c.toNat < 128) ∧ Hid (Below w.heap.size w wr)) (fun v5 _ => ((keep.size : Int) - intOf v5).toNat)
  case atStart => exact ⟨0, by omega, rfl, Lib.hid (by simp), HB1⟩
  case round =>
    obtain ⟨i, hi, rfl, HK, HB⟩ := hrel
    by_cases h0 : i < keep.size
    · by_cases hk : 127 < keep[i].toNat
      · go_wp2
        go_ret
        exact ⟨rfl, HB.out⟩
      · have HK2 : Hid (∀ c ∈ keep.data.toList.take (i + 1), c.toNat < 128) := Lib.hid (by
          intro c hc
          rw [← List.take_append_getElem (show i < keep.data.toList.length by simpa using h0), List.mem_append, List.mem_singleton] at hc
          rcases hc with hc | rfl
          · exact HK.out c hc
          · have : keep.data.toList[i]'(by simpa using h0) = keep[i] := rfl
            rw [this]
            omega)
        clear HK
        go_wp2
        go_roundw
        case rel => exact ⟨i + 1, by omega, by go_num, HK2, HB⟩
        case measure => simp [intOf]; omega
    · have HK2 : Hid (∀ c ∈ keep.data.toList, c.toNat < 128) := Lib.hid (by
        have := HK.out
        rwa [List.take_of_length_le (by simp; omega)] at this)
      clear HK
      have hT := mk_list (pctE keep.data.toList s.data.toList)
      have hTs := mk_size (pctE keep.data.toList s.data.toList)
      have hTl := pctE_len keep.data.toList s.data.toList
      have hsl : s.data.toList.length = s.size := by simp
      have E1 := fun v => encode_any s keep v (by omega) (by omega)
      generalize (⟨(pctE keep.data.toList s.data.toList).toArray⟩ : ByteArray) = T at *
      have hTz : T.size ≤ 15000 := by omega
      have D1 := fun v => decode_any T v (by omega)
      rw [hT, decP_back] at D1
      have E2 := fun v => encode_any T keep v (by omega) (by omega)
      have hPs := mk_size (pctE keep.data.toList T.data.toList)
      have hPl := pctE_len keep.data.toList T.data.toList
      have htl : T.data.toList.length = T.size := by simp
      have hP := mk_list (pctE keep.data.toList T.data.toList)
      generalize (⟨(pctE keep.data.toList T.data.toList).toArray⟩ : ByteArray) = P at *
      have D2 := fun v => decode_any P v (by omega)
      rw [hP, hT, decP_again s.data.toList HK2.out] at D2
      rw [← hT] at D2
      have hTT : (⟨T.data.toList.toArray⟩ : ByteArray) = T := by simp
      rw [hTT] at D2
      have hss : (⟨s.data.toList.toArray⟩ : ByteArray) = s := by simp
      have HM : Hid (∀ c ∈ T.data.toList, c ∈ pctE keep.data.toList s.data.toList) := Lib.hid (by rw [hT]; exact fun _ h => h)
      have CK := fun v => check_any s v (by omega)
      have HD1 := Lib.hid D1
      have HD2 := Lib.hid D2
      have HE2 := Lib.hid E2
      have HCK := Lib.hid CK
      have HSS := Lib.hid hss
      clear D1 D2 E2 CK hT hP hTs hPs hTl hPl hsl htl hTT hss HK2
      go_wp2_with fail
      refine (E1 _).mono ?_
      rintro e w3 ⟨rfl, hb3⟩
      have HB3 := Lib.hid (HB.out.trans (hb3.mono HB.out.size))
      clear hb3 E1 HB
      go_wp2
      go_loopw [7, 8, 9] (fun v7 _ _ wr => ∃ i : Nat, i ≤ T.size ∧ v7 = .int .i64 i ∧ Hid (Below w.heap.size w wr)) (fun v7 _ _ _ => ((T.size : Int) - intOf v7).toNat)
      case atStart => exact ⟨0, by omega, rfl, HB3⟩
      case round =>
        clear HB3
        obtain ⟨i, hi, rfl, HB⟩ := hrel
        by_cases h0 : i < T.size
        · obtain ⟨c, hc⟩ : ∃ c, T[i] = c := ⟨_, rfl⟩
          have HEN : Hid (okJ keep.data.toList c keep.size = true) := Lib.hid (okJ_end (by simp) (HM.out c (by
            rw [← hc]
            exact List.getElem_mem (show i < T.data.toList.length by simpa using h0))))
          go_wp2_with fail
          (try rw [hc])
          refine (rplain_any c _).mono ?_
          rintro e w2 ⟨rfl, rfl⟩
          have hq37 : ∀ b, (c == 37) = b → ((c.toNat : Int) == 37) = b := fun b h => u8_is37 c b h
          have hst : ∃ q, okJ keep.data.toList c 0 = q ∧ ((plC c = true ∧ q = true) ∨ (plC c = false ∧ ((c.toNat : Int) == 37) = q)) := by
            refine ⟨_, rfl, ?_⟩
            unfold okJ
            rw [List.take_zero]
            cases hp : plC c
            · exact .inr ⟨rfl, by rw [hq37 _ rfl]; simp⟩
            · exact .inl ⟨rfl, by simp⟩
          obtain ⟨q, hq, hcs⟩ := hst
          have HQ0 := Lib.hid hq
          clear hq hq37
          rcases hcs with ⟨hp, rfl⟩ | ⟨hp, h37⟩
          all_goals
            rw [hp]
            clear hp
            go_wp2
            go_loopw [8, 9] (fun v8 v9 wq => ∃ (k : Nat) (q : Bool), k ≤ keep.size ∧ v9 = .int .i64 k ∧ v8 = .bool q ∧ Hid (okJ keep.data.toList c k = q) ∧ Hid (Below w.heap.size w wq)) (fun _ v9 _ => ((keep.size : Int) - intOf v9).toNat)
            case atStart => exact ⟨0, _, by omega, rfl, rfl, HQ0, HB⟩
            case round =>
              obtain ⟨k, q2, hk, rfl, rfl, HQ, HB4⟩ := hrel
              by_cases hk0 : k < keep.size
              · have hst := okJ_step (c := c) (show k < keep.data.toList.length by simpa using hk0)
                rw [HQ.out] at hst
                have t1 : (((keep[k]).toNat : Int) == (c.toNat : Int)) = (keep.data.toList[k]'(by simpa using hk0) == c) := u8_eqn _ _
                have z1 : (0 : Int) ≤ (k : Int) := by omega
                have z2 : (k : Int) < (keep.size : Int) := by omega
                have z3 : (0 : Int) ≤ (i : Int) := by omega
                have z4 : (i : Int) < (T.size : Int) := by omega
                cases q2
                · rw [Bool.false_or] at hst
                  rw [← hst] at t1
                  cases hd : okJ keep.data.toList c (k + 1)
                  all_goals
                    rw [hd] at t1
                    have HD := Lib.hid hd
                    clear hd hst
                    go_wp2_with fail
                    go_region
                    go_wp2
                    go_roundw
                    case rel => exact ⟨k + 1, _, by omega, by go_num, rfl, HD, Lib.hid HB4.out.drew⟩
                    case measure => simp [intOf]; omega
                · have HD := Lib.hid hst
                  clear hst t1
                  go_wp2_with fail
                  go_region
                  go_wp2
                  go_roundw
                  case rel => exact ⟨k + 1, true, by omega, by go_num, rfl, Lib.hid (HD.out.trans (by simp)), Lib.hid HB4.out.drew⟩
                  case measure => simp [intOf]; omega
              · have hke : k = keep.size := by omega
                have hqt : q2 = true := by rw [← HQ.out, hke]; exact HEN.out
                subst hqt
                clear HQ hke
                go_wp2
                go_roundw
                case rel => exact ⟨i + 1, by omega, by go_num, HB4⟩
                case measure => simp [intOf]; omega
        · have hbx := HB.out.size
          by_cases hk : 0 ≤ chk s.data.toList
          · have d1 := HD1.out
            rw [if_pos hk] at d1
            clear HD1 HD2 HE2 HSS HM
            go_wp2_with fail
            refine (d1 _).mono ?_
            rintro e w4 ⟨rfl, hb4⟩
            have HB4 := Lib.hid (HB.out.trans (hb4.mono HB.out.size))
            clear hb4 d1
            go_wp2_with fail
            refine (HCK.out _).mono ?_
            rintro e w5 ⟨rfl, hb5⟩
            have HB5 := Lib.hid (HB4.out.trans (hb5.mono HB4.out.size))
            clear hb5
            go_wp2
            go_ret
            exact ⟨rfl, HB5.out⟩
          · have d1 := HD1.out
            rw [if_neg hk] at d1
            simp only [] at d1
            clear HD1 HSS HM
            go_wp2_with fail
            refine (d1 _).mono ?_
            rintro e w4 ⟨rfl, hb4⟩
            have HB4 := Lib.hid (HB.out.trans (hb4.mono HB.out.size))
            clear hb4 d1
            go_wp2_with fail
            refine (HCK.out _).mono ?_
            rintro e w5 ⟨rfl, hb5⟩
            have HB5 := Lib.hid (HB4.out.trans (hb5.mono HB4.out.size))
            clear hb5
            go_wp2_with fail
            refine (HE2.out _).mono ?_
            rintro e w6 ⟨rfl, hb6⟩
            have HB6 := Lib.hid (HB5.out.trans (hb6.mono HB5.out.size))
            clear hb6
            go_wp2_with fail
            refine (HD2.out _).mono ?_
            rintro e w7 ⟨rfl, hb7⟩
            have HB7 := Lib.hid (HB6.out.trans (hb7.mono HB6.out.size))
            clear hb7
            go_wp2
            go_ret
            exact ⟨rfl, HB7.out⟩
end Go.Proofs.YtclenfdhnccalaaDoor
