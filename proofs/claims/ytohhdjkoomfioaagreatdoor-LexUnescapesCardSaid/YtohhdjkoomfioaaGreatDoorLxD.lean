
/- Contract of the reference's reference: the walk. -/
import Derived.Test.YtohhdjkoomfioaaGreatDoorLxC
namespace Go.Proofs.YtohhdjkoomfioaaGreatDoor
open Go.RowKit Wb

/-- What reference answers at a place at which & stands. -/
def refT (s : ByteArray) (k : Nat) : ByteArray × Int :=
  match refAt s k with
  | some (x, n) => (⟨x.toArray⟩, (k : Int) + n + 2)
  | none => (⟨#[]⟩, k)

theorem refT_no {s : ByteArray} {k : Nat} (h : semi (s.data.toList.drop (k + 1)) = none) : refT s k = (⟨#[]⟩, (k : Int)) := by
  unfold refT refAt; rw [h]
theorem refT_bad {s : ByteArray} {k : Nat} {t r : List UInt8} (h : semi (s.data.toList.drop (k + 1)) = some (t, r)) (hv : refV t = none) : refT s k = (⟨#[]⟩, (k : Int)) := by
  unfold refT refAt; rw [h]; simp only [hv]
theorem refT_ok {s : ByteArray} {k : Nat} {t r x : List UInt8} (h : semi (s.data.toList.drop (k + 1)) = some (t, r)) (hv : refV t = some x) : refT s k = (⟨x.toArray⟩, (k : Int) + t.length + 2) := by
  unfold refT refAt; rw [h]; simp only [hv]

theorem begB_0 (t x : ByteArray) : begB t 0 x = true ↔ t.data.toList.take x.size = x.data.toList := by
  unfold begB
  have h := begAt_L t x 0
  rw [List.drop_zero] at h
  rw [← h]
  simp only [Int.le_refl, decide_true, Bool.true_and, Bool.and_eq_true, decide_eq_true_eq, Int.toNat_zero]
  constructor
  · exact fun h => h.2
  · intro h'
    refine ⟨?_, h'⟩
    have h2 := congrArg List.length (h.1 h')
    simp at h2
    omega
theorem begB_size {t x : ByteArray} (h : begB t 0 x = true) : (x.size : Int) ≤ t.size := by
  unfold begB at h
  simp at h
  omega

def nm : Nat → List UInt8
  | 0 => sLt
  | 1 => sGt
  | 2 => sAmp
  | 3 => sQuot
  | _ => sApos

set_option maxHeartbeats 2000000 in
set_option maxRecDepth 100000 in
theorem reference_any (s : ByteArray) (k : Nat) (w : World) (hk : k < s.size) (h38 : s[k] = 38) (hs : s.size ≤ 1000000000) :
    Calls Tryz.prog 21 #[.string s, .int .i64 k] w fun e w' => e = .returned (.tuple #[.string (refT s k).1, .int .i64 (refT s k).2]) ∧ Below w.heap.size w w' := by
  obtain ⟨x0, nx, hr⟩ : ∃ x0 nx, refT s k = (x0, nx) := ⟨_, _, rfl⟩
  have HR := Lib.hid hr
  have H38 := Lib.hid h38
  rw [hr]
  clear hr h38
  go_enter Tryz.func21, Tryz.ntmps21
  go_wp2_with fail
  refine (index_any s ⟨#[59]⟩ k _ hs (by decide) (by omega)).mono ?_
  rintro e w1 ⟨r, rfl, hix, rfl⟩
  rcases semi_at hk H38.out hix with ⟨rfl, hsm⟩ | ⟨e, rfl, he1, he2, hsm, hlen⟩
  · obtain ⟨r1, r2⟩ : x0 = ⟨#[]⟩ ∧ nx = (k : Int) := by have := HR.out.symm.trans (refT_no hsm); simpa using this
    clear hix hsm HR H38
    subst r1 r2
    go_wp2
    go_ret2
    exact ⟨rfl, Below.refl _ _⟩
  · have HS := Lib.hid hsm
    have HL := Lib.hid hlen
    have hts : (s.extract (k + 1) e).size ≤ 1000000000 := by simp; omega
    clear hix hsm hlen H38
    go_wp2
    generalize s.extract (k + 1) e = t at *
    go_loop [9] (fun i => ∃ j : Nat, j ≤ 5 ∧ i = .int .i64 ((2 * j : Nat) : Int) ∧ Hid (∀ i, i < j → t.data.toList ≠ nm i)) (fun i => (10 - intOf i).toNat)
    case atStart => exact ⟨0, by omega, rfl, Lib.hid (fun i hi => absurd hi (by omega))⟩
    case round =>
      obtain ⟨j, hj, rfl, HJ⟩ := hrel
      rcases (by omega : j = 0 ∨ j = 1 ∨ j = 2 ∨ j = 3 ∨ j = 4 ∨ j = 5) with rfl | rfl | rfl | rfl | rfl | rfl
      · by_cases q : t.data.toList = sLt
        · obtain ⟨r1, r2⟩ : x0 = ⟨#[60]⟩ ∧ nx = (e : Int) + 1 := by
            have h1 := refT_ok HS.out (show refV t.data.toList = some [60] from by rw [q]; rfl)
            have h2 := HR.out.symm.trans h1
            simp only [Prod.mk.injEq] at h2
            have h3 := HL.out
            exact ⟨h2.1, by omega⟩
          have hq : t.toList = [108, 116] := by rw [ByteArray.toList_eq, q]; rfl
          clear HJ HS HL HR q
          subst r1 r2
          go_wp2
          go_ret2
          exact ⟨rfl, (Below.refl _ _).alloc (Nat.le_refl _) _⟩
        · have hq : ([108, 116] == t.toList) = false := by
            rw [ByteArray.toList_eq]
            cases hh : ([108, 116] == t.data.toList)
            · rfl
            · exact absurd (beq_iff_eq.1 hh).symm q
          have HQ := Lib.hid q
          clear q
          go_wp2
          go_round
          case rel => exact ⟨1, by omega, rfl, Lib.hid (fun i hi => by
            rcases (by omega : i = 0 ∨ i < 0) with h | h
            · rw [h]; exact HQ.out
            · exact HJ.out i h)⟩
          case measure => decide
      · by_cases q : t.data.toList = sGt
        · obtain ⟨r1, r2⟩ : x0 = ⟨#[62]⟩ ∧ nx = (e : Int) + 1 := by
            have h1 := refT_ok HS.out (show refV t.data.toList = some [62] from by rw [q]; rfl)
            have h2 := HR.out.symm.trans h1
            simp only [Prod.mk.injEq] at h2
            have h3 := HL.out
            exact ⟨h2.1, by omega⟩
          have hq : t.toList = [103, 116] := by rw [ByteArray.toList_eq, q]; rfl
          clear HJ HS HL HR q
          subst r1 r2
          go_wp2
          go_ret2
          exact ⟨rfl, (Below.refl _ _).alloc (Nat.le_refl _) _⟩
        · have hq : ([103, 116] == t.toList) = false := by
            rw [ByteArray.toList_eq]
            cases hh : ([103, 116] == t.data.toList)
            · rfl
            · exact absurd (beq_iff_eq.1 hh).symm q
          have HQ := Lib.hid q
          clear q
          go_wp2
          go_round
          case rel => exact ⟨2, by omega, rfl, Lib.hid (fun i hi => by
            rcases (by omega : i = 1 ∨ i < 1) with h | h
            · rw [h]; exact HQ.out
            · exact HJ.out i h)⟩
          case measure => decide
      · by_cases q : t.data.toList = sAmp
        · obtain ⟨r1, r2⟩ : x0 = ⟨#[38]⟩ ∧ nx = (e : Int) + 1 := by
            have h1 := refT_ok HS.out (show refV t.data.toList = some [38] from by rw [q]; rfl)
            have h2 := HR.out.symm.trans h1
            simp only [Prod.mk.injEq] at h2
            have h3 := HL.out
            exact ⟨h2.1, by omega⟩
          have hq : t.toList = [97, 109, 112] := by rw [ByteArray.toList_eq, q]; rfl
          clear HJ HS HL HR q
          subst r1 r2
          go_wp2
          go_ret2
          exact ⟨rfl, (Below.refl _ _).alloc (Nat.le_refl _) _⟩
        · have hq : ([97, 109, 112] == t.toList) = false := by
            rw [ByteArray.toList_eq]
            cases hh : ([97, 109, 112] == t.data.toList)
            · rfl
            · exact absurd (beq_iff_eq.1 hh).symm q
          have HQ := Lib.hid q
          clear q
          go_wp2
          go_round
          case rel => exact ⟨3, by omega, rfl, Lib.hid (fun i hi => by
            rcases (by omega : i = 2 ∨ i < 2) with h | h
            · rw [h]; exact HQ.out
            · exact HJ.out i h)⟩
          case measure => decide
      · by_cases q : t.data.toList = sQuot
        · obtain ⟨r1, r2⟩ : x0 = ⟨#[34]⟩ ∧ nx = (e : Int) + 1 := by
            have h1 := refT_ok HS.out (show refV t.data.toList = some [34] from by rw [q]; rfl)
            have h2 := HR.out.symm.trans h1
            simp only [Prod.mk.injEq] at h2
            have h3 := HL.out
            exact ⟨h2.1, by omega⟩
          have hq : t.toList = [113, 117, 111, 116] := by rw [ByteArray.toList_eq, q]; rfl
          clear HJ HS HL HR q
          subst r1 r2
          go_wp2
          go_ret2
          exact ⟨rfl, (Below.refl _ _).alloc (Nat.le_refl _) _⟩
        · have hq : ([113, 117, 111, 116] == t.toList) = false := by
            rw [ByteArray.toList_eq]
            cases hh : ([113, 117, 111, 116] == t.data.toList)
            · rfl
            · exact absurd (beq_iff_eq.1 hh).symm q
          have HQ := Lib.hid q
          clear q
          go_wp2
          go_round
          case rel => exact ⟨4, by omega, rfl, Lib.hid (fun i hi => by
            rcases (by omega : i = 3 ∨ i < 3) with h | h
            · rw [h]; exact HQ.out
            · exact HJ.out i h)⟩
          case measure => decide
      · by_cases q : t.data.toList = sApos
        · obtain ⟨r1, r2⟩ : x0 = ⟨#[39]⟩ ∧ nx = (e : Int) + 1 := by
            have h1 := refT_ok HS.out (show refV t.data.toList = some [39] from by rw [q]; rfl)
            have h2 := HR.out.symm.trans h1
            simp only [Prod.mk.injEq] at h2
            have h3 := HL.out
            exact ⟨h2.1, by omega⟩
          have hq : t.toList = [97, 112, 111, 115] := by rw [ByteArray.toList_eq, q]; rfl
          clear HJ HS HL HR q
          subst r1 r2
          go_wp2
          go_ret2
          exact ⟨rfl, (Below.refl _ _).alloc (Nat.le_refl _) _⟩
        · have hq : ([97, 112, 111, 115] == t.toList) = false := by
            rw [ByteArray.toList_eq]
            cases hh : ([97, 112, 111, 115] == t.data.toList)
            · rfl
            · exact absurd (beq_iff_eq.1 hh).symm q
          have HQ := Lib.hid q
          clear q
          go_wp2
          go_round
          case rel => exact ⟨5, by omega, rfl, Lib.hid (fun i hi => by
            rcases (by omega : i = 4 ∨ i < 4) with h | h
            · rw [h]; exact HQ.out
            · exact HJ.out i h)⟩
          case measure => decide
      · have n0 := HJ.out 0 (by omega)
        have n1 := HJ.out 1 (by omega)
        have n2 := HJ.out 2 (by omega)
        have n3 := HJ.out 3 (by omega)
        have n4 := HJ.out 4 (by omega)
        have HV := Lib.hid (refV_M n0 n1 n2 n3 n4)
        clear HJ n0 n1 n2 n3 n4
        have hb0 : Below w.heap.size w (w.alloc (.cells #[.string ⟨#[108, 116]⟩, .string ⟨#[60]⟩, .string ⟨#[103, 116]⟩, .string ⟨#[62]⟩, .string ⟨#[97, 109, 112]⟩, .string ⟨#[38]⟩, .string ⟨#[113, 117, 111, 116]⟩, .string ⟨#[34]⟩, .string ⟨#[97, 112, 111, 115]⟩, .string ⟨#[39]⟩] 9)) := (Below.refl _ _).alloc (Nat.le_refl _) _
        go_wp2_with fail
        refine (begins_any t ⟨#[35, 120]⟩ 0 _ hts (by decide) (by omega) (by omega)).mono ?_
        cases hb16 : begB t 0 ⟨#[35, 120]⟩
        · have q16 : ¬ t.data.toList.take 2 = [35, 120] := fun h => by
            rw [(begB_0 t ⟨#[35, 120]⟩).2 h] at hb16; cases hb16
          have Q16 := Lib.hid q16
          clear hb16 q16
          rintro e' w2 ⟨rfl, rfl⟩
          go_wp2_with fail
          refine (begins_any t ⟨#[35]⟩ 0 _ hts (by decide) (by omega) (by omega)).mono ?_
          cases hb10 : begB t 0 ⟨#[35]⟩
          · have q10 : ¬ t.data.toList.take 1 = [35] := fun h => by
              rw [(begB_0 t ⟨#[35]⟩).2 h] at hb10; cases hb10
            obtain ⟨m, hme, hm⟩ : ∃ m : Int, m = -1 ∧ refM t.data.toList = m := ⟨-1, rfl, by unfold refM; rw [if_neg Q16.out, if_neg q10]⟩
            have HM2 := Lib.hid hm
            clear hb10 q10 Q16 hm
            subst hme
            obtain ⟨r1, r2⟩ : x0 = ⟨#[]⟩ ∧ nx = (k : Int) := by
              have h1 := refT_bad HS.out (HV.out.trans (if_neg (by rw [HM2.out]; omega)))
              have h2 := HR.out.symm.trans h1
              simpa using h2
            clear HS HL HR HV HM2
            subst r1 r2
            rintro e' w2 ⟨rfl, rfl⟩
            go_wp2
            go_ret2
            exact ⟨rfl, hb0⟩
          · have q10 : t.data.toList.take 1 = [35] := (begB_0 t ⟨#[35]⟩).1 hb10
            have hsz := begB_size hb10
            obtain ⟨m, hm⟩ : ∃ m : Int, refM t.data.toList = m := ⟨_, rfl⟩
            have HN : Hid (numR 10 (t.extract 1 t.size).data.toList = m) := Lib.hid (by
              rw [← hm]
              unfold refM
              rw [if_neg Q16.out, if_pos q10, extract_L, List.take_of_length_le (by simp)])
            have h1 : (1 : Int) ≤ t.size := hsz
            clear hb10 q10 Q16 hsz
            rintro e' w2 ⟨rfl, rfl⟩
            go_wp2_with fail
            refine (number10_any (t.extract 1 t.size) _ (by simp; omega)).mono ?_
            rw [HN.out]
            clear HN
            rintro e' w2 ⟨rfl, rfl⟩
            have HM2 := Lib.hid hm
            clear hm
            by_cases hneg : m < 0
            · obtain ⟨r1, r2⟩ : x0 = ⟨#[]⟩ ∧ nx = (k : Int) := by
                have h1 := refT_bad HS.out (HV.out.trans (if_neg (by rw [HM2.out]; omega)))
                have h2 := HR.out.symm.trans h1
                simpa using h2
              clear HS HL HR HV HM2
              subst r1 r2
              go_wp2
              go_ret2
              exact ⟨rfl, hb0⟩
            · go_wp2_with fail
              refine (rchar_any m _).mono ?_
              cases hc : charB m
              · obtain ⟨r1, r2⟩ : x0 = ⟨#[]⟩ ∧ nx = (k : Int) := by
                  have h1 := refT_bad HS.out (HV.out.trans (if_neg (by rw [HM2.out, hc]; simp)))
                  have h2 := HR.out.symm.trans h1
                  simpa using h2
                clear HS HL HR HV HM2 hc
                subst r1 r2
                rintro e' w2 ⟨rfl, hb2⟩
                replace hb0 := hb0.trans (hb2.mono hb0.size)
                go_wp2
                go_ret2
                exact ⟨rfl, hb0⟩
              · obtain ⟨r1, r2⟩ : x0 = ⟨(enc m).toArray⟩ ∧ nx = (e : Int) + 1 := by
                  have h1 := refT_ok HS.out (HV.out.trans (if_pos (by rw [HM2.out]; exact ⟨by omega, hc⟩)))
                  have h2 := HR.out.symm.trans h1
                  rw [HM2.out] at h2
                  simp only [Prod.mk.injEq] at h2
                  have h3 := HL.out
                  exact ⟨h2.1, by omega⟩
                clear HS HL HR HV HM2 hc
                subst r1 r2
                rintro e' w2 ⟨rfl, hb2⟩
                replace hb0 := hb0.trans (hb2.mono hb0.size)
                clear hb2
                go_wp2_with fail
                refine (rput_any m _).mono ?_
                rintro e' w3 ⟨rfl, hb2⟩
                replace hb0 := hb0.trans (hb2.mono hb0.size)
                clear hb2
                go_wp2
                go_ret2
                exact ⟨rfl, hb0⟩
        · have q16 : t.data.toList.take 2 = [35, 120] := (begB_0 t ⟨#[35, 120]⟩).1 hb16
          have hsz := begB_size hb16
          obtain ⟨m, hm⟩ : ∃ m : Int, refM t.data.toList = m := ⟨_, rfl⟩
          have HN : Hid (numR 16 (t.extract 2 t.size).data.toList = m) := Lib.hid (by
            rw [← hm]
            unfold refM
            rw [if_pos q16, extract_L, List.take_of_length_le (by simp)])
          have h1 : (2 : Int) ≤ t.size := hsz
          clear hb16 q16 hsz
          rintro e' w2 ⟨rfl, rfl⟩
          go_wp2_with fail
          refine (number16_any (t.extract 2 t.size) _ (by simp; omega)).mono ?_
          rw [HN.out]
          clear HN
          rintro e' w2 ⟨rfl, rfl⟩
          have HM2 := Lib.hid hm
          clear hm
          by_cases hneg : m < 0
          · obtain ⟨r1, r2⟩ : x0 = ⟨#[]⟩ ∧ nx = (k : Int) := by
              have h1 := refT_bad HS.out (HV.out.trans (if_neg (by rw [HM2.out]; omega)))
              have h2 := HR.out.symm.trans h1
              simpa using h2
            clear HS HL HR HV HM2
            subst r1 r2
            go_wp2
            go_ret2
            exact ⟨rfl, hb0⟩
          · go_wp2_with fail
            refine (rchar_any m _).mono ?_
            cases hc : charB m
            · obtain ⟨r1, r2⟩ : x0 = ⟨#[]⟩ ∧ nx = (k : Int) := by
                have h1 := refT_bad HS.out (HV.out.trans (if_neg (by rw [HM2.out, hc]; simp)))
                have h2 := HR.out.symm.trans h1
                simpa using h2
              clear HS HL HR HV HM2 hc
              subst r1 r2
              rintro e' w2 ⟨rfl, hb2⟩
              replace hb0 := hb0.trans (hb2.mono hb0.size)
              go_wp2
              go_ret2
              exact ⟨rfl, hb0⟩
            · obtain ⟨r1, r2⟩ : x0 = ⟨(enc m).toArray⟩ ∧ nx = (e : Int) + 1 := by
                have h1 := refT_ok HS.out (HV.out.trans (if_pos (by rw [HM2.out]; exact ⟨by omega, hc⟩)))
                have h2 := HR.out.symm.trans h1
                rw [HM2.out] at h2
                simp only [Prod.mk.injEq] at h2
                have h3 := HL.out
                exact ⟨h2.1, by omega⟩
              clear HS HL HR HV HM2 hc
              subst r1 r2
              rintro e' w2 ⟨rfl, hb2⟩
              replace hb0 := hb0.trans (hb2.mono hb0.size)
              clear hb2
              go_wp2_with fail
              refine (rput_any m _).mono ?_
              rintro e' w3 ⟨rfl, hb2⟩
              replace hb0 := hb0.trans (hb2.mono hb0.size)
              clear hb2
              go_wp2
              go_ret2
              exact ⟨rfl, hb0⟩
end Go.Proofs.YtohhdjkoomfioaaGreatDoor
