/- QbA QbB. -/
import Derived.Deep.Cut
import Derived.Test.YtmabhbihgenmcaaGreatDoorKd19
namespace Wb
open Go
def prepC (a : List UInt8) (o : Option (List UInt8 × List UInt8)) : Option (List UInt8 × List UInt8) := o.map fun x => (a ++ x.1, x.2)
theorem prepC_nil (o : Option (List UInt8 × List UInt8)) : prepC [] o = o := by cases o <;> rfl
theorem lineC_step {L : List UInt8} {i : Nat} {c d : UInt8} (h1 : L[i]? = some c) (h2 : L[i + 1]? = some d) : lineC (L.drop i) = if c = 13 ∧ d = 10 then some ([], L.drop (i + 2)) else prepC [c] (lineC (L.drop (i + 1))) := by
  obtain ⟨hi, e⟩ := List.getElem?_eq_some_iff.1 h1
  obtain ⟨hj, e2⟩ := List.getElem?_eq_some_iff.1 h2
  rw [List.drop_eq_getElem_cons hi, e, List.drop_eq_getElem_cons hj, e2, lineC]
  (try simp only)
  split
  · rfl
  · unfold prepC
    generalize lineC (d :: L.drop (i + 1 + 1)) = o
    cases o with
    | none => rfl
    | some x => rfl
theorem lineC_short {L : List UInt8} {i : Nat} (h : L.length ≤ i + 1) : lineC (L.drop i) = none := by
  have : (L.drop i).length ≤ 1 := by rw [List.length_drop]; omega
  match hd : L.drop i with
  | [] => rfl
  | [c] => rfl
  | a :: b :: r => rw [hd] at this; simp at this
def EndIs (L : List UInt8) (a : Nat) (r : Int) : Prop := (r = -1 ∧ lineC (L.drop a) = none) ∨ ∃ k : Nat, r = k ∧ a ≤ k ∧ k + 2 ≤ L.length ∧ lineC (L.drop a) = some ((L.drop a).take (k - a), L.drop (k + 2))
end Wb
namespace Go.Proofs.YtmabhbihgenmcaaGreatDoor
open Go.RowKit Wb
set_option maxRecDepth 100000 in
set_option maxHeartbeats 4000000 in
theorem rplain_any (s : ByteArray) (w : World) (hs : s.size ≤ 1000000) :
    Calls Tryz.prog 65 #[.string s] w fun e w' => e = .returned (.bool (plainF s.data.toList)) ∧ Below w.heap.size w w' := by
  go_enter Tryz.func65, Tryz.ntmps65
  go_wp2
  go_loopw [3] (fun v3 wr => ∃ i : Nat, i ≤ s.size ∧ v3 = .int .i64 i ∧ Hid ((s.data.toList.take i).all plainC = true) ∧ Hid (Below w.heap.size w wr)) (fun v3 _ => s.size - (intOf v3).toNat)
  case atStart => exact ⟨0, by omega, rfl, Lib.hid rfl, Lib.hid (Below.refl _ _)⟩
  case round =>
    obtain ⟨i, hi, rfl, HA, HB⟩ := hrel
    by_cases h0 : i < s.size
    · have hg := ba_get h0
      cases ht : plainC s[i]
      · have HF : Hid (plainF s.data.toList = false) := Lib.hid (by unfold plainF; rw [all_stop hg ht])
        have hcs : s[i].toNat ≠ 9 ∧ (s[i].toNat < 32 ∨ (32 ≤ s[i].toNat ∧ 126 < s[i].toNat)) := by
          unfold plainC at ht
          rw [Bool.or_eq_false_iff, beq_eq_false_iff_ne, Bool.and_eq_false_iff, decide_eq_false_iff_not, decide_eq_false_iff_not] at ht
          refine ⟨fun e => ht.1 (UInt8.toNat_inj.1 e), ?_⟩
          have := ht.2
          omega
        obtain ⟨h9, hcs⟩ := hcs
        have h9' : (((s[i].toNat : Int)) != 9) = true := by rw [bne_iff_ne]; omega
        have h9'' : (((s[i].toNat : Int)) == 9) = false := by rw [beq_eq_false_iff_ne]; omega
        clear hg ht
        rcases hcs with h1 | ⟨h1, h2⟩
        all_goals
          go_wp2
          go_ret
          exact ⟨by rw [HF.out]; rfl, HB.out⟩
      · have HN : Hid ((s.data.toList.take (i + 1)).all plainC = true) := Lib.hid (by rw [all_take hg, HA.out, ht]; rfl)
        by_cases h9 : s[i].toNat = 9
        · clear hg ht
          go_wp2
          go_roundw
          case rel => exact ⟨i + 1, by omega, by go_num, HN, HB⟩
          case measure => simp [intOf]; omega
        · have hcs : 32 ≤ s[i].toNat ∧ s[i].toNat ≤ 126 := by
            unfold plainC at ht
            rw [Bool.or_eq_true, Bool.and_eq_true, decide_eq_true_eq, decide_eq_true_eq, beq_iff_eq] at ht
            rcases ht with ht | ht
            · exact absurd (by rw [ht]; rfl) h9
            · exact ht
          obtain ⟨h1, h2⟩ := hcs
          have h9'' : (((s[i].toNat : Int)) == 9) = false := by rw [beq_eq_false_iff_ne]; omega
          clear hg ht
          go_wp2
          go_roundw
          case rel => exact ⟨i + 1, by omega, by go_num, HN, HB⟩
          case measure => simp [intOf]; omega
    · obtain rfl : i = s.size := by omega
      have HT : Hid (plainF s.data.toList = true) := Lib.hid (by
        have h := HA.out
        rw [ba_size, List.take_length] at h
        exact h)
      go_wp2
      go_ret
      exact ⟨by rw [HT.out]; rfl, HB.out⟩
set_option maxRecDepth 100000 in
theorem rblank_any (c : UInt8) (w : World) : Calls Tryz.prog 64 #[.int .u8 (c.toNat : Int)] w fun e w' => e = .returned (.bool (blankB c)) ∧ w = w' := by
  have hb : blankB c = (((c.toNat : Int) == 32) || ((c.toNat : Int) == 9)) := by
    unfold blankB
    congr 1
    · by_cases h : c = 32
      · subst h; rfl
      · rw [beq_eq_false_iff_ne.2 h]; symm; rw [beq_eq_false_iff_ne]; intro e; exact h (UInt8.toNat_inj.1 (show c.toNat = 32 by omega))
    · by_cases h : c = 9
      · subst h; rfl
      · rw [beq_eq_false_iff_ne.2 h]; symm; rw [beq_eq_false_iff_ne]; intro e; exact h (UInt8.toNat_inj.1 (show c.toNat = 9 by omega))
  have HB := Lib.hid hb
  clear hb
  cases h1 : ((c.toNat : Int) == 32)
  all_goals
    go_enter Tryz.func64, Tryz.ntmps64
    go_wp2
    go_ret
    refine ⟨?_, rfl⟩
    rw [HB.out, h1]
    rfl
set_option maxRecDepth 100000 in
set_option maxHeartbeats 4000000 in
theorem rends_any (s : ByteArray) (a : Nat) (w : World) (hs : s.size ≤ 1000000) (ha : a ≤ s.size) :
    Calls Tryz.prog 63 #[.string s, .int .i64 a] w fun e w' => ∃ r, e = .returned (.int .i64 r) ∧ EndIs s.data.toList a r ∧ w = w' := by
  go_enter Tryz.func63, Tryz.ntmps63
  go_wp2
  go_loopw [5] (fun v5 wr => ∃ i : Nat, a ≤ i ∧ i ≤ s.size ∧ v5 = .int .i64 i ∧ Hid (lineC (s.data.toList.drop a) = prepC ((s.data.toList.drop a).take (i - a)) (lineC (s.data.toList.drop i))) ∧ wr = w) (fun v5 _ => s.size - (intOf v5).toNat)
  case atStart => exact ⟨a, by omega, by omega, rfl, Lib.hid (by rw [Nat.sub_self, List.take_zero, prepC_nil]), rfl⟩
  case round =>
    obtain ⟨i, hi1, hi2, rfl, HC, rfl⟩ := hrel
    by_cases h0 : i + 1 < s.size
    · have hi0 : i < s.size := by omega
      have g1 := ba_get hi0
      have g2 := ba_get h0
      have hst := lineC_step g1 g2
      by_cases c1 : s[i] = 13
      · by_cases c2 : s[i + 1] = 10
        · have t1 : s[i].toNat = 13 := by rw [c1]; rfl
          have t2 : s[i + 1].toNat = 10 := by rw [c2]; rfl
          have HR : Hid (EndIs s.data.toList a (i : Int)) := Lib.hid (.inr ⟨i, rfl, hi1, by rw [← ba_size]; omega, by
            rw [HC.out, hst, if_pos ⟨c1, c2⟩]
            unfold prepC
            simp⟩)
          clear g1 g2 hst c1 c2
          go_wp2
          go_ret
          exact ⟨_, rfl, HR.out, rfl⟩
        · have t1 : s[i].toNat = 13 := by rw [c1]; rfl
          have t2 : (((s[i + 1].toNat : Int)) == 10) = false := by
            rw [beq_eq_false_iff_ne]
            intro e
            exact c2 (UInt8.toNat_inj.1 (show s[i + 1].toNat = 10 by omega))
          have HN : Hid (lineC (s.data.toList.drop a) = prepC ((s.data.toList.drop a).take (i + 1 - a)) (lineC (s.data.toList.drop (i + 1)))) := Lib.hid (by
            rw [HC.out, hst, if_neg (fun h => c2 h.2)]
            exact prep_next hi1 g1 _)
          clear g1 g2 hst c1 c2
          go_wp2
          go_roundw
          case rel => exact ⟨i + 1, by omega, by omega, by go_num, HN, by first | rfl | trivial⟩
          case measure => simp [intOf]; omega
      · have t1 : (((s[i].toNat : Int)) == 13) = false := by
          rw [beq_eq_false_iff_ne]
          intro e
          exact c1 (UInt8.toNat_inj.1 (show s[i].toNat = 13 by omega))
        have HN : Hid (lineC (s.data.toList.drop a) = prepC ((s.data.toList.drop a).take (i + 1 - a)) (lineC (s.data.toList.drop (i + 1)))) := Lib.hid (by
          rw [HC.out, hst, if_neg (fun h => c1 h.1)]
          exact prep_next hi1 g1 _)
        clear g1 g2 hst c1
        go_wp2
        go_roundw
        case rel => exact ⟨i + 1, by omega, by omega, by go_num, HN, by first | rfl | trivial⟩
        case measure => simp [intOf]; omega
    · have HR : Hid (EndIs s.data.toList a (-1)) := Lib.hid (.inl ⟨rfl, by rw [HC.out, lineC_short (by rw [← ba_size]; omega)]; rfl⟩)
      go_wp2
      go_ret
      exact ⟨_, rfl, HR.out, rfl⟩
where
  prep_next {L : List UInt8} {a i : Nat} {c : UInt8} (h : a ≤ i) (hc : L[i]? = some c) (o : Option (List UInt8 × List UInt8)) : prepC ((L.drop a).take (i - a)) (prepC [c] o) = prepC ((L.drop a).take (i + 1 - a)) o := by
    have e : (L.drop a).take (i + 1 - a) = (L.drop a).take (i - a) ++ [c] := by
      rw [show i + 1 - a = i - a + 1 from by omega, List.take_add_one, List.getElem?_drop, show a + (i - a) = i from by omega, hc]
      rfl
    rw [e]
    unfold prepC
    cases o with
    | none => rfl
    | some x => simp
end Go.Proofs.YtmabhbihgenmcaaGreatDoor
namespace Wb
open Go
theorem ba_cons {u : ByteArray} (h : 0 < u.size) : u.data.toList = u[0] :: (u.extract 1 u.size).data.toList := by
  rw [Lib.extract_data]
  have hl : 0 < u.data.toList.length := by rw [← ba_size]; exact h
  have e := List.drop_eq_getElem_cons hl
  rw [List.drop_zero] at e
  rw [List.take_of_length_le (by rw [List.length_drop, ← ba_size]; exact Nat.le_refl _)]
  exact e
theorem ba_snoc {u : ByteArray} {m : Nat} (h : u.size = m + 1) : u.data.toList = (u.extract 0 m).data.toList ++ [u[m]] := by
  rw [Lib.extract_data, List.drop_zero, Nat.sub_zero]
  have hl : u.data.toList.length = m + 1 := by rw [← ba_size]; exact h
  have e := List.take_add_one (l := u.data.toList) (i := m)
  rw [List.take_of_length_le (by omega), ba_get (by omega)] at e
  exact e
end Wb
namespace Go.Proofs.YtmabhbihgenmcaaGreatDoor
open Go.RowKit Wb
set_option maxRecDepth 100000 in
set_option maxHeartbeats 8000000 in
theorem rtrim_any (s : ByteArray) (w : World) (hs : s.size ≤ 1000000) :
    Calls Tryz.prog 66 #[.string s] w fun e w' => e = .returned (.string (mkB (trimF s.data.toList))) ∧ w = w' := by
  go_enter Tryz.func66, Tryz.ntmps66
  go_wp2
  go_loopw [0] (fun v0 wr => ∃ u : ByteArray, v0 = .string u ∧ u.size ≤ s.size ∧ Hid (s.data.toList.dropWhile blankB = u.data.toList.dropWhile blankB) ∧ wr = w) (fun v0 _ => Lib.strSize v0)
  case atStart => exact ⟨s, rfl, by omega, Lib.hid rfl, rfl⟩
  case round =>
    obtain ⟨u, rfl, hu, HU, rfl⟩ := hrel
    have hcs : (u.size = 0 ∧ u.data.toList.dropWhile blankB = u.data.toList) ∨ (0 < u.size) := by
      by_cases h : u.size = 0
      · have : u.data.toList = [] := List.eq_nil_of_length_eq_zero (by rw [← ba_size]; exact h)
        exact .inl ⟨h, by rw [this]; rfl⟩
      · exact .inr (by omega)
    rcases hcs with ⟨h0, hd⟩ | h0
    · have HD : Hid (trimF s.data.toList = (u.data.toList.reverse.dropWhile blankB).reverse) := Lib.hid (by unfold trimF; rw [HU.out, hd])
      clear hd
      go_wp2
      go_loopw [0] (fun v0 wq => ∃ u : ByteArray, v0 = .string u ∧ u.size ≤ s.size ∧ Hid (trimF s.data.toList = (u.data.toList.reverse.dropWhile blankB).reverse) ∧ wq = wr) (fun v0 _ => Lib.strSize v0)
      case atStart => exact ⟨u, rfl, by omega, HD, by first | rfl | trivial⟩
      case round =>
        obtain ⟨u2, rfl, hu2, HU2, rfl⟩ := hrel
        by_cases h2 : u2.size = 0
        · have HE : Hid (mkB (trimF s.data.toList) = u2) := Lib.hid (by
            have : u2.data.toList = [] := List.eq_nil_of_length_eq_zero (by rw [← ba_size]; exact h2)
            rw [HU2.out, this]
            refine eq_of_lists ?_
            rw [this]
            rfl)
          go_wp2
          go_ret
          exact ⟨by rw [HE.out]; rfl, by first | rfl | trivial⟩
        · obtain ⟨m, hm⟩ : ∃ m, u2.size = m + 1 := ⟨u2.size - 1, by omega⟩
          have hsn := ba_snoc hm
          have k2 := rblank_any (u2[m]'(by omega)) wr
          cases hb2 : blankB (u2[m]'(by omega))
          · rw [hb2] at k2
            have HE : Hid (mkB (trimF s.data.toList) = u2) := Lib.hid (by
              refine eq_of_lists ?_
              rw [mkB_list, HU2.out, hsn, List.reverse_append, List.reverse_singleton, List.singleton_append, List.dropWhile_cons, if_neg (by rw [hb2]; simp)]
              simp)
            clear hsn hb2 h2
            go_wp2_with fail
            refine k2.mono ?_
            rintro e w2 ⟨rfl, rfl⟩
            clear k2
            go_wp2
            go_ret
            exact ⟨by rw [HE.out]; rfl, by first | rfl | trivial⟩
          · rw [hb2] at k2
            have HN2 : Hid (trimF s.data.toList = ((u2.extract 0 m).data.toList.reverse.dropWhile blankB).reverse) := Lib.hid (by
              rw [HU2.out, hsn, List.reverse_append, List.reverse_singleton, List.singleton_append, List.dropWhile_cons, if_pos hb2])
            have hz2 : (u2.extract 0 m).size = m := by rw [ByteArray.size_extract]; omega
            clear hsn hb2 h2
            go_wp2_with fail
            refine k2.mono ?_
            rintro e w2 ⟨rfl, rfl⟩
            clear k2
            go_wp2
            go_roundw
            case rel => exact ⟨u2.extract 0 m, rfl, by omega, HN2, by first | rfl | trivial⟩
            case measure => simp only [Lib.strSize]; omega
    · have hc := ba_cons h0
      have k1 := rblank_any u[0] wr
      cases hb : blankB u[0]
      · rw [hb] at k1
        have HD : Hid (trimF s.data.toList = (u.data.toList.reverse.dropWhile blankB).reverse) := Lib.hid (by
          unfold trimF
          have hd : u.data.toList.dropWhile blankB = u.data.toList := by rw [hc, List.dropWhile_cons, if_neg (by rw [hb]; simp)]
          rw [HU.out, hd])
        clear hc hb
        go_wp2_with fail
        refine k1.mono ?_
        rintro e w1 ⟨rfl, rfl⟩
        clear k1
        go_wp2
        go_loopw [0] (fun v0 wq => ∃ u : ByteArray, v0 = .string u ∧ u.size ≤ s.size ∧ Hid (trimF s.data.toList = (u.data.toList.reverse.dropWhile blankB).reverse) ∧ wq = wr) (fun v0 _ => Lib.strSize v0)
        case atStart => exact ⟨u, rfl, by omega, HD, by first | rfl | trivial⟩
        case round =>
          obtain ⟨u2, rfl, hu2, HU2, rfl⟩ := hrel
          by_cases h2 : u2.size = 0
          · have HE : Hid (mkB (trimF s.data.toList) = u2) := Lib.hid (by
              have : u2.data.toList = [] := List.eq_nil_of_length_eq_zero (by rw [← ba_size]; exact h2)
              rw [HU2.out, this]
              refine eq_of_lists ?_
              rw [this]
              rfl)
            go_wp2
            go_ret
            exact ⟨by rw [HE.out]; rfl, by first | rfl | trivial⟩
          · obtain ⟨m, hm⟩ : ∃ m, u2.size = m + 1 := ⟨u2.size - 1, by omega⟩
            have hsn := ba_snoc hm
            have k2 := rblank_any (u2[m]'(by omega)) wr
            cases hb2 : blankB (u2[m]'(by omega))
            · rw [hb2] at k2
              have HE : Hid (mkB (trimF s.data.toList) = u2) := Lib.hid (by
                refine eq_of_lists ?_
                rw [mkB_list, HU2.out, hsn, List.reverse_append, List.reverse_singleton, List.singleton_append, List.dropWhile_cons, if_neg (by rw [hb2]; simp)]
                simp)
              clear hsn hb2 h2
              go_wp2_with fail
              refine k2.mono ?_
              rintro e w2 ⟨rfl, rfl⟩
              clear k2
              go_wp2
              go_ret
              exact ⟨by rw [HE.out]; rfl, by first | rfl | trivial⟩
            · rw [hb2] at k2
              have HN2 : Hid (trimF s.data.toList = ((u2.extract 0 m).data.toList.reverse.dropWhile blankB).reverse) := Lib.hid (by
                rw [HU2.out, hsn, List.reverse_append, List.reverse_singleton, List.singleton_append, List.dropWhile_cons, if_pos hb2])
              have hz2 : (u2.extract 0 m).size = m := by rw [ByteArray.size_extract]; omega
              clear hsn hb2 h2
              go_wp2_with fail
              refine k2.mono ?_
              rintro e w2 ⟨rfl, rfl⟩
              clear k2
              go_wp2
              go_roundw
              case rel => exact ⟨u2.extract 0 m, rfl, by omega, HN2, by first | rfl | trivial⟩
              case measure => simp only [Lib.strSize]; omega
      · rw [hb] at k1
        have HN : Hid (s.data.toList.dropWhile blankB = (u.extract 1 u.size).data.toList.dropWhile blankB) := Lib.hid (by rw [HU.out, hc, List.dropWhile_cons, if_pos hb])
        have hz : (u.extract 1 u.size).size = u.size - 1 := by rw [ByteArray.size_extract]; omega
        clear hc hb
        go_wp2_with fail
        refine k1.mono ?_
        rintro e w1 ⟨rfl, rfl⟩
        clear k1
        go_wp2
        go_roundw
        case rel => exact ⟨u.extract 1 u.size, rfl, by omega, HN, by first | rfl | trivial⟩
        case measure => simp only [Lib.strSize]; omega
end Go.Proofs.YtmabhbihgenmcaaGreatDoor
