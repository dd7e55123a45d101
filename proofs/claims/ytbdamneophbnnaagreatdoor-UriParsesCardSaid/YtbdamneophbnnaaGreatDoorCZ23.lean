/- UbA. -/
import Derived.Test.YtbdamneophbnnaaGreatDoorCZ8
namespace Wb
theorem test_form {s a v : List UInt8} (h : testP s = some (a, v)) : ∃ q : UInt8, (q = 34 ∨ q = 39) ∧ s = 91 :: 64 :: (a ++ 61 :: q :: (v ++ [q, 93])) ∧ (∀ x ∈ a, x ≠ 61) ∧ (∀ x ∈ v, x ≠ q) ∧ (splitB ⟨a.toArray⟩).2.2 = true := by
  unfold testP at h
  split at h
  · rename_i h2
    split at h
    · cases h
    · rename_i n t h61
      obtain ⟨e1, f1⟩ := cutC_some h61
      split at h
      · cases h
      · rename_i q u
        split at h
        · rename_i hq
          split at h
          · cases h
          · rename_i v' e hcq
            obtain ⟨e2, f2⟩ := cutC_some hcq
            split at h
            · rename_i hc
              injection h with h
              injection h with h3 h4
              subst h3 h4
              refine ⟨q, hq, ?_, f1, f2, hc.2⟩
              have := List.take_append_drop 2 s
              rw [h2, e1, e2, hc.1] at this
              rw [← this]
              rfl
            · cases h
        · cases h
  · cases h
theorem test_of {a v : List UInt8} {q : UInt8} (hq : q = 34 ∨ q = 39) (ha : ∀ x ∈ a, x ≠ 61) (hv : ∀ x ∈ v, x ≠ q) (hs : (splitB ⟨a.toArray⟩).2.2 = true) : testP (91 :: 64 :: (a ++ 61 :: q :: (v ++ [q, 93]))) = some (a, v) := by
  unfold testP
  simp only [List.take_succ_cons, List.take_zero, List.drop_succ_cons, List.drop_zero, if_true]
  rw [cutC_at _ ha]
  simp only
  rw [if_pos hq, show v ++ [q, 93] = v ++ q :: [93] from rfl, cutC_at [93] hv]
  simp [hs]
theorem split_ne {a : List UInt8} (h : (splitB ⟨a.toArray⟩).2.2 = true) : a ≠ [] := by
  rintro rfl
  revert h
  decide +kernel
theorem valN_snoc (l : List UInt8) (c : UInt8) : valN (l ++ [c]) = valN l * 10 + (c.toNat - 48) := by
  unfold valN
  rw [List.foldl_append]
  rfl
end Wb
namespace Go.Proofs.YtbdamneophbnnaaGreatDoor
open Go.RowKit Wb
set_option maxHeartbeats 4000000 in
set_option maxRecDepth 100000 in
theorem rposition_any (t : ByteArray) (w : World) (hs : t.size ≤ 1000000000) :
    Calls Tryz.prog 70 #[.string t] w fun e w' => e = .returned (.int .i64 (posP t.data.toList : Nat)) ∧ w = w' := by
  have hsz : t.data.toList.length = t.size := by simp
  obtain ⟨o, ho⟩ : ∃ o, posP t.data.toList = o := ⟨_, rfl⟩
  rw [ho]
  unfold posP at ho
  by_cases h1 : t.size < 1
  · rw [if_neg (by omega)] at ho
    subst ho
    have i1 : (t.size : Int) < 1 := by omega
    go_enter Tryz.func70, Tryz.ntmps70
    go_wp2
    go_ret
    exact ⟨rfl, rfl⟩
  · have i1 : ¬ (t.size : Int) < 1 := by omega
    by_cases h4 : 4 < t.size
    · rw [if_neg (by omega)] at ho
      subst ho
      have i4 : (4 : Int) < (t.size : Int) := by omega
      go_enter Tryz.func70, Tryz.ntmps70
      go_wp2
      go_ret
      exact ⟨rfl, rfl⟩
    · have i4 : ¬ (4 : Int) < (t.size : Int) := by omega
      have h0 : 0 < t.size := by omega
      have hd : t.data.toList.head? = some t[0] := by
        rw [List.head?_eq_getElem?, List.getElem?_eq_getElem (by simpa using h0)]
        rfl
      by_cases h48 : t[0] = 48
      · rw [if_neg (fun h => h.2.2.1 (by rw [hd, h48]))] at ho
        subst ho
        clear hd
        go_enter Tryz.func70, Tryz.ntmps70
        go_wp2
        go_ret
        exact ⟨rfl, rfl⟩
      · have n48 : ¬ (t[0].toNat : Int) = 48 := fun h => h48 (UInt8.toNat_inj.1 (by show t[0].toNat = 48; omega))
        have m48 : ((t[0].toNat : Int) == 48) = false := by rw [beq_eq_false_iff_ne]; exact n48
        have hP : o = if (∀ c ∈ t.data.toList, 48 ≤ c.toNat ∧ c.toNat ≤ 57) then valN t.data.toList else 0 := by
          rw [← ho]
          by_cases hall : ∀ c ∈ t.data.toList, 48 ≤ c.toNat ∧ c.toNat ≤ 57
          · rw [if_pos hall, if_pos ⟨by omega, by omega, by rw [hd]; simpa using h48, hall⟩]
          · rw [if_neg hall, if_neg (fun h => hall h.2.2.2)]
        have HP := Lib.hid hP
        clear ho hP hd h48
        go_enter Tryz.func70, Tryz.ntmps70
        go_wp2
        go_loopw [3, 4] (fun v3 v4 wr => ∃ i : Nat, i ≤ t.size ∧ v4 = .int .i64 i ∧ v3 = .int .i64 (valN (t.data.toList.take i) : Nat) ∧ Hid (∀ c ∈ t.data.toList.take i, 48 ≤ c.toNat ∧ c.toNat ≤ 57) ∧ wr = w) (fun _ v4 _ => t.size - (intOf v4).toNat)
        case atStart => exact ⟨0, by omega, rfl, rfl, Lib.hid (by simp), rfl⟩
        case round =>
          obtain ⟨i, hi, rfl, rfl, HD, rfl⟩ := hrel
          by_cases hit : i < t.size
          · have hil : i < t.data.toList.length := by omega
            obtain ⟨c, hx⟩ : ∃ c, t[i] = c := ⟨_, rfl⟩
            have hc : t.data.toList[i] = c := by rw [← hx]; rfl
            have htk : t.data.toList.take (i + 1) = t.data.toList.take i ++ [c] := by rw [List.take_succ_eq_append_getElem hil, hc]
            have hv := valN_snoc (t.data.toList.take i) c
            rw [← htk] at hv
            have hb : valN (t.data.toList.take i) ≤ 9999 := by
              have h2 := valN_lt (t.data.toList.take i) HD.out 0 0 (by decide)
              have h3 : 10 ^ (0 + (t.data.toList.take i).length) ≤ 10 ^ 4 := Nat.pow_le_pow_right (by decide) (by rw [List.length_take]; omega)
              have h5 : 10 ^ 4 = 10000 := rfl
              unfold valN
              omega
            have hcl := c.toNat_lt
            by_cases hdg : 48 ≤ c.toNat ∧ c.toNat ≤ 57
            · have d1 : ¬ (c.toNat : Int) < 48 := by omega
              have d2 : ¬ (57 : Int) < (c.toNat : Int) := by omega
              have e1 : decide ((c.toNat : Int) < 48) = false := decide_eq_false d1
              have e2 : decide ((57 : Int) < (c.toNat : Int)) = false := decide_eq_false d2
              have HD2 : Hid (∀ x ∈ t.data.toList.take (i + 1), 48 ≤ x.toNat ∧ x.toNat ≤ 57) := Lib.hid (by
                rw [htk]
                intro x hx
                rcases List.mem_append.1 hx with hx | hx
                · exact HD.out x hx
                · rw [List.mem_singleton.1 hx]; exact hdg)
              have hwi : IntKind.i64.wrap ((i : Int) + 1) = (i : Int) + 1 := by rw [IntKind.wrap_i64]; omega
              have HV := Lib.hid hv
              clear hv htk hc HD
              generalize valN (t.data.toList.take i) = n at *
              have w1 : IntKind.i64.wrap ((n : Int) * 10) = (n : Int) * 10 := by rw [IntKind.wrap_i64]; omega
              have w2 : IntKind.i64.wrap ((n : Int) * 10 + (c.toNat : Int)) = (n : Int) * 10 + (c.toNat : Int) := by rw [IntKind.wrap_i64]; omega
              have w3 : IntKind.i64.wrap ((n : Int) * 10 + (c.toNat : Int) - 48) = (n : Int) * 10 + (c.toNat : Int) - 48 := by rw [IntKind.wrap_i64]; omega
              have w4 : IntKind.i64.wrap (c.toNat : Int) = (c.toNat : Int) := by rw [IntKind.wrap_i64]; omega
              go_wp2
              go_roundw
              case rel => exact ⟨i + 1, by omega, by go_num, by rw [HV.out]; congr 1; omega, HD2, trivial⟩
              case measure => simp [intOf]; omega
            · have hz : o = 0 := by
                rw [HP.out, if_neg]
                intro h
                refine hdg (h c ?_)
                rw [← hc]
                exact List.getElem_mem hil
              subst hz
              clear hv htk hc HD HP
              by_cases d1 : (c.toNat : Int) < 48
              · have e1 : decide ((c.toNat : Int) < 48) = true := decide_eq_true d1
                go_wp2
                go_ret
                exact ⟨rfl, rfl⟩
              · have d2 : (57 : Int) < (c.toNat : Int) := by omega
                have e1 : decide ((c.toNat : Int) < 48) = false := decide_eq_false d1
                have e2 : decide ((57 : Int) < (c.toNat : Int)) = true := decide_eq_true d2
                go_wp2
                go_ret
                exact ⟨rfl, rfl⟩
          · have hend : i = t.size := by omega
            have hall := HD.out
            rw [hend, ← hsz, List.take_length] at hall
            have hz : valN (t.data.toList.take i) = o := by rw [hend, ← hsz, List.take_length, HP.out, if_pos hall]
            rw [hz]
            clear hall HD hz HP
            have hi0 : ¬ (i : Int) < (t.size : Int) := by omega
            go_wp2
            go_ret
            exact ⟨rfl, rfl⟩
end Go.Proofs.YtbdamneophbnnaaGreatDoor
