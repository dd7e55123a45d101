/- LeL LeM. -/
import Derived.Test.YtlcjepnaljfpkaaGreatDoorQl13
namespace Go.Proofs.YtlcjepnaljfpkaaGreatDoor
open Go.RowKit Wb
def UnitOut (D : Nat) (s : ByteArray) (fr : Nat) (m : Er Nat) (w : World) (e : Ending) (w' : World) : Prop :=
  Keeps D w w' ∧ match m with
  | .ok a => e = .returned (.tuple #[]) ∧ DocW w' D s fr a
  | .error (p, c) => e = .panicked [flt p c]
theorem take_any (D : Nat) (s : ByteArray) (fr at_ : Nat) (c : UInt8) (w : World) (h : DocW w D s fr at_) (hat : at_ ≤ s.size) (hs : s.size ≤ 1000000) :
    Calls Tryz.prog 111 #[.pointer (some ⟨D, 0, none⟩), .int .u8 (c.toNat : Int)] w fun e w' => UnitOut D s fr (takeX s.data.toList fr at_ c) w e w' := by
  have hnx := next_any D s fr at_ w h hat
  have H := Lib.hid h
  cases hl : s.data.toList.drop at_ with
  | nil =>
    have e1 : takeX s.data.toList fr at_ c = .error (fr, 2) := by unfold takeX; rw [hl]
    have e2 : ∀ e, NextOut s.data.toList fr at_ e → e = .panicked [flt fr 2] := fun e he => by unfold NextOut at he; rw [hl] at he; exact he
    rw [e1]
    clear hl e1 h
    go_enter Tryz.func111, Tryz.ntmps111
    go_wp2_with fail
    refine hnx.mono ?_
    rintro e w1 ⟨he, m, rfl⟩
    obtain rfl := e2 e he
    exact ⟨rfl, Keeps.drewN D w m, rfl⟩
  | cons d r =>
    have e2 : ∀ e, NextOut s.data.toList fr at_ e → e = .returned (.int .u8 (d.toNat : Int)) := fun e he => by unfold NextOut at he; rw [hl] at he; exact he
    by_cases hd : d = c
    · subst hd
      have e1 : takeX s.data.toList fr at_ d = .ok (at_ + 1) := by unfold takeX; rw [hl]; simp
      rw [e1]
      clear hl e1
      have c2 := h.c2
      have f2 := h.f 2
      have hn : ∀ m, (w.drewN m).cell? ⟨D, 2, none⟩ = some (.int .i64 at_) := fun m => h.c2
      have hf : ∀ m, (w.drewN m).frozen? ⟨D, 2, none⟩ = false := fun m => h.f 2
      clear h
      go_enter Tryz.func111, Tryz.ntmps111
      go_wp2_with fail
      refine hnx.mono ?_
      rintro e w1 ⟨he, m, rfl⟩
      obtain rfl := e2 e he
      go_wp2
      go_end0
      exact ⟨(Keeps.drewN D w m).setCell 2 _, rfl, (H.out.drewN m).set2 (at_ + 1)⟩
    · have e1 : takeX s.data.toList fr at_ c = .error (at_, 4) := by unfold takeX; rw [hl]; simp [hd]
      rw [e1]
      have hne : ((d.toNat : Int) == (c.toNat : Int)) = false := by
        simp only [beq_eq_false_iff_ne, ne_eq]
        intro e
        exact hd (UInt8.toNat_inj.1 (by omega))
      clear hl e1 hd
      have c2 := h.c2
      have f2 := h.f 2
      clear h
      go_enter Tryz.func111, Tryz.ntmps111
      go_wp2_with fail
      refine hnx.mono ?_
      rintro e w1 ⟨he, m, rfl⟩
      obtain rfl := e2 e he
      go_wp2_with fail
      refine (fail_any at_ 4 _).mono ?_
      rintro e w2 ⟨rfl, rfl⟩
      exact ⟨rfl, Keeps.drewN D w m, rfl⟩
def StrOut (D : Nat) (s : ByteArray) (fr : Nat) (m : Er (List UInt8 × Nat)) (w : World) (e : Ending) (w' : World) : Prop :=
  Keeps D w w' ∧ match m with
  | .ok (x, a) => e = .returned (.string ⟨x.toArray⟩) ∧ DocW w' D s fr a
  | .error (p, c) => e = .panicked [flt p c]
theorem index_until (p : List UInt8) (hp : p ≠ []) : ∀ l : List UInt8, (Lib.index l p = -1 ∧ untilR p l = none) ∨ ∃ k : Nat, Lib.index l p = k ∧ k + p.length ≤ l.length ∧ untilR p l = some (k + p.length, l.take k)
  | [] => by
    left
    refine ⟨?_, ?_⟩
    · unfold Lib.index
      cases p with
      | nil => exact absurd rfl hp
      | cons c r => rfl
    · unfold untilR; rw [if_neg hp]
  | c :: l => by
    by_cases h : (c :: l).take p.length = p
    · right
      refine ⟨0, ?_, ?_, ?_⟩
      · unfold Lib.index
        rw [if_pos (by rw [pre_take, decide_eq_true h])]
        rfl
      · have := congrArg List.length h
        rw [List.length_take] at this
        omega
      · unfold untilR
        rw [if_pos h]
        simp
    · have e : Lib.index (c :: l) p = if Lib.index l p == -1 then -1 else Lib.index l p + 1 := by
        conv => lhs; unfold Lib.index
        rw [if_neg (by rw [pre_take, decide_eq_false h]; simp)]
      rcases index_until p hp l with ⟨h1, h2⟩ | ⟨k, h1, h2, h3⟩
      · left
        refine ⟨by rw [e, h1]; rfl, ?_⟩
        unfold untilR
        rw [if_neg h, h2]
      · right
        refine ⟨k + 1, ?_, by simp; omega, ?_⟩
        · rw [e, h1, if_neg (by simp)]
          rfl
        · unfold untilR
          rw [if_neg h, h3]
          simp
          omega
theorem cut_until (p : List UInt8) (hp : p ≠ []) (l : List UInt8) :
    (untilR p l = none ∧ Lib.cut l p = (l, [], false)) ∨ ∃ n v, untilR p l = some (n, v) ∧ Lib.cut l p = (v, l.drop n, true) ∧ n = v.length + p.length ∧ n ≤ l.length := by
  rcases index_until p hp l with ⟨h1, h2⟩ | ⟨k, h1, h2, h3⟩
  · left
    refine ⟨h2, ?_⟩
    unfold Lib.cut
    rw [h1, if_neg (by decide)]
  · right
    refine ⟨k + p.length, l.take k, h3, ?_, ?_, h2⟩
    · unfold Lib.cut
      rw [h1, if_pos (by omega)]
      simp
    · rw [List.length_take, Nat.min_eq_left (by omega)]
theorem scut_any (s p : ByteArray) (w : World) (hG : Gv w) (hs : s.size ≤ 100000000) :
    Calls Tryz.prog 99 #[.string s, .string p] w fun e w' => e = .returned (.tuple #[.string ⟨(Lib.cut s.data.toList p.data.toList).1.toArray⟩, .string ⟨(Lib.cut s.data.toList p.data.toList).2.1.toArray⟩, .bool (Lib.cut s.data.toList p.data.toList).2.2]) ∧ ∃ n, w' = w.drewN n := by
  obtain ⟨m, hm⟩ := hG.ml
  exact Tryz.strings_Cut s p m w (by omega) hm
theorem upTo_any (D : Nat) (s p : ByteArray) (fr at_ : Nat) (w : World) (h : DocW w D s fr at_) (hG : Gv w) (hat : at_ ≤ s.size) (hs : s.size ≤ 1000000) (hp : p.data.toList ≠ []) (hps : p.size ≤ 1000) :
    Calls Tryz.prog 108 #[.pointer (some ⟨D, 0, none⟩), .string p] w fun e w' => StrOut D s fr (upToX s.data.toList fr at_ p.data.toList) w e w' := by
  have H := Lib.hid h
  have hrest := rest_any D s fr at_ w h hat
  have hex : (s.extract at_ s.size).data.toList = s.data.toList.drop at_ := by rw [extract_L, List.take_of_length_le (by simp)]
  have hct := scut_any (s.extract at_ s.size) p w.drew hG.drew (by simp; omega)
  rw [hex] at hct
  rcases cut_until p.data.toList hp (s.data.toList.drop at_) with ⟨h1, h2⟩ | ⟨n, v, h1, h2, h3, h4⟩
  · have e1 : upToX s.data.toList fr at_ p.data.toList = .error (fr, 2) := by unfold upToX; rw [h1]
    rw [h2] at hct
    rw [e1]
    have c1 := h.c1
    clear h1 h2 e1 h hex
    generalize (⟨(s.data.toList.drop at_).toArray⟩ : ByteArray) = z at *
    generalize (⟨([] : List UInt8).toArray⟩ : ByteArray) = z0 at *
    go_enter Tryz.func108, Tryz.ntmps108
    go_wp2_with fail
    refine hrest.mono ?_
    rintro e w1 ⟨rfl, rfl⟩
    go_wp2_with fail
    refine hct.mono ?_
    rintro e w1 ⟨rfl, m, rfl⟩
    go_wp2_with fail
    refine (fail_any fr 2 _).mono ?_
    rintro e w2 ⟨rfl, rfl⟩
    exact ⟨rfl, Keeps.drewN D w (1 + m), rfl⟩
  · have e1 : upToX s.data.toList fr at_ p.data.toList = .ok (v, at_ + n) := by unfold upToX; rw [h1]
    rw [h2] at hct
    rw [e1]
    obtain ⟨z, hz⟩ : ∃ z : ByteArray, (⟨v.toArray⟩ : ByteArray) = z := ⟨_, rfl⟩
    have HZ := Lib.hid hz
    have hvl : (⟨v.toArray⟩ : ByteArray).size + p.size = n := by rw [Lib.size_eq, Lib.size_eq p, h3]
    have hn1 : n ≤ s.size := by rw [List.length_drop] at h4; rw [Lib.size_eq]; omega
    rw [hz] at hvl
    have HV := Lib.hid hvl
    simp only [hz] at hct
    have c2 := h.c2
    have f2 := h.f 2
    clear h1 h2 h3 h4 e1 h hex hvl hz
    generalize (⟨((s.data.toList.drop at_).drop n).toArray⟩ : ByteArray) = z0 at *
    go_enter Tryz.func108, Tryz.ntmps108
    go_wp2_with fail
    refine hrest.mono ?_
    rintro e w1 ⟨rfl, rfl⟩
    go_wp2_with fail
    refine hct.mono ?_
    rintro e w1 ⟨rfl, m, rfl⟩
    have b1 : (z.size : Int) ≤ 1000000 := by have := HV.out; omega
    have e : (at_ : Int) + ((z.size : Int) + (p.size : Int)) = ((at_ + n : Nat) : Int) := by have := HV.out; omega
    have HE := Lib.hid e
    clear e
    go_wp2
    go_ret
    rw [HE.out]
    exact ⟨(Keeps.drewN D w (1 + m)).setCell 2 _, by rw [HZ.out]; rfl, (H.out.drewN (1 + m)).set2 (at_ + n)⟩
end Go.Proofs.YtlcjepnaljfpkaaGreatDoor
namespace Go.Proofs.YtlcjepnaljfpkaaGreatDoor
open Go.RowKit Wb
theorem dropW_len (L : List UInt8) (at_ : Nat) : ((L.drop at_).dropWhile blkB).length + blankN L at_ = (L.drop at_).length := by
  unfold blankN
  conv => rhs; rw [← List.takeWhile_append_dropWhile (p := blkB) (l := L.drop at_)]
  rw [List.length_append]
  omega
theorem blankN_le (L : List UInt8) (at_ : Nat) (h : at_ ≤ L.length) : at_ + blankN L at_ ≤ L.length := by
  have := dropW_len L at_
  rw [List.length_drop] at this
  omega
theorem blanks_any (D : Nat) (s : ByteArray) (fr at_ : Nat) (w : World) (h : DocW w D s fr at_) (hat : at_ ≤ s.size) (hs : s.size ≤ 1000000) :
    Calls Tryz.prog 110 #[.pointer (some ⟨D, 0, none⟩)] w fun e w' => e = .returned (.bool (decide (0 < blankN s.data.toList at_))) ∧ Keeps D w w' ∧ DocW w' D s fr (at_ + blankN s.data.toList at_) := by
  have H := Lib.hid h
  have hr1 := rest_any D s fr at_ w h hat
  have hr2 := rest_any D s fr at_ w.drew h hat
  have hex : (s.extract at_ s.size).data.toList = s.data.toList.drop at_ := by rw [extract_L, List.take_of_length_le (by simp)]
  have hsk := skip_any (s.extract at_ s.size)
  rw [hex] at hsk
  have hln := dropW_len s.data.toList at_
  have hle := blankN_le s.data.toList at_ (by rw [← Lib.size_eq]; exact hat)
  rw [← Lib.size_eq] at hle
  obtain ⟨z, hz⟩ : ∃ z : ByteArray, z = ⟨((s.data.toList.drop at_).dropWhile blkB).toArray⟩ := ⟨_, rfl⟩
  have hzs : z.size + blankN s.data.toList at_ = s.size - at_ := by
    rw [Lib.size_eq z, hz, toL, hln, List.length_drop, ← Lib.size_eq]
  rw [← hz] at hsk
  obtain ⟨n, hn⟩ : ∃ n, blankN s.data.toList at_ = n := ⟨_, rfl⟩
  rw [hn] at hzs hle ⊢
  have he : (s.extract at_ s.size).size = s.size - at_ := by simp
  have c2 := h.c2
  have f2 := h.f 2
  have hsz : (s.extract at_ s.size).size ≤ 100000000 := by omega
  have HC := Lib.hid (show (at_ : Int) + (((s.extract at_ s.size).size : Int) - (z.size : Int)) = ((at_ + n : Nat) : Int) by omega)
  have HF := Lib.hid (show decide (z.size < (s.extract at_ s.size).size) = decide (0 < n) by
    congr 1
    simp only [eq_iff_iff]
    omega)
  clear hex hln hz hn h he
  generalize s.extract at_ s.size = q at *
  go_enter Tryz.func110, Tryz.ntmps110
  go_wp2_with fail
  refine hr1.mono ?_
  rintro e w1 ⟨rfl, rfl⟩
  go_wp2_with fail
  refine hr2.mono ?_
  rintro e w1 ⟨rfl, rfl⟩
  go_wp2_with fail
  refine (hsk _ hsz).mono ?_
  rintro e w1 ⟨rfl, rfl⟩
  go_wp2
  go_ret
  rw [HC.out, HF.out]
  exact ⟨rfl, (((Keeps.refl D w).setCell 2 _).drew).drew, ((H.out.set2 (at_ + n)).drew).drew⟩
theorem takeW_take (p : UInt8 → Bool) : ∀ (l : List UInt8) (n : Nat), (∀ j (h : j < l.length), j < n → p l[j] = true) → n ≤ l.length → (∀ h : n < l.length, p l[n] = false) → l.takeWhile p = l.take n
  | [], n, _, h, _ => by simp
  | c :: l, 0, _, _, h0 => by
    have := h0 (by simp)
    simp only [List.getElem_cons_zero] at this
    simp [this]
  | c :: l, n + 1, h, hn, h0 => by
    have hc := h 0 (by simp) (by omega)
    simp only [List.getElem_cons_zero] at hc
    rw [List.takeWhile_cons, hc, if_pos rfl, List.take_succ_cons, takeW_take p l n (fun j hj hjn => by have := h (j + 1) (by simpa using hj) (by omega); simpa using this) (by simpa using hn) (fun hl => by have := h0 (by simpa using hl); simpa using this)]
theorem word_is (s : ByteArray) (at_ k : Nat) (hk : at_ ≤ k) (hks : k ≤ s.size) (hall : ∀ j (h : j < s.size), at_ ≤ j → j < k → wordB s[j] = true) (hend : ∀ h : k < s.size, wordB s[k] = false) :
    (s.data.toList.drop at_).takeWhile wordB = (s.extract at_ k).data.toList := by
  rw [extract_L]
  refine takeW_take wordB _ _ ?_ ?_ ?_
  · intro j hj hjn
    rw [List.getElem_drop]
    have hl := Lib.size_eq s
    have := hall (at_ + j) (by rw [List.length_drop] at hj; omega) (by omega) (by omega)
    exact this
  · rw [List.length_drop, ← Lib.size_eq]; omega
  · intro h
    rw [List.getElem_drop]
    have hl := Lib.size_eq s
    have hkk : at_ + (k - at_) = k := by omega
    have := hend (by rw [List.length_drop] at h; omega)
    simp only [hkk]
    exact this
theorem word_any (D : Nat) (s : ByteArray) (fr at_ : Nat) (w : World) (h : DocW w D s fr at_) (hat : at_ ≤ s.size) (hs : s.size ≤ 1000000) :
    Calls Tryz.prog 139 #[.pointer (some ⟨D, 0, none⟩)] w fun e w' => e = .returned (.string ⟨(wordX s.data.toList at_).toArray⟩) ∧ ∃ m, w' = w.drewN m := by
  have c0 := h.c0
  have c2 := h.c2
  clear h
  obtain ⟨r, hr⟩ : ∃ r, wordX s.data.toList at_ = r := ⟨_, rfl⟩
  have HR := Lib.hid hr
  rw [hr]
  clear hr
  have hwd := fun (c : UInt8) w => ofWord_any c w
  go_enter Tryz.func139, Tryz.ntmps139
  go_wp2
  go_loop [3] (fun v => ∃ k : Nat, v = .int .i64 k ∧ at_ ≤ k ∧ k ≤ s.size ∧ Hid (∀ j (h : j < s.size), at_ ≤ j → j < k → wordB s[j] = true)) (fun v => s.size - (intOf v).toNat)
  case atStart => exact ⟨at_, rfl, Nat.le_refl _, hat, Lib.hid (fun j _ h1 h2 => absurd h2 (by omega))⟩
  case round =>
    obtain ⟨k, rfl, hk, hks, HA⟩ := hrel
    by_cases hlt : k < s.size
    · cases hb : wordB s[k]
      · have HW := Lib.hid (word_is s at_ k hk hks HA.out (fun _ => hb))
        have HB := Lib.hid hb
        by_cases hlen : k - at_ ≤ 129
        · have HE : Hid (r = (s.extract at_ k).data.toList) := Lib.hid (by
            rw [← HR.out]
            unfold wordX
            rw [HW.out, if_pos (by rw [← Lib.size_eq]; simp; omega)])
          have l1 : ¬ (129 : Int) < (k : Int) - (at_ : Int) := by omega
          have l2 : (at_ : Int) ≤ (k : Int) := by omega
          have l3 : (k : Int) ≤ (s.size : Int) := by omega
          clear hb HA hlen
          go_wp2_with fail
          refine (hwd _ _).mono ?_
          rw [HB.out]
          rintro e w1 ⟨rfl, rfl⟩
          go_wp2
          go_region
          go_wp2
          go_ret
          rw [HE.out]
          exact ⟨rfl, 1, rfl⟩
        · have HE : Hid (r = []) := Lib.hid (by
            rw [← HR.out]
            unfold wordX
            rw [HW.out, if_neg (by rw [← Lib.size_eq]; simp; omega)])
          have l1 : (129 : Int) < (k : Int) - (at_ : Int) := by omega
          clear hb HA hlen
          go_wp2_with fail
          refine (hwd _ _).mono ?_
          rw [HB.out]
          rintro e w1 ⟨rfl, rfl⟩
          go_wp2
          go_ret
          rw [HE.out]
          exact ⟨rfl, 0, rfl⟩
      · have HN : Hid (∀ j (h : j < s.size), at_ ≤ j → j < k + 1 → wordB s[j] = true) := Lib.hid (fun j hj h1 h2 => by
          by_cases e : j = k
          · subst e; exact hb
          · exact HA.out j hj h1 (by omega))
        have HB := Lib.hid hb
        clear hb HA
        go_wp2_with fail
        refine (hwd _ _).mono ?_
        rw [HB.out]
        rintro e w1 ⟨rfl, rfl⟩
        go_wp2
        go_round
        case rel => exact ⟨k + 1, by go_num, by omega, by omega, HN⟩
        case measure => simp [intOf]; omega
    · obtain rfl : k = s.size := by omega
      have HW := Lib.hid (word_is s at_ s.size hk hks HA.out (fun h => absurd h (by omega)))
      by_cases hlen : s.size - at_ ≤ 129
      · have HE : Hid (r = (s.extract at_ s.size).data.toList) := Lib.hid (by
          rw [← HR.out]
          unfold wordX
          rw [HW.out, if_pos (by rw [← Lib.size_eq]; simp; omega)])
        have l1 : ¬ (129 : Int) < (s.size : Int) - (at_ : Int) := by omega
        have l2 : (at_ : Int) ≤ (s.size : Int) := by omega
        clear HA hlen hlt
        go_wp2
        go_region
        go_wp2
        go_ret
        rw [HE.out]
        exact ⟨rfl, 1, rfl⟩
      · have HE : Hid (r = []) := Lib.hid (by
          rw [← HR.out]
          unfold wordX
          rw [HW.out, if_neg (by rw [← Lib.size_eq]; simp; omega)])
        have l1 : (129 : Int) < (s.size : Int) - (at_ : Int) := by omega
        clear HA hlen hlt
        go_wp2
        go_ret
        rw [HE.out]
        exact ⟨rfl, 0, rfl⟩
end Go.Proofs.YtlcjepnaljfpkaaGreatDoor
