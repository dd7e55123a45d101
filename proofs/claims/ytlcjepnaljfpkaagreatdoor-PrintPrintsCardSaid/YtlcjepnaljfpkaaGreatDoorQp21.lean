/- SpD SoA SoN QnB QnF QnG. -/
import Derived.Test.YtlcjepnaljfpkaaGreatDoorRows
import Derived.Test.YtlcjepnaljfpkaaGreatDoorQp6
import Derived.Test.YtlcjepnaljfpkaaGreatDoorQp7
import Derived.Test.YtlcjepnaljfpkaaGreatDoorQp8
import Derived.Test.YtlcjepnaljfpkaaGreatDoorQp9
import Derived.Test.YtlcjepnaljfpkaaGreatDoorQp13
import Derived.Test.YtlcjepnaljfpkaaGreatDoorQp14
import Derived.Test.YtlcjepnaljfpkaaGreatDoorQp20
namespace Wb
theorem ext_one (s : ByteArray) (i : Nat) (h : i < s.size) (k : UInt8) : ((s.extract i (i + 1)).toList == [k]) = decide (s[i] = k) := by
  have e : (s.extract i (i + 1)).toList = [s[i]] := by
    rw [Go.ByteArray.toList_eq, ext_list, drop_cons s i h]
    simp
  rw [e]
  by_cases hk : s[i] = k <;> simp [hk]
theorem esc_take (attr : Bool) {s : ByteArray} {i : Nat} (h : i < s.size) : escL attr (s.data.toList.take (i + 1)) = escL attr (s.data.toList.take i) ++ escB attr s[i] := by
  have hi : s.data.toList[i]? = some s[i] := by
    rw [List.getElem?_eq_getElem (by simpa using h)]
    rfl
  rw [List.take_add_one, hi]
  show escL attr (s.data.toList.take i ++ [s[i]]) = _
  rw [escL_app]
  simp [escL]
theorem b8_dig (m : Nat) : b8 (48 + (m : Int)) = (48 + m).toUInt8 := by
  unfold b8
  rw [show (48 + (m : Int)).toNat = 48 + m from by omega]
end Wb
namespace Go.Proofs.YtlcjepnaljfpkaaGreatDoor
open Go.RowKit Wb
set_option maxRecDepth 100000 in
set_option maxHeartbeats 4000000 in
theorem resc_any (s : ByteArray) (attr : Bool) (w : World) (hs : s.size ≤ 1000000000) :
    Calls Tryz.prog 17 #[.string s, .bool attr] w fun e w' => e = .returned (.string ⟨(escL attr s.data.toList).toArray⟩) ∧ Below w.heap.size w w' := by
  obtain ⟨i0, hi, hz0, hz1, hz2⟩ := info_parts byte_info
  go_enter Tryz.func17, Tryz.ntmps17
  go_wp2
  go_loopw [5, 6] (fun vb vi wr => ∃ (i : Nat) (out : List UInt8), i ≤ s.size ∧ vi = .int .i64 i ∧ out.length ≤ 6 * i ∧ Hid (out = escL attr (s.data.toList.take i)) ∧ Hid (wr.ownsRow w.heap.size 5 1 vb out.length (cellsB out)) ∧ Hid (Below w.heap.size w wr)) (fun _ vi _ => ((s.size : Int) - intOf vi).toNat)
  case atStart => exact ⟨0, [], by omega, rfl, by simp, Lib.hid (by simp [escL]), Lib.hid (World.ownsRow_nil _ _ _ _), Lib.hid (Below.refl _ _)⟩
  case round =>
    obtain ⟨i, out, hil, rfl, hol, HO, HW, HB⟩ := hrel
    by_cases h0 : i < s.size
    · obtain ⟨c, hc⟩ : ∃ c, s[i] = c := ⟨_, rfl⟩
      have t38 := ext_one s i h0 38
      have t60 := ext_one s i h0 60
      have t13 := ext_one s i h0 13
      have t62 := ext_one s i h0 62
      have t34 := ext_one s i h0 34
      have t9 := ext_one s i h0 9
      have t10 := ext_one s i h0 10
      have hxl : List.take 1 (s.data.toList.drop i) = [c] := by
        rw [drop_cons s i h0, hc]
        rfl
      have HE := Lib.hid (esc_take attr h0)
      rw [hc] at t38 t60 t13 t62 t34 t9 t10 HE
      have hi1 : (i : Int) + 1 ≤ (s.size : Int) := by omega
      clear hc
      have hcl : (c = 38 ∨ c = 60 ∨ c = 13 ∨ c = 62 ∨ c = 34 ∨ c = 9 ∨ c = 10) ∨ (c ≠ 38 ∧ c ≠ 60 ∧ c ≠ 13 ∧ c ≠ 62 ∧ c ≠ 34 ∧ c ≠ 9 ∧ c ≠ 10) := by
        by_cases a1 : c = 38 <;> by_cases a2 : c = 60 <;> by_cases a3 : c = 13 <;> by_cases a4 : c = 62 <;> by_cases a5 : c = 34 <;> by_cases a6 : c = 9 <;> by_cases a7 : c = 10 <;> simp [a1, a2, a3, a4, a5, a6, a7]
      have hxs : (s.extract i (i + 1)).size = 1 := by rw [ByteArray.size_extract]; omega
      have hez : (ByteArray.mk (escB attr c).toArray).size ≤ 6 := by
        show (escB attr c).toArray.size ≤ 6
        rw [List.size_toArray]; exact (escB_len attr c).2
      have hmA : out.length + (ByteArray.mk (escB attr c).toArray).size ≤ maxLen := by simp only [maxLen]; omega
      have hmB : (out.length + (ByteArray.mk (escB attr c).toArray).size) * 1 ≤ 140737488355328 := by omega
      have hmC : out.length + (s.extract i (i + 1)).size ≤ maxLen := by rw [hxs]; simp only [maxLen]; omega
      have hmD : (out.length + (s.extract i (i + 1)).size) * 1 ≤ 140737488355328 := by rw [hxs]; omega
      clear hez
      have hbs := HB.out.size
      rcases hcl with h | ⟨a1, a2, a3, a4, a5, a6, a7⟩
      case' inr =>
        replace t38 := t38.trans (decide_eq_false a1)
        replace t60 := t60.trans (decide_eq_false a2)
        replace t13 := t13.trans (decide_eq_false a3)
        replace t62 := t62.trans (decide_eq_false a4)
        replace t34 := t34.trans (decide_eq_false a5)
        replace t9 := t9.trans (decide_eq_false a6)
        replace t10 := t10.trans (decide_eq_false a7)
        have hesc : escB attr c = [c] := by
          unfold escB refB
          simp [a1, a2, a3, a4, a5, a6, a7]
        rw [hesc] at HE
        clear a1 a2 a3 a4 a5 a6 a7 hesc
      case' inl => rcases h with rfl | rfl | rfl | rfl | rfl | rfl | rfl
      all_goals
        cases attr
        all_goals
          try first | replace t38 := t38.trans (show _ = true by decide) | replace t38 := t38.trans (show _ = false by decide)
          try first | replace t60 := t60.trans (show _ = true by decide) | replace t60 := t60.trans (show _ = false by decide)
          try first | replace t13 := t13.trans (show _ = true by decide) | replace t13 := t13.trans (show _ = false by decide)
          try first | replace t62 := t62.trans (show _ = true by decide) | replace t62 := t62.trans (show _ = false by decide)
          try first | replace t34 := t34.trans (show _ = true by decide) | replace t34 := t34.trans (show _ = false by decide)
          try first | replace t9 := t9.trans (show _ = true by decide) | replace t9 := t9.trans (show _ = false by decide)
          try first | replace t10 := t10.trans (show _ = true by decide) | replace t10 := t10.trans (show _ = false by decide)
          go_wp2_with (at_builtin; first
            | refine wpList_append_str _ rfl _ _ _ _ rfl w.heap.size 5 i0 _ 1 Tryz.underlying69 Tryz.underlying9 hi hz0 hz1 hz2 rfl _ out.length (cellsB out) rfl HW.out _ rfl hmC hmD hbs ?_
            | refine wpList_append_str _ rfl _ _ _ _ rfl w.heap.size 5 i0 _ 1 Tryz.underlying69 Tryz.underlying9 hi hz0 hz1 hz2 rfl _ out.length (cellsB out) rfl HW.out _ rfl hmA hmB hbs ?_)
          intro v4 w4 hown4 hg4 hat4
          have HB4 := Lib.hid (HB.out.grown hg4 HB.out.size (fun g hg => (HW.out.lt g hg).1))
          try rw [hxl] at hown4
          have HOWN4 := Lib.hid (show w4.ownsRow w.heap.size 5 1 v4 (escL _ (s.data.toList.take (i + 1))).length (cellsB (escL _ (s.data.toList.take (i + 1)))) by
            rw [HE.out, ← HO.out, List.length_append, cellsB_append]; exact hown4)
          have HL := fun b => Nat.le_trans (escL_len b (s.data.toList.take (i + 1))).2 (Nat.mul_le_mul_left 6 (show (s.data.toList.take (i + 1)).length ≤ i + 1 by rw [List.length_take]; omega))
          clear hown4 hg4 hat4 HW HO HB HE t38 t60 t13 t62 t34 t9 t10 hxl hxs hmA hmB hmC hmD
          go_wp2
          go_roundw
          case rel => exact ⟨i + 1, _, by omega, by go_num, HL _, Lib.hid rfl, HOWN4, HB4⟩
          case measure => simp [intOf]; omega
    · have hil2 : i = s.size := by omega
      have HO2 : Hid (out = escL attr s.data.toList) := Lib.hid (by rw [HO.out, List.take_of_length_le (by simp; omega)])
      by_cases ho : out = []
      · have HZ : Hid (escL attr s.data.toList = []) := Lib.hid (by rw [← HO2.out, ho])
        subst ho
        rcases HW.out.2 with ⟨rfl, _⟩ | ⟨g, cap, cur, rfl, _⟩
        · have hconv := run_text_none wr
          go_wp2
          go_ret
          exact ⟨by rw [HZ.out]; rfl, HB.out⟩
        · have hconv := run_text_empty wr g cap
          go_wp2
          go_ret
          exact ⟨by rw [HZ.out]; rfl, HB.out⟩
      · have hconv := run_text_own out HW.out ho
        clear ho
        go_wp2
        go_ret
        exact ⟨by rw [← HO2.out]; rfl, HB.out⟩
set_option maxRecDepth 100000 in
set_option maxHeartbeats 1000000 in
theorem rnumber_any (n : Nat) (h : n < 100) (w : World) :
    Calls Tryz.prog 59 #[.int .i64 n] w fun e w' => e = .returned (.string ⟨(digT n).toArray⟩) ∧ Below w.heap.size w w' := by
  have k1 := fun a v => run_text_new v 5 #[.int .u8 a] [a] 1 rfl rfl
  have HD : Hid (digT n = if n < 10 then [(48 + n).toUInt8] else [(48 + n / 10).toUInt8, (48 + n % 10).toUInt8]) := Lib.hid rfl
  by_cases h10 : n < 10
  · have hi10 : ¬ ((9 : Int) < (n : Int)) := by omega
    have HB1 := Lib.hid ((Below.refl w.heap.size w).alloc (Nat.le_refl _) (.cells #[.int .u8 (48 + (n : Int) % 10)] 5))
    go_enter Tryz.func59, Tryz.ntmps59
    go_wp2
    go_ret
    refine ⟨ret_s ?_, HB1.out⟩
    rw [HD.out, if_pos h10]
    show ByteArray.mk #[b8 (48 + (n : Int) % 10)] = ByteArray.mk #[(48 + n).toUInt8]
    rw [show (n : Int) % 10 = (n : Int) from by omega, b8_dig]
  · have hi10 : (9 : Int) < (n : Int) := by omega
    have k2 : ∀ a b : Int, (convert 69 9 (.slice (some ⟨w.heap.size + 1, 0, none⟩) 1 1)).run Tryz.prog ((w.alloc (.cells #[.int .u8 a] 5)).alloc (.cells #[.int .u8 b] 5)) = .ok (.string ⟨#[b8 b]⟩) ((w.alloc (.cells #[.int .u8 a] 5)).alloc (.cells #[.int .u8 b] 5)) := fun a b => by
      have := k1 b (w.alloc (.cells #[.int .u8 a] 5))
      simpa using this
    have HB2 := Lib.hid (((Below.refl w.heap.size w).alloc (Nat.le_refl _) (.cells #[.int .u8 (48 + (n : Int) % 10)] 5)).alloc (by simp) (.cells #[.int .u8 (48 + (n : Int) / 10)] 5))
    go_enter Tryz.func59, Tryz.ntmps59
    go_wp2
    go_ret
    refine ⟨ret_s ?_, HB2.out⟩
    rw [HD.out, if_neg h10]
    show ByteArray.mk #[b8 (48 + (n : Int) / 10)] ++ ByteArray.mk #[b8 (48 + (n : Int) % 10)] = ByteArray.mk #[(48 + n / 10).toUInt8, (48 + n % 10).toUInt8]
    rw [show (n : Int) % 10 = ((n % 10 : Nat) : Int) from by omega, show (n : Int) / 10 = ((n / 10 : Nat) : Int) from by omega, b8_dig, b8_dig]
    rfl
end Go.Proofs.YtlcjepnaljfpkaaGreatDoor
namespace Wb
open Go.Lib (compareBytes)
open Go
theorem less_cmp : ∀ a b : List UInt8, Op.bytesLess a b = decide (compareBytes a b = -1)
  | [], [] => by simp [Op.bytesLess, compareBytes]
  | _ :: _, [] => by simp [Op.bytesLess, compareBytes]
  | [], _ :: _ => by simp [Op.bytesLess, compareBytes]
  | x :: a, y :: b => by
    rw [Op.bytesLess, compareBytes, less_cmp a b]
    rcases u8_three x y with h | h | h
    · simp [h]
    · subst h
      have hx : ¬ x < x := by rw [u8_ltI]; omega
      simp [hx]
    · have h1 : ¬ x < y := by have := (u8_ltI _ _).1 h; rw [u8_ltI]; omega
      have h2 : (x == y) = false := by
        rw [beq_eq_false_iff_ne]
        intro e; subst e; exact h1 h
      simp [h1, h2, h]
def lessB (a b : Tr) : Bool := if eqT a.1.1 b.1.1 = true then Op.bytesLess a.1.2.toList b.1.2.toList else Op.bytesLess a.1.1.toList b.1.1.toList
theorem lessB_dec (a b : Tr) : lessB a b = decide (ltT a b) := by
  have e : ∀ s : ByteArray, s.toList = s.data.toList := fun s => ByteArray.toList_eq s
  unfold lessB ltT cmpT
  simp only [less_cmp, e]
  by_cases h : eqT a.1.1 b.1.1 = true
  · rw [if_pos h]
    have hz := (cmpB_zero a.1.1.data.toList b.1.1.data.toList).2 (by rw [(eqT_iff _ _).1 h])
    simp [hz]
  · rw [if_neg h]
    have hz : compareBytes a.1.1.data.toList b.1.1.data.toList ≠ 0 := fun hz => h ((eqT_iff _ _).2 (ba_data ((cmpB_zero _ _).1 hz)))
    simp [hz]
theorem insT_at (x : Tr) : ∀ (l : List Tr) (k : Nat), k ≤ l.length → (∀ j y, j < k → l[j]? = some y → lessB y x = true) → (∀ y, l[k]? = some y → lessB y x = false) → insT x l = l.take k ++ x :: l.drop k
  | [], k, hk, _, _ => by
    have : k = 0 := by simpa using hk
    subst this; rfl
  | y :: l, 0, _, _, h => by
    have := h y rfl
    rw [lessB_dec] at this
    unfold insT
    rw [if_neg (by simpa using this)]
    rfl
  | y :: l, k + 1, hk, ha, h => by
    have := ha 0 y (by omega) rfl
    rw [lessB_dec] at this
    unfold insT
    rw [if_pos (by simpa using this), insT_at x l k (by simpa using hk) (fun j z hj hz => ha (j + 1) z (by omega) (by simpa using hz)) (fun z hz => h z (by simpa using hz))]
    rfl
theorem sortA_app : ∀ (l m acc : List Tr), sortA acc (l ++ m) = sortA (sortA acc l) m
  | [], _, _ => rfl
  | x :: l, m, acc => by
    rw [List.cons_append, sortA, sortA_app l m, sortA]
theorem sortT_take {l : List Tr} {i : Nat} {x : Tr} (h : l[i]? = some x) : sortT (l.take (i + 1)) = insT x (sortT (l.take i)) := by
  unfold sortT
  rw [List.take_add_one, h]
  show sortA [] (l.take i ++ [x]) = _
  rw [sortA_app]
  rfl
end Wb
namespace Wb
open Go.Lib (compareBytes)
def leS (a b : ByteArray) : Prop := compareBytes b.data.toList a.data.toList ≠ -1
theorem leS_one {a b : ByteArray} (h1 : leS a b) (h2 : leS b a) : a = b := by
  unfold leS at h1 h2
  rcases cmpB_cases a.data.toList b.data.toList with h | h | h
  · exact absurd h h2
  · exact ba_data ((cmpB_zero _ _).1 h)
  · have := cmpB_neg a.data.toList b.data.toList
    exact absurd (by omega) h1
theorem rise_spaces {l : List Tr} (h : Rise l) : ((l.map (·.1.1)).filter needs).Pairwise leS := by
  refine List.Pairwise.filter _ ?_
  rw [List.pairwise_map]
  refine List.Pairwise.imp ?_ h
  intro a b hab hc
  refine hab ?_
  unfold ltT cmpT
  simp only
  rw [if_pos (by rw [hc]; decide)]
  exact hc
theorem once_in : ∀ (l : List ByteArray) (x : ByteArray), x ∈ onceT l → x ∈ l
  | [], _, h => by simp [onceT] at h
  | [_], _, h => by simpa [onceT] using h
  | x :: y :: l, z, h => by
    rw [onceT] at h
    split at h
    · exact List.mem_cons_of_mem _ (once_in (y :: l) z h)
    · rcases List.mem_cons.1 h with rfl | h
      · simp
      · exact List.mem_cons_of_mem _ (once_in (y :: l) z h)
theorem once_nodup : ∀ (l : List ByteArray), l.Pairwise leS → (onceT l).Pairwise (· ≠ ·)
  | [], _ => by simp [onceT]
  | [x], _ => by simp [onceT]
  | x :: y :: l, h => by
    obtain ⟨h1, h2⟩ := List.pairwise_cons.1 h
    rw [onceT]
    split
    · exact once_nodup (y :: l) h2
    · rename_i hxy
      refine List.pairwise_cons.2 ⟨fun z hz e => ?_, once_nodup (y :: l) h2⟩
      subst e
      have hz := once_in _ _ hz
      rcases List.mem_cons.1 hz with e | hz
      · exact hxy e
      · exact hxy (leS_one (h1 y (by simp)) ((List.pairwise_cons.1 h2).1 x hz))
theorem spaces_nodup {l : List Tr} (h : Rise l) : (spacesT l).Pairwise (· ≠ ·) := once_nodup _ (rise_spaces h)
theorem once_last : ∀ (l : List ByteArray), (onceT l).getLast? = l.getLast?
  | [] => rfl
  | [x] => rfl
  | x :: y :: l => by
    rw [onceT]
    have ih := once_last (y :: l)
    split
    · rw [ih, List.getLast?_cons_cons]
    · have hne : onceT (y :: l) ≠ [] := by
        intro e
        rw [e] at ih
        have h2 : (y :: l).getLast? ≠ none := by rw [Ne, List.getLast?_eq_none_iff]; simp
        exact h2 ih.symm
      rw [List.getLast?_cons_cons, ← ih]
      cases ho : onceT (y :: l) with
      | nil => exact absurd ho hne
      | cons z m => rw [List.getLast?_cons_cons]
theorem idx_nodup {p : List ByteArray} (hn : p.Pairwise (· ≠ ·)) {k : Nat} {s : ByteArray} (h : p[k]? = some s) : idxB s p = k := by
  obtain ⟨hk, e⟩ := List.getElem?_eq_some_iff.1 h
  refine idxB_at hk e (fun j hj hjk e2 => ?_)
  exact List.pairwise_iff_getElem.1 hn j k hj hk hjk (by rw [e2, e])
def preK (p : List ByteArray) (s : ByteArray) (k : Nat) (a loc : List UInt8) : Prop :=
  ((∀ j t, j < k → p[j]? = some t → t ≠ s) ∧ a = (if s = sXML then sXmlK else []) ++ loc) ∨ ∃ j, j < k ∧ p[j]? = some s ∧ a = numT j ++ (58 :: loc)
theorem preK_start (p : List ByteArray) (s : ByteArray) (loc : List UInt8) : preK p s 0 ((if s = sXML then sXmlK else []) ++ loc) loc := .inl ⟨fun _ _ h => by omega, rfl⟩
theorem preK_no {p : List ByteArray} {s t : ByteArray} {k : Nat} {a loc : List UInt8} (h : preK p s k a loc) (ht : p[k]? = some t) (hne : t ≠ s) : preK p s (k + 1) a loc := by
  rcases h with ⟨h1, h2⟩ | ⟨j, h1, h2⟩
  · refine .inl ⟨fun j u hj hu => ?_, h2⟩
    by_cases e : j = k
    · subst e
      rw [ht] at hu
      injection hu with hu
      rw [← hu]; exact hne
    · exact h1 j u (by omega) hu
  · exact .inr ⟨j, by omega, h2⟩
theorem preK_yes {p : List ByteArray} (hn : p.Pairwise (· ≠ ·)) {s : ByteArray} (hs : s ≠ sXML) {k : Nat} {a loc : List UInt8} (h : preK p s k a loc) (ht : p[k]? = some s) : preK p s (k + 1) (numT k ++ (58 :: a)) loc := by
  rcases h with ⟨h1, h2⟩ | ⟨j, h1, h2, _⟩
  · rw [if_neg hs] at h2
    exact .inr ⟨k, by omega, ht, by rw [h2]; rfl⟩
  · have e1 := idx_nodup hn h2
    have e2 := idx_nodup hn ht
    omega
theorem preK_end {p : List ByteArray} (hn : p.Pairwise (· ≠ ·)) {s : ByteArray} (hp : ∀ t ∈ p, needs t = true) (hin : needs s = true → s ∈ p) {a loc : List UInt8} (h : preK p s p.length a loc) : a = preT p s ++ loc := by
  unfold preT
  rcases h with ⟨h1, h2⟩ | ⟨j, h1, h2, h3⟩
  · have hns : needs s ≠ true := fun h => by
      obtain ⟨j, hj, e⟩ := List.mem_iff_getElem.1 (hin h)
      exact h1 j s hj (by rw [List.getElem?_eq_getElem hj, e]) rfl
    rw [h2]
    by_cases e1 : s = sE
    · subst e1
      rw [if_neg (by decide), if_pos rfl]
    · rw [if_neg e1]
      by_cases e2 : s = sXML
      · rw [if_pos e2, if_pos e2]
      · exfalso
        apply hns
        unfold needs
        rw [eqT_dec, eqT_dec]
        simp [e1, e2]
  · have hs := hp s (List.mem_of_getElem? h2)
    unfold needs at hs
    rw [eqT_dec, eqT_dec] at hs
    simp only [Bool.and_eq_true, Bool.not_eq_true', decide_eq_false_iff_not] at hs
    rw [if_neg hs.1, if_neg hs.2, idx_nodup hn h2, h3, List.append_assoc]
    rfl
theorem spaces_need {l : List Tr} : ∀ t ∈ spacesT l, needs t = true := fun t h => ((spcT_mem l t).1 h).2
end Wb
namespace Go.Proofs.YtlcjepnaljfpkaaGreatDoor
open Go.RowKit Wb
theorem lit_of (p q : ByteArray) (l : List UInt8) (h : q.data.toList = l) : (p.toList == l) = eqT p q := by
  unfold eqT; rw [ByteArray.toList_eq q, h]
theorem bind_fact (p s : ByteArray) {e1 n b1 b2 b3 b4 e5 : Bool} (h1 : eqT p sE = e1) (hn : nameB p.data.toList = n) (k1 : eqT p sXmlns = b1) (k2 : eqT p sXmlQ = b2) (k3 : eqT s sXML = b3) (k4 : eqT s sXMLNS = b4) (h5 : eqT s sE = e5) :
    bindB p s = if !e1 && !n then 12 else if b1 || (b2 && !b3) || (!b2 && (b3 || b4)) || (!e1 && e5) then 13 else 0 := by
  subst h1; subst hn; subst k1; subst k2; subst k3; subst k4; subst h5; rfl
end Go.Proofs.YtlcjepnaljfpkaaGreatDoor
namespace Go.Proofs.YtlcjepnaljfpkaaGreatDoor
open Go.RowKit Wb
def Fresh (B : Nat) (A : Option Addr) : Prop := ∀ ad, A = some ad → B ≤ ad.block
theorem Fresh.mono {B B' : Nat} {A : Option Addr} (h : Fresh B A) (hB : B' ≤ B) : Fresh B' A := fun ad e => Nat.le_trans hB (h ad e)
end Go.Proofs.YtlcjepnaljfpkaaGreatDoor
namespace Go.Proofs.YtlcjepnaljfpkaaGreatDoor
open Go.RowKit Wb
set_option maxHeartbeats 1000000 in
theorem same_same (A B : Option Addr) (l : List Tr) (c d : Nat) (w : World) (hl : l.length ≤ 1000000) (hA : Sl3 w A l) (hB : Sl3 w B l) :
    Calls Tryz.prog 36 #[.slice A l.length c, .slice B l.length d] w fun e w' => e = .returned (.bool true) ∧ Below w.heap.size w w' := by
  go_enter Tryz.func36, Tryz.ntmps36
  go_wp2
  go_loopw [5] (fun i wr => ∃ k : Nat, k ≤ l.length ∧ i = .int .i64 k ∧ Below w.heap.size w wr) (fun i _ => ((l.length : Int) - intOf i).toNat)
  case atStart => exact ⟨0, by omega, rfl, Below.refl _ _⟩
  case round =>
    obtain ⟨k, hk, rfl, hb⟩ := hrel
    by_cases h0 : k < l.length
    · obtain ⟨⟨⟨x1, x2⟩, x3⟩, he⟩ : ∃ x, l[k]? = some x := ⟨l[k], List.getElem?_eq_getElem (by omega)⟩
      obtain ⟨ad, rfl, _, c1, c2, c3⟩ := (hA.below hb).at_ he
      obtain ⟨bd, rfl, _, d1, d2, d3⟩ := (hB.below hb).at_ he
      clear he
      go_wp2
      go_region
      go_wp2
      go_roundw
      case rel => exact ⟨k + 1, by omega, by go_num, hb.drew⟩
      case measure => simp [intOf]; omega
    · go_wp2
      go_ret
      exact ⟨rfl, hb⟩
end Go.Proofs.YtlcjepnaljfpkaaGreatDoor
