/- FeE FeF. -/
import Derived.Lib.ConvBytes
import Derived.Lib.SmallJoins
import Derived.Laws.BytesString
import Derived.Laws.BytesArg
import Derived.Test.YtblongcnmpdihaaDoorCd4
import Derived.Test.YtblongcnmpdihaaDoorCd6
namespace Wb
open Go
def CutOut (o : Option (List UInt8 × List UInt8)) (e : Ending) : Prop :=
  match o with
  | some (v, r) => e = .returned (.tuple #[.string ⟨v.toArray⟩, .string ⟨r.toArray⟩, .bool true])
  | none => ∃ a b : ByteArray, e = .returned (.tuple #[.string a, .string b, .bool false])
def prepO (a : List UInt8) (o : Option (List UInt8 × List UInt8)) : Option (List UInt8 × List UInt8) := o.map fun p => (a ++ p.1, p.2)
theorem prepO_nil (o : Option (List UInt8 × List UInt8)) : prepO [] o = o := by cases o <;> rfl
theorem prepO_app (a b : List UInt8) (o : Option (List UInt8 × List UInt8)) : prepO a (prepO b o) = prepO (a ++ b) o := by
  cases o with
  | none => rfl
  | some p => simp [prepO]
theorem dropW_stop (p : UInt8 → Bool) (l : List UInt8) : ((l.dropWhile p).head?.map p).getD false = false := by
  induction l with
  | nil => rfl
  | cons c l ih =>
    rw [List.dropWhile_cons]
    cases hc : p c
    · simp [hc]
    · simpa using ih
theorem q_split (L : List UInt8) : quotedF L = prepO (L.takeWhile inqC) (quotedF (L.dropWhile inqC)) := by
  conv => lhs; rw [← List.takeWhile_append_dropWhile (p := inqC) (l := L)]
  rw [quoted_run _ _ (all_takeWhile inqC L)]
  unfold prepO
  cases quotedF (L.dropWhile inqC) <;> rfl
theorem q_end (L : List UInt8) (h : preQ 34 (L.dropWhile inqC) = true) : quotedF L = some (L.takeWhile inqC, preR 34 (L.dropWhile inqC)) := by
  rw [q_split]
  unfold preQ at h
  rw [decide_eq_true_eq] at h
  unfold preR
  rw [if_pos h]
  cases hd : L.dropWhile inqC with
  | nil => rw [hd] at h; cases h
  | cons c r =>
    rw [hd] at h
    simp only [List.head?_cons, Option.some.injEq] at h
    subst h
    rw [quoted_end]
    simp [prepO]
theorem q_esc (L l2 : List UInt8) (d : UInt8) (hd : d = 34 ∨ d = 92) (h : L.dropWhile inqC = 92 :: d :: l2) : quotedF L = prepO (L.takeWhile inqC ++ [d]) (quotedF l2) := by
  rw [q_split, h, ← prepO_app]
  congr 1
  rw [quoted_stop _ (by rfl)]
  simp only
  rw [if_neg (by decide), if_pos trivial, if_pos hd]
  cases quotedF l2 <;> rfl
theorem q_none (L : List UInt8) (h1 : preQ 34 (L.dropWhile inqC) = false) (h2 : Lib.hasPrefix (L.dropWhile inqC) [92, 92] = false) (h3 : Lib.hasPrefix (L.dropWhile inqC) [92, 34] = false) : quotedF L = none := by
  have hs := dropW_stop inqC L
  rw [q_split]
  generalize L.dropWhile inqC = t at *
  rw [quoted_stop t hs]
  unfold preQ at h1
  rw [decide_eq_false_iff_not] at h1
  unfold Lib.hasPrefix at h2 h3
  cases t with
  | nil => rfl
  | cons c r =>
    simp only [List.head?_cons, Option.some.injEq] at h1
    simp only
    rw [if_neg h1]
    by_cases hc : c = 92
    · subst hc
      rw [if_pos rfl]
      cases r with
      | nil => rfl
      | cons d l2 =>
        simp only [List.isPrefixOf, Bool.and_true, beq_self_eq_true, Bool.true_and, beq_eq_false_iff_ne] at h2 h3
        simp only
        rw [if_neg (by rintro (rfl | rfl) <;> simp at h2 h3)]
        rfl
    · rw [if_neg hc]; rfl
theorem pre2_list (r : List UInt8) (d : UInt8) (h : Lib.hasPrefix r [92, d] = true) : ∃ l2, r = 92 :: d :: l2 := by
  unfold Lib.hasPrefix at h
  match r, h with
  | [], h => cases h
  | [c], h => simp [List.isPrefixOf] at h
  | c :: e :: l2, h =>
    simp only [List.isPrefixOf, Bool.and_true, Bool.and_eq_true, beq_iff_eq] at h
    exact ⟨l2, by rw [h.1, h.2]⟩
theorem ba_at1 (r : ByteArray) (c d : UInt8) (l2 : List UInt8) (h : r.data.toList = c :: d :: l2) : 1 < r.size ∧ (∀ h1 : 1 < r.size, r[1]'h1 = d) ∧ (r.extract 2 r.size).data.toList = l2 ∧ r.size = l2.length + 2 := by
  have hl : r.data.toList.length = r.size := by simp
  rw [h, List.length_cons, List.length_cons] at hl
  refine ⟨by omega, fun h1 => ?_, ?_, hl.symm⟩
  · have : r.data.toList[1]? = some d := by rw [h]; rfl
    rw [List.getElem?_eq_getElem (by rw [h]; simp), Option.some.injEq] at this
    exact this
  · rw [Lib.extract_data, h, ← hl]
    simp
end Wb
namespace Go.Proofs.YtblongcnmpdihaaDoor
open Go.RowKit Wb
set_option maxRecDepth 100000 in
set_option maxHeartbeats 2000000 in
theorem unquoted_any (s : ByteArray) (w : World) (hs : s.size ≤ 1000000000) :
    Calls Tryd.prog 96 #[.string s] w fun e w' => CutOut (quotedF s.data.toList) e ∧ Below w.heap.size w w' := by
  have HF := Lib.hid (Lib.fresh_isBuilder 54 5 w)
  have HB1 := Lib.hid ((Below.refl w.heap.size w).alloc (Nat.le_refl _) (.cells #[.pointer none, .slice none 0 0] 54))
  obtain ⟨o, ho⟩ : ∃ o, quotedF s.data.toList = o := ⟨_, rfl⟩
  rw [ho]
  have HO := Lib.hid ho
  clear ho
  go_enter Tryd.func96, Tryd.ntmps96
  go_wp2_with fail
  go_loopw [0] (fun v0 wr => ∃ (u : ByteArray) (acc : List UInt8), v0 = .string u ∧ acc.length + u.size ≤ s.size ∧ Hid (o = prepO acc (quotedF u.data.toList)) ∧ Hid (Lib.IsBuilder 54 5 w.heap.size w.heap.size (Lib.byteCells acc) wr) ∧ Hid (Below w.heap.size w wr) ∧ w.heap.size ≤ wr.heap.size) (fun v0 _ => Lib.strSize v0)
  case atStart => exact ⟨s, [], rfl, by simp, Lib.hid (by rw [prepO_nil, HO.out]), HF, HB1, by simp⟩
  case round =>
    obtain ⟨u, acc, rfl, hsz, HQ, HB, HW, hws⟩ := hrel
    have hus : u.size ≤ 1000000000 := by omega
    have h1 := span_any inqC 106 #[] u wr hus (inq_tells wr)
    have hra := spanA_size inqC u
    have hrl : (spanR inqC u).data.toList = u.data.toList.dropWhile inqC := rfl
    have hal : (spanA inqC u).data.toList = u.data.toList.takeWhile inqC := rfl
    have hsum : (spanA inqC u).size + (spanR inqC u).size = u.size := by
      rw [ba_size, ba_size (spanR inqC u), ba_size u, hrl, hal, ← List.length_append, List.takeWhile_append_dropWhile]
    generalize hA : spanA inqC u = a at *
    generalize hR : spanR inqC u = r at *
    clear hA hR
    have h2 := fun (v : World) (k : Lib.IsBuilder 54 5 w.heap.size w.heap.size (Lib.byteCells acc) v) (k2 : w.heap.size ≤ v.heap.size) => qwrite_any w.heap.size w.heap.size (Lib.byteCells acc) a v k (by rw [Lib.byteCells_length]; omega) k2
    have h3 := fun v => cutPre_any 34 r v (by omega)
    rw [hrl] at h3
    have HRL := Lib.hid hrl
    have HAL := Lib.hid hal
    clear hrl hal
    by_cases q1 : preQ 34 (u.data.toList.dropWhile inqC) = true
    · have HE : Hid (o = some (acc ++ u.data.toList.takeWhile inqC, preR 34 (u.data.toList.dropWhile inqC))) := Lib.hid (by rw [HQ.out, q_end _ q1]; rfl)
      rw [q1] at h3
      have HX : Hid ((preX 34 r) = ⟨(preR 34 (u.data.toList.dropWhile inqC)).toArray⟩) := Lib.hid (by unfold preX; rw [HRL.out])
      clear q1
      go_wp2_with fail
      refine h1.mono ?_
      rintro e w3 ⟨rfl, hb3⟩
      have HW3 := Lib.hid (HW.out.trans (hb3.mono HW.out.size))
      have k3 := h2 w3 (isb_below' HB.out hb3) (Nat.le_trans hws hb3.size)
      have hws3 : w.heap.size ≤ w3.heap.size := Nat.le_trans hws hb3.size
      clear hb3 h1 h2
      go_wp2_with fail
      refine k3.mono ?_
      rintro e w4 ⟨⟨v, rfl⟩, hB4, hb4⟩
      have HW4 := Lib.hid (HW3.out.trans hb4)
      have hws4 : w.heap.size ≤ w4.heap.size := Nat.le_trans hws3 hb4.size
      rw [Lib.strCells_eq, ← Lib.byteCells_append, HAL.out] at hB4
      have HB4 := Lib.hid hB4
      clear hB4 hb4 k3 HB
      go_wp2_with fail
      refine (h3 w4).mono ?_
      rintro e w5 ⟨rfl, hb5⟩
      have HW5 := Lib.hid (HW4.out.trans (hb5.mono HW4.out.size))
      have hws5 : w.heap.size ≤ w5.heap.size := Nat.le_trans hws4 hb5.size
      have k5 := Tryd.Builder_String_any w.heap.size w.heap.size _ w5 (isb_below' HB4.out hb5) hws5
      clear hb5 h3
      go_wp2_with fail
      refine k5.mono ?_
      rintro e w6 ⟨rfl, hb6⟩
      have HW6 := Lib.hid (HW5.out.trans hb6)
      clear hb6 k5
      go_wp2
      go_ret3
      rw [HE.out, HX.out]
      exact ⟨rfl, HW6.out⟩
    · have q1 : preQ 34 (u.data.toList.dropWhile inqC) = false := by simpa using q1
      rw [q1] at h3
      have h4 := fun v => Tryd.strings_HasPrefix r ⟨#[92, 92]⟩ v
      have h5 := fun v => Tryd.strings_HasPrefix r ⟨#[92, 34]⟩ v
      rw [HRL.out] at h4 h5
      by_cases p1 : Lib.hasPrefix (u.data.toList.dropWhile inqC) [92, 92] = true
      · obtain ⟨l2, hl2⟩ := pre2_list _ _ p1
        have HE : Hid (o = prepO (acc ++ (u.data.toList.takeWhile inqC ++ [92])) (quotedF l2)) := Lib.hid (by rw [HQ.out, q_esc _ l2 92 (.inr rfl) hl2, prepO_app])
        obtain ⟨j1, j2, j3, j4⟩ := ba_at1 r 92 92 l2 (by rw [HRL.out, hl2])
        have J2 := Lib.hid j2
        have J3 := Lib.hid j3
        have J4 := Lib.hid j4
        have h4 : ∀ v, Calls Tryd.prog 34 #[.string r, .string ⟨#[92, 92]⟩] v fun e w' => e = .returned (.bool true) ∧ w' = v := fun v => by have := h4 v; rwa [p1] at this
        clear q1 p1 hl2 j2 j3 j4 h5
        go_wp2_with fail
        refine h1.mono ?_
        rintro e w3 ⟨rfl, hb3⟩
        have HW3 := Lib.hid (HW.out.trans (hb3.mono HW.out.size))
        have k3 := h2 w3 (isb_below' HB.out hb3) (Nat.le_trans hws hb3.size)
        have hws3 : w.heap.size ≤ w3.heap.size := Nat.le_trans hws hb3.size
        clear hb3 h1 h2
        go_wp2_with fail
        refine k3.mono ?_
        rintro e w4 ⟨⟨v, rfl⟩, hB4, hb4⟩
        have HW4 := Lib.hid (HW3.out.trans hb4)
        have hws4 : w.heap.size ≤ w4.heap.size := Nat.le_trans hws3 hb4.size
        rw [Lib.strCells_eq, ← Lib.byteCells_append, HAL.out] at hB4
        have HB4 := Lib.hid hB4
        clear hB4 hb4 k3 HB
        go_wp2_with fail
        refine (h3 w4).mono ?_
        rintro e w5 ⟨rfl, hb5⟩
        have HW5 := Lib.hid (HW4.out.trans (hb5.mono HW4.out.size))
        have hws5 : w.heap.size ≤ w5.heap.size := Nat.le_trans hws4 hb5.size
        have HB5 := Lib.hid (isb_below' HB4.out hb5)
        clear hb5 h3 HB4
        go_wp2_with fail
        refine (h4 w5).mono ?_
        rintro e w6 ⟨rfl, rfl⟩
        clear h4
        have k6 := qbyte_any w.heap.size w.heap.size _ (92 : Int) w6 HB5.out (by rw [Lib.byteCells_length, List.length_append]; have := takeW_le inqC u.data.toList; rw [← ba_size] at this; omega) hws5
        go_wp2_with fail
        rw [J2.out]
        refine k6.mono ?_
        rintro e w7 ⟨⟨v2, rfl⟩, hB7, hb7⟩
        have HW7 := Lib.hid (HW5.out.trans hb7)
        have hws7 : w.heap.size ≤ w7.heap.size := Nat.le_trans hws5 hb7.size
        have HB7 := Lib.hid hB7
        clear hb7 hB7 k6
        go_wp2
        go_roundw
        case rel => exact ⟨r.extract 2 r.size, acc ++ (u.data.toList.takeWhile inqC ++ [92]), rfl, by
          rw [ba_size (r.extract 2 r.size), J3.out, List.length_append, List.length_append]
          have hr4 := J4.out
          have : (u.data.toList.takeWhile inqC).length = a.size := by rw [← HAL.out, ← ba_size]
          simp only [List.length_cons, List.length_nil]
          omega, Lib.hid (by rw [HE.out, J3.out]), Lib.hid (by
            have := HB7.out
            rw [← List.append_assoc, Lib.byteCells_append _ [92]]
            exact this), HW7, hws7⟩
        case measure =>
          show (r.extract 2 r.size).size < u.size
          rw [ba_size (r.extract 2 r.size), J3.out]
          have hr4 := J4.out
          omega
      · have p1 : Lib.hasPrefix (u.data.toList.dropWhile inqC) [92, 92] = false := by simpa using p1
        have h4 : ∀ v, Calls Tryd.prog 34 #[.string r, .string ⟨#[92, 92]⟩] v fun e w' => e = .returned (.bool false) ∧ w' = v := fun v => by have := h4 v; rwa [p1] at this
        by_cases p2 : Lib.hasPrefix (u.data.toList.dropWhile inqC) [92, 34] = true
        · obtain ⟨l2, hl2⟩ := pre2_list _ _ p2
          have HE : Hid (o = prepO (acc ++ (u.data.toList.takeWhile inqC ++ [34])) (quotedF l2)) := Lib.hid (by rw [HQ.out, q_esc _ l2 34 (.inl rfl) hl2, prepO_app])
          obtain ⟨j1, j2, j3, j4⟩ := ba_at1 r 92 34 l2 (by rw [HRL.out, hl2])
          have J2 := Lib.hid j2
          have J3 := Lib.hid j3
          have J4 := Lib.hid j4
          have h5 : ∀ v, Calls Tryd.prog 34 #[.string r, .string ⟨#[92, 34]⟩] v fun e w' => e = .returned (.bool true) ∧ w' = v := fun v => by have := h5 v; rwa [p2] at this
          clear q1 p1 p2 hl2 j2 j3 j4
          go_wp2_with fail
          refine h1.mono ?_
          rintro e w3 ⟨rfl, hb3⟩
          have HW3 := Lib.hid (HW.out.trans (hb3.mono HW.out.size))
          have k3 := h2 w3 (isb_below' HB.out hb3) (Nat.le_trans hws hb3.size)
          have hws3 : w.heap.size ≤ w3.heap.size := Nat.le_trans hws hb3.size
          clear hb3 h1 h2
          go_wp2_with fail
          refine k3.mono ?_
          rintro e w4 ⟨⟨v, rfl⟩, hB4, hb4⟩
          have HW4 := Lib.hid (HW3.out.trans hb4)
          have hws4 : w.heap.size ≤ w4.heap.size := Nat.le_trans hws3 hb4.size
          rw [Lib.strCells_eq, ← Lib.byteCells_append, HAL.out] at hB4
          have HB4 := Lib.hid hB4
          clear hB4 hb4 k3 HB
          go_wp2_with fail
          refine (h3 w4).mono ?_
          rintro e w5 ⟨rfl, hb5⟩
          have HW5 := Lib.hid (HW4.out.trans (hb5.mono HW4.out.size))
          have hws5 : w.heap.size ≤ w5.heap.size := Nat.le_trans hws4 hb5.size
          have HB5 := Lib.hid (isb_below' HB4.out hb5)
          clear hb5 h3 HB4
          go_wp2_with fail
          refine (h4 w5).mono ?_
          rintro e w6 ⟨rfl, rfl⟩
          clear h4
          go_wp2_with fail
          refine (h5 w6).mono ?_
          rintro e w6b ⟨rfl, rfl⟩
          clear h5
          have k6 := qbyte_any w.heap.size w.heap.size _ (34 : Int) w6b HB5.out (by rw [Lib.byteCells_length, List.length_append]; have := takeW_le inqC u.data.toList; rw [← ba_size] at this; omega) hws5
          go_wp2_with fail
          rw [J2.out]
          refine k6.mono ?_
          rintro e w7 ⟨⟨v2, rfl⟩, hB7, hb7⟩
          have HW7 := Lib.hid (HW5.out.trans hb7)
          have hws7 : w.heap.size ≤ w7.heap.size := Nat.le_trans hws5 hb7.size
          have HB7 := Lib.hid hB7
          clear hb7 hB7 k6
          go_wp2
          go_roundw
          case rel => exact ⟨r.extract 2 r.size, acc ++ (u.data.toList.takeWhile inqC ++ [34]), rfl, by
            rw [ba_size (r.extract 2 r.size), J3.out, List.length_append, List.length_append]
            have hr4 := J4.out
            have : (u.data.toList.takeWhile inqC).length = a.size := by rw [← HAL.out, ← ba_size]
            simp only [List.length_cons, List.length_nil]
            omega, Lib.hid (by rw [HE.out, J3.out]), Lib.hid (by
              have := HB7.out
              rw [← List.append_assoc, Lib.byteCells_append _ [34]]
              exact this), HW7, hws7⟩
          case measure =>
            show (r.extract 2 r.size).size < u.size
            rw [ba_size (r.extract 2 r.size), J3.out]
            have hr4 := J4.out
            omega
        · have p2 : Lib.hasPrefix (u.data.toList.dropWhile inqC) [92, 34] = false := by simpa using p2
          have HE : Hid (o = none) := Lib.hid (by rw [HQ.out, q_none _ q1 p1 p2]; rfl)
          have h5 : ∀ v, Calls Tryd.prog 34 #[.string r, .string ⟨#[92, 34]⟩] v fun e w' => e = .returned (.bool false) ∧ w' = v := fun v => by have := h5 v; rwa [p2] at this
          clear q1 p1 p2
          go_wp2_with fail
          refine h1.mono ?_
          rintro e w3 ⟨rfl, hb3⟩
          have HW3 := Lib.hid (HW.out.trans (hb3.mono HW.out.size))
          have k3 := h2 w3 (isb_below' HB.out hb3) (Nat.le_trans hws hb3.size)
          clear hb3 h1 h2
          go_wp2_with fail
          refine k3.mono ?_
          rintro e w4 ⟨⟨v, rfl⟩, hB4, hb4⟩
          have HW4 := Lib.hid (HW3.out.trans hb4)
          clear hB4 hb4 k3 HB
          go_wp2_with fail
          refine (h3 w4).mono ?_
          rintro e w5 ⟨rfl, hb5⟩
          have HW5 := Lib.hid (HW4.out.trans (hb5.mono HW4.out.size))
          clear hb5 h3
          go_wp2_with fail
          refine (h4 w5).mono ?_
          rintro e w6 ⟨rfl, rfl⟩
          clear h4
          go_wp2_with fail
          refine (h5 w6).mono ?_
          rintro e w6b ⟨rfl, rfl⟩
          clear h5
          go_wp2
          go_ret3
          rw [HE.out]
          exact ⟨⟨_, _, rfl⟩, HW5.out⟩
end Go.Proofs.YtblongcnmpdihaaDoor
namespace Wb
open Go
theorem fblk_free {w : World} {g lo hi : Nat} {cs : Array Value} {t : TypeId} (h : w.heap[g]? = some (.cells cs t (lo, hi))) (i : Nat) (hi : i < lo) : w.frozen? ⟨g, i, none⟩ = false := by
  simp [World.frozen?, h]
  omega
theorem fblk_set {w : World} {g lo hi : Nat} {cs : Array Value} {t : TypeId} (h : w.heap[g]? = some (.cells cs t (lo, hi))) (i : Nat) (u : Value) : (w.setCell ⟨g, i, none⟩ u).heap[g]? = some (.cells (cs.setIfInBounds i u) t (lo, hi)) := by
  rw [setCell_eq_setRow w g i cs t (lo, hi) u h]
  exact setRow_heap w g cs _ t _ h
def LowAt (w : World) (g i : Nat) (L : List UInt8) : Prop :=
  ∃ cs T lo hi, w.heap[g]? = some (.cells cs T (lo, hi)) ∧ L.length ≤ lo ∧ ∀ (j : Nat) (c : UInt8), L[j]? = some c → cs[j]? = some (.int .u8 ((if j < i then lowC c else c).toNat : Int))
theorem LowAt.at_ {w : World} {g i : Nat} {L : List UInt8} (h : LowAt w g i L) {c : UInt8} (hc : L[i]? = some c) : w.cell? ⟨g, i, none⟩ = some (.int .u8 (c.toNat : Int)) ∧ w.frozen? ⟨g, i, none⟩ = false := by
  obtain ⟨cs, T, lo, hi, h1, h2, h3⟩ := h
  have := h3 i c hc
  rw [if_neg (by omega)] at this
  exact ⟨(cell_of_row w g i cs T (lo, hi) h1).trans this, fblk_free h1 i (by have := (List.getElem?_eq_some_iff.1 hc).1; omega)⟩
theorem LowAt.put {w : World} {g i : Nat} {L : List UInt8} (h : LowAt w g i L) {c : UInt8} (hc : L[i]? = some c) : LowAt (w.setCell ⟨g, i, none⟩ (.int .u8 ((lowC c).toNat : Int))) g (i + 1) L := by
  obtain ⟨cs, T, lo, hi, h1, h2, h3⟩ := h
  refine ⟨_, T, lo, hi, fblk_set h1 i _, h2, fun j d hd => ?_⟩
  by_cases hj : j = i
  · subst hj
    obtain rfl := Option.some.inj (hc.symm.trans hd)
    have := h3 j c hc
    have hlt : j < cs.size := (Array.getElem?_eq_some_iff.1 this).1
    rw [if_pos (by omega)]
    simp [hlt]
  · have := h3 j d hd
    rw [Array.getElem?_setIfInBounds_ne (fun e => hj e.symm), this]
    congr 3
    by_cases h4 : j < i
    · rw [if_pos h4, if_pos (by omega)]
    · rw [if_neg h4, if_neg (by omega)]
theorem LowAt.keep {w : World} {g i : Nat} {L : List UInt8} (h : LowAt w g i L) {c : UInt8} (hc : L[i]? = some c) (hl : lowC c = c) : LowAt w g (i + 1) L := by
  obtain ⟨cs, T, lo, hi, h1, h2, h3⟩ := h
  refine ⟨cs, T, lo, hi, h1, h2, fun j d hd => ?_⟩
  have := h3 j d hd
  rw [this]
  by_cases hj : j = i
  · subst hj
    obtain rfl := Option.some.inj (hc.symm.trans hd)
    rw [if_neg (by omega), if_pos (by omega), hl]
  · by_cases h4 : j < i
    · rw [if_pos h4, if_pos (by omega)]
    · rw [if_neg h4, if_neg (by omega)]
theorem LowAt.cells {w : World} {g : Nat} {L : List UInt8} (h : LowAt w g L.length L) : ∀ (j : Nat) (v : Value), ((L.map fun c => ((lowC c).toNat : Int)).map (Value.int .u8))[j]? = some v → w.cell? ⟨g, j, none⟩ = some v := by
  obtain ⟨cs, T, lo, hi, h1, h2, h3⟩ := h
  intro j v hv
  rw [List.getElem?_map, List.getElem?_map] at hv
  cases hd : L[j]? with
  | none => rw [hd] at hv; cases hv
  | some c =>
    rw [hd] at hv
    simp only [Option.map_some, Option.some.injEq] at hv
    have := h3 j c hd
    rw [if_pos (List.getElem?_eq_some_iff.1 hd).1] at this
    rw [cell_of_row w g j cs T (lo, hi) h1, this, ← hv]
theorem push_ints : ∀ (ns : List Int) (s : ByteArray), ns.foldl (fun r n => r.push (UInt8.ofNat n.toNat)) s = ⟨s.data ++ (ns.map fun n => UInt8.ofNat n.toNat).toArray⟩
  | [], s => by simp
  | n :: ns, s => by
    rw [List.foldl_cons, push_ints ns]
    simp
def lowB (s : ByteArray) : ByteArray := ⟨(lowF s.data.toList).toArray⟩
theorem lowB_size (s : ByteArray) : (lowB s).size = s.size := by
  rw [ba_size, ba_size s]
  exact lowF_len _
end Wb
namespace Go.Proofs.YtblongcnmpdihaaDoor
open Go.RowKit Wb
theorem run_low {w : World} {g c : Nat} (s : ByteArray) (h : LowAt w g s.data.toList.length s.data.toList) :
    (convert 52 9 (.slice (some ⟨g, 0, none⟩) s.size c)).run Tryd.prog w = .ok (.string (lowB s)) w := by
  rw [run_convert_bytes_string w _ _ _ _ s.size c Tryd.underlying52 Tryd.underlying5 Tryd.underlying9]
  have hl := run_loadCells_list (P := Tryd.prog) (w := w) ⟨g, 0, none⟩ ((s.data.toList.map fun c => ((lowC c).toNat : Int)).map (Value.int .u8)) (by
    intro j v hj
    have := h.cells j v hj
    unfold Addr.add
    split <;> simp_all)
  rw [List.length_map, List.length_map, ← ba_size] at hl
  rw [run_bytesToString w _ s.size c _ hl, push_ints]
  unfold lowB lowF
  rw [List.map_map]
  have e : ((fun n : Int => UInt8.ofNat n.toNat) ∘ fun c : UInt8 => ((lowC c).toNat : Int)) = lowC := by
    funext c
    simp
  rw [e]
  simp
theorem low_up (c : UInt8) (h : 65 ≤ c.toNat ∧ c.toNat ≤ 90) : ((lowC c).toNat : Int) = c.toNat + 32 := by
  unfold lowC
  rw [if_pos h, UInt8.toNat_add]
  have : (32 : UInt8).toNat = 32 := rfl
  rw [this, Nat.mod_eq_of_lt (by omega)]
  omega
set_option maxRecDepth 100000 in
set_option maxHeartbeats 1000000 in
theorem small_any (s : ByteArray) (w : World) (hs : s.size ≤ 1000000000) :
    Calls Tryd.prog 28 #[.string s] w fun e w' => e = .returned (.string (lowB s)) ∧ Below w.heap.size w w' := by
  have hcv := Lib.run_convert_string_bytes (P := Tryd.prog) w 9 52 5 s (u := .string) Tryd.underlying9 Tryd.underlying52 Tryd.underlying5
  have hL0 : LowAt (Lib.bytesWorld w 5 s) w.heap.size 0 s.data.toList := by
    refine ⟨_, _, _, _, Lib.bytesWorld_at_new w 5 s, ?_, fun j c hc => ?_⟩
    · unfold Lib.bytesCells
      rw [Array.size_append, Array.size_map, Array.length_toList]
      omega
    · rw [if_neg (by omega)]
      have hlt := (List.getElem?_eq_some_iff.1 hc).1
      unfold Lib.bytesCells
      rw [Array.getElem?_append_left (by rw [Array.size_map]; simpa using hlt), Array.getElem?_map, ← Array.getElem?_toList, hc]
      rfl
  have HL0 := Lib.hid hL0
  have HB0 := Lib.hid (Go.Joins.below_bytesWorld w.heap.size w 5 s (Nat.le_refl _))
  generalize Lib.bytesWorld w 5 s = w1 at *
  generalize grownCap w s.size 0 5 = cp at *
  clear hL0
  go_enter Tryd.func28, Tryd.ntmps28
  go_wp2
  go_loopw [10] (fun vi wr => ∃ i : Nat, i ≤ s.size ∧ vi = .int .i64 i ∧ Hid (LowAt wr w.heap.size i s.data.toList) ∧ Hid (Below w.heap.size w wr)) (fun vi _ => s.size - (intOf vi).toNat)
  case atStart => exact ⟨0, by omega, rfl, HL0, HB0⟩
  case round =>
    obtain ⟨i, hi, rfl, HL, HB⟩ := hrel
    by_cases h0 : i < s.size
    · obtain ⟨c, hc⟩ : ∃ c, s.data.toList[i]? = some c := ⟨s.data.toList[i]'(by rw [← ba_size]; exact h0), List.getElem?_eq_getElem _⟩
      obtain ⟨c0, f0⟩ := HL.out.at_ hc
      by_cases h1 : 65 ≤ c.toNat
      · by_cases h2 : c.toNat ≤ 90
        · have HP := Lib.hid (HL.out.put hc)
          have HU := Lib.hid (low_up c ⟨h1, h2⟩)
          have k1 : IntKind.u8.wrap ((c.toNat : Int) + 97) = c.toNat + 97 := by rw [IntKind.wrap_u8]; omega
          have k2 : IntKind.u8.wrap ((c.toNat : Int) + 97 - 65) = c.toNat + 32 := by rw [IntKind.wrap_u8]; omega
          have HB2 := Lib.hid (fun u => HB.out.setCell (p := ⟨w.heap.size, i, none⟩) (Nat.le_refl _) u)
          rw [HU.out] at HP
          clear hc HU HL HB
          generalize (lowC c).toNat = lc at *
          go_wp2
          go_roundw
          case rel => exact ⟨i + 1, by omega, by go_num, HP, Lib.hid (HB2.out _)⟩
          case measure => simp [intOf] <;> omega
        · have HP := Lib.hid (HL.out.keep hc (by unfold lowC; rw [if_neg (by omega)]))
          clear hc HL
          go_wp2
          go_roundw
          case rel => exact ⟨i + 1, by omega, by go_num, HP, HB⟩
          case measure => simp [intOf] <;> omega
      · have HP := Lib.hid (HL.out.keep hc (by unfold lowC; rw [if_neg (by omega)]))
        clear hc HL
        go_wp2
        go_roundw
        case rel => exact ⟨i + 1, by omega, by go_num, HP, HB⟩
        case measure => simp [intOf] <;> omega
    · obtain rfl : i = s.size := by omega
      have hcv2 := fun c => run_low (c := c) s (by rw [← ba_size]; exact HL.out)
      go_wp2
      go_ret
      exact ⟨rfl, HB.out⟩
end Go.Proofs.YtblongcnmpdihaaDoor
