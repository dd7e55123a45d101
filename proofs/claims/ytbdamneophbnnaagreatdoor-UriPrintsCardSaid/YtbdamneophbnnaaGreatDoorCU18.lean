/- PrF SpD SbE SaG. -/
import Derived.Test.YtbdamneophbnnaaGreatDoorCU3
import Derived.Test.YtbdamneophbnnaaGreatDoorCU8
import Derived.Test.YtbdamneophbnnaaGreatDoorCU9
import Derived.Test.YtbdamneophbnnaaGreatDoorCU16
import Derived.Test.YtbdamneophbnnaaGreatDoorCU17
namespace Wb
theorem ba_app (a b : List UInt8) : (ByteArray.mk a.toArray) ++ (ByteArray.mk b.toArray) = ByteArray.mk (a ++ b).toArray := by
  apply ba_data
  rw [ByteArray.data_append]
  simp
end Wb
namespace Go.Proofs.YtbdamneophbnnaaGreatDoor
open Go.RowKit Wb
theorem page_new (most : Nat) (w : World) : PgT w.heap.size w.heap.size [] most (w.alloc (.cells #[.pointer none, .slice none 0 0, .int .i64 most, .bool false] 166)) :=
  .inl ⟨Nat.zero_le _, .inl ⟨Nat.le_refl _, .slice none 0 0, heap_alloc_new w _, World.ownsRow_nil _ _ _ _, by simp [Value.ownBlock]⟩⟩
set_option maxHeartbeats 2000000 in
set_option maxRecDepth 100000 in
theorem Escape_any (s : ByteArray) (attr : Bool) (w : World) (hs : s.size ≤ 1000000000) :
    Calls Tryz.prog 109 #[.string s, .bool attr] w fun e w' => e = .returned (.string ⟨(escL attr s.data.toList).toArray⟩) ∧ Below w.heap.size w w' := by
  have hl := (escL_len attr s.data.toList).2
  rw [← Lib.size_eq] at hl
  have h1 := pescape_any s attr (page_new 9223372036854775807 w) (by omega) hs (.inr (by simp only [List.length_nil]; omega))
  have HB := Lib.hid ((Below.refl w.heap.size w).alloc (Nat.le_refl _) (.cells #[.pointer none, .slice none 0 0, .int .i64 ((9223372036854775807 : Nat) : Int), .bool false] 166))
  have HL := Lib.hid hl
  clear hl
  go_enter Tryz.func109, Tryz.ntmps109
  go_wp2_with fail
  refine h1.mono ?_
  rintro e w1 ⟨rfl, hp1, hk1⟩
  have HB1 := Lib.hid (HB.out.trans (hk1.below (by simp)))
  have hp : PgAt w.heap.size w.heap.size (escL attr s.data.toList) ((9223372036854775807 : Nat) : Int) false w1 := by
    rw [List.nil_append] at hp1
    rcases hp1 with ⟨_, h⟩ | ⟨h, _⟩
    · exact h
    · have := HL.out; omega
  have h2 := page_string hp
  clear h1 hp1 hk1 hp
  go_wp2_with fail
  refine h2.mono ?_
  rintro e w2 ⟨rfl, hb2⟩
  clear h2
  go_wp2
  go_ret
  exact ⟨rfl, HB1.out.trans hb2⟩
theorem small_lo {C : ByteArray} (hC : ∀ n, n < 10 → C.extract n (n + 1) = ⟨(digT n).toArray⟩) (n : Nat) (h : n < 10) : C.extract n (n + 1) = ⟨(digT n).toArray⟩ := hC n h
theorem small_hi {C : ByteArray} (hC : ∀ n, n < 100 → ¬ n < 10 → C.extract (n * 2) (n * 2 + 2) = ⟨(digT n).toArray⟩) (n : Nat) (h : n < 100) (h1 : ¬ n < 10) : C.extract (n * 2) (n * 2 + 2) = ⟨(digT n).toArray⟩ := hC n h h1
set_option maxRecDepth 100000 in
theorem psmall_any (n : Nat) (h : n < 100) (w : World) : Calls Tryz.prog 162 #[.int .i64 n] w fun e w' => e = .returned (.string ⟨(digT n).toArray⟩) ∧ w' = w := by
  by_cases h1 : n < 10
  · go_enter Tryz.func162, Tryz.ntmps162
    go_wp2
    go_ret
    refine ⟨congrArg (fun s => Ending.returned (Value.string s)) ?_, rfl⟩
    refine small_lo ?_ n h1
    decide +kernel
  · go_enter Tryz.func162, Tryz.ntmps162
    go_wp2
    go_ret
    refine ⟨congrArg (fun s => Ending.returned (Value.string s)) ?_, rfl⟩
    refine small_hi ?_ n h h1
    decide +kernel
theorem itoa_small (n : Nat) (h : n < 100) (w : World) : Calls Tryz.prog 107 #[.int .i64 n] w fun e w' => e = .returned (.string ⟨(digT n).toArray⟩) ∧ w' = w := by
  have hs := psmall_any n h w
  generalize (ByteArray.mk (digT n).toArray) = r at *
  have h3 : Calls Tryz.prog 147 #[.int .i64 n, .int .i64 10] w fun e w' => e = .returned (.string r) ∧ w' = w := by
    go_enter Tryz.func147, Tryz.ntmps147
    go_wp2_with fail
    refine hs.mono ?_
    rintro e w' ⟨rfl, rfl⟩
    go_wp2
    go_ret
    exact ⟨rfl, rfl⟩
  have h2 : Calls Tryz.prog 128 #[.int .i64 n] w fun e w' => e = .returned (.string r) ∧ w' = w := by
    go_enter Tryz.func128, Tryz.ntmps128
    go_wp2_with fail
    refine h3.mono ?_
    rintro e w' ⟨rfl, rfl⟩
    go_wp2
    go_ret
    exact ⟨rfl, rfl⟩
  go_enter Tryz.func107, Tryz.ntmps107
  go_wp2_with fail
  refine h2.mono ?_
  rintro e w' ⟨rfl, rfl⟩
  go_wp2
  go_ret
  exact ⟨rfl, rfl⟩
end Go.Proofs.YtbdamneophbnnaaGreatDoor
namespace Wb
theorem ext_one (s : ByteArray) (i : Nat) (h : i < s.size) (k : UInt8) : ((s.extract i (i + 1)).toList == [k]) = decide (s[i] = k) := by
  have e : (s.extract i (i + 1)).toList = [s[i]] := by
    rw [Go.ByteArray.toList_eq, ext_list, drop_cons s i h]
    simp
  rw [e]
  by_cases hk : s[i] = k <;> simp [hk]
theorem esc_take (attr : Bool) {s : ByteArray} {i : Nat} (h : i < s.size) : escL attr (s.data.toList.take (i + 1)) = escL attr (s.data.toList.take i) ++ escB attr s[i] := by
  have hi : s.data.toList[i]? = some s[i] := by
    rw [List.getElem?_eq_getElem (by simpa using h)]
    rfl
  rw [List.take_add_one, hi]
  show escL attr (s.data.toList.take i ++ [s[i]]) = _
  rw [escL_app]
  simp [escL]
end Wb
namespace Go.Proofs.YtbdamneophbnnaaGreatDoor
open Go.RowKit Wb
set_option maxRecDepth 100000 in
set_option maxHeartbeats 4000000 in
theorem resc_any (s : ByteArray) (attr : Bool) (w : World) (hs : s.size ≤ 1000000000) :
    Calls Tryz.prog 85 #[.string s, .bool attr] w fun e w' => e = .returned (.string ⟨(escL attr s.data.toList).toArray⟩) ∧ Below w.heap.size w w' := by
  obtain ⟨i0, hi, hz0, hz1, hz2⟩ := info_parts byte_info
  go_enter Tryz.func85, Tryz.ntmps85
  go_wp2
  go_loopw [5, 6] (fun vb vi wr => ∃ (i : Nat) (out : List UInt8), i ≤ s.size ∧ vi = .int .i64 i ∧ out.length ≤ 6 * i ∧ Hid (out = escL attr (s.data.toList.take i)) ∧ Hid (wr.ownsRow w.heap.size 5 1 vb out.length (cellsB out)) ∧ Hid (Below w.heap.size w wr)) (fun _ vi _ => ((s.size : Int) - intOf vi).toNat)
  case atStart => exact ⟨0, [], by omega, rfl, by simp, Lib.hid (by simp [escL]), Lib.hid (World.ownsRow_nil _ _ _ _), Lib.hid (Below.refl _ _)⟩
  case round =>
    obtain ⟨i, out, hil, rfl, hol, HO, HW, HB⟩ := hrel
    by_cases h0 : i < s.size
    · obtain ⟨c, hc⟩ : ∃ c, s[i] = c := ⟨_, rfl⟩
      have t38 := ext_one s i h0 38
      have t60 := ext_one s i h0 60
      have t13 := ext_one s i h0 13
      have t62 := ext_one s i h0 62
      have t34 := ext_one s i h0 34
      have t9 := ext_one s i h0 9
      have t10 := ext_one s i h0 10
      have hxl : List.take 1 (s.data.toList.drop i) = [c] := by
        rw [drop_cons s i h0, hc]
        rfl
      have HE := Lib.hid (esc_take attr h0)
      rw [hc] at t38 t60 t13 t62 t34 t9 t10 HE
      have hi1 : (i : Int) + 1 ≤ (s.size : Int) := by omega
      clear hc
      have hcl : (c = 38 ∨ c = 60 ∨ c = 13 ∨ c = 62 ∨ c = 34 ∨ c = 9 ∨ c = 10) ∨ (c ≠ 38 ∧ c ≠ 60 ∧ c ≠ 13 ∧ c ≠ 62 ∧ c ≠ 34 ∧ c ≠ 9 ∧ c ≠ 10) := by
        by_cases a1 : c = 38 <;> by_cases a2 : c = 60 <;> by_cases a3 : c = 13 <;> by_cases a4 : c = 62 <;> by_cases a5 : c = 34 <;> by_cases a6 : c = 9 <;> by_cases a7 : c = 10 <;> simp [a1, a2, a3, a4, a5, a6, a7]
      have hxs : (s.extract i (i + 1)).size = 1 := by rw [ByteArray.size_extract]; omega
      have hez : (ByteArray.mk (escB attr c).toArray).size ≤ 6 := by
        show (escB attr c).toArray.size ≤ 6
        rw [List.size_toArray]; exact (escB_len attr c).2
      have hmA : out.length + (ByteArray.mk (escB attr c).toArray).size ≤ maxLen := by simp only [maxLen]; omega
      have hmB : (out.length + (ByteArray.mk (escB attr c).toArray).size) * 1 ≤ 140737488355328 := by omega
      have hmC : out.length + (s.extract i (i + 1)).size ≤ maxLen := by rw [hxs]; simp only [maxLen]; omega
      have hmD : (out.length + (s.extract i (i + 1)).size) * 1 ≤ 140737488355328 := by rw [hxs]; omega
      clear hez
      have hbs := HB.out.size
      rcases hcl with h | ⟨a1, a2, a3, a4, a5, a6, a7⟩
      case' inr =>
        replace t38 := t38.trans (decide_eq_false a1)
        replace t60 := t60.trans (decide_eq_false a2)
        replace t13 := t13.trans (decide_eq_false a3)
        replace t62 := t62.trans (decide_eq_false a4)
        replace t34 := t34.trans (decide_eq_false a5)
        replace t9 := t9.trans (decide_eq_false a6)
        replace t10 := t10.trans (decide_eq_false a7)
        have hesc : escB attr c = [c] := by
          unfold escB refB
          simp [a1, a2, a3, a4, a5, a6, a7]
        rw [hesc] at HE
        clear a1 a2 a3 a4 a5 a6 a7 hesc
      case' inl => rcases h with rfl | rfl | rfl | rfl | rfl | rfl | rfl
      all_goals
        cases attr
        all_goals
          try first | replace t38 := t38.trans (show _ = true by decide) | replace t38 := t38.trans (show _ = false by decide)
          try first | replace t60 := t60.trans (show _ = true by decide) | replace t60 := t60.trans (show _ = false by decide)
          try first | replace t13 := t13.trans (show _ = true by decide) | replace t13 := t13.trans (show _ = false by decide)
          try first | replace t62 := t62.trans (show _ = true by decide) | replace t62 := t62.trans (show _ = false by decide)
          try first | replace t34 := t34.trans (show _ = true by decide) | replace t34 := t34.trans (show _ = false by decide)
          try first | replace t9 := t9.trans (show _ = true by decide) | replace t9 := t9.trans (show _ = false by decide)
          try first | replace t10 := t10.trans (show _ = true by decide) | replace t10 := t10.trans (show _ = false by decide)
          go_wp2_with (at_builtin; first
            | refine wpList_append_str _ rfl _ _ _ _ rfl w.heap.size 5 i0 _ 1 Tryz.underlying74 Tryz.underlying9 hi hz0 hz1 hz2 rfl _ out.length (cellsB out) rfl HW.out _ rfl hmC hmD hbs ?_
            | refine wpList_append_str _ rfl _ _ _ _ rfl w.heap.size 5 i0 _ 1 Tryz.underlying74 Tryz.underlying9 hi hz0 hz1 hz2 rfl _ out.length (cellsB out) rfl HW.out _ rfl hmA hmB hbs ?_)
          intro v4 w4 hown4 hg4 hat4
          have HB4 := Lib.hid (HB.out.grown hg4 HB.out.size (fun g hg => (HW.out.lt g hg).1))
          try rw [hxl] at hown4
          have HOWN4 := Lib.hid (show w4.ownsRow w.heap.size 5 1 v4 (escL _ (s.data.toList.take (i + 1))).length (cellsB (escL _ (s.data.toList.take (i + 1)))) by
            rw [HE.out, ← HO.out, List.length_append, cellsB_append]; exact hown4)
          have HL := fun b => Nat.le_trans (escL_len b (s.data.toList.take (i + 1))).2 (Nat.mul_le_mul_left 6 (show (s.data.toList.take (i + 1)).length ≤ i + 1 by rw [List.length_take]; omega))
          clear hown4 hg4 hat4 HW HO HB HE t38 t60 t13 t62 t34 t9 t10 hxl hxs hmA hmB hmC hmD
          go_wp2
          go_roundw
          case rel => exact ⟨i + 1, _, by omega, by go_num, HL _, Lib.hid rfl, HOWN4, HB4⟩
          case measure => simp [intOf]; omega
    · have hil2 : i = s.size := by omega
      have HO2 : Hid (out = escL attr s.data.toList) := Lib.hid (by rw [HO.out, List.take_of_length_le (by simp; omega)])
      by_cases ho : out = []
      · have HZ : Hid (escL attr s.data.toList = []) := Lib.hid (by rw [← HO2.out, ho])
        subst ho
        rcases HW.out.2 with ⟨rfl, _⟩ | ⟨g, cap, cur, rfl, _⟩
        · have hconv := run_text_none wr
          go_wp2
          go_ret
          exact ⟨by rw [HZ.out]; rfl, HB.out⟩
        · have hconv := run_text_empty wr g cap
          go_wp2
          go_ret
          exact ⟨by rw [HZ.out]; rfl, HB.out⟩
      · have hconv := run_text_own out HW.out ho
        clear ho
        go_wp2
        go_ret
        exact ⟨by rw [← HO2.out]; rfl, HB.out⟩
end Go.Proofs.YtbdamneophbnnaaGreatDoor
namespace Wb
theorem nameT_len {n : Pr} {plain : ByteArray} {l l' : List ByteArray} {t : List UInt8} (h : nameT n plain l = .ok (t, l')) (hl : l.length ≤ 16) : t.length ≤ n.2.size + 8 ∧ l'.length ≤ 16 := by
  have hz : n.2.data.toList.length = n.2.size := by simp
  obtain ⟨hn, ⟨_, rfl, rfl⟩ | ⟨_, _, rfl, rfl⟩ | ⟨_, _, _, hm, rfl, rfl | ⟨rfl, h16⟩⟩⟩ := nameT_cases h
  · exact ⟨by omega, hl⟩
  · refine ⟨?_, hl⟩
    rw [List.length_append, hz]
    have : sXmlK.length = 4 := rfl
    omega
  · have hi := idxB_lt hm
    have := num_len ⟨idxB n.1 l', by omega⟩
    simp only at this
    refine ⟨?_, hl⟩
    rw [List.length_append, List.length_cons, hz]
    omega
  · have hi := idxB_lt hm
    rw [List.length_append, List.length_singleton] at hi
    have := num_len ⟨idxB n.1 (l ++ [n.1]), by omega⟩
    simp only at this
    refine ⟨?_, by rw [List.length_append, List.length_singleton]; omega⟩
    rw [List.length_append, List.length_cons, hz]
    omega
end Wb
namespace Go.Proofs.YtbdamneophbnnaaGreatDoor
open Go.RowKit Wb
def cells9 (x : StV) : List Value := [.int .i64 x.kind, .bool x.any, .string x.name.1, .string x.name.2, .int .i64 x.pos, .bool x.by_, .string x.attr.1, .string x.attr.2, .string x.val]
def StepOut (o : Except Int (List UInt8 × List ByteArray)) (w : World) (e : Ending) (w' : World) : Prop :=
  Below w.heap.size w w' ∧ ((∀ k, o = .error k → ∃ v1 v2, e = .returned (.tuple #[v1, v2, .int .i64 k])) ∧
    ∀ t l, o = .ok (t, l) → ∃ C k, e = .returned (.tuple #[.string (mkT t), .slice C l.length k, .int .i64 0]) ∧ Sl1 w' C l)
theorem StepOut.bad {v1 v2 : Value} {k : Int} {w w' : World} (hb : Below w.heap.size w w') : StepOut (.error k) w (.returned (.tuple #[v1, v2, .int .i64 k])) w' :=
  ⟨hb, fun k' h => (by injection h with h; rw [h]; exact ⟨v1, v2, rfl⟩), fun t l h => (by cases h)⟩
theorem StepOut.good {C : Option Addr} {k : Nat} {t : List UInt8} {l : List ByteArray} {w w' : World} (hb : Below w.heap.size w w') (hC : Sl1 w' C l) : StepOut (.ok (t, l)) w (.returned (.tuple #[.string (mkT t), .slice C l.length k, .int .i64 0])) w' :=
  ⟨hb, fun k' h => (by cases h), fun t' l' h => (by injection h with h; injection h with h1 h2; subst h1 h2; exact ⟨C, k, rfl, hC⟩)⟩
set_option maxRecDepth 100000 in
set_option maxHeartbeats 8000000 in
theorem rstep_any (kind : Int) (any : Bool) (n1 n2 : ByteArray) (pos : Int) (by_ : Bool) (a1 a2 val space : ByteArray) (A : Option Addr) (sp : List ByteArray) (c : Nat) (w : World) (hA : Sl1 w A sp) (hsp : sp.length ≤ 16)
    (h1 : n1.size ≤ 1000000) (h2 : n2.size ≤ 1000000) (h3 : a1.size ≤ 1000000) (h4 : a2.size ≤ 1000000) (h5 : val.size ≤ 1000000) (h6 : pos ≤ 9999) :
    Calls Tryz.prog 55 #[.agg #[.int .i64 kind, .bool any, .string n1, .string n2, .int .i64 pos, .bool by_, .string a1, .string a2, .string val], .string space, .slice A sp.length c] w
      (StepOut (stpT ⟨kind, any, (n1, n2), pos, by_, (a1, a2), val⟩ space sp) w) := by
  obtain ⟨o, ho⟩ : ∃ o, stpT ⟨kind, any, (n1, n2), pos, by_, (a1, a2), val⟩ space sp = o := ⟨_, rfl⟩
  rw [ho]
  unfold stpT at ho
  simp only at ho
  have hb0 := (Below.refl w.heap.size w).alloc (Nat.le_refl _) (.cells #[.int .i64 kind, .bool any, .string n1, .string n2, .int .i64 pos, .bool by_, .string a1, .string a2, .string val] 46)
  have hnew := heap_alloc_new w (.cells #[.int .i64 kind, .bool any, .string n1, .string n2, .int .i64 pos, .bool by_, .string a1, .string a2, .string val] 46)
  have hlt : w.heap.size < (w.alloc (.cells #[.int .i64 kind, .bool any, .string n1, .string n2, .int .i64 pos, .bool by_, .string a1, .string a2, .string val] 46)).heap.size := by simp
  have HA := Lib.hid (hA.below hb0)
  generalize hwb : w.alloc (.cells #[.int .i64 kind, .bool any, .string n1, .string n2, .int .i64 pos, .bool by_, .string a1, .string a2, .string val] 46) = wb at *
  have HW := Lib.hid hnew
  have HB0 := Lib.hid hb0
  have c0 : wb.cell? ⟨w.heap.size, 0, none⟩ = some (.int .i64 kind) := blk_cell hnew 0
  clear hnew hb0 hA
  by_cases k3 : kind = 3
  · rw [if_pos k3] at ho
    have HO := Lib.hid ho
    have t3 : (kind == 3) = true := by simp [k3]
    clear ho k3
    go_enter Tryz.func55, Tryz.ntmps55
    go_wp2
    go_ret3
    rw [← HO.out]
    exact StepOut.good HB0.out HA.out
  · rw [if_neg k3] at ho
    have t3 : (kind == 3) = false := by simpa using k3
    by_cases k2 : kind = 2
    · rw [if_pos k2] at ho
      have t2 : (kind == 2) = true := by simp [k2]
      have c2 : wb.cell? ⟨w.heap.size, 2, none⟩ = some (.string n1) := blk_cell HW.out 2
      have c3 : wb.cell? ⟨w.heap.size, 3, none⟩ = some (.string n2) := blk_cell HW.out 3
      have nm := fun v (h : Sl1 v A sp) => rsname_any n1 n2 ⟨#[]⟩ A sp c v h hsp h1 h2
      have e0 : (⟨#[]⟩ : ByteArray) = sE := rfl
      cases hnt : nameT (n1, n2) sE sp with
      | error er =>
        rw [hnt] at ho
        rw [e0, hnt] at nm
        have HO := Lib.hid ho
        have NM := Lib.hid nm
        have her : er = 12 ∨ er = 13 ∨ er = 3 := by
          unfold nameT at hnt
          repeat' split at hnt
          all_goals first
            | (injection hnt with hnt; omega)
            | cases hnt
        clear ho nm hnt k3 k2
        go_enter Tryz.func55, Tryz.ntmps55
        go_wp2_with fail
        refine (NM.out _ HA.out).mono ?_
        rintro e w2 ⟨hb2, hE, _⟩
        obtain rfl := hE _ rfl
        have HB2 := Lib.hid (HB0.out.trans (hb2.mono HB0.out.size))
        clear hb2 hE NM
        go_wp2
        go_ret3
        rw [← HO.out]
        exact StepOut.bad HB2.out
      | ok r =>
        obtain ⟨t, l'⟩ := r
        rw [hnt] at ho
        rw [e0, hnt] at nm
        have HO := Lib.hid ho
        have NM := Lib.hid nm
        obtain ⟨hl1, _⟩ := nameT_len hnt hsp
        have g1 : ¬ 9223372036854775807 < 1 + (mkT t).size := by rw [mkT_size]; simp at hl1; omega
        have hr : (⟨#[64]⟩ : ByteArray) ++ mkT t = mkT (64 :: t) := by rw [show (⟨#[64]⟩ : ByteArray) = mkT [64] from rfl, mkT_app]; rfl
        clear ho nm hnt k3 k2
        go_enter Tryz.func55, Tryz.ntmps55
        go_wp2_with fail
        refine (NM.out _ HA.out).mono ?_
        rintro e w2 ⟨hb2, _, hE⟩
        obtain ⟨C, kk, rfl, hC⟩ := hE _ _ rfl
        have HB2 := Lib.hid (HB0.out.trans (hb2.mono HB0.out.size))
        have HC := Lib.hid hC
        clear hb2 hE NM hC
        generalize mkT t = T at *
        go_wp2
        go_ret3
        rw [← HO.out]
        exact StepOut.good HB2.out HC.out
    · rw [if_neg k2] at ho
      have t2 : (kind == 2) = false := by simpa using k2
      have c1 : wb.cell? ⟨w.heap.size, 1, none⟩ = some (.bool any) := blk_cell HW.out 1
      have c2 : wb.cell? ⟨w.heap.size, 2, none⟩ = some (.string n1) := blk_cell HW.out 2
      have c3 : wb.cell? ⟨w.heap.size, 3, none⟩ = some (.string n2) := blk_cell HW.out 3
      have HO := Lib.hid ho
      clear ho k2 k3
      go_enter Tryz.func55, Tryz.ntmps55
      go_upto_if 40 with fail
      go_cut [2, 12] (fun v2 v12 wx => ∃ (t0 : List UInt8) (l1 : List ByteArray) (C : Option Addr) (k : Nat), v2 = .slice C l1.length k ∧ v12 = .string (mkT t0) ∧ l1.length ≤ 16 ∧ (mkT t0).size ≤ 2000000 ∧ Hid (elemT ⟨kind, any, (n1, n2), pos, by_, (a1, a2), val⟩ space sp = .ok (t0, l1)) ∧ Hid (Sl1 wx C l1) ∧ Hid (Below wb.heap.size wb wx))
      case first =>
        cases any with
        | true =>
          go_wp2
          go_meet
          case rel => exact ⟨[42], sp, A, c, rfl, rfl, hsp, by decide, Lib.hid (by unfold elemT; rfl), HA, Lib.hid (Below.refl _ _)⟩
        | false =>
          have nm := fun v (h : Sl1 v A sp) => rsname_any n1 n2 space A sp c v h hsp h1 h2
          have hel : elemT ⟨kind, false, (n1, n2), pos, by_, (a1, a2), val⟩ space sp = nameT (n1, n2) space sp := by unfold elemT; rfl
          cases hnt : nameT (n1, n2) space sp with
          | error er =>
            rw [hnt] at nm hel
            have hoe := HO.out
            rw [hel] at hoe
            have HOE := Lib.hid hoe
            have her : er = 12 ∨ er = 13 ∨ er = 3 := by
              unfold nameT at hnt
              repeat' split at hnt
              all_goals first
                | (injection hnt with hnt; omega)
                | cases hnt
            have hz : (er != 0) = true := by rw [bne_iff_ne]; omega
            have NM := Lib.hid nm
            clear hoe hnt nm hel her HO
            go_wp2_with fail
            refine (NM.out _ HA.out).mono ?_
            rintro e w2 ⟨hb2, hE, _⟩
            obtain rfl := hE _ rfl
            have HB2 := Lib.hid (HB0.out.trans (hb2.mono HB0.out.size))
            clear hb2 hE NM
            go_wp2
            go_ret3
            rw [← HOE.out]
            exact StepOut.bad HB2.out
          | ok r =>
            obtain ⟨t0, l1⟩ := r
            rw [hnt] at nm hel
            obtain ⟨hl1, hl2⟩ := nameT_len hnt hsp
            have NM := Lib.hid nm
            have HEL := Lib.hid hel
            have hts : (mkT t0).size ≤ 2000000 := by rw [mkT_size]; simp at hl1; omega
            clear hnt nm hel hl1
            go_wp2_with fail
            refine (NM.out _ HA.out).mono ?_
            rintro e w2 ⟨hb2, _, hE⟩
            obtain ⟨C, kk, rfl, hC⟩ := hE _ _ rfl
            have HC := Lib.hid hC
            have HB2 := Lib.hid hb2
            clear hb2 hE NM hC
            obtain ⟨T, hT⟩ : ∃ T, mkT t0 = T := ⟨_, rfl⟩
            rw [hT]
            have HT := Lib.hid hT
            clear hT
            go_wp2
            go_meet
            case rel => exact ⟨t0, l1, C, kk, rfl, by rw [HT.out], hl2, hts, HEL, HC, HB2⟩
      case rest =>
        obtain ⟨t0, l1, C, k, rfl, rfl, hl1, hts, HEL, HC, HBc⟩ := hcut
        have hoe := HO.out
        rw [HEL.out] at hoe
        simp only at hoe
        have HO2 := Lib.hid hoe
        clear HO hoe HEL HA c1 c2 c3 c0 hsp
        rename World => wv
        have hbw : ∀ i v, wb.cell? ⟨w.heap.size, i, none⟩ = some v → wv.cell? ⟨w.heap.size, i, none⟩ = some v := fun i v h => (HBc.out.cell (p := ⟨w.heap.size, i, none⟩) hlt).trans h
        have c4 := hbw 4 _ (show _ = some (.int .i64 pos) from blk_cell HW.out 4)
        have HBW := Lib.hid hbw
        have HB1 := Lib.hid (HB0.out.trans (HBc.out.mono HB0.out.size))
        have hlt1 : w.heap.size < wv.heap.size := Nat.lt_of_lt_of_le hlt HBc.out.size
        clear hbw
        go_upto_if 58 with fail
        go_cut [12] (fun v12 wx => v12 = .string (mkT (t0 ++ posT pos)) ∧ (mkT (t0 ++ posT pos)).size ≤ 2000010 ∧ Hid (Below wv.heap.size wv wx))
        case first =>
          by_cases hp : 0 < pos
          · obtain ⟨p, rfl⟩ : ∃ p : Nat, pos = p := ⟨pos.toNat, by omega⟩
            have dg := fun v => sdigits_any p v (by omega) (by omega)
            have hpt : posT (p : Int) = 91 :: dgN p ++ [93] := by unfold posT; rw [if_pos hp]; rfl
            have hr : ((mkT t0 ++ ⟨#[91]⟩) ++ mkT (dgN p)) ++ ⟨#[93]⟩ = mkT (t0 ++ posT (p : Int)) := by
              rw [hpt, show (⟨#[91]⟩ : ByteArray) = mkT [91] from rfl, show (⟨#[93]⟩ : ByteArray) = mkT [93] from rfl, mkT_app, mkT_app, mkT_app]
              simp
            have hdz : (mkT (dgN p)).size ≤ 4 := by rw [mkT_size]; exact dgN_le _ 4 (by omega)
            have hsz : (mkT (t0 ++ posT (p : Int))).size ≤ 2000010 := by
              rw [mkT_size] at hts hdz ⊢
              rw [List.length_append, hpt]
              simp
              omega
            have HR := Lib.hid hr
            have HSZ := Lib.hid hsz
            clear hpt hr hsz
            generalize mkT (dgN p) = D at *
            generalize mkT t0 = T at *
            have g1 : ¬ 9223372036854775807 < T.size + 1 := by omega
            have g2 : ¬ 9223372036854775807 < T.size + 1 + D.size := by omega
            have g3 : ¬ 9223372036854775807 < T.size + 1 + D.size + 1 := by omega
            go_wp2_with fail
            refine (dg _).mono ?_
            rintro e w2 ⟨rfl, hb2⟩
            clear dg
            go_wp2
            go_meet
            case rel => exact ⟨by rw [HR.out], HSZ.out, Lib.hid hb2⟩
          · have hpt : posT pos = [] := by unfold posT; rw [if_neg hp]
            have hr : mkT t0 = mkT (t0 ++ posT pos) := by rw [hpt, List.append_nil]
            have HR := Lib.hid hr
            have hsz : (mkT (t0 ++ posT pos)).size ≤ 2000010 := by rw [← hr]; omega
            have HSZ := Lib.hid hsz
            clear hpt hr hsz
            generalize mkT t0 = T at *
            go_wp2
            go_meet
            case rel => exact ⟨by rw [HR.out], HSZ.out, Lib.hid (Below.refl _ _)⟩
        case rest =>
          obtain ⟨rfl, hts2, HBd⟩ := hcut
          have hcw : ∀ i v, wb.cell? ⟨w.heap.size, i, none⟩ = some v → wc.cell? ⟨w.heap.size, i, none⟩ = some v := fun i v h => (HBd.out.cell (p := ⟨w.heap.size, i, none⟩) hlt1).trans (HBW.out i v h)
          have c5 := hcw 5 _ (show _ = some (.bool by_) from blk_cell HW.out 5)
          have c6 := hcw 6 _ (show _ = some (.string a1) from blk_cell HW.out 6)
          have c7 := hcw 7 _ (show _ = some (.string a2) from blk_cell HW.out 7)
          have c8 := hcw 8 _ (show _ = some (.string val) from blk_cell HW.out 8)
          have HC2 := Lib.hid (HC.out.below HBd.out)
          have HB2 := Lib.hid (HB1.out.trans (HBd.out.mono HB1.out.size))
          have hlt2 : w.heap.size < wc.heap.size := Nat.lt_of_lt_of_le hlt1 HBd.out.size
          clear hcw HBW HBd HB1 HC HBc HB0 HW c4 hts
          cases by_ with
          | false =>
            have hoe := HO2.out
            rw [if_pos rfl] at hoe
            have HOE := Lib.hid hoe
            obtain ⟨T, hT⟩ : ∃ T, mkT (t0 ++ posT pos) = T := ⟨_, rfl⟩
            rw [hT]
            have HT := Lib.hid hT
            clear hT hoe HO2
            go_wp2
            go_ret3
            rw [← HOE.out, ← HT.out]
            exact StepOut.good HB2.out HC2.out
          | true =>
            have hoe := HO2.out
            rw [if_neg (by decide)] at hoe
            have nm := fun v (h : Sl1 v C l1) => rsname_any a1 a2 ⟨#[]⟩ C l1 k v h hl1 h3 h4
            have e0 : (⟨#[]⟩ : ByteArray) = sE := rfl
            cases hnt : nameT (a1, a2) sE l1 with
            | error er =>
              rw [hnt] at hoe
              rw [e0, hnt] at nm
              have HOE := Lib.hid hoe
              have her : er = 12 ∨ er = 13 ∨ er = 3 := by
                unfold nameT at hnt
                repeat' split at hnt
                all_goals first
                  | (injection hnt with hnt; omega)
                  | cases hnt
              have hz : (er != 0) = true := by rw [bne_iff_ne]; omega
              have NM := Lib.hid nm
              clear hoe hnt nm her HO2
              go_wp2_with fail
              refine (NM.out _ HC2.out).mono ?_
              rintro e w2 ⟨hb2, hE, _⟩
              obtain rfl := hE _ rfl
              have HB3 := Lib.hid (HB2.out.trans (hb2.mono HB2.out.size))
              clear hb2 hE NM
              go_wp2
              go_ret3
              rw [← HOE.out]
              exact StepOut.bad HB3.out
            | ok r =>
              obtain ⟨ta, l2⟩ := r
              rw [hnt] at hoe
              rw [e0, hnt] at nm
              simp only at hoe
              obtain ⟨hl2, _⟩ := nameT_len hnt hl1
              have NM := Lib.hid nm
              have sg := fun v => rsigns_any val v (by omega)
              have es := fun v => resc_any val true v (by omega)
              have hta : (mkT ta).size ≤ 1000010 := by rw [mkT_size]; simp at hl2; omega
              cases hsv : sgB val with
              | false =>
                rw [hsv] at sg hoe
                rw [if_pos rfl] at hoe
                have HOE := Lib.hid hoe
                have SG := Lib.hid sg
                clear hoe hnt nm sg es hl2 HO2 hsv
                go_wp2_with fail
                refine (NM.out _ HC2.out).mono ?_
                rintro e w2 ⟨hb2, _, hE⟩
                obtain ⟨D, kk, rfl, hD⟩ := hE _ _ rfl
                have HB3 := Lib.hid (HB2.out.trans (hb2.mono HB2.out.size))
                have d8 := (hb2.cell (p := ⟨w.heap.size, 8, none⟩) hlt2).trans c8
                clear hb2 hE NM hD
                go_wp2_with fail
                refine (SG.out _).mono ?_
                rintro e w3 ⟨rfl, hb3⟩
                have HB4 := Lib.hid (HB3.out.trans (hb3.mono HB3.out.size))
                clear hb3 SG
                go_wp2
                go_ret3
                rw [← HOE.out]
                exact StepOut.bad HB4.out
              | true =>
                rw [hsv] at sg hoe
                rw [if_neg (by decide)] at hoe
                have HOE := Lib.hid hoe
                have SG := Lib.hid sg
                have ES := Lib.hid es
                clear hoe hnt nm sg es hl2 HO2 hsv
                go_wp2_with fail
                refine (NM.out _ HC2.out).mono ?_
                rintro e w2 ⟨hb2, _, hE⟩
                obtain ⟨D, kk, rfl, hD⟩ := hE _ _ rfl
                have HD := Lib.hid hD
                have HB3 := Lib.hid (HB2.out.trans (hb2.mono HB2.out.size))
                have d8 := (hb2.cell (p := ⟨w.heap.size, 8, none⟩) hlt2).trans c8
                have hlt3 : w.heap.size < w2.heap.size := Nat.lt_of_lt_of_le hlt2 hb2.size
                clear hb2 hE NM hD
                go_wp2_with fail
                refine (SG.out _).mono ?_
                rintro e w3 ⟨rfl, hb3⟩
                have HB4 := Lib.hid (HB3.out.trans (hb3.mono HB3.out.size))
                have HD4 := Lib.hid (HD.out.below hb3)
                have f8 := (hb3.cell (p := ⟨w.heap.size, 8, none⟩) hlt3).trans d8
                clear hb3 SG
                have hez : (mkT (escL true val.data.toList)).size ≤ 6000000 := by
                  rw [mkT_size]
                  have := (escL_len true val.data.toList).2
                  have hv : val.data.toList.length = val.size := by simp
                  omega
                have hr : ((((mkT (t0 ++ posT pos) ++ ⟨#[91, 64]⟩) ++ mkT ta) ++ ⟨#[61, 34]⟩) ++ mkT (escL true val.data.toList)) ++ ⟨#[34, 93]⟩ = mkT (t0 ++ posT pos ++ testT ta (escL true val.data.toList)) := by
                  rw [show (⟨#[91, 64]⟩ : ByteArray) = mkT [91, 64] from rfl, show (⟨#[61, 34]⟩ : ByteArray) = mkT [61, 34] from rfl, show (⟨#[34, 93]⟩ : ByteArray) = mkT [34, 93] from rfl, mkT_app, mkT_app, mkT_app, mkT_app, mkT_app]
                  unfold testT
                  simp
                have HR := Lib.hid hr
                clear hr
                have ES2 : Hid (∀ v, Calls Tryz.prog 85 #[.string val, .bool true] v fun e w' => e = .returned (.string (mkT (escL true val.data.toList))) ∧ Below v.heap.size v w') := ES
                clear ES
                generalize mkT (escL true val.data.toList) = E at *
                generalize mkT ta = X at *
                generalize mkT (t0 ++ posT pos) = T at *
                have g1 : ¬ 9223372036854775807 < T.size + 2 := by omega
                have g2 : ¬ 9223372036854775807 < T.size + 2 + X.size := by omega
                have g3 : ¬ 9223372036854775807 < T.size + 2 + X.size + 2 := by omega
                have g4 : ¬ 9223372036854775807 < T.size + 2 + X.size + 2 + E.size := by omega
                have g5 : ¬ 9223372036854775807 < T.size + 2 + X.size + 2 + E.size + 2 := by omega
                go_wp2_with fail
                refine (ES2.out _).mono ?_
                rintro e w4 ⟨rfl, hb4⟩
                have HB5 := Lib.hid (HB4.out.trans (hb4.mono HB4.out.size))
                have HD5 := Lib.hid (HD4.out.below hb4)
                clear hb4 ES2
                go_wp2
                go_ret3
                rw [← HOE.out]
                have hfin := StepOut.good (k := kk) (t := t0 ++ posT pos ++ testT ta (escL true val.data.toList)) HB5.out HD5.out
                rw [← HR.out] at hfin
                exact hfin
end Go.Proofs.YtbdamneophbnnaaGreatDoor
namespace Wb
def contT (ts : List (List UInt8)) : Except Int (List (List UInt8) × List ByteArray) → Except Int (List (List UInt8) × List ByteArray)
  | .error e => .error e
  | .ok (a, l) => .ok (ts ++ a, l)
theorem contT_nil : ∀ o, contT [] o = o
  | .error _ => rfl
  | .ok (_, _) => rfl
theorem contT_bad {space : ByteArray} {x : StV} {r : List StV} {sp : List ByteArray} {k : Int} (ts : List (List UInt8)) (h : stpT x space sp = .error k) : contT ts (stpsT space (x :: r) sp) = .error k := by
  rw [stpsT, h]
  rfl
theorem contT_good {space : ByteArray} {x : StV} {r : List StV} {sp sp' : List ByteArray} {t : List UInt8} (ts : List (List UInt8)) (h : stpT x space sp = .ok (t, sp')) : contT ts (stpsT space (x :: r) sp) = contT (ts ++ [t]) (stpsT space r sp') := by
  rw [stpsT, h]
  simp only
  cases stpsT space r sp' with
  | error e => rfl
  | ok p =>
    obtain ⟨a, l⟩ := p
    simp [contT]
def StSm (x : StV) : Prop := x.name.1.size ≤ 50000 ∧ x.name.2.size ≤ 50000 ∧ x.attr.1.size ≤ 50000 ∧ x.attr.2.size ≤ 50000 ∧ x.val.size ≤ 50000 ∧ x.pos ≤ 9999
def SpSm (l : List ByteArray) : Prop := l.length ≤ 16 ∧ ∀ s ∈ l, s.size ≤ 50000
theorem SpSm.nil : SpSm [] := ⟨by simp, fun s h => by simp at h⟩
theorem nameT_sm {n : Pr} {plain : ByteArray} {l l' : List ByteArray} {t : List UInt8} (h : nameT n plain l = .ok (t, l')) (hl : SpSm l) (h1 : n.1.size ≤ 50000) (h2 : n.2.size ≤ 50000) : t.length ≤ 50008 ∧ SpSm l' := by
  obtain ⟨a1, a2⟩ := nameT_len h hl.1
  refine ⟨by omega, a2, ?_⟩
  obtain ⟨_, ⟨_, _, rfl⟩ | ⟨_, _, _, rfl⟩ | ⟨_, _, _, _, _, rfl | ⟨rfl, _⟩⟩⟩ := nameT_cases h
  · exact hl.2
  · exact hl.2
  · exact hl.2
  · intro s hs
    rcases List.mem_append.1 hs with hs | hs
    · exact hl.2 s hs
    · rw [List.mem_singleton.1 hs]
      exact h1
theorem stp_sm {x : StV} {space : ByteArray} {l l' : List ByteArray} {t : List UInt8} (h : stpT x space l = .ok (t, l')) (hl : SpSm l) (hx : StSm x) : t.length ≤ 1000000 ∧ SpSm l' := by
  obtain ⟨kind, any, n, pos, by_, a, val⟩ := x
  obtain ⟨s1, s2, s3, s4, s5, s6⟩ := hx
  simp only at s1 s2 s3 s4 s5 s6
  unfold stpT at h
  simp only at h
  split at h
  · injection h with h
    injection h with h1 h2
    subst h1 h2
    exact ⟨by decide, hl⟩
  split at h
  · split at h
    · cases h
    · rename_i t' l2 hn
      injection h with h
      injection h with h1 h2
      subst h1 h2
      obtain ⟨b1, b2⟩ := nameT_sm hn hl s1 s2
      exact ⟨by rw [List.length_cons]; omega, b2⟩
  split at h
  · cases h
  rename_i t0 l0 he
  have h0 : t0.length ≤ 50008 ∧ SpSm l0 := by
    unfold elemT at he
    simp only at he
    split at he
    · injection he with he
      injection he with h1 h2
      subst h1 h2
      exact ⟨by decide, hl⟩
    · exact nameT_sm he hl s1 s2
  have hp : (posT pos).length ≤ 6 := by
    unfold posT
    split
    · have := dgN_le pos.toNat 4 (by omega)
      simp
      omega
    · simp
  split at h
  · injection h with h
    injection h with h1 h2
    subst h1 h2
    exact ⟨by rw [List.length_append]; omega, h0.2⟩
  split at h
  · cases h
  rename_i ta l2 ha
  obtain ⟨b1, b2⟩ := nameT_sm ha h0.2 s3 s4
  split at h
  · cases h
  injection h with h
  injection h with h1 h2
  subst h1 h2
  refine ⟨?_, b2⟩
  have hz : val.data.toList.length = val.size := by simp
  have := (escL_len true val.data.toList).2
  unfold testT
  simp only [List.length_append, List.length_cons, List.length_nil]
  omega
theorem query_more : ∀ (sp : List ByteArray) (k i : Nat) (s : ByteArray), sp[i]? = some s → queryT k (sp.take (i + 1)) = queryT k (sp.take i) ++ (sBindK ++ (numT (k + i) ++ 61 :: s.data.toList) ++ [41])
  | [], k, i, s, h => by simp at h
  | x :: sp, k, 0, s, h => by
    simp only [List.getElem?_cons_zero, Option.some.injEq] at h
    subst h
    simp [queryT]
  | x :: sp, k, i + 1, s, h => by
    rw [List.take_succ_cons, List.take_succ_cons, queryT, queryT, query_more sp (k + 1) i s (by simpa using h)]
    rw [show k + 1 + i = k + (i + 1) by omega]
    simp
theorem query_len : ∀ (sp : List ByteArray) (k : Nat), k + sp.length ≤ 32 → (∀ s ∈ sp, s.size ≤ 50000) → (queryT k sp).length ≤ sp.length * 50020
  | [], _, _, _ => by simp [queryT]
  | s :: sp, k, hk, h => by
    rw [List.length_cons] at hk
    have h1 := query_len sp (k + 1) (by omega) fun x hx => h x (by simp [hx])
    have h2 := num_len ⟨k, by omega⟩
    have h3 := h s (by simp)
    have hz : s.data.toList.length = s.size := by simp
    have h4 : sBindK.length = 6 := rfl
    simp only at h2
    rw [queryT]
    simp only [List.length_append, List.length_cons, hz, h4]
    omega
def prV : Except Int (List UInt8 × List UInt8) → Int × List UInt8 × List UInt8
  | .error k => (k, [], [])
  | .ok (s, q) => (0, s, q)
theorem printS_no {space : ByteArray} {l : List StV} (h : shapeS l = false) : printS space l = .error 33 := by unfold printS; rw [if_pos h]
theorem printS_bad {space : ByteArray} {l : List StV} {k : Int} (h : shapeS l = true) (hs : stpsT space l [] = .error k) : printS space l = .error k := by unfold printS; rw [if_neg (by rw [h]; decide), hs]
theorem printS_ok {space : ByteArray} {l : List StV} {ts : List (List UInt8)} {sp : List ByteArray} (h : shapeS l = true) (hs : stpsT space l [] = .ok (ts, sp)) : printS space l = .ok (joinB 47 (ts.map (pctE [])), pctE [] (queryT 0 sp)) := by unfold printS; rw [if_neg (by rw [h]; decide), hs]
theorem shapeS_len {l : List StV} (h : shapeS l = true) : 1 ≤ l.length ∧ l.length ≤ 16 := by
  unfold shapeS at h
  simp only [Bool.and_eq_true, decide_eq_true_eq] at h
  exact h.2
theorem contT_end (ts : List (List UInt8)) (space : ByteArray) (sp : List ByteArray) : contT ts (stpsT space [] sp) = .ok (ts, sp) := by
  rw [stpsT]
  simp [contT]
end Wb
namespace Wb
theorem nameT_nz {n : Pr} {plain : ByteArray} {l : List ByteArray} {k : Int} (h : nameT n plain l = .error k) : k ≠ 0 := by
  unfold nameT at h
  repeat' (split at h)
  all_goals first
    | (injection h with h; subst h; decide)
    | cases h
theorem stp_err {x : StV} {space : ByteArray} {l : List ByteArray} {k : Int} (h : stpT x space l = .error k) : k ≠ 0 := by
  unfold stpT elemT at h
  repeat' (split at h)
  all_goals first
    | cases h; done
    | (rename_i hn; injection h with h; subst h; exact nameT_nz hn)
    | (injection h with h; subst h; decide)
    | (rename_i hn; injection h with h; subst h; split at hn; exact nameT_nz hn)
    | (rename_i hn; injection h with h; subst h; split at hn <;> first | (cases hn; done) | exact nameT_nz hn)
theorem shapeL_pos : ∀ (l : List StV) (f : Bool), shapeL f l = true → ∀ x ∈ l, x.pos ≤ 9999
  | [], _, _ => fun x hx => by simp at hx
  | y :: l, f, h => by
    rw [shapeL, Bool.and_eq_true] at h
    intro x hx
    rcases List.mem_cons.1 hx with rfl | hx
    · have h1 := h.1
      unfold shape1 at h1
      repeat' (split at h1)
      all_goals simp at h1
      · omega
      · omega
      · omega
    · exact shapeL_pos l false h.2 x hx
theorem shapeS_pos {l : List StV} (h : shapeS l = true) : ∀ x ∈ l, x.pos ≤ 9999 := by
  unfold shapeS at h
  rw [Bool.and_eq_true] at h
  exact shapeL_pos l true h.1
end Wb
