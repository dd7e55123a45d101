/- LeH LeA Mem2. -/
import Derived.Recover
import Derived.Laws.Pointers
import Derived.Test.YtlcjepnaljfpkaaGreatDoorQl5
import Derived.Test.YtlcjepnaljfpkaaGreatDoorQl6
import Derived.Test.YtlcjepnaljfpkaaGreatDoorQl9
namespace Go.Proofs.YtlcjepnaljfpkaaGreatDoor
open Go.RowKit Wb
theorem repl_any (s o n : ByteArray) (w : World) (hG : Gv w) (hs : s.size ≤ 1000000000) (h1 : 1 ≤ o.size) (hn : n.size ≤ 1) :
    Calls Tryz.prog 82 #[.string s, .string o, .string n] w fun e w' => e = .returned (.string ⟨(Lib.replaceAll s.data.toList o.data.toList n.data.toList).toArray⟩) ∧ Below w.heap.size w w' := by
  obtain ⟨m, hm⟩ := hG.ml
  have hc := Lib.countB_le o h1 s.size s (Nat.le_refl _)
  have : Lib.countB s o * n.size ≤ s.size * 1 := Nat.mul_le_mul hc hn
  exact Tryz.strings_ReplaceAll s o n m w (by omega) hm h1 (by omega)
theorem lines_any (s : ByteArray) (attr : Bool) (w : World) (hG : Gv w) (hs : s.size ≤ 1000000000) :
    Calls Tryz.prog 47 #[.string s, .bool attr] w fun e w' => e = .returned (.string ⟨(linesL attr s.data.toList).toArray⟩) ∧ Below w.heap.size w w' := by
  obtain ⟨x1, hx1⟩ : ∃ x1 : ByteArray, x1 = ⟨(Lib.replaceAll s.data.toList [13, 10] [10]).toArray⟩ := ⟨_, rfl⟩
  obtain ⟨x2, hx2⟩ : ∃ x2 : ByteArray, x2 = ⟨(Lib.replaceAll x1.data.toList [13] [10]).toArray⟩ := ⟨_, rfl⟩
  have e2 : x2.data.toList = endsL s.data.toList := by
    rw [hx2, hx1]
    show Lib.replaceAll (Lib.replaceAll s.data.toList [13, 10] [10]) [13] [10] = _
    rw [rall_one 13 10 (by decide), rall_crlf _ _ (Nat.le_refl _)]
  have l1 : x1.size ≤ s.size := by
    have h0 : ∀ (n : Nat) (l : List UInt8), l.length ≤ n → (Lib.replaceAll l [13, 10] [10]).length ≤ l.length := by
      intro n l hl
      have := congrArg List.length (rall_crlf n l hl)
      simp only [List.length_map] at this
      have := endsL_len l
      omega
    have := h0 _ s.data.toList (Nat.le_refl _)
    rw [hx1, Lib.size_eq, Lib.size_eq s]
    exact this
  have l2 : x2.size ≤ s.size := by rw [Lib.size_eq, e2, Lib.size_eq s]; exact endsL_len _
  have f1 : ∀ w, Gv w → Calls Tryz.prog 82 #[.string s, .string ⟨#[13, 10]⟩, .string ⟨#[10]⟩] w fun e w' => e = .returned (.string x1) ∧ Below w.heap.size w w' := by
    intro w hG; rw [hx1]; exact repl_any s ⟨#[13, 10]⟩ ⟨#[10]⟩ w hG hs (by decide) (by decide)
  have f2 : ∀ w, Gv w → Calls Tryz.prog 82 #[.string x1, .string ⟨#[13]⟩, .string ⟨#[10]⟩] w fun e w' => e = .returned (.string x2) ∧ Below w.heap.size w w' := by
    intro w hG; rw [hx2]; exact repl_any x1 ⟨#[13]⟩ ⟨#[10]⟩ w hG (by omega) (by decide) (by decide)
  cases attr
  · have HE : Hid ((⟨(linesL false s.data.toList).toArray⟩ : ByteArray) = x2) := Lib.hid (ba_extL (by rw [e2]; rfl))
    rw [HE.out]
    clear HE hx1 hx2 e2 l1 l2
    go_enter Tryz.func47, Tryz.ntmps47
    go_wp2_with fail
    refine (f1 _ hG).mono ?_
    rintro e w1 ⟨rfl, hb1⟩
    have hG1 := hG.next hb1
    go_wp2_with fail
    refine (f2 _ hG1).mono ?_
    rintro e w2 ⟨rfl, hb2⟩
    go_wp2
    go_ret
    exact ⟨rfl, hb1.trans (hb2.mono hb1.size)⟩
  · obtain ⟨x3, hx3⟩ : ∃ x3 : ByteArray, x3 = ⟨(Lib.replaceAll x2.data.toList [10] [32]).toArray⟩ := ⟨_, rfl⟩
    obtain ⟨x4, hx4⟩ : ∃ x4 : ByteArray, x4 = ⟨(Lib.replaceAll x3.data.toList [9] [32]).toArray⟩ := ⟨_, rfl⟩
    have e3 : x3.data.toList = (endsL s.data.toList).map (swapB 10 32) := by
      rw [hx3]
      show Lib.replaceAll x2.data.toList [10] [32] = _
      rw [rall_one 10 32 (by decide), e2]
    have l3 : x3.size ≤ s.size := by rw [Lib.size_eq, e3, Lib.size_eq s, List.length_map]; exact endsL_len _
    have HE : Hid ((⟨(linesL true s.data.toList).toArray⟩ : ByteArray) = x4) := Lib.hid (ba_extL (by
      rw [hx4]
      show linesL true s.data.toList = Lib.replaceAll x3.data.toList [9] [32]
      rw [rall_one 9 32 (by decide), e3]
      rfl))
    have f3 : ∀ w, Gv w → Calls Tryz.prog 82 #[.string x2, .string ⟨#[10]⟩, .string ⟨#[32]⟩] w fun e w' => e = .returned (.string x3) ∧ Below w.heap.size w w' := by
      intro w hG; rw [hx3]; exact repl_any x2 ⟨#[10]⟩ ⟨#[32]⟩ w hG (by omega) (by decide) (by decide)
    have f4 : ∀ w, Gv w → Calls Tryz.prog 82 #[.string x3, .string ⟨#[9]⟩, .string ⟨#[32]⟩] w fun e w' => e = .returned (.string x4) ∧ Below w.heap.size w w' := by
      intro w hG; rw [hx4]; exact repl_any x3 ⟨#[9]⟩ ⟨#[32]⟩ w hG (by omega) (by decide) (by decide)
    rw [HE.out]
    clear HE hx1 hx2 e2 l1 l2 hx3 hx4 e3 l3
    go_enter Tryz.func47, Tryz.ntmps47
    go_wp2_with fail
    refine (f1 _ hG).mono ?_
    rintro e w1 ⟨rfl, hb1⟩
    have hG1 := hG.next hb1
    go_wp2_with fail
    refine (f2 _ hG1).mono ?_
    rintro e w2 ⟨rfl, hb2⟩
    have hG2 := hG1.next hb2
    replace hb1 := hb1.trans (hb2.mono hb1.size)
    clear hb2
    go_wp2_with fail
    refine (f3 _ hG2).mono ?_
    rintro e w3 ⟨rfl, hb2⟩
    have hG3 := hG2.next hb2
    replace hb1 := hb1.trans (hb2.mono hb1.size)
    clear hb2
    go_wp2_with fail
    refine (f4 _ hG3).mono ?_
    rintro e w4 ⟨rfl, hb2⟩
    go_wp2
    go_ret
    exact ⟨rfl, hb1.trans (hb2.mono hb1.size)⟩
def meantX (t : List UInt8) : List UInt8 := (refV t).getD []
theorem meantX_eq (t : List UInt8) : meantX t = if t = sLt then [60] else if t = sGt then [62] else if t = sAmp then [38] else if t = sQuot then [34] else if t = sApos then [39]
    else if t.take 2 = [35, 120] then numX 16 (t.drop 2) else if t.take 1 = [35] then numX 10 (t.drop 1) else [] := by
  have key : ∀ (b : Int) (l : List UInt8), (match numL b l with | some n => if charB n = true then some (enc n) else none | none => none : Option (List UInt8)).getD [] = numX b l := by
    intro b l
    unfold numX puX
    cases numL b l with
    | none => rfl
    | some n =>
      simp only
      by_cases hc : charB n = true
      · have hn : n ≤ 2147483647 := by
          have := (sgn_iff n).1 (char_sgn n hc)
          omega
        rw [if_pos hc, if_pos hn]
        simp only [if_pos hc]
        rfl
      · rw [if_neg hc]
        by_cases hn : n ≤ 2147483647
        · rw [if_pos hn]; simp only [if_neg hc]; rfl
        · rw [if_neg hn]; rfl
  unfold meantX refV
  by_cases h1 : t = sLt
  · rw [if_pos h1, if_pos h1]; rfl
  rw [if_neg h1, if_neg h1]
  by_cases h2 : t = sGt
  · rw [if_pos h2, if_pos h2]; rfl
  rw [if_neg h2, if_neg h2]
  by_cases h3 : t = sAmp
  · rw [if_pos h3, if_pos h3]; rfl
  rw [if_neg h3, if_neg h3]
  by_cases h4 : t = sQuot
  · rw [if_pos h4, if_pos h4]; rfl
  rw [if_neg h4, if_neg h4]
  by_cases h5 : t = sApos
  · rw [if_pos h5, if_pos h5]; rfl
  rw [if_neg h5, if_neg h5]
  unfold refN
  by_cases h6 : t.take 2 = [35, 120]
  · rw [if_pos h6, if_pos h6]; exact key 16 _
  rw [if_neg h6, if_neg h6]
  by_cases h7 : t.take 1 = [35]
  · rw [if_pos h7, if_pos h7]; exact key 10 _
  rw [if_neg h7, if_neg h7]
  rfl
theorem cutpre_any (s p : ByteArray) (w : World) (b : Bool) (hb : Lib.hasPrefix s.data.toList p.data.toList = b) :
    Calls Tryz.prog 62 #[.string s, .string p] w fun e w' => e = .returned (.tuple #[.string ⟨(if b = true then s.data.toList.drop p.size else s.data.toList).toArray⟩, .bool b]) ∧ w = w' := by
  refine (Tryz.strings_CutPrefix s p w).mono ?_
  rintro e w' ⟨rfl, rfl⟩
  refine ⟨?_, rfl⟩
  unfold Lib.trimPrefix
  rw [hb, Lib.size_eq p]
theorem pre_take (p l : List UInt8) : p.isPrefixOf l = decide (l.take p.length = p) := by
  by_cases h : l.take p.length = p
  · rw [decide_eq_true h]
    exact List.isPrefixOf_iff_prefix.2 (List.prefix_iff_eq_take.2 h.symm)
  · rw [decide_eq_false h]
    cases hq : p.isPrefixOf l with
    | false => rfl
    | true => exact absurd (List.prefix_iff_eq_take.1 (List.isPrefixOf_iff_prefix.1 hq)).symm h
theorem list_eq (t : ByteArray) (l : List UInt8) : (t.toList == l) = decide (t.data.toList = l) := by
  rw [ByteArray.toList_eq]
  by_cases h : t.data.toList = l
  · rw [decide_eq_true h]; simpa using h
  · rw [decide_eq_false h]; simpa using h
set_option maxRecDepth 100000 in
set_option maxHeartbeats 1000000 in
theorem meant_any (t : ByteArray) (w : World) (hG : Gv w) (hs : t.size ≤ 1000000000) :
    Calls Tryz.prog 83 #[.string t] w fun e w' => e = .returned (.string ⟨(meantX t.data.toList).toArray⟩) ∧ Below w.heap.size w w' := by
  have HM := Lib.hid (meantX_eq t.data.toList)
  rw [HM.out]
  clear HM
  have k1 := list_eq t sLt
  have k2 := list_eq t sGt
  have k3 := list_eq t sAmp
  have k4 := list_eq t sQuot
  have k5 := list_eq t sApos
  by_cases h1 : t.data.toList = sLt
  · rw [if_pos h1]
    rw [decide_eq_true h1] at k1
    clear k2 k3 k4 k5 h1
    unfold sLt at k1
    go_enter Tryz.func83, Tryz.ntmps83
    go_wp2
    go_ret
    exact ⟨rfl, Below.refl _ _⟩
  rw [if_neg h1]
  rw [decide_eq_false h1] at k1
  clear h1
  unfold sLt at k1
  by_cases h2 : t.data.toList = sGt
  · rw [if_pos h2]
    rw [decide_eq_true h2] at k2
    clear k3 k4 k5 h2
    unfold sGt at k2
    go_enter Tryz.func83, Tryz.ntmps83
    go_wp2
    go_ret
    exact ⟨rfl, Below.refl _ _⟩
  rw [if_neg h2]
  rw [decide_eq_false h2] at k2
  clear h2
  unfold sGt at k2
  by_cases h3 : t.data.toList = sAmp
  · rw [if_pos h3]
    rw [decide_eq_true h3] at k3
    clear k4 k5 h3
    unfold sAmp at k3
    go_enter Tryz.func83, Tryz.ntmps83
    go_wp2
    go_ret
    exact ⟨rfl, Below.refl _ _⟩
  rw [if_neg h3]
  rw [decide_eq_false h3] at k3
  clear h3
  unfold sAmp at k3
  by_cases h4 : t.data.toList = sQuot
  · rw [if_pos h4]
    rw [decide_eq_true h4] at k4
    clear k5 h4
    unfold sQuot at k4
    go_enter Tryz.func83, Tryz.ntmps83
    go_wp2
    go_ret
    exact ⟨rfl, Below.refl _ _⟩
  rw [if_neg h4]
  rw [decide_eq_false h4] at k4
  clear h4
  unfold sQuot at k4
  by_cases h5 : t.data.toList = sApos
  · rw [if_pos h5]
    rw [decide_eq_true h5] at k5
    clear h5
    unfold sApos at k5
    go_enter Tryz.func83, Tryz.ntmps83
    go_wp2
    go_ret
    exact ⟨rfl, Below.refl _ _⟩
  rw [if_neg h5]
  rw [decide_eq_false h5] at k5
  clear h5
  unfold sApos at k5
  have p1 := fun w b hb => cutpre_any t ⟨#[35, 120]⟩ w b hb
  have p2 := fun w b hb => cutpre_any t ⟨#[35]⟩ w b hb
  have q1 : Lib.hasPrefix t.data.toList (⟨#[35, 120]⟩ : ByteArray).data.toList = decide (t.data.toList.take 2 = [35, 120]) := pre_take [35, 120] _
  have q2 : Lib.hasPrefix t.data.toList (⟨#[35]⟩ : ByteArray).data.toList = decide (t.data.toList.take 1 = [35]) := pre_take [35] _
  have dsz : ∀ k, (⟨(t.data.toList.drop k).toArray⟩ : ByteArray).size ≤ 1000000000 := by
    intro k
    rw [Lib.size_eq]
    show (t.data.toList.drop k).length ≤ _
    rw [List.length_drop]
    have := Lib.size_eq t
    omega
  by_cases h6 : t.data.toList.take 2 = [35, 120]
  · rw [if_pos h6]
    rw [decide_eq_true h6] at q1
    have c1 : ∀ w, Calls Tryz.prog 62 #[.string t, .string ⟨#[35, 120]⟩] w fun e w' => e = .returned (.tuple #[.string ⟨(t.data.toList.drop 2).toArray⟩, .bool true]) ∧ w = w' := fun w => p1 w true q1
    have c2 : ∀ w, Gv w → Calls Tryz.prog 119 #[.string ⟨(t.data.toList.drop 2).toArray⟩, .int .i64 16] w fun e w' => e = .returned (.string ⟨(numX 16 (t.data.toList.drop 2)).toArray⟩) ∧ Below w.heap.size w w' := fun w hG =>
      numbered_any ⟨(t.data.toList.drop 2).toArray⟩ 16 (.inr rfl) (dsz 2) w hG
    clear p1 p2 q1 q2 dsz h6
    generalize (⟨(t.data.toList.drop 2).toArray⟩ : ByteArray) = z at *
    generalize (⟨(numX 16 (t.data.toList.drop 2)).toArray⟩ : ByteArray) = y at *
    go_enter Tryz.func83, Tryz.ntmps83
    go_wp2_with fail
    refine (c1 _).mono ?_
    rintro e w' ⟨rfl, rfl⟩
    go_wp2_with fail
    refine (c2 _ hG).mono ?_
    rintro e w' ⟨rfl, hb⟩
    go_wp2
    go_ret
    exact ⟨rfl, hb⟩
  rw [if_neg h6]
  rw [decide_eq_false h6] at q1
  have c1 : ∀ w, Calls Tryz.prog 62 #[.string t, .string ⟨#[35, 120]⟩] w fun e w' => e = .returned (.tuple #[.string ⟨t.data.toList.toArray⟩, .bool false]) ∧ w = w' := fun w => p1 w false q1
  clear h6 q1 p1
  by_cases h7 : t.data.toList.take 1 = [35]
  · rw [if_pos h7]
    rw [decide_eq_true h7] at q2
    have c2 : ∀ w, Calls Tryz.prog 62 #[.string t, .string ⟨#[35]⟩] w fun e w' => e = .returned (.tuple #[.string ⟨(t.data.toList.drop 1).toArray⟩, .bool true]) ∧ w = w' := fun w => p2 w true q2
    have c3 : ∀ w, Gv w → Calls Tryz.prog 119 #[.string ⟨(t.data.toList.drop 1).toArray⟩, .int .i64 10] w fun e w' => e = .returned (.string ⟨(numX 10 (t.data.toList.drop 1)).toArray⟩) ∧ Below w.heap.size w w' := fun w hG =>
      numbered_any ⟨(t.data.toList.drop 1).toArray⟩ 10 (.inl rfl) (dsz 1) w hG
    clear p2 q2 dsz h7
    generalize (⟨(t.data.toList.drop 1).toArray⟩ : ByteArray) = z at *
    generalize (⟨(numX 10 (t.data.toList.drop 1)).toArray⟩ : ByteArray) = y at *
    go_enter Tryz.func83, Tryz.ntmps83
    go_wp2_with fail
    refine (c1 _).mono ?_
    rintro e w' ⟨rfl, rfl⟩
    go_wp2_with fail
    refine (c2 _).mono ?_
    rintro e w' ⟨rfl, rfl⟩
    go_wp2_with fail
    refine (c3 _ hG).mono ?_
    rintro e w' ⟨rfl, hb⟩
    go_wp2
    go_ret
    exact ⟨rfl, hb⟩
  · rw [if_neg h7]
    rw [decide_eq_false h7] at q2
    have c2 : ∀ w, Calls Tryz.prog 62 #[.string t, .string ⟨#[35]⟩] w fun e w' => e = .returned (.tuple #[.string ⟨t.data.toList.toArray⟩, .bool false]) ∧ w = w' := fun w => p2 w false q2
    clear p2 q2 dsz h7
    go_enter Tryz.func83, Tryz.ntmps83
    go_wp2_with fail
    refine (c1 _).mono ?_
    rintro e w' ⟨rfl, rfl⟩
    go_wp2_with fail
    refine (c2 _).mono ?_
    rintro e w' ⟨rfl, rfl⟩
    go_wp2
    go_ret
    exact ⟨rfl, Below.refl _ _⟩
end Go.Proofs.YtlcjepnaljfpkaaGreatDoor
namespace Go.Proofs.YtlcjepnaljfpkaaGreatDoor
open Go.RowKit Wb
def flt (p c : Int) : PanicEntry := { v := .iface 56 (.agg #[.int .i64 p, .int .i64 c]), recovered := false }
theorem fail_any (p c : Int) (w : World) :
    Calls Tryz.prog 49 #[.int .i64 p, .int .i64 c] w fun e w' => e = .panicked [flt p c] ∧ w = w' := by
  go_enter Tryz.func49, Tryz.ntmps49
  go_wp2
  exact ⟨rfl, rfl, rfl⟩
theorem assert_flt (v : Value) (w : World) : (Instr.typeAssert (.iface 56 v) 20 56 false).run Tryz.prog w = .ok v w := by
  kernel_rfl
theorem field_flt0 (a b : Value) (w : World) : (Instr.field 56 (.agg #[a, b]) 0).run Tryz.prog w = .ok a w := by
  kernel_rfl
theorem field_flt1 (a b : Value) (w : World) : (Instr.field 56 (.agg #[a, b]) 1).run Tryz.prog w = .ok b w := by
  kernel_rfl
theorem catch_idle (b0 b1 b2 : Addr) (w : World) :
    CallsD Tryz.prog 22 #[.pointer (some b0), .pointer (some b1), .pointer (some b2)] .returning w fun e u' w' => e = .returned (.tuple #[]) ∧ u' = .returning ∧ w' = w := by
  refine callsD_of_wpS Tryz.func22 rfl fun c₀ cs hu => ?_
  apply wpS_seq
  apply wpS_region
  simp [wpOpsS, go_sem, recoverD, hu, Tryz.ntmps22, Exit.thenS]
  refine wpS_of_wp ?_
  go_wp2
  cases c₀
  simp_all [bodyPostS, results, Tryz.results22]
theorem catch_up (b0 b1 b2 : Nat) (v0 v1 v2 : Value) (t0 t1 t2 : TypeId) (p c : Int) (older : List PanicEntry) (w : World) (h0 : w.heap[b0]? = some (.cells #[v0] t0 (0, 0))) (h1 : w.heap[b1]? = some (.cells #[v1] t1 (0, 0))) (h2 : w.heap[b2]? = some (.cells #[v2] t2 (0, 0)))
    (n1 : b1 ≠ b0) (n2 : b2 ≠ b0) (n3 : b2 ≠ b1) :
    CallsD Tryz.prog 22 #[.pointer (some ⟨b0, 0, none⟩), .pointer (some ⟨b1, 0, none⟩), .pointer (some ⟨b2, 0, none⟩)] (.panicking (flt p c :: older)) w fun e u' w' =>
      e = .returned (.tuple #[]) ∧ u' = .panicking ({ flt p c with recovered := true } :: older) ∧ w' = (((w.setCell ⟨b0, 0, none⟩ (.string ⟨#[]⟩)).setCell ⟨b1, 0, none⟩ (.int .i64 p)).setCell ⟨b2, 0, none⟩ (.int .i64 c)).drew := by
  have c0 : w.cell? ⟨b0, 0, none⟩ = some v0 := blk_cell h0 0
  have c1 : w.cell? ⟨b1, 0, none⟩ = some v1 := blk_cell h1 0
  have c2 : w.cell? ⟨b2, 0, none⟩ = some v2 := blk_cell h2 0
  have f0 := blk_free h0 0
  have f1 := blk_free h1 0
  have f2 := blk_free h2 0
  have hta := assert_flt
  have hf0 := field_flt0
  have hf1 := field_flt1
  refine callsD_of_wpS Tryz.func22 rfl fun c₀ cs hu => ?_
  apply wpS_seq
  apply wpS_region
  simp [wpOpsS, go_sem, recoverD, hu, flt, Tryz.ntmps22, Exit.thenS]
  refine wpS_of_wp ?_
  change Code.wp _ _ _ { tmps := #[.pointer (some ⟨b0, 0, none⟩), .pointer (some ⟨b1, 0, none⟩), .pointer (some ⟨b2, 0, none⟩), .iface 56 (.agg #[.int .i64 p, .int .i64 c]), .iface 56 (.agg #[.int .i64 p, .int .i64 c]), undef, undef, undef, undef, undef, undef, undef, undef], defers := [] } w
  go_wp2
  go_region
  go_wp2
  exact ⟨rfl, _, rfl, .tuple #[], by simp [results, Tryz.results22], rfl, rfl, rfl⟩
theorem tcatch_idle (b0 b1 b2 : Addr) (w : World) :
    CallsD Tryz.prog 37 #[.pointer (some b0), .pointer (some b1), .pointer (some b2)] .returning w fun e u' w' => e = .returned (.tuple #[]) ∧ u' = .returning ∧ w' = w := by
  refine callsD_of_wpS Tryz.func37 rfl fun c₀ cs hu => ?_
  apply wpS_seq
  apply wpS_region
  simp [wpOpsS, go_sem, recoverD, hu, Tryz.ntmps37, Exit.thenS]
  refine wpS_of_wp ?_
  go_wp2
  cases c₀
  simp_all [bodyPostS, results, Tryz.results37]
theorem tcatch_up (b0 b1 b2 : Nat) (v0 v1 v2 : Value) (t0 t1 t2 : TypeId) (p c : Int) (older : List PanicEntry) (w : World) (h0 : w.heap[b0]? = some (.cells #[v0] t0 (0, 0))) (h1 : w.heap[b1]? = some (.cells #[v1] t1 (0, 0))) (h2 : w.heap[b2]? = some (.cells #[v2] t2 (0, 0)))
    (n1 : b1 ≠ b0) (n2 : b2 ≠ b0) (n3 : b2 ≠ b1) :
    CallsD Tryz.prog 37 #[.pointer (some ⟨b0, 0, none⟩), .pointer (some ⟨b1, 0, none⟩), .pointer (some ⟨b2, 0, none⟩)] (.panicking (flt p c :: older)) w fun e u' w' =>
      e = .returned (.tuple #[]) ∧ u' = .panicking ({ flt p c with recovered := true } :: older) ∧ w' = (((w.setCell ⟨b0, 0, none⟩ (.slice none 0 0)).setCell ⟨b1, 0, none⟩ (.int .i64 p)).setCell ⟨b2, 0, none⟩ (.int .i64 c)).drew := by
  have c0 : w.cell? ⟨b0, 0, none⟩ = some v0 := blk_cell h0 0
  have c1 : w.cell? ⟨b1, 0, none⟩ = some v1 := blk_cell h1 0
  have c2 : w.cell? ⟨b2, 0, none⟩ = some v2 := blk_cell h2 0
  have f0 := blk_free h0 0
  have f1 := blk_free h1 0
  have f2 := blk_free h2 0
  have hta := assert_flt
  have hf0 := field_flt0
  have hf1 := field_flt1
  refine callsD_of_wpS Tryz.func37 rfl fun c₀ cs hu => ?_
  apply wpS_seq
  apply wpS_region
  simp [wpOpsS, go_sem, recoverD, hu, flt, Tryz.ntmps37, Exit.thenS]
  refine wpS_of_wp ?_
  change Code.wp _ _ _ { tmps := #[.pointer (some ⟨b0, 0, none⟩), .pointer (some ⟨b1, 0, none⟩), .pointer (some ⟨b2, 0, none⟩), .iface 56 (.agg #[.int .i64 p, .int .i64 c]), .iface 56 (.agg #[.int .i64 p, .int .i64 c]), undef, undef, undef, undef, undef, undef, undef, undef], defers := [] } w
  go_wp2
  go_region
  go_wp2
  exact ⟨rfl, _, rfl, .tuple #[], by simp [results, Tryz.results37], rfl, rfl, rfl⟩
end Go.Proofs.YtlcjepnaljfpkaaGreatDoor
namespace Wb
open Go Go.RowKit
theorem own_below {w w2 : World} {base sz n : Nat} {e : TypeId} {v : Value} {xs : List Value} (h : w.ownsRow base e sz v n xs) (hb : Below w.heap.size w w2) : w2.ownsRow base e sz v n xs := by
  refine ⟨h.1, ?_⟩
  rcases h.2 with hn | ⟨g, cap, cur, rfl, hbg, hg, rest⟩
  · exact .inl hn
  · exact .inr ⟨g, cap, cur, rfl, hbg, still_block hg hb, rest⟩
end Wb
