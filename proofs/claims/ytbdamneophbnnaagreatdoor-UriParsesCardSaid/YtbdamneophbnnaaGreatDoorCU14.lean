/- LeYy. -/
import Derived.Test.YtbdamneophbnnaaGreatDoorCU4
import Derived.Test.YtbdamneophbnnaaGreatDoorCU6
import Derived.Test.YtbdamneophbnnaaGreatDoorCU8
namespace Go.Proofs.YtbdamneophbnnaaGreatDoor.Y
open Go.RowKit Wb
structure Gv (w : World) : Prop where
  sz : 8 ≤ w.heap.size
  ml : ∃ m, w.cell? ⟨0, 0, none⟩ = some (.int .i64 m)
  es : ∃ v, w.cell? ⟨6, 0, none⟩ = some v ∧ (v = .nilIface ∨ ∃ t p, v = .iface t p)
  er : ∃ v, w.cell? ⟨7, 0, none⟩ = some v ∧ (v = .nilIface ∨ ∃ t p, v = .iface t p)
theorem Gv.keep {w w' : World} (h : Gv w) (hs : w.heap.size ≤ w'.heap.size) (hk : ∀ k, k < 8 → w'.heap[k]? = w.heap[k]?) : Gv w' := by
  have c : ∀ (g o : Nat), g < 8 → w'.cell? ⟨g, o, none⟩ = w.cell? ⟨g, o, none⟩ := fun g o hg => World.cell?_of_block (w := w) (hk g hg)
  obtain ⟨h0, h1, h2, h3⟩ := h
  exact ⟨by omega, by rw [c _ _ (by decide)]; exact h1, by rw [c _ _ (by decide)]; exact h2, by rw [c _ _ (by decide)]; exact h3⟩
theorem Gv.below {w w' : World} (h : Gv w) {B : Nat} (hB : 8 ≤ B) (hb : Below B w w') : Gv w' := h.keep hb.size (fun k hk => hb.block k (by omega))
theorem Gv.next {w w' : World} (h : Gv w) (hb : Below w.heap.size w w') : Gv w' := h.below h.sz hb
theorem Gv.alloc {w : World} (h : Gv w) (o : Obj) : Gv (w.alloc o) := h.next ((Below.refl _ w).alloc (Nat.le_refl _) o)
theorem Gv.drewN {w : World} (h : Gv w) (n : Nat) : Gv (w.drewN n) := h.keep (Nat.le_refl _) (fun _ _ => rfl)
def PuOut (o : Option Int) (e : Ending) : Prop :=
  match o with
  | some n => e = .returned (.tuple #[.int .u64 n, .nilIface])
  | none => ∃ v t p, e = .returned (.tuple #[.int .u64 v, .iface t p])
set_option maxRecDepth 100000 in
theorem ipu_none (b : Int) (w : World) :
    Calls Tryz.prog 178 #[.string ⟨#[]⟩, .int .i64 b, .int .i64 31] w fun e w' => PuIs none e ∧ Below w.heap.size w w' := by
  have he : (⟨#[]⟩ : ByteArray).toList.isEmpty = true := by rw [ByteArray.toList_eq]; rfl
  go_enter Tryz.func178, Tryz.ntmps178
  go_wp2
  go_ret2
  exact ⟨⟨_, _, rfl, .inr rfl⟩, Below.refl _ _⟩
theorem ipu_any (t : ByteArray) (b : Int) (hb : b = 10 ∨ b = 16) (hmax : t.size ≤ 1000000000) (w : World) :
    Calls Tryz.prog 178 #[.string t, .int .i64 b, .int .i64 31] w fun e w' => PuIs (puX b t.data.toList) e ∧ Below w.heap.size w w' := by
  by_cases h0 : t.size = 0
  · have ht : t = ⟨#[]⟩ := by
      apply ByteArray.ext
      exact Array.eq_empty_of_size_eq_zero h0
    subst ht
    have e : puX b (⟨#[]⟩ : ByteArray).data.toList = none := rfl
    rw [e]
    exact ipu_none b w
  · rcases hb with rfl | rfl
    · exact ipu10_any t h0 hmax w
    · exact ipu16_any t h0 hmax w
theorem pu_any (t : ByteArray) (b : Int) (hb : b = 10 ∨ b = 16) (hmax : t.size ≤ 1000000000) (w : World) (hG : Gv w) :
    Calls Tryz.prog 169 #[.string t, .int .i64 b, .int .i64 31] w fun e w' => PuOut (puX b t.data.toList) e ∧ Below w.heap.size w w' := by
  cases hp : puX b t.data.toList with
  | some n =>
    have HP := Lib.hid hp
    clear hp
    go_enter Tryz.func169, Tryz.ntmps169
    go_wp2_with fail
    refine (ipu_any t b hb hmax w).mono ?_
    rintro e w1 ⟨h1, hb1⟩
    rw [HP.out] at h1
    obtain rfl := h1
    go_wp2
    go_ret2
    exact ⟨rfl, hb1⟩
  | none =>
    have HP := Lib.hid hp
    clear hp
    go_enter Tryz.func169, Tryz.ntmps169
    go_wp2_with fail
    refine (ipu_any t b hb hmax w).mono ?_
    rintro e w1 ⟨h1, hb1⟩
    rw [HP.out] at h1
    obtain ⟨v, c, rfl, hc⟩ := h1
    have hG1 := hG.next hb1
    obtain ⟨vs, hs1, hs2⟩ := hG1.es
    obtain ⟨vr, hr1, hr2⟩ := hG1.er
    have hT : ∀ w2, w2 = w1 → Calls Tryz.prog 179 #[.string ⟨#[80, 97, 114, 115, 101, 85, 105, 110, 116]⟩, .string t, .int .i64 b, .int .i64 31, .iface 213 (.int .i64 c)] w2 fun e w' => (∃ N, e = .returned (.iface 214 (.pointer (some ⟨N, 0, none⟩)))) ∧ Below w1.heap.size w1 w' := by
      rintro w2 rfl
      rcases hc with rfl | rfl
      · exact (Tryz.strconv_toError_range _ t b 31 vr _ (by omega) hr1 hr2).mono fun e w' ⟨N, he, _, _, hb⟩ => ⟨⟨N, he⟩, hb⟩
      · exact (Tryz.strconv_toError_syntax _ t b 31 vs _ (by omega) hs1 hs2).mono fun e w' ⟨N, he, _, _, hb⟩ => ⟨⟨N, he⟩, hb⟩
    clear hs1 hs2 hr1 hr2
    go_wp2_with fail
    refine (hT _ rfl).mono ?_
    rintro e w3 ⟨⟨N, rfl⟩, hb3⟩
    go_wp2
    go_ret2
    exact ⟨⟨_, _, _, rfl⟩, hb1.trans (hb3.mono hb1.size)⟩
def numX (b : Int) (l : List UInt8) : List UInt8 :=
  match puX b l with
  | some n => if charB n = true then enc n else []
  | none => []
theorem numbered_any (t : ByteArray) (b : Int) (hb : b = 10 ∨ b = 16) (hmax : t.size ≤ 1000000000) (w : World) (hG : Gv w) :
    Calls Tryz.prog 181 #[.string t, .int .i64 b] w fun e w' => e = .returned (.string ⟨(numX b t.data.toList).toArray⟩) ∧ Below w.heap.size w w' := by
  cases hp : puX b t.data.toList with
  | none =>
    have e : numX b t.data.toList = [] := by unfold numX; rw [hp]
    rw [e]
    have HP := Lib.hid hp
    clear hp e
    go_enter Tryz.func181, Tryz.ntmps181
    go_wp2_with fail
    refine (pu_any t b hb hmax w hG).mono ?_
    rintro e w1 ⟨h1, hb1⟩
    rw [HP.out] at h1
    obtain ⟨v, tt, p, rfl⟩ := h1
    go_wp2
    go_ret
    exact ⟨rfl, hb1⟩
  | some n =>
    have hn : 0 ≤ n ∧ n ≤ 2147483647 := by
      unfold puX at hp
      cases hq : numL b t.data.toList with
      | none => rw [hq] at hp; cases hp
      | some m =>
        rw [hq] at hp
        simp only at hp
        split at hp
        · simp only [Option.some.injEq] at hp
          subst hp
          rename_i hm
          unfold numL at hq
          split at hq
          · cases hq
          · exact ⟨digL_ge b (by omega) _ 0 m (by omega) hq, hm⟩
        · cases hp
    obtain ⟨hn0, hn1⟩ := hn
    cases hc : charB n
    · have e : numX b t.data.toList = [] := by unfold numX; rw [hp]; simp only [hc]; rfl
      rw [e]
      have HP := Lib.hid hp
      have HC := Lib.hid hc
      clear hp e hc
      go_enter Tryz.func181, Tryz.ntmps181
      go_wp2_with fail
      refine (pu_any t b hb hmax w hG).mono ?_
      rintro e w1 ⟨h1, hb1⟩
      rw [HP.out] at h1
      obtain rfl := h1
      go_wp2_with fail
      refine (char_any n w1).mono ?_
      rw [HC.out]
      rintro e w2 ⟨rfl, hb2⟩
      go_wp2
      go_ret
      exact ⟨rfl, hb1.trans (hb2.mono hb1.size)⟩
    · have e : numX b t.data.toList = enc n := by unfold numX; rw [hp]; simp only [hc]; rfl
      rw [e]
      have HP := Lib.hid hp
      have HC := Lib.hid hc
      clear hp e hc
      go_enter Tryz.func181, Tryz.ntmps181
      go_wp2_with fail
      refine (pu_any t b hb hmax w hG).mono ?_
      rintro e w1 ⟨h1, hb1⟩
      rw [HP.out] at h1
      obtain rfl := h1
      go_wp2_with fail
      refine (char_any n w1).mono ?_
      rw [HC.out]
      rintro e w2 ⟨rfl, hb2⟩
      go_wp2_with fail
      refine (put_any n w2).mono ?_
      rintro e w3 ⟨rfl, hb3⟩
      go_wp2
      go_ret
      have h12 := hb1.trans (hb2.mono hb1.size)
      exact ⟨rfl, h12.trans (hb3.mono h12.size)⟩
end Go.Proofs.YtbdamneophbnnaaGreatDoor.Y
namespace Go.Proofs.YtbdamneophbnnaaGreatDoor.Y
open Go.RowKit Wb
theorem repl_any (s o n : ByteArray) (w : World) (hG : Gv w) (hs : s.size ≤ 1000000000) (h1 : 1 ≤ o.size) (hn : n.size ≤ 1) :
    Calls Tryz.prog 170 #[.string s, .string o, .string n] w fun e w' => e = .returned (.string ⟨(Lib.replaceAll s.data.toList o.data.toList n.data.toList).toArray⟩) ∧ Below w.heap.size w w' := by
  obtain ⟨m, hm⟩ := hG.ml
  have hc := Lib.countB_le o h1 s.size s (Nat.le_refl _)
  have : Lib.countB s o * n.size ≤ s.size * 1 := Nat.mul_le_mul hc hn
  exact Tryz.strings_ReplaceAll s o n m w (by omega) hm h1 (by omega)
theorem lines_any (s : ByteArray) (attr : Bool) (w : World) (hG : Gv w) (hs : s.size ≤ 1000000000) :
    Calls Tryz.prog 157 #[.string s, .bool attr] w fun e w' => e = .returned (.string ⟨(linesL attr s.data.toList).toArray⟩) ∧ Below w.heap.size w w' := by
  obtain ⟨x1, hx1⟩ : ∃ x1 : ByteArray, x1 = ⟨(Lib.replaceAll s.data.toList [13, 10] [10]).toArray⟩ := ⟨_, rfl⟩
  obtain ⟨x2, hx2⟩ : ∃ x2 : ByteArray, x2 = ⟨(Lib.replaceAll x1.data.toList [13] [10]).toArray⟩ := ⟨_, rfl⟩
  have e2 : x2.data.toList = endsL s.data.toList := by
    rw [hx2, hx1]
    show Lib.replaceAll (Lib.replaceAll s.data.toList [13, 10] [10]) [13] [10] = _
    rw [rall_one 13 10 (by decide), rall_crlf _ _ (Nat.le_refl _)]
  have l1 : x1.size ≤ s.size := by
    have h0 : ∀ (n : Nat) (l : List UInt8), l.length ≤ n → (Lib.replaceAll l [13, 10] [10]).length ≤ l.length := by
      intro n l hl
      have := congrArg List.length (rall_crlf n l hl)
      simp only [List.length_map] at this
      have := endsL_len l
      omega
    have := h0 _ s.data.toList (Nat.le_refl _)
    rw [hx1, Lib.size_eq, Lib.size_eq s]
    exact this
  have l2 : x2.size ≤ s.size := by rw [Lib.size_eq, e2, Lib.size_eq s]; exact endsL_len _
  have f1 : ∀ w, Gv w → Calls Tryz.prog 170 #[.string s, .string ⟨#[13, 10]⟩, .string ⟨#[10]⟩] w fun e w' => e = .returned (.string x1) ∧ Below w.heap.size w w' := by
    intro w hG; rw [hx1]; exact repl_any s ⟨#[13, 10]⟩ ⟨#[10]⟩ w hG hs (by decide) (by decide)
  have f2 : ∀ w, Gv w → Calls Tryz.prog 170 #[.string x1, .string ⟨#[13]⟩, .string ⟨#[10]⟩] w fun e w' => e = .returned (.string x2) ∧ Below w.heap.size w w' := by
    intro w hG; rw [hx2]; exact repl_any x1 ⟨#[13]⟩ ⟨#[10]⟩ w hG (by omega) (by decide) (by decide)
  cases attr
  · have HE : Hid ((⟨(linesL false s.data.toList).toArray⟩ : ByteArray) = x2) := Lib.hid (ba_extL (by rw [e2]; rfl))
    rw [HE.out]
    clear HE hx1 hx2 e2 l1 l2
    go_enter Tryz.func157, Tryz.ntmps157
    go_wp2_with fail
    refine (f1 _ hG).mono ?_
    rintro e w1 ⟨rfl, hb1⟩
    have hG1 := hG.next hb1
    go_wp2_with fail
    refine (f2 _ hG1).mono ?_
    rintro e w2 ⟨rfl, hb2⟩
    go_wp2
    go_ret
    exact ⟨rfl, hb1.trans (hb2.mono hb1.size)⟩
  · obtain ⟨x3, hx3⟩ : ∃ x3 : ByteArray, x3 = ⟨(Lib.replaceAll x2.data.toList [10] [32]).toArray⟩ := ⟨_, rfl⟩
    obtain ⟨x4, hx4⟩ : ∃ x4 : ByteArray, x4 = ⟨(Lib.replaceAll x3.data.toList [9] [32]).toArray⟩ := ⟨_, rfl⟩
    have e3 : x3.data.toList = (endsL s.data.toList).map (swapB 10 32) := by
      rw [hx3]
      show Lib.replaceAll x2.data.toList [10] [32] = _
      rw [rall_one 10 32 (by decide), e2]
    have l3 : x3.size ≤ s.size := by rw [Lib.size_eq, e3, Lib.size_eq s, List.length_map]; exact endsL_len _
    have HE : Hid ((⟨(linesL true s.data.toList).toArray⟩ : ByteArray) = x4) := Lib.hid (ba_extL (by
      rw [hx4]
      show linesL true s.data.toList = Lib.replaceAll x3.data.toList [9] [32]
      rw [rall_one 9 32 (by decide), e3]
      rfl))
    have f3 : ∀ w, Gv w → Calls Tryz.prog 170 #[.string x2, .string ⟨#[10]⟩, .string ⟨#[32]⟩] w fun e w' => e = .returned (.string x3) ∧ Below w.heap.size w w' := by
      intro w hG; rw [hx3]; exact repl_any x2 ⟨#[10]⟩ ⟨#[32]⟩ w hG (by omega) (by decide) (by decide)
    have f4 : ∀ w, Gv w → Calls Tryz.prog 170 #[.string x3, .string ⟨#[9]⟩, .string ⟨#[32]⟩] w fun e w' => e = .returned (.string x4) ∧ Below w.heap.size w w' := by
      intro w hG; rw [hx4]; exact repl_any x3 ⟨#[9]⟩ ⟨#[32]⟩ w hG (by omega) (by decide) (by decide)
    rw [HE.out]
    clear HE hx1 hx2 e2 l1 l2 hx3 hx4 e3 l3
    go_enter Tryz.func157, Tryz.ntmps157
    go_wp2_with fail
    refine (f1 _ hG).mono ?_
    rintro e w1 ⟨rfl, hb1⟩
    have hG1 := hG.next hb1
    go_wp2_with fail
    refine (f2 _ hG1).mono ?_
    rintro e w2 ⟨rfl, hb2⟩
    have hG2 := hG1.next hb2
    replace hb1 := hb1.trans (hb2.mono hb1.size)
    clear hb2
    go_wp2_with fail
    refine (f3 _ hG2).mono ?_
    rintro e w3 ⟨rfl, hb2⟩
    have hG3 := hG2.next hb2
    replace hb1 := hb1.trans (hb2.mono hb1.size)
    clear hb2
    go_wp2_with fail
    refine (f4 _ hG3).mono ?_
    rintro e w4 ⟨rfl, hb2⟩
    go_wp2
    go_ret
    exact ⟨rfl, hb1.trans (hb2.mono hb1.size)⟩
def meantX (t : List UInt8) : List UInt8 := (refV t).getD []
theorem meantX_eq (t : List UInt8) : meantX t = if t = sLt then [60] else if t = sGt then [62] else if t = sAmp then [38] else if t = sQuot then [34] else if t = sApos then [39]
    else if t.take 2 = [35, 120] then numX 16 (t.drop 2) else if t.take 1 = [35] then numX 10 (t.drop 1) else [] := by
  have key : ∀ (b : Int) (l : List UInt8), (match numL b l with | some n => if charB n = true then some (enc n) else none | none => none : Option (List UInt8)).getD [] = numX b l := by
    intro b l
    unfold numX puX
    cases numL b l with
    | none => rfl
    | some n =>
      simp only
      by_cases hc : charB n = true
      · have hn : n ≤ 2147483647 := by
          have := (sgn_iff n).1 (char_sgn n hc)
          omega
        rw [if_pos hc, if_pos hn]
        simp only [if_pos hc]
        rfl
      · rw [if_neg hc]
        by_cases hn : n ≤ 2147483647
        · rw [if_pos hn]; simp only [if_neg hc]; rfl
        · rw [if_neg hn]; rfl
  unfold meantX refV
  by_cases h1 : t = sLt
  · rw [if_pos h1, if_pos h1]; rfl
  rw [if_neg h1, if_neg h1]
  by_cases h2 : t = sGt
  · rw [if_pos h2, if_pos h2]; rfl
  rw [if_neg h2, if_neg h2]
  by_cases h3 : t = sAmp
  · rw [if_pos h3, if_pos h3]; rfl
  rw [if_neg h3, if_neg h3]
  by_cases h4 : t = sQuot
  · rw [if_pos h4, if_pos h4]; rfl
  rw [if_neg h4, if_neg h4]
  by_cases h5 : t = sApos
  · rw [if_pos h5, if_pos h5]; rfl
  rw [if_neg h5, if_neg h5]
  unfold refN
  by_cases h6 : t.take 2 = [35, 120]
  · rw [if_pos h6, if_pos h6]; exact key 16 _
  rw [if_neg h6, if_neg h6]
  by_cases h7 : t.take 1 = [35]
  · rw [if_pos h7, if_pos h7]; exact key 10 _
  rw [if_neg h7, if_neg h7]
  rfl
theorem cutpre_any (s p : ByteArray) (w : World) (b : Bool) (hb : Lib.hasPrefix s.data.toList p.data.toList = b) :
    Calls Tryz.prog 89 #[.string s, .string p] w fun e w' => e = .returned (.tuple #[.string ⟨(if b = true then s.data.toList.drop p.size else s.data.toList).toArray⟩, .bool b]) ∧ w = w' := by
  refine (Tryz.strings_CutPrefix s p w).mono ?_
  rintro e w' ⟨rfl, rfl⟩
  refine ⟨?_, rfl⟩
  unfold Lib.trimPrefix
  rw [hb, Lib.size_eq p]
theorem pre_take (p l : List UInt8) : p.isPrefixOf l = decide (l.take p.length = p) := by
  by_cases h : l.take p.length = p
  · rw [decide_eq_true h]
    exact List.isPrefixOf_iff_prefix.2 (List.prefix_iff_eq_take.2 h.symm)
  · rw [decide_eq_false h]
    cases hq : p.isPrefixOf l with
    | false => rfl
    | true => exact absurd (List.prefix_iff_eq_take.1 (List.isPrefixOf_iff_prefix.1 hq)).symm h
theorem list_eq (t : ByteArray) (l : List UInt8) : (t.toList == l) = decide (t.data.toList = l) := by
  rw [ByteArray.toList_eq]
  by_cases h : t.data.toList = l
  · rw [decide_eq_true h]; simpa using h
  · rw [decide_eq_false h]; simpa using h
set_option maxRecDepth 100000 in
set_option maxHeartbeats 1000000 in
theorem meant_any (t : ByteArray) (w : World) (hG : Gv w) (hs : t.size ≤ 1000000000) :
    Calls Tryz.prog 171 #[.string t] w fun e w' => e = .returned (.string ⟨(meantX t.data.toList).toArray⟩) ∧ Below w.heap.size w w' := by
  have HM := Lib.hid (meantX_eq t.data.toList)
  rw [HM.out]
  clear HM
  have k1 := list_eq t sLt
  have k2 := list_eq t sGt
  have k3 := list_eq t sAmp
  have k4 := list_eq t sQuot
  have k5 := list_eq t sApos
  by_cases h1 : t.data.toList = sLt
  · rw [if_pos h1]
    rw [decide_eq_true h1] at k1
    clear k2 k3 k4 k5 h1
    unfold sLt at k1
    go_enter Tryz.func171, Tryz.ntmps171
    go_wp2
    go_ret
    exact ⟨rfl, Below.refl _ _⟩
  rw [if_neg h1]
  rw [decide_eq_false h1] at k1
  clear h1
  unfold sLt at k1
  by_cases h2 : t.data.toList = sGt
  · rw [if_pos h2]
    rw [decide_eq_true h2] at k2
    clear k3 k4 k5 h2
    unfold sGt at k2
    go_enter Tryz.func171, Tryz.ntmps171
    go_wp2
    go_ret
    exact ⟨rfl, Below.refl _ _⟩
  rw [if_neg h2]
  rw [decide_eq_false h2] at k2
  clear h2
  unfold sGt at k2
  by_cases h3 : t.data.toList = sAmp
  · rw [if_pos h3]
    rw [decide_eq_true h3] at k3
    clear k4 k5 h3
    unfold sAmp at k3
    go_enter Tryz.func171, Tryz.ntmps171
    go_wp2
    go_ret
    exact ⟨rfl, Below.refl _ _⟩
  rw [if_neg h3]
  rw [decide_eq_false h3] at k3
  clear h3
  unfold sAmp at k3
  by_cases h4 : t.data.toList = sQuot
  · rw [if_pos h4]
    rw [decide_eq_true h4] at k4
    clear k5 h4
    unfold sQuot at k4
    go_enter Tryz.func171, Tryz.ntmps171
    go_wp2
    go_ret
    exact ⟨rfl, Below.refl _ _⟩
  rw [if_neg h4]
  rw [decide_eq_false h4] at k4
  clear h4
  unfold sQuot at k4
  by_cases h5 : t.data.toList = sApos
  · rw [if_pos h5]
    rw [decide_eq_true h5] at k5
    clear h5
    unfold sApos at k5
    go_enter Tryz.func171, Tryz.ntmps171
    go_wp2
    go_ret
    exact ⟨rfl, Below.refl _ _⟩
  rw [if_neg h5]
  rw [decide_eq_false h5] at k5
  clear h5
  unfold sApos at k5
  have p1 := fun w b hb => cutpre_any t ⟨#[35, 120]⟩ w b hb
  have p2 := fun w b hb => cutpre_any t ⟨#[35]⟩ w b hb
  have q1 : Lib.hasPrefix t.data.toList (⟨#[35, 120]⟩ : ByteArray).data.toList = decide (t.data.toList.take 2 = [35, 120]) := pre_take [35, 120] _
  have q2 : Lib.hasPrefix t.data.toList (⟨#[35]⟩ : ByteArray).data.toList = decide (t.data.toList.take 1 = [35]) := pre_take [35] _
  have dsz : ∀ k, (⟨(t.data.toList.drop k).toArray⟩ : ByteArray).size ≤ 1000000000 := by
    intro k
    rw [Lib.size_eq]
    show (t.data.toList.drop k).length ≤ _
    rw [List.length_drop]
    have := Lib.size_eq t
    omega
  by_cases h6 : t.data.toList.take 2 = [35, 120]
  · rw [if_pos h6]
    rw [decide_eq_true h6] at q1
    have c1 : ∀ w, Calls Tryz.prog 89 #[.string t, .string ⟨#[35, 120]⟩] w fun e w' => e = .returned (.tuple #[.string ⟨(t.data.toList.drop 2).toArray⟩, .bool true]) ∧ w = w' := fun w => p1 w true q1
    have c2 : ∀ w, Gv w → Calls Tryz.prog 181 #[.string ⟨(t.data.toList.drop 2).toArray⟩, .int .i64 16] w fun e w' => e = .returned (.string ⟨(numX 16 (t.data.toList.drop 2)).toArray⟩) ∧ Below w.heap.size w w' := fun w hG =>
      numbered_any ⟨(t.data.toList.drop 2).toArray⟩ 16 (.inr rfl) (dsz 2) w hG
    clear p1 p2 q1 q2 dsz h6
    generalize (⟨(t.data.toList.drop 2).toArray⟩ : ByteArray) = z at *
    generalize (⟨(numX 16 (t.data.toList.drop 2)).toArray⟩ : ByteArray) = y at *
    go_enter Tryz.func171, Tryz.ntmps171
    go_wp2_with fail
    refine (c1 _).mono ?_
    rintro e w' ⟨rfl, rfl⟩
    go_wp2_with fail
    refine (c2 _ hG).mono ?_
    rintro e w' ⟨rfl, hb⟩
    go_wp2
    go_ret
    exact ⟨rfl, hb⟩
  rw [if_neg h6]
  rw [decide_eq_false h6] at q1
  have c1 : ∀ w, Calls Tryz.prog 89 #[.string t, .string ⟨#[35, 120]⟩] w fun e w' => e = .returned (.tuple #[.string ⟨t.data.toList.toArray⟩, .bool false]) ∧ w = w' := fun w => p1 w false q1
  clear h6 q1 p1
  by_cases h7 : t.data.toList.take 1 = [35]
  · rw [if_pos h7]
    rw [decide_eq_true h7] at q2
    have c2 : ∀ w, Calls Tryz.prog 89 #[.string t, .string ⟨#[35]⟩] w fun e w' => e = .returned (.tuple #[.string ⟨(t.data.toList.drop 1).toArray⟩, .bool true]) ∧ w = w' := fun w => p2 w true q2
    have c3 : ∀ w, Gv w → Calls Tryz.prog 181 #[.string ⟨(t.data.toList.drop 1).toArray⟩, .int .i64 10] w fun e w' => e = .returned (.string ⟨(numX 10 (t.data.toList.drop 1)).toArray⟩) ∧ Below w.heap.size w w' := fun w hG =>
      numbered_any ⟨(t.data.toList.drop 1).toArray⟩ 10 (.inl rfl) (dsz 1) w hG
    clear p2 q2 dsz h7
    generalize (⟨(t.data.toList.drop 1).toArray⟩ : ByteArray) = z at *
    generalize (⟨(numX 10 (t.data.toList.drop 1)).toArray⟩ : ByteArray) = y at *
    go_enter Tryz.func171, Tryz.ntmps171
    go_wp2_with fail
    refine (c1 _).mono ?_
    rintro e w' ⟨rfl, rfl⟩
    go_wp2_with fail
    refine (c2 _).mono ?_
    rintro e w' ⟨rfl, rfl⟩
    go_wp2_with fail
    refine (c3 _ hG).mono ?_
    rintro e w' ⟨rfl, hb⟩
    go_wp2
    go_ret
    exact ⟨rfl, hb⟩
  · rw [if_neg h7]
    rw [decide_eq_false h7] at q2
    have c2 : ∀ w, Calls Tryz.prog 89 #[.string t, .string ⟨#[35]⟩] w fun e w' => e = .returned (.tuple #[.string ⟨t.data.toList.toArray⟩, .bool false]) ∧ w = w' := fun w => p2 w false q2
    clear p2 q2 dsz h7
    go_enter Tryz.func171, Tryz.ntmps171
    go_wp2_with fail
    refine (c1 _).mono ?_
    rintro e w' ⟨rfl, rfl⟩
    go_wp2_with fail
    refine (c2 _).mono ?_
    rintro e w' ⟨rfl, rfl⟩
    go_wp2
    go_ret
    exact ⟨rfl, Below.refl _ _⟩
end Go.Proofs.YtbdamneophbnnaaGreatDoor.Y
namespace Go.Proofs.YtbdamneophbnnaaGreatDoor.Y
open Go.RowKit Wb
theorem toL (l : List UInt8) : (⟨l.toArray⟩ : ByteArray).data.toList = l := rfl
theorem ref_any (b : List UInt8) (s : ByteArray) (hsl : s.data.toList = 38 :: b) (w : World) (hG : Gv w) (hs : s.size ≤ 1000000000) :
    Calls Tryz.prog 158 #[.string s] w fun e w' => e = .returned (.tuple #[.string ⟨(refX b).1.toArray⟩, .int .i64 (refX b).2]) ∧ Below w.heap.size w w' := by
  have hlen : s.size = b.length + 1 := by rw [Lib.size_eq, hsl]; rfl
  have hix : ∀ w, Calls Tryz.prog 156 #[.string s, .int .u8 59] w fun e w' => e = .returned (.int .i64 (Lib.indexByte s.data.toList 59)) ∧ w = w' := fun w =>
    (Tryz.strings_IndexByte s 59 w).mono (by rintro e w' ⟨rfl, rfl⟩; exact ⟨rfl, rfl⟩)
  have hcases : (Lib.indexByte s.data.toList 59 = -1 ∧ semi b = none) ∨ ∃ k : Nat, Lib.indexByte s.data.toList 59 = ((k + 1 : Nat) : Int) ∧ k < b.length ∧ semi b = some (b.take k, b.drop (k + 1)) := by
    rw [hsl]
    have e : Lib.indexByte (38 :: b) 59 = if Lib.indexByte b 59 == -1 then -1 else Lib.indexByte b 59 + 1 := by
      conv => lhs; unfold Lib.indexByte
      rw [if_neg (by decide)]
    have hg := Lib.indexByte_ge b 59
    by_cases h : Lib.indexByte b 59 = -1
    · left
      refine ⟨by rw [e, h]; rfl, semi_none b fun j hj he => ?_⟩
      have := Lib.indexByte_none h j
      rw [List.getElem?_eq_getElem hj, he] at this
      exact this rfl
    · right
      obtain ⟨k, hk⟩ : ∃ k : Nat, Lib.indexByte b 59 = k := ⟨(Lib.indexByte b 59).toNat, by omega⟩
      obtain ⟨h1, h2⟩ := Lib.indexByte_some hk
      have hkl : k < b.length := by
        rcases Nat.lt_or_ge k b.length with h | h
        · exact h
        · rw [List.getElem?_eq_none h] at h1; cases h1
      refine ⟨k, ?_, hkl, semi_some b k hkl ?_ ?_⟩
      · rw [e, hk, if_neg (by simp)]
        rfl
      · rw [List.getElem?_eq_getElem hkl] at h1
        exact Option.some.inj h1
      · intro j hj he
        have := h2 j hj
        rw [List.getElem?_eq_getElem (by omega), he] at this
        exact this rfl
  rcases hcases with ⟨hi, hsm⟩ | ⟨k, hi, hk, hsm⟩
  · have hx : refX b = ([], 0) := by unfold refX; rw [hsm]
    rw [hx]
    rw [hi] at hix
    clear hi hsm hx hsl
    go_enter Tryz.func158, Tryz.ntmps158
    go_wp2_with fail
    refine (hix _).mono ?_
    rintro e w' ⟨rfl, rfl⟩
    go_wp2
    go_ret2
    exact ⟨rfl, Below.refl _ _⟩
  · rw [hi] at hix
    have hex : s.extract 1 (k + 1) = ⟨(b.take k).toArray⟩ := ba_extL (by
      rw [extract_L, hsl]
      simp)
    have hmt : ∀ w, Gv w → Calls Tryz.prog 171 #[.string (s.extract 1 (k + 1))] w fun e w' => e = .returned (.string ⟨(meantX (b.take k)).toArray⟩) ∧ Below w.heap.size w w' := by
      intro w hG
      have := meant_any (s.extract 1 (k + 1)) w hG (by rw [Lib.size_eq, hex, toL, List.length_take]; have := Nat.min_le_left k b.length; omega)
      rw [hex, toL] at this
      rw [hex]
      exact this
    have c1 : (1 : Int) ≤ (k : Int) + 1 := by omega
    have c2 : (k : Int) + 1 ≤ (s.size : Int) := by omega
    cases hv : refV (b.take k) with
    | none =>
      have hx : refX b = ([], 0) := by unfold refX; rw [hsm]; simp only [hv]
      have hm : meantX (b.take k) = [] := by unfold meantX; rw [hv]; rfl
      have h0 : (⟨([] : List UInt8).toArray⟩ : ByteArray).toList.isEmpty = true := by rw [ByteArray.toList_eq]; rfl
      have h1 : (⟨([] : List UInt8).toArray⟩ : ByteArray).toList = [] := by rw [ByteArray.toList_eq]
      rw [hx]
      rw [hm] at hmt
      obtain ⟨z, hz⟩ : ∃ z : ByteArray, (⟨([] : List UInt8).toArray⟩ : ByteArray) = z := ⟨_, rfl⟩
      clear hi hsm hx hsl hv hm hex
      go_enter Tryz.func158, Tryz.ntmps158
      go_wp2_with fail
      refine (hix _).mono ?_
      rintro e w' ⟨rfl, rfl⟩
      go_wp2_with fail
      refine (hmt _ hG).mono ?_
      rintro e w' ⟨rfl, hb⟩
      go_wp2
      go_ret2
      exact ⟨rfl, hb⟩
    | some x =>
      have hx : refX b = (x, (b.take k).length + 2) := by unfold refX; rw [hsm]; simp only [hv]
      have hm : meantX (b.take k) = x := by unfold meantX; rw [hv]; rfl
      have hl : (b.take k).length = k := by rw [List.length_take]; omega
      have hxn := refV_ne hv
      have h0 : (⟨x.toArray⟩ : ByteArray).toList.isEmpty = false := by rw [ByteArray.toList_eq]; simpa using hxn
      have h1 : ¬ (⟨x.toArray⟩ : ByteArray).toList = [] := by rw [ByteArray.toList_eq]; exact hxn
      rw [hx, hl]
      rw [hm] at hmt
      clear hi hsm hx hsl hv hm hex hxn hl
      generalize (⟨x.toArray⟩ : ByteArray) = z at *
      go_enter Tryz.func158, Tryz.ntmps158
      go_wp2_with fail
      refine (hix _).mono ?_
      rintro e w' ⟨rfl, rfl⟩
      go_wp2_with fail
      refine (hmt _ hG).mono ?_
      rintro e w' ⟨rfl, hb⟩
      go_wp2
      go_ret2
      exact ⟨by congr 2, hb⟩
theorem write_any (B b : Nat) (bs : List Value) (s : ByteArray) (w : World) (h : Lib.IsBuilder 89 5 B b bs w) (hlen : bs.length + s.size ≤ 140737488355328) (hBw : B ≤ w.heap.size) :
    Calls Tryz.prog 111 #[.pointer (some ⟨b, 0, none⟩), .string s] w fun e w' => (∃ v, e = .returned v) ∧ Lib.IsBuilder 89 5 B b (bs ++ Lib.strCells s) w' ∧ Below B w w' := by
  refine (Any.Builder_WriteString { Tryz.lays154 with } Tryz.Builder_Extra_154 B b bs s w h hlen hBw).mono ?_
  rintro e w' ⟨rfl, h1, h2⟩
  exact ⟨⟨_, rfl⟩, .inr h1, h2⟩
theorem isb_below {T e : TypeId} {B b : Nat} {bs : List Value} {w w' : World} (h : Lib.IsBuilder T e B b bs w) (hb : Below w.heap.size w w') : Lib.IsBuilder T e B b bs w' := by
  have k : ∀ p, Lib.BuilderAt T e B b p bs w → Lib.BuilderAt T e B b p bs w' := by
    rintro p ⟨h1, v, h2, h3, h4⟩
    exact ⟨h1, v, still_block h2 hb, own_below h3 hb, h4⟩
  exact h.imp (k _) (k _)
def UnOut (o : Except Nat (List UInt8)) (e : Ending) : Prop :=
  match o with
  | .ok x => e = .returned (.string ⟨x.toArray⟩)
  | .error p => e = .panicked [flt p 16]
def sLen : Value → Nat
  | .string b => b.size
  | _ => 0
set_option maxRecDepth 100000 in
set_option maxHeartbeats 1000000 in
theorem unescape_any (s : ByteArray) (attr : Bool) (at_ : Nat) (w : World) (hG : Gv w) (hs : s.size ≤ 100000000) (hat : at_ ≤ 100000000) :
    Calls Tryz.prog 144 #[.string s, .bool attr, .int .i64 at_] w fun e w' => UnOut (unL attr (s.size + 1) s.data.toList at_) e ∧ Below w.heap.size w w' := by
  obtain ⟨r, hr⟩ : ∃ r, unL attr (s.size + 1) s.data.toList at_ = r := ⟨_, rfl⟩
  have HR := Lib.hid hr
  rw [hr]
  clear hr
  have hlenS := Lib.size_eq s
  have hix : ∀ (s : ByteArray) w, Calls Tryz.prog 156 #[.string s, .int .u8 38] w fun e w' => e = .returned (.int .i64 (Lib.indexByte s.data.toList 38)) ∧ w = w' := fun s w =>
    (Tryz.strings_IndexByte s 38 w).mono (by rintro e w' ⟨rfl, rfl⟩; exact ⟨rfl, rfl⟩)
  go_enter Tryz.func144, Tryz.ntmps144
  go_wp2
  go_loopw [0, 2] (fun v0 v2 wr => ∃ (sk : ByteArray) (k f : Nat) (out : List UInt8), v0 = .string sk ∧ v2 = .int .i64 k ∧ k + sk.size ≤ at_ + s.size ∧ out.length + 4 * sk.size ≤ 4 * s.size ∧ sk.size < f ∧
    Hid (Lib.IsBuilder 89 5 w.heap.size w.heap.size (Lib.byteCells out) wr) ∧ Hid (Below w.heap.size w wr) ∧
    Hid (unL attr (s.size + 1) s.data.toList at_ = (unL attr f sk.data.toList k).map (out ++ ·))) (fun v0 _ _ => sLen v0)
  case atStart =>
    refine ⟨s, at_, s.size + 1, [], rfl, rfl, by omega, by simp, by omega, Lib.hid (Lib.fresh_isBuilder 89 5 w), Lib.hid ((Below.refl _ w).alloc (Nat.le_refl _) _), Lib.hid ?_⟩
    cases unL attr (s.size + 1) s.data.toList at_ <;> rfl
  case round =>
    obtain ⟨sk, k, f, out, rfl, rfl, hk, ho, hf, HB, HW, HU⟩ := hrel
    have hlenK := Lib.size_eq sk
    have hGr := hG.next HW.out
    have hBw : w.heap.size ≤ wr.heap.size := HW.out.size
    by_cases hi : Lib.indexByte sk.data.toList 38 = -1
    · have hno : ∀ b ∈ sk.data.toList, b ≠ 38 := by
        intro b hb he
        obtain ⟨j, hj, rfl⟩ := List.mem_iff_getElem.1 hb
        have := Lib.indexByte_none hi j
        rw [List.getElem?_eq_getElem hj, he] at this
        exact this rfl
      have HE : Hid (r = .ok (out ++ linesL attr sk.data.toList)) := Lib.hid (by
        rw [← HR.out, HU.out, unL_seg_end attr _ hno k f (by omega)]
        rfl)
      have hll := linesL_len attr sk.data.toList
      have hx := hix sk
      rw [hi] at hx
      clear hi hno HU hix
      have hln := fun w hG => lines_any sk attr w hG (by omega)
      obtain ⟨y, hy⟩ : ∃ y : ByteArray, y = ⟨(linesL attr sk.data.toList).toArray⟩ := ⟨_, rfl⟩
      have hyl : y.data.toList = linesL attr sk.data.toList := by rw [hy]
      have hys : y.size ≤ sk.size := by rw [Lib.size_eq, hyl]; omega
      rw [← hy] at hln
      have HY := Lib.hid hyl
      clear hy hyl
      go_wp2_with fail
      refine (hx _).mono ?_
      rintro e w' ⟨rfl, rfl⟩
      go_wp2_with fail
      refine (hln _ hGr).mono ?_
      rintro e w1 ⟨rfl, hb1⟩
      have HB1 := Lib.hid (isb_below HB.out hb1)
      have HW1 := Lib.hid (HW.out.trans (hb1.mono hBw))
      clear hb1
      have hBw1 : w.heap.size ≤ w1.heap.size := HW1.out.size
      go_wp2_with fail
      refine (write_any w.heap.size w.heap.size _ y w1 HB1.out (by rw [Lib.byteCells_length]; omega) hBw1).mono ?_
      rintro e w2 ⟨⟨v, rfl⟩, hB2, hb2⟩
      rw [Lib.strCells_eq, ← Lib.byteCells_append, HY.out] at hB2
      have HB2 := Lib.hid hB2
      have HW2 := Lib.hid (HW1.out.trans hb2)
      clear hB2 hb2
      go_wp2_with fail
      refine (Tryz.Builder_String_any w.heap.size w.heap.size _ w2 HB2.out HW2.out.size).mono ?_
      rintro e w3 ⟨rfl, hb3⟩
      have HW3 := Lib.hid (HW2.out.trans hb3)
      clear hb3
      go_wp2
      go_ret
      rw [HE.out]
      exact ⟨rfl, HW3.out⟩
    · have hg := Lib.indexByte_ge sk.data.toList 38
      obtain ⟨n, hn⟩ : ∃ n : Nat, Lib.indexByte sk.data.toList 38 = n := ⟨(Lib.indexByte sk.data.toList 38).toNat, by omega⟩
      obtain ⟨h1, h2⟩ := Lib.indexByte_some hn
      have hnl : n < sk.data.toList.length := by
        rcases Nat.lt_or_ge n sk.data.toList.length with h | h
        · exact h
        · rw [List.getElem?_eq_none h] at h1; cases h1
      rw [List.getElem?_eq_getElem hnl] at h1
      obtain ⟨a, ha⟩ : ∃ a, sk.data.toList.take n = a := ⟨_, rfl⟩
      obtain ⟨b, hb⟩ : ∃ b, sk.data.toList.drop (n + 1) = b := ⟨_, rfl⟩
      have hsp : sk.data.toList.drop n = 38 :: b := by
        rw [List.drop_eq_getElem_cons hnl, Option.some.inj h1, hb]
      have hall : sk.data.toList = a ++ 38 :: b := by rw [← hsp, ← ha, List.take_append_drop]
      have hal : a.length = n := by rw [← ha, List.length_take]; omega
      have hbl : n + b.length + 1 = sk.size := by rw [hlenK, hall, List.length_append, List.length_cons]; omega
      have hno : ∀ c ∈ a, c ≠ 38 := by
        intro c hc he
        obtain ⟨j, hj, rfl⟩ := List.mem_iff_getElem.1 hc
        have := h2 j (by omega)
        rw [hall, List.getElem?_append_left hj, List.getElem?_eq_getElem hj, he] at this
        exact this rfl
      have hx := hix sk
      rw [hn] at hx
      have e1 : sk.extract 0 n = ⟨a.toArray⟩ := ba_extL (by rw [extract_L, toL]; simpa using ha)
      have e2 : sk.extract n sk.size = ⟨(38 :: b).toArray⟩ := ba_extL (by rw [extract_L, toL, hsp, List.take_of_length_le (by simp; omega)])
      have hln := fun w hG => lines_any (sk.extract 0 n) attr w hG (by rw [Lib.size_eq, e1, toL]; omega)
      have hrf := fun w hG => ref_any b (sk.extract n sk.size) (by rw [e2]) w hG (by rw [Lib.size_eq, e2, toL, List.length_cons]; omega)
      have hUa : unL attr f sk.data.toList k = (unL attr (b.length + 2) (38 :: b) (k + n)).map (linesL attr a ++ ·) := by
        rw [hall, ← hal]
        exact unL_seg attr (38 :: b) (.inr rfl) a.length a (Nat.le_refl _) hno k f (b.length + 2) (by rw [← hall]; omega) (by simp)
      have hll := linesL_len attr a
      have hla : linesL attr (sk.extract 0 n).data.toList = linesL attr a := by rw [e1]
      rw [hla] at hln
      obtain ⟨y, hy⟩ : ∃ y : ByteArray, y = ⟨(linesL attr a).toArray⟩ := ⟨_, rfl⟩
      have hyl : y.data.toList = linesL attr a := by rw [hy]
      have hys : y.size ≤ n := by rw [Lib.size_eq, hyl]; omega
      rw [← hy] at hln
      have HY := Lib.hid hyl
      obtain ⟨x, m, hxm⟩ : ∃ x m, refX b = (x, m) := ⟨_, _, rfl⟩
      rw [hxm] at hrf
      have hc0 : (0 : Int) ≤ (n : Int) := by omega
      have hc1 : (n : Int) ≤ (sk.size : Int) := by omega
      have hc2 : n ≤ sk.size := by omega
      by_cases hm : m = 0
      · have HE : Hid (r = .error (k + n)) := Lib.hid (by
          rw [← HR.out, HU.out, hUa, unL_amp_bad attr b (b.length + 1) (k + n) (by rw [hxm, hm])]
          rfl)
        subst hm
        have HBL := Lib.hid hbl
        clear hi hno HU hix hy hyl hUa hla e1 e2 hall hal hsp ha hb h1 h2 hn hnl hxm hg hlenK hbl hlenS hll
        go_wp2_with fail
        refine (hx _).mono ?_
        rintro e w' ⟨rfl, rfl⟩
        go_wp2_with fail
        refine (hln _ hGr).mono ?_
        rintro e w1 ⟨rfl, hb1⟩
        have HB1 := Lib.hid (isb_below HB.out hb1)
        have HW1 := Lib.hid (HW.out.trans (hb1.mono hBw))
        clear hb1
        have hBw1 : w.heap.size ≤ w1.heap.size := HW1.out.size
        go_wp2_with fail
        refine (write_any w.heap.size w.heap.size _ y w1 HB1.out (by rw [Lib.byteCells_length]; omega) hBw1).mono ?_
        rintro e w2 ⟨⟨v, rfl⟩, hB2, hb2⟩
        have HW2 := Lib.hid (HW1.out.trans hb2)
        clear hB2 hb2
        go_wp2_with fail
        refine (hrf _ (hG.next HW2.out)).mono ?_
        rintro e w3 ⟨rfl, hb3⟩
        have HW3 := Lib.hid (HW2.out.trans (hb3.mono HW2.out.size))
        clear hb3
        go_wp2_with fail
        refine (fail_any _ 16 _).mono ?_
        rintro e w4 ⟨rfl, rfl⟩
        obtain rfl := HE.out
        exact ⟨rfl, rfl, HW3.out⟩
      · obtain ⟨hU2, hmb, hm2, hxn⟩ := unL_amp_ok attr b (b.length + 1) (k + n) m x hxm hm
        have e3 : sk.extract (n + m) sk.size = ⟨((38 :: b).drop m).toArray⟩ := ba_extL (by rw [extract_L, toL, ← List.drop_drop, hsp, List.take_of_length_le (by simp; omega)])
        have hxl : x.length ≤ 4 := by
          unfold refX at hxm
          cases hs : semi b with
          | none => rw [hs] at hxm; simp at hxm; omega
          | some p =>
            obtain ⟨t, q⟩ := p
            rw [hs] at hxm
            simp only at hxm
            cases hv : refV t with
            | none => rw [hv] at hxm; simp at hxm; omega
            | some x' =>
              rw [hv] at hxm
              simp only [Prod.mk.injEq] at hxm
              rw [← hxm.1]
              exact refV_le hv
        have HN : Hid (unL attr (s.size + 1) s.data.toList at_ = (unL attr (b.length + 1) (sk.extract (n + m) sk.size).data.toList (k + n + m)).map ((out ++ linesL attr a ++ x) ++ ·)) := Lib.hid (by
          rw [HU.out, hUa, hU2, e3, toL, map_two, map_two])
        have hes : (sk.extract (n + m) sk.size).size = sk.size - (n + m) := by simp
        obtain ⟨z, hz⟩ : ∃ z : ByteArray, z = ⟨x.toArray⟩ := ⟨_, rfl⟩
        have hzl : z.data.toList = x := by rw [hz]
        have hzs : z.size ≤ 4 := by rw [Lib.size_eq, hzl]; exact hxl
        rw [← hz] at hrf
        have HZ := Lib.hid hzl
        have HX := Lib.hid (show (linesL attr a).length ≤ n by omega)
        have HXL := Lib.hid hxl
        have HBL := Lib.hid hbl
        have HES := Lib.hid hes
        have hm0 : ((m : Int) == 0) = false := by simpa using hm
        have hc3 : (n : Int) + (m : Int) ≤ (sk.size : Int) := by omega
        have hc4 : (0 : Int) ≤ (n : Int) + (m : Int) := by omega
        clear hi hno HU hix hy hyl hUa hla e1 e2 hall hal hsp ha hb h1 h2 hn hnl hxm hg hlenK hbl hlenS hll hU2 e3 hz hzl hxn hxl hes
        go_wp2_with fail
        refine (hx _).mono ?_
        rintro e w' ⟨rfl, rfl⟩
        go_wp2_with fail
        refine (hln _ hGr).mono ?_
        rintro e w1 ⟨rfl, hb1⟩
        have HB1 := Lib.hid (isb_below HB.out hb1)
        have HW1 := Lib.hid (HW.out.trans (hb1.mono hBw))
        clear hb1
        have hBw1 : w.heap.size ≤ w1.heap.size := HW1.out.size
        go_wp2_with fail
        refine (write_any w.heap.size w.heap.size _ y w1 HB1.out (by rw [Lib.byteCells_length]; omega) hBw1).mono ?_
        rintro e w2 ⟨⟨v, rfl⟩, hB2, hb2⟩
        rw [Lib.strCells_eq, ← Lib.byteCells_append, HY.out] at hB2
        have HB2 := Lib.hid hB2
        have HW2 := Lib.hid (HW1.out.trans hb2)
        clear hB2 hb2
        have hBw2 : w.heap.size ≤ w2.heap.size := HW2.out.size
        go_wp2_with fail
        refine (hrf _ (hG.next HW2.out)).mono ?_
        rintro e w3 ⟨rfl, hb3⟩
        have HB3 := Lib.hid (isb_below HB2.out hb3)
        have HW3 := Lib.hid (HW2.out.trans (hb3.mono hBw2))
        clear hb3
        have hBw3 : w.heap.size ≤ w3.heap.size := HW3.out.size
        go_wp2_with fail
        refine (write_any w.heap.size w.heap.size _ z w3 HB3.out (by rw [Lib.byteCells_length, List.length_append]; have := HX.out; omega) hBw3).mono ?_
        rintro e w4 ⟨⟨v2, rfl⟩, hB4, hb4⟩
        rw [Lib.strCells_eq, ← Lib.byteCells_append, HZ.out] at hB4
        have HB4 := Lib.hid hB4
        have HW4 := Lib.hid (HW3.out.trans hb4)
        clear hB4 hb4
        go_wp2
        go_roundw
        case rel =>
          have h5 := HBL.out
          have h6 := HX.out
          have h7 := HXL.out
          have h8 := HES.out
          refine ⟨sk.extract (n + m) sk.size, k + n + m, b.length + 1, out ++ linesL attr a ++ x, rfl, ?_, ?_, ?_, ?_, HB4, HW4, HN⟩
          · first | rfl | go_num
          · omega
          · simp only [List.length_append]; omega
          · omega
        case measure =>
          have h8 := HES.out
          have h5 := HBL.out
          simp only [sLen]
          simp at h8 ⊢
          omega
end Go.Proofs.YtbdamneophbnnaaGreatDoor.Y
namespace Go.Proofs.YtbdamneophbnnaaGreatDoor.Y
open Go.RowKit Wb
theorem heap3 (w : World) (o0 o1 o2 : Obj) : (((w.alloc o0).alloc o1).alloc o2).heap[w.heap.size]? = some o0 ∧ (((w.alloc o0).alloc o1).alloc o2).heap[w.heap.size + 1]? = some o1 ∧
    (((w.alloc o0).alloc o1).alloc o2).heap[w.heap.size + 1 + 1]? = some o2 ∧ (((w.alloc o0).alloc o1).alloc o2).heap.size = w.heap.size + 3 := by
  have e : (((w.alloc o0).alloc o1).alloc o2).heap = ((w.heap.push o0).push o1).push o2 := rfl
  rw [e]
  refine ⟨?_, ?_, ?_, ?_⟩
  · rw [Array.getElem?_push, if_neg (by simp; omega), Array.getElem?_push, if_neg (by simp), Array.getElem?_push, if_pos rfl]
  · rw [Array.getElem?_push, if_neg (by simp), Array.getElem?_push, if_pos (by simp)]
  · rw [Array.getElem?_push, if_pos (by simp)]
  · simp
theorem set_other {w : World} {g : Nat} {o : Obj} (h : w.heap[g]? = some o) {b : Nat} (hb : g ≠ b) (v : Value) : (w.setCell ⟨b, 0, none⟩ v).heap[g]? = some o := by
  rw [Below.heap_setCell _ _ _ _ (by simpa using hb)]; exact h
theorem results3 {P : Program} {fn : Func} {p0 p1 p2 : Tmp} {t0 t1 t2 : TypeId} (h : fn.results = #[.cell p0 t0, .cell p1 t1, .cell p2 t2]) (tmps : Array Value) (w : World) (b0 b1 b2 : Nat) (u0 u1 u2 : TypeId) (v0 v1 v2 : Value)
    (e0 : tmps[p0]?.getD undef = .pointer (some ⟨b0, 0, none⟩)) (e1 : tmps[p1]?.getD undef = .pointer (some ⟨b1, 0, none⟩)) (e2 : tmps[p2]?.getD undef = .pointer (some ⟨b2, 0, none⟩))
    (h0 : w.heap[b0]? = some (.cells #[v0] u0 (0, 0))) (h1 : w.heap[b1]? = some (.cells #[v1] u1 (0, 0))) (h2 : w.heap[b2]? = some (.cells #[v2] u2 (0, 0)))
    (a0 : ∀ w, (isAgg t0).run P w = .ok false w) (a1 : ∀ w, (isAgg t1).run P w = .ok false w) (a2 : ∀ w, (isAgg t2).run P w = .ok false w) :
    (results fn tmps).run P w = .ok (.tuple #[v0, v1, v2]) w := by
  have c0 : w.cell? ⟨b0, 0, none⟩ = some v0 := blk_cell h0 0
  have c1 : w.cell? ⟨b1, 0, none⟩ = some v1 := blk_cell h1 0
  have c2 : w.cell? ⟨b2, 0, none⟩ = some v2 := blk_cell h2 0
  unfold results
  rw [h]
  simp [go_sem, e0, e1, e2, c0, c1, c2, a0, a1, a2]
set_option maxRecDepth 100000 in
theorem Unescape_any (s : ByteArray) (attr : Bool) (w : World) (hG : Gv w) (hs : s.size ≤ 100000000) :
    Calls Tryz.prog 124 #[.string s, .bool attr] w fun e w' => e = .returned (.tuple #[.string (unB s attr).1, .int .i64 (unB s attr).2.1, .int .i64 (unB s attr).2.2]) ∧ Below w.heap.size w w' := by
  have hmf : ∀ (fn : Fn) (first cap : Array Value) (w : World), (Instr.makeFunc fn first cap).run Tryz.prog w = .ok (.func fn first cap) w := fun _ _ _ _ => rfl
  obtain ⟨g0, g1, g2, gs⟩ := heap3 w (.cells #[.string ⟨#[]⟩] 9) (.cells #[.int .i64 0] 3) (.cells #[.int .i64 0] 27)
  have hG3 : Gv (((w.alloc (.cells #[.string ⟨#[]⟩] 9)).alloc (.cells #[.int .i64 0] 3)).alloc (.cells #[.int .i64 0] 27)) := ((hG.alloc _).alloc _).alloc _
  have hB3 : Below w.heap.size w (((w.alloc (.cells #[.string ⟨#[]⟩] 9)).alloc (.cells #[.int .i64 0] 3)).alloc (.cells #[.int .i64 0] 27)) :=
    (((Below.refl _ w).alloc (Nat.le_refl _) _).alloc (by simp) _).alloc (by simp; omega) _
  have hun := unescape_any s attr 0
  have next : ∀ w1, Below (((w.alloc (.cells #[.string ⟨#[]⟩] 9)).alloc (.cells #[.int .i64 0] 3)).alloc (.cells #[.int .i64 0] 27)).heap.size (((w.alloc (.cells #[.string ⟨#[]⟩] 9)).alloc (.cells #[.int .i64 0] 3)).alloc (.cells #[.int .i64 0] 27)) w1 →
      w1.heap[w.heap.size]? = some (.cells #[.string ⟨#[]⟩] 9 (0, 0)) ∧ w1.heap[w.heap.size + 1]? = some (.cells #[.int .i64 0] 3 (0, 0)) ∧ w1.heap[w.heap.size + 1 + 1]? = some (.cells #[.int .i64 0] 27 (0, 0)) ∧ Below w.heap.size w w1 := fun w1 hb =>
    ⟨(hb.block _ (by omega)).trans g0, (hb.block _ (by omega)).trans g1, (hb.block _ (by omega)).trans g2, hB3.trans (hb.mono (by omega))⟩
  cases hu : unL attr (s.size + 1) s.data.toList 0 with
  | ok x =>
    rw [unB_ok hu]
    rw [hu] at hun
    clear hu g0 g1 g2 hB3
    go_enter_defers Tryz.func124, Tryz.ntmps124
    go_wp2_with fail
    refine (hun _ hG3 hs (by omega)).mono ?_
    rintro e w1 ⟨h1, hb1⟩
    obtain rfl := h1
    obtain ⟨h0, h1, h2, hB⟩ := next w1 hb1
    clear next hb1 gs
    have HB := Lib.hid hB
    have H0 := Lib.hid h0
    have H1 := Lib.hid h1
    have H2 := Lib.hid h2
    have c0 : w1.cell? ⟨w.heap.size, 0, none⟩ = some (.string ⟨#[]⟩) := blk_cell h0 0
    have c1 : w1.cell? ⟨w.heap.size + 1, 0, none⟩ = some (.int .i64 0) := blk_cell h1 0
    have c2 : w1.cell? ⟨w.heap.size + 1 + 1, 0, none⟩ = some (.int .i64 0) := blk_cell h2 0
    have f0 := blk_free h0 0
    have f1 := blk_free h1 0
    have f2 := blk_free h2 0
    clear h0 h1 h2 hB
    go_wp2
    refine leaves_cons (f := 143) (args := #[.pointer (some ⟨w.heap.size, 0, none⟩), .pointer (some ⟨w.heap.size + 1, 0, none⟩), .pointer (some ⟨w.heap.size + 1 + 1, 0, none⟩)]) (by simp) (by simp [go_sem]) ?_
    refine (catch_idle _ _ _ _).mono ?_
    rintro e u' w2 ⟨rfl, rfl, rfl⟩
    refine ⟨_, results3 Tryz.results124 _ _ w.heap.size (w.heap.size + 1) (w.heap.size + 1 + 1) 9 3 27 (.string ⟨x.toArray⟩) (.int .i64 0) (.int .i64 0) rfl rfl rfl ?_ ?_ ?_ Tryz.isAgg9 Tryz.isAgg3 Tryz.isAgg27, rfl, ?_⟩
    · exact set_other (set_other (blk_set H0.out 0 _) (by omega) _) (by omega) _
    · exact set_other (blk_set (set_other H1.out (by omega) _) 0 _) (by omega) _
    · exact blk_set (set_other (set_other H2.out (by omega) _) (by omega) _) 0 _
    · exact ((HB.out.setCell (Nat.le_refl _) _).setCell (by simp) _).setCell (by simp; omega) _
  | error p =>
    rw [unB_bad hu]
    rw [hu] at hun
    clear hu g0 g1 g2 hB3
    go_enter_defers Tryz.func124, Tryz.ntmps124
    go_wp2_with fail
    refine (hun _ hG3 hs (by omega)).mono ?_
    rintro e w1 ⟨h1, hb1⟩
    obtain rfl := h1
    obtain ⟨h0, h1, h2, hB⟩ := next w1 hb1
    refine leaves_cons (f := 143) (args := #[.pointer (some ⟨w.heap.size, 0, none⟩), .pointer (some ⟨w.heap.size + 1, 0, none⟩), .pointer (some ⟨w.heap.size + 1 + 1, 0, none⟩)]) (by simp) (by simp [go_sem]) ?_
    refine (catch_up _ _ _ _ _ _ _ _ _ p 16 [] w1 h0 h1 h2 (by omega) (by omega) (by omega)).mono ?_
    rintro e u' w2 ⟨rfl, rfl, rfl⟩
    refine ⟨_, results3 Tryz.results124 _ _ w.heap.size (w.heap.size + 1) (w.heap.size + 1 + 1) 9 3 27 (.string ⟨#[]⟩) (.int .i64 p) (.int .i64 16) rfl rfl rfl ?_ ?_ ?_ Tryz.isAgg9 Tryz.isAgg3 Tryz.isAgg27, rfl, ?_⟩
    · exact set_other (set_other (blk_set h0 0 _) (by omega) _) (by omega) _
    · exact set_other (blk_set (set_other h1 (by omega) _) 0 _) (by omega) _
    · exact blk_set (set_other (set_other h2 (by omega) _) (by omega) _) 0 _
    · exact (((hB.setCell (Nat.le_refl _) _).setCell (by simp) _).setCell (by simp; omega) _).drew
end Go.Proofs.YtbdamneophbnnaaGreatDoor.Y
