/- FgA Take. -/
import Derived.Deep.RegionHeld2
import Derived.Test.YtblongcnmpdihaaDoorCc3
import Derived.Test.YtblongcnmpdihaaDoorCc16
namespace Go.Proofs.YtblongcnmpdihaaDoor
open Go.RowKit Wb
def TellsP (fid : FuncId) (caps : Array Value) (p : Pr → Bool) (l : List Pr) (W : World) : Prop :=
  (∀ args w, (callFunc fid args).run Tryd.prog w = .ok (.enter fid args) w) ∧
  ∀ (x : Pr) (v : World), x ∈ l → Below W.heap.size W v → Calls Tryd.prog fid (#[.agg #[.string x.1, .string x.2]] ++ caps) v fun e v' => e = .returned (.bool (p x)) ∧ Below v.heap.size v v'
set_option maxRecDepth 100000 in
set_option maxHeartbeats 2000000 in
theorem idxPm_any (p : Pr → Bool) (fid : FuncId) (caps : Array Value) (A : Option Addr) (l : List Pr) (c : Nat) (w : World) (hA : Sl2 w A l) (hl : l.length ≤ 1000000001) (hT : TellsP fid caps p l w) :
    Calls Tryd.prog 47 #[.slice A l.length c, .func (.func fid) #[] caps] w fun e w' => e = .returned (.int .i64 (idxG p l)) ∧ Below w.heap.size w w' := by
  have hE := hT.1
  have HT2 := Lib.hid hT.2
  obtain ⟨R, hR⟩ : ∃ R, idxG p l = R := ⟨_, rfl⟩
  rw [hR]
  have HR := Lib.hid hR
  have HA := Lib.hid hA
  clear hR hA hT
  go_enter Tryd.func47, Tryd.ntmps47
  go_wp2
  go_loopw [8] (fun vi wr => ∃ i : Nat, i ≤ l.length ∧ vi = .int .i64 i ∧ Hid (R = if idxG p (l.drop i) < 0 then -1 else idxG p (l.drop i) + i) ∧ Hid (Below w.heap.size w wr)) (fun vi _ => ((l.length : Int) - intOf vi).toNat)
  case atStart => exact ⟨0, by omega, rfl, Lib.hid (by
    rw [List.drop_zero, HR.out]
    have := idxG_ge p l
    rw [HR.out] at this
    split <;> omega), Lib.hid (Below.refl _ _)⟩
  case round =>
    obtain ⟨i, hi, rfl, HQ, HB⟩ := hrel
    by_cases h0 : i < l.length
    · obtain ⟨⟨x1, x2⟩, ha⟩ : ∃ a, l[i]? = some a := ⟨l[i], List.getElem?_eq_getElem h0⟩
      obtain ⟨ad, rfl, had, d0, d1⟩ := (HA.out.below HB.out).at_ ha
      have hc := HT2.out (x1, x2) wr (List.mem_of_getElem? ha) HB.out
      cases hq : p (x1, x2)
      · rw [hq] at hc
        have HST : Hid (R = if (if idxG p (l.drop (i + 1)) < 0 then -1 else idxG p (l.drop (i + 1)) + 1) < 0 then -1 else (if idxG p (l.drop (i + 1)) < 0 then -1 else idxG p (l.drop (i + 1)) + 1) + i) := Lib.hid (by
          have hx0 : idxG p (l.drop i) = if idxG p (l.drop (i + 1)) < 0 then -1 else idxG p (l.drop (i + 1)) + 1 := by rw [idxG_drop ha, if_neg (by rw [hq]; simp)]
          rw [HQ.out, hx0])
        clear hq ha
        go_wp2_with (go_at_fn fid; refine hc.mono ?_; rintro e w3 ⟨rfl, hb3⟩)
        have HB3 := Lib.hid (HB.out.trans (hb3.mono HB.out.size))
        clear hb3 hc
        go_wp2
        go_roundw
        case rel => exact ⟨i + 1, by omega, by go_num, Lib.hid (by
          rw [HST.out]
          have := idxG_ge p (l.drop (i + 1))
          by_cases hn : idxG p (l.drop (i + 1)) < 0
          · rw [if_pos hn, if_pos hn]; rfl
          · rw [if_neg hn, if_neg hn, if_neg (by omega)]; omega), HB3⟩
        case measure => simp [intOf]; omega
      · rw [hq] at hc
        have HST : Hid (R = i) := Lib.hid (by
          have hx0 : idxG p (l.drop i) = 0 := by rw [idxG_drop ha, if_pos hq]
          rw [HQ.out, hx0]
          simp)
        clear hq ha
        go_wp2_with (go_at_fn fid; refine hc.mono ?_; rintro e w3 ⟨rfl, hb3⟩)
        have HB3 := Lib.hid (HB.out.trans (hb3.mono HB.out.size))
        clear hb3 hc
        go_wp2
        go_ret
        exact ⟨by rw [HST.out]; rfl, HB3.out⟩
    · have HT : Hid (R = -1) := Lib.hid (by rw [HQ.out, List.drop_eq_nil_of_le (by omega)]; rfl)
      go_wp2
      go_ret
      exact ⟨by rw [HT.out]; rfl, HB.out⟩
set_option maxRecDepth 100000 in
theorem contP_any (p : Pr → Bool) (fid : FuncId) (caps : Array Value) (A : Option Addr) (l : List Pr) (c : Nat) (w : World) (hA : Sl2 w A l) (hl : l.length ≤ 1000000001) (hT : TellsP fid caps p l w) :
    Calls Tryd.prog 40 #[.slice A l.length c, .func (.func fid) #[] caps] w fun e w' => e = .returned (.bool (l.any p)) ∧ Below w.heap.size w w' := by
  have h1 := idxPm_any p fid caps A l c w hA hl hT
  have hx := idxG_any p l
  rw [← hx]
  clear hx hA hT
  generalize idxG p l = n at *
  go_enter Tryd.func40, Tryd.ntmps40
  go_wp2_with fail
  refine h1.mono ?_
  rintro e w1 ⟨rfl, hb⟩
  have HB := Lib.hid hb
  clear hb h1
  go_wp2
  go_ret
  exact ⟨rfl, HB.out⟩
theorem ptok_tells (l : List Pr) (w : World) (hz : ∀ x ∈ l, x.1.size ≤ 900000000) : TellsP 41 #[] (fun x => !tokenF x.1.data.toList) l w := ⟨enters_of Tryd.func41 (by kernel_rfl) rfl, fun x v hx _ => by
  have hb0 := (Below.refl v.heap.size v).alloc (Nat.le_refl _) (.cells #[.string x.1, .string x.2] 45)
  have h1 := fun u => token_any x.1 u (by have := hz x hx; omega)
  show Calls Tryd.prog 41 #[.agg #[.string x.1, .string x.2]] v _
  have HB := Lib.hid hb0
  simp only
  clear hb0 hx
  generalize tokenF x.1.data.toList = b at *
  go_enter Tryd.func41, Tryd.ntmps41
  go_wp2_with fail
  refine (h1 _).mono ?_
  rintro e w1 ⟨rfl, hb⟩
  have HB1 := Lib.hid (HB.out.trans (hb.mono HB.out.size))
  clear hb h1
  go_wp2
  go_ret
  exact ⟨rfl, HB1.out⟩⟩
theorem ptxt_tells (l : List Pr) (w : World) (hz : ∀ x ∈ l, x.2.size ≤ 900000000) : TellsP 42 #[] (fun x => !plainF x.2.data.toList) l w := ⟨enters_of Tryd.func42 (by kernel_rfl) rfl, fun x v hx _ => by
  have hb0 := (Below.refl v.heap.size v).alloc (Nat.le_refl _) (.cells #[.string x.1, .string x.2] 45)
  have h1 := fun u => all_any plainC 43 #[] x.2 u (by have := hz x hx; omega) (text_tells u)
  show Calls Tryd.prog 42 #[.agg #[.string x.1, .string x.2]] v _
  have HB := Lib.hid hb0
  unfold plainF
  simp only
  clear hb0 hx
  generalize x.2.data.toList.all plainC = b at *
  go_enter Tryd.func42, Tryd.ntmps42
  go_wp2_with fail
  refine (h1 _).mono ?_
  rintro e w1 ⟨rfl, hb⟩
  have HB1 := Lib.hid (HB.out.trans (hb.mono HB.out.size))
  clear hb h1
  go_wp2
  go_ret
  exact ⟨rfl, HB1.out⟩⟩
theorem repl_any2 (s o n : ByteArray) (w : World) (hG : GvF w) (hs : s.size ≤ 1000000000) (h1 : 1 ≤ o.size) (hn : n.size ≤ 2) :
    Calls Tryd.prog 64 #[.string s, .string o, .string n] w fun e w' => e = .returned (.string ⟨(Lib.replaceAll s.data.toList o.data.toList n.data.toList).toArray⟩) ∧ Below w.heap.size w w' := by
  obtain ⟨⟨m, hm⟩, _⟩ := hG
  have hc := Lib.countB_le o h1 s.size s (Nat.le_refl _)
  have : Lib.countB s o * n.size ≤ s.size * 2 := Nat.mul_le_mul hc hn
  exact Tryd.strings_ReplaceAll s o n m w (by omega) hm h1 (by omega)
set_option maxRecDepth 100000 in
set_option maxHeartbeats 1000000 in
theorem quoted_any (v : ByteArray) (w : World) (hv : v.size ≤ 100000000) (hG : GvF w) :
    Calls Tryd.prog 44 #[.string v] w fun e w' => e = .returned (.string (mkB (quoteF v.data.toList))) ∧ Below w.heap.size w w' := by
  have h1 := token_any v w (by omega)
  obtain ⟨R, hR⟩ : ∃ R, mkB (quoteF v.data.toList) = R := ⟨_, rfl⟩
  rw [hR]
  have hq := hR
  unfold quoteF at hq
  clear hR
  have HG := Lib.hid hG
  clear hG
  cases ht : tokenF v.data.toList
  · rw [ht] at h1
    rw [if_neg (by rw [ht]; simp), esc_way] at hq
    have hz0 : ∀ L : List UInt8, (Lib.replaceAll L [92] [92, 92]).length ≤ 2 * L.length := by
      intro L
      rw [rpl_one 92 [92, 92] (by decide)]
      induction L with
      | nil => simp
      | cons c l ih => rw [List.flatMap_cons, List.length_append, List.length_cons]; split <;> simp only [List.length_cons, List.length_nil] <;> omega
    have hz1 := hz0 v.data.toList
    rw [← ba_size] at hz1
    have hz2 : ∀ L : List UInt8, (Lib.replaceAll L [34] [92, 34]).length ≤ 2 * L.length := by
      intro L
      rw [rpl_one 34 [92, 34] (by decide)]
      induction L with
      | nil => simp
      | cons c l ih => rw [List.flatMap_cons, List.length_append, List.length_cons]; split <;> simp only [List.length_cons, List.length_nil] <;> omega
    have h2 := fun u (hg : GvF u) => repl_any2 v ⟨#[92]⟩ ⟨#[92, 92]⟩ u hg (by omega) (by decide) (by decide)
    rw [show (⟨#[92]⟩ : ByteArray).data.toList = [92] from rfl, show (⟨#[92, 92]⟩ : ByteArray).data.toList = [92, 92] from rfl] at h2
    have h3 := fun u (hg : GvF u) => repl_any2 (mkB (Lib.replaceAll v.data.toList [92] [92, 92])) ⟨#[34]⟩ ⟨#[92, 34]⟩ u hg (by rw [mkB_size]; omega) (by decide) (by decide)
    rw [show (⟨#[34]⟩ : ByteArray).data.toList = [34] from rfl, show (⟨#[92, 34]⟩ : ByteArray).data.toList = [92, 34] from rfl, mkB_list] at h3
    have hz3 := hz2 (Lib.replaceAll v.data.toList [92] [92, 92])
    have h2 : ∀ u, GvF u → Calls Tryd.prog 64 #[.string v, .string ⟨#[92]⟩, .string ⟨#[92, 92]⟩] u fun e w' => e = .returned (.string (mkB (Lib.replaceAll v.data.toList [92] [92, 92]))) ∧ Below u.heap.size u w' := h2
    have h3 : ∀ u, GvF u → Calls Tryd.prog 64 #[.string (mkB (Lib.replaceAll v.data.toList [92] [92, 92])), .string ⟨#[34]⟩, .string ⟨#[92, 34]⟩] u fun e w' => e = .returned (.string (mkB (Lib.replaceAll (Lib.replaceAll v.data.toList [92] [92, 92]) [34] [92, 34]))) ∧ Below u.heap.size u w' := h3
    clear ht hz2 hz0
    generalize Lib.replaceAll v.data.toList [92] [92, 92] = r1 at *
    generalize Lib.replaceAll r1 [34] [92, 34] = r2 at *
    have hs2 : (mkB r2).size = r2.length := mkB_size r2
    have hq34 : (⟨#[34]⟩ : ByteArray).size = 1 := rfl
    have g1 : ¬ 9223372036854775807 < (⟨#[34]⟩ : ByteArray).size + (mkB r2).size := by omega
    have g2 : ¬ 9223372036854775807 < ((⟨#[34]⟩ : ByteArray) ++ mkB r2).size + (⟨#[34]⟩ : ByteArray).size := by rw [ByteArray.size_append]; omega
    have happ : (⟨#[34]⟩ : ByteArray) ++ mkB r2 ++ (⟨#[34]⟩ : ByteArray) = mkB (34 :: (r2 ++ [34])) := by
      refine eq_of_lists ?_
      rw [ByteArray.data_append, Array.toList_append, ByteArray.data_append, Array.toList_append, mkB_list, mkB_list]
      rfl
    have HQ := Lib.hid (happ.trans hq)
    clear happ hq hz1 hz3 hs2 hq34
    generalize mkB r1 = b1 at *
    generalize mkB r2 = b2 at *
    go_enter Tryd.func44, Tryd.ntmps44
    go_wp2_with fail
    refine h1.mono ?_
    rintro e w1 ⟨rfl, hb⟩
    have HB1 := Lib.hid hb
    have k2 := h2 w1 (HG.out.next hb)
    clear hb h1 h2
    go_wp2_with fail
    refine k2.mono ?_
    rintro e w2 ⟨rfl, hb⟩
    have HB2 := Lib.hid (HB1.out.trans (hb.mono HB1.out.size))
    have k3 := h3 w2 (HG.out.next HB2.out)
    clear hb k2 h3
    go_wp2_with fail
    refine k3.mono ?_
    rintro e w3 ⟨rfl, hb⟩
    have HB3 := Lib.hid (HB2.out.trans (hb.mono HB2.out.size))
    clear hb k3
    go_wp2
    go_ret
    exact ⟨by rw [← HQ.out]; rfl, HB3.out⟩
  · rw [ht] at h1
    rw [if_pos ht] at hq
    have HQ := Lib.hid ((ba_mk v).symm.trans hq)
    clear ht hq
    go_enter Tryd.func44, Tryd.ntmps44
    go_wp2_with fail
    refine h1.mono ?_
    rintro e w1 ⟨rfl, hb⟩
    have HB1 := Lib.hid hb
    clear hb h1
    go_wp2
    go_ret
    exact ⟨by rw [← HQ.out]; rfl, HB1.out⟩
end Go.Proofs.YtblongcnmpdihaaDoor
namespace Wb
open Go Go.RowKit
theorem op_at {ops : Array Oper} {i : Nat} {oi : Oper} {rest : List Oper} (h : ops.toList.drop i = oi :: rest) : ops[i]? = some oi := by
  have h2 : (ops.toList.drop i)[0]? = some oi := by rw [h]; rfl
  rw [List.getElem?_drop] at h2
  simpa using h2
theorem takeW {P : Program} {md : Region.Mode} {ops : Array Oper} {Q : Exit → Act → World → Prop} {S : World → Prop} {oi : Oper} {rest : List Oper} {v : Value} {fuel : Nat} {listed : Array Bool} {a : Act} {w : World} (i : Nat)
    (h : wpAnyH P md ops Q S fuel (listed.setIfInBounds i true) (a.put oi.dst v) w) (hi : ops.toList.drop i = oi :: rest := by rfl)
    (hy : ∀ w, S w → (execOp a.eval oi).run P w = .ok (.value v) w := by (intro w' hSw; (try dsimp only at hSw); go_simp; (try with_reducible rfl)))
    (hs : Region.noSelect ops = true := by kernel_rfl) (hf : Region.free md ops listed i = true := by kernel_rfl) (hr : (Region.ready md ops listed).contains i = true := by kernel_rfl)
    (hQ : ∀ c a w, Q (.panic c) (a.put oi.dst v) w → Q (.panic c) a w := by exact fun _ _ _ h => h) (hw : Region.wanted oi (yielded ops a.tmps) = true := by rfl) (hS : S w := by assumption) : wpAnyH P md ops Q S (fuel + 1) listed a w :=
  wpAnyH_take (op_at hi) hs hf hr hQ (.inl ⟨hw, hy⟩) hS h
theorem takeU {P : Program} {md : Region.Mode} {ops : Array Oper} {Q : Exit → Act → World → Prop} {S : World → Prop} {oi : Oper} {rest : List Oper} {fuel : Nat} {listed : Array Bool} {a : Act} {w : World} (i : Nat)
    (h : wpAnyH P md ops Q S fuel (listed.setIfInBounds i true) (a.put oi.dst undef) w)
    (hi : ops.toList.drop i = oi :: rest := by rfl) (hs : Region.noSelect ops = true := by kernel_rfl) (hf : Region.free md ops listed i = true := by kernel_rfl) (hr : (Region.ready md ops listed).contains i = true := by kernel_rfl)
    (hQ : ∀ c a w, Q (.panic c) (a.put oi.dst undef) w → Q (.panic c) a w := by exact fun _ _ _ h => h) (hw : Region.wanted oi (yielded ops a.tmps) = false := by rfl) (hS : S w := by assumption) : wpAnyH P md ops Q S (fuel + 1) listed a w :=
  wpAnyH_take (op_at hi) hs hf hr hQ (.inr ⟨hw, rfl⟩) hS h
end Wb
