
/- Contract: the reference's Attrs. -/
import Derived.Test.YtkcpkgegkmockaaQnI
import Derived.Deep.RegionLaw
namespace Go.Proofs.Ytkcpkgegkmockaa
open Go.RowKit Wb Go.Maps

theorem eqT_of {a b : ByteArray} (h : a.toList = b.toList) : eqT a b = true := by unfold eqT; rw [h]; exact beq_self_eq_true _
theorem eqT_no {a b : ByteArray} (h : ¬ a.toList = b.toList) : eqT a b = false := by unfold eqT; simpa using h
theorem eqP_yes {a b c d : ByteArray} (h : a.toList = c.toList) (h2 : b.toList = d.toList) : eqP (a, b) (c, d) = true := by unfold eqP; simp only [eqT_of h, eqT_of h2, Bool.and_self]
theorem eqP_no1 {a b c d : ByteArray} (h : ¬ a.toList = c.toList) : eqP (a, b) (c, d) = false := by unfold eqP; simp only [eqT_no h, Bool.false_and]
theorem eqP_no2 {a b c d : ByteArray} (h : ¬ b.toList = d.toList) : eqP (a, b) (c, d) = false := by unfold eqP; simp only [eqT_no h, Bool.and_false]
theorem hit_any {out : List Tr} {j : Nat} {y : Tr} {n : Pr} (hy : out[j]? = some y) (h : eqP y.1 n = true) : (out.map (·.1)).any (fun y => eqP y n) = true := by
  rw [List.any_map, List.any_eq_true]
  exact ⟨y, List.mem_of_getElem? hy, h⟩
theorem miss_any {out : List Tr} {j : Nat} {y : Tr} {n : Pr} (hy : out[j]? = some y) (hj : (out.take j).any (fun y => eqP y.1 n) = false) (h : eqP y.1 n = false) : (out.take (j + 1)).any (fun y => eqP y.1 n) = false := by
  rw [take_snoc out j y hy, List.any_append, hj]; simp [h]
theorem miss_all {out : List Tr} {j : Nat} {n : Pr} (hl : out.length ≤ j) (hj : (out.take j).any (fun y => eqP y.1 n) = false) : (out.map (·.1)).any (fun y => eqP y n) = false := by
  rw [List.take_of_length_le hl] at hj
  rw [List.any_map]; exact hj

set_option maxHeartbeats 4000000 in
set_option maxRecDepth 100000 in
theorem rattrs_any (A B : Option Addr) (sc l : List Pr) (c d : Nat) (w : World) (hsl : sc.length ≤ 1000000) (hl : l.length ≤ 1000000)
    (hs2 : ∀ x ∈ l, x.1.size ≤ 1000000000) (hA : Sl2 w A sc) (hB : Sl2 w B l) :
    Calls Try.prog 24 #[.slice A sc.length c, .slice B l.length d] w (AttrsPost sc l w) := by
  obtain ⟨i0, hi, hz0, hz1, hz2⟩ := info_parts attr_info
  go_enter Try.func24, Try.ntmps24
  go_wp2
  go_loopw [6, 7] (fun v i wr => ∃ (k : Nat) (out : List Tr), k ≤ l.length ∧ i = .int .i64 k ∧ out.length = k ∧ wr.ownsRow w.heap.size 63 3 v out.length (cells3 out) ∧
      Hid (attrL sc l [] = attrL sc (l.drop k) out) ∧ Below w.heap.size w wr) (fun _ i _ => ((l.length : Int) - intOf i).toNat)
  case atStart => exact ⟨0, [], by omega, rfl, rfl, World.ownsRow_nil _ _ _ _, Lib.hid rfl, Below.refl _ _⟩
  case round =>
    obtain ⟨k, out, hk, rfl, hout, hown, HL, hb⟩ := hrel
    subst hout
    obtain ⟨C, kk, rfl, hC⟩ := own3 out hown rfl rfl
    by_cases h0 : out.length < l.length
    · obtain ⟨⟨x1, x2⟩, he⟩ : ∃ x, l[out.length]? = some x := ⟨l[out.length], List.getElem?_eq_getElem (by omega)⟩
      obtain ⟨ad, rfl, had, c1, c2⟩ := (hB.below hb).at_ he
      have hx1 := hs2 _ (List.mem_of_getElem? he)
      simp only at hx1
      have HE := Lib.hid he
      clear he
      obtain ⟨n1, n2, er, hr⟩ : ∃ n1 n2 er, resB sc x1 true = ((n1, n2), er) := ⟨_, _, _, rfl⟩
      have HR := Lib.hid hr
      clear hr
      go_wp2_with fail
      refine (rresolve_any A sc c x1 true _ (by omega) hx1 (hA.below hb)).mono ?_
      rw [HR.out]
      rintro e w2 ⟨rfl, hb2⟩
      have hb3 := hb.trans (hb2.mono hb.size)
      by_cases her : er = 0
      · subst her
        have hal : Below w.heap.size w (w2.alloc (.cells #[.string n1, .string n2] 40)) := hb3.alloc hb3.size _
        have hown2 := (own_below hown hb2).alloc (.cells #[.string n1, .string n2] 40)
        have hC2 : Sl3 (w2.alloc (.cells #[.string n1, .string n2] 40)) C out := (hC.below hb2).below ((Below.refl _ _).alloc (Nat.le_refl _) _)
        have HN := Lib.hid (heap_alloc_new w2 (.cells #[.string n1, .string n2] 40))
        have hnl : w2.heap.size < (w2.alloc (.cells #[.string n1, .string n2] 40)).heap.size := by simp
        clear hown hC hb2
        go_wp2
        go_loopw [10] (fun i wi => ∃ j : Nat, j ≤ out.length ∧ i = .int .i64 j ∧ Hid ((out.take j).any (fun y => eqP y.1 (n1, n2)) = false) ∧ Below (w2.alloc (.cells #[.string n1, .string n2] 40)).heap.size (w2.alloc (.cells #[.string n1, .string n2] 40)) wi) (fun i _ => ((out.length : Int) - intOf i).toNat)
        case atStart => exact ⟨0, by omega, rfl, Lib.hid rfl, Below.refl _ _⟩
        case round =>
          obtain ⟨j, hj, rfl, HJ, hbi⟩ := hrel
          have HNi := Lib.hid (still_block HN.out hbi)
          have e1 := blk_cell HNi.out 0
          have e2 := blk_cell HNi.out 1
          simp only [List.getElem?_toArray, List.getElem?_cons_zero, List.getElem?_cons_succ] at e1 e2
          by_cases hjo : j < out.length
          · obtain ⟨⟨⟨y1, y2⟩, y3⟩, hy⟩ : ∃ y, out[j]? = some y := ⟨out[j], List.getElem?_eq_getElem (by omega)⟩
            obtain ⟨od, rfl, _, d1, d2, d3⟩ := (hC2.below hbi).at_ hy
            have HY := Lib.hid hy
            clear hy d3
            by_cases q1 : y1.toList = n1.toList
            · by_cases q2 : y2.toList = n2.toList
              · have HT : Hid (attrL sc l [] = .error 14) := HL.out.trans (attrL_twice HE.out HR.out (hit_any HY.out (eqP_yes q1 q2)))
                have hbw : Below w.heap.size w wr := hal.trans (hbi.mono hal.size)
                go_wp2
                go_region
                go_wp2
                go_ret2
                exact AttrsPost.bad HT.out (by decide) hbw.drew
              · go_wp2
                go_region
                go_wp2
                go_roundw
                case rel => exact ⟨j + 1, by omega, by go_num, Lib.hid (miss_any HY.out HJ.out (eqP_no2 q2)), hbi.drew⟩
                case measure => simp [intOf]; omega
            · go_wp2
              go_region
              go_wp2
              go_roundw
              case rel => exact ⟨j + 1, by omega, by go_num, Lib.hid (miss_any HY.out HJ.out (eqP_no1 q1)), hbi.drew⟩
              case measure => simp [intOf]; omega
          · have HT : Hid (attrL sc l [] = attrL sc (l.drop (out.length + 1)) (out ++ [((n1, n2), x2)])) := HL.out.trans (attrL_step HE.out HR.out (miss_all (by omega) HJ.out))
            have hbw : Below w.heap.size w wr := hal.trans (hbi.mono hal.size)
            have hown3 := own_below hown2 hbi
            obtain ⟨ae, he2, hadw, c1', c2'⟩ := (hB.below hbw).at_ HE.out
            have hownD : World.ownsRow ((wr.alloc (.cells #[.string n1, .string n2, .string x2] 63)).drew) w.heap.size 63 3 (.slice C out.length kk) out.length (cells3 out) := (hown3.alloc _).drew
            have hSD : Sl ((wr.alloc (.cells #[.string n1, .string n2, .string x2] 63)).drew) 3 (some ⟨wr.heap.size, 0, none⟩) 1 [.string n1, .string n2, .string x2] := (Sl.lit wr 3 [.string n1, .string n2, .string x2] _ 1 rfl).drew
            injection he2 with he2
            subst he2
            clear HJ HL hown2 hC2 hadw
            go_wp2
            go_region_law (refine step_append_sl _ rfl (.tmp 43) (.tmp 51) _ rfl w.heap.size 63 i0 _ 3 48 Try.underlying52 hi hz0 hz1 hz2 rfl (by omega) _ out.length (cells3 out) rfl hownD (some ⟨wr.heap.size, 0, none⟩) 1 1 [.string n1, .string n2, .string x2] rfl hSD (cells3_one [((n1, n2), x2)]) (by simp only [maxLen]; omega) (by omega) (hbw.alloc hbw.size _).size ?_; intro v4 w4 hown4 hg4 hat4)
            all_goals
              have hwd : Below w.heap.size w ((wr.alloc (.cells #[.string n1, .string n2, .string x2] 63)).drew) := (hbw.alloc hbw.size _).drew
              have hb5 : Below w.heap.size w w4 := hwd.grown hg4 hwd.size (fun g hg => (hown3.lt g hg).1)
              clear hg4 hat4 hown3 hownD hSD
              go_wp2
              go_roundw
              case rel => exact ⟨out.length + 1, out ++ [((n1, n2), x2)], by omega, by go_num, by simp, by simpa [cells3_append, cells3] using hown4, HT, hb5⟩
              case measure => simp [intOf]; omega
      · have her' : (er != 0) = true := by simpa using her
        have HT := Lib.hid (HL.out.trans (attrL_err HE.out HR.out her))
        go_wp2
        go_ret2
        exact AttrsPost.bad HT.out her (hb3.alloc hb3.size _)
    · have HT := Lib.hid (HL.out.trans (attrL_end (by omega)))
      go_wp2
      go_ret2
      exact AttrsPost.ok HT.out hC hb
end Go.Proofs.Ytkcpkgegkmockaa
