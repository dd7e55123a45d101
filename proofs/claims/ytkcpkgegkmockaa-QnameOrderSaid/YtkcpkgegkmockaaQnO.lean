
/- Walk of the statement on attributes in another order. -/
import Derived.Test.YtkcpkgegkmockaaQnN
namespace Go.Proofs.Ytkcpkgegkmockaa
open Go.RowKit Wb Go.Maps

theorem turn_step {l : List Pr} {j : Nat} {x : Pr} (h : l[j]? = some x) : (l.drop (j + 1)).reverse ++ [x] = (l.drop j).reverse := by
  rw [drop_at h]; simp
theorem turn_at {r : List Tr} {k m : Nat} {x : Tr} (h : r[k]? = some x) (hm : m + k + 1 = r.length) : r.reverse[m]? = some x := by
  rw [List.getElem?_reverse (by omega), ← h]
  congr 1
  omega

theorem AttrsPost.err {sc l : List Pr} {er : Int} {w w' : World} {e : Ending} (h : AttrsPost sc l w e w') (hr : attrL sc l [] = .error er) : Below w.heap.size w w' ∧ er ≠ 0 ∧ e = .returned (.tuple #[.slice none 0 0, .int .i64 er]) :=
  ⟨h.1, h.2 _ hr.symm⟩
theorem AttrsPost.good {sc l : List Pr} {r : List Tr} {w w' : World} {e : Ending} (h : AttrsPost sc l w e w') (hr : attrL sc l [] = .ok r) : Below w.heap.size w w' ∧ ∃ C k, e = .returned (.tuple #[.slice C r.length k, .int .i64 0]) ∧ Sl3 w' C r :=
  ⟨h.1, h.2 _ hr.symm⟩

set_option maxHeartbeats 4000000 in
set_option maxRecDepth 100000 in
theorem order_walk (A B : Option Addr) (sc l : List Pr) (c d : Nat) (w : World) (hA : Sl2 w A sc) (hB : Sl2 w B l) :
    Calls Try.prog 8 #[.slice A sc.length c, .slice B l.length d] w fun e w' => e = .returned (.bool true) ∧ Below w.heap.size w w' := by
  obtain ⟨i1, hj, hy0, hy1, hy2⟩ := info_parts raw_info
  go_enter Try.func8, Try.ntmps8
  go_wp2_with fail
  refine (awake_any _).mono ?_
  rintro e w1 ⟨rfl, hb⟩
  go_wp2_with fail
  refine (few_any A sc c _ (hA.below hb)).mono ?_
  rintro e w2 ⟨hb2, b, rfl, hfew⟩
  replace hb := hb.trans (hb2.mono hb.size)
  clear hb2
  cases b
  · clear hfew
    go_wp2
    go_ret
    exact ⟨rfl, hb⟩
  have hfs := Lib.hid (hfew rfl)
  clear hfew
  go_wp2_with fail
  refine (fewRaw_any B l d _ (hB.below hb)).mono ?_
  rintro e w3 ⟨hb2, b, rfl, hfew⟩
  replace hb := hb.trans (hb2.mono hb.size)
  clear hb2
  cases b
  · clear hfew
    go_wp2
    go_ret
    exact ⟨rfl, hb⟩
  have hfl := Lib.hid (hfew rfl)
  clear hfew
  have hsl : sc.length < 3000 := by have := hfs.out; omega
  have hl : l.length < 3000 := by have := hfl.out; omega
  have hs1 : ∀ x ∈ sc, x.2.size ≤ 1000000000 := fun x hx => by have := tot_mem hx; have := hfs.out; omega
  have hs2 : ∀ x ∈ l, x.1.size ≤ 1000000000 := fun x hx => by have := tot_mem hx; have := hfl.out; omega
  have hs3 : ∀ x ∈ l.reverse, x.1.size ≤ 1000000000 := fun x hx => hs2 x (by simpa using hx)
  have HS1 := Lib.hid hs1
  have HS2 := Lib.hid hs2
  have HS3 := Lib.hid hs3
  clear hs1 hs2 hs3 hfs hfl
  go_wp2
  go_loopw [5, 6] (fun v i wr => ∃ k : Nat, k ≤ l.length ∧ i = .int .i64 ((k : Int) - 1) ∧ wr.ownsRow w.heap.size 61 2 v (l.length - k) (cells2 (l.drop k).reverse) ∧ Below w.heap.size w wr) (fun _ i _ => (intOf i + 1).toNat)
  case atStart => exact ⟨l.length, Nat.le_refl _, rfl, by rw [List.drop_length, Nat.sub_self]; exact World.ownsRow_nil _ _ _ _, hb⟩
  case round =>
    clear hb
    obtain ⟨k, hk, rfl, hown, hb⟩ := hrel
    by_cases h0 : k = 0
    · subst h0
      obtain ⟨T, tc, rfl, hT, _⟩ := own2 l.reverse hown (by simp) (by simp)
      clear hown
      go_wp2_with fail
      refine (attrs_any A B sc l c d _ (by omega) (by omega) HS1.out HS2.out (hA.below hb) (hB.below hb)).mono ?_
      rintro e w4 hP
      cases hr : attrL sc l [] with
      | error er =>
        obtain ⟨hb2, her, rfl⟩ := hP.err hr
        obtain ⟨er', hr'⟩ := attrL_turn_err hr
        have HR' := Lib.hid hr'
        replace hT := hT.below hb2
        replace hb := hb.trans (hb2.mono hb.size)
        clear hP hb2 hr hr'
        have hcall := attrs_any A T sc l.reverse c tc w4 (by omega) (by simp; omega) HS1.out HS3.out (hA.below hb) hT
        rw [List.length_reverse] at hcall
        go_wp2_with fail
        refine hcall.mono ?_
        clear hcall
        rintro e w5 hP
        obtain ⟨hb2, her', rfl⟩ := hP.err HR'.out
        replace hb := hb.trans (hb2.mono hb.size)
        clear hP hb2
        have q1 : (er == 0) = false := by simpa using her
        have q2 : (er' == 0) = false := by simpa using her'
        have q3 : (er != 0) = true := by simpa using her
        go_wp2
        go_ret
        exact ⟨rfl, hb⟩
      | ok r =>
        obtain ⟨hb2, C, k1, rfl, hC⟩ := hP.good hr
        obtain ⟨hr', hrl⟩ := attrL_turn hr
        have HR' := Lib.hid hr'
        replace hT := hT.below hb2
        replace hb := hb.trans (hb2.mono hb.size)
        clear hP hb2 hr hr'
        have hcall := attrs_any A T sc l.reverse c tc w4 (by omega) (by simp; omega) HS1.out HS3.out (hA.below hb) hT
        rw [List.length_reverse] at hcall
        have hrz : r.length < 3000 := by omega
        have HRL := Lib.hid hrl
        clear hrl
        go_wp2_with fail
        refine hcall.mono ?_
        clear hcall
        rintro e w5 hP
        obtain ⟨hb2, E, k2, rfl, hE⟩ := hP.good HR'.out
        replace hC := hC.below hb2
        replace hb := hb.trans (hb2.mono hb.size)
        clear hP hb2
        go_wp2
        go_loopw [11] (fun i wr => ∃ n : Nat, n ≤ r.length ∧ i = .int .i64 n ∧ Below w5.heap.size w5 wr) (fun i _ => ((r.length : Int) - intOf i).toNat)
        case atStart => exact ⟨0, by omega, rfl, Below.refl _ _⟩
        case round =>
          obtain ⟨n, hn, rfl, hbi⟩ := hrel
          by_cases hnr : n < r.length
          · obtain ⟨⟨⟨x1, x2⟩, x3⟩, hx⟩ : ∃ x, r[n]? = some x := ⟨r[n], List.getElem?_eq_getElem (by omega)⟩
            obtain ⟨m, hm⟩ : ∃ m, m + n + 1 = r.length := ⟨r.length - n - 1, by omega⟩
            obtain ⟨ad, rfl, _, c1, c2, c3⟩ := (hC.below hbi).at_ hx
            obtain ⟨bd, rfl, _, d1, d2, d3⟩ := (hE.below hbi).at_ (turn_at hx hm)
            have hmi : (r.length : Int) - 1 - n = m := by omega
            clear hx hm
            go_wp2
            go_region
            go_wp2
            go_roundw
            case rel => exact ⟨n + 1, by omega, by go_num, hbi.drew⟩
            case measure => simp [intOf]; omega
          · have hrl : (r.length : Int) = l.length := by have := HRL.out; omega
            go_wp2
            go_ret
            exact ⟨rfl, hb.trans (hbi.mono hb.size)⟩
    · obtain ⟨j, rfl⟩ : ∃ j, k = j + 1 := ⟨k - 1, by omega⟩
      obtain ⟨⟨x1, x2⟩, he⟩ : ∃ x, l[j]? = some x := ⟨l[j], List.getElem?_eq_getElem (by omega)⟩
      obtain ⟨ad, rfl, _, c1, c2⟩ := (hB.below hb).at_ he
      have HE := Lib.hid he
      clear he
      have e : ((j + 1 : Nat) : Int) - 1 = j := by omega
      rw [e]
      clear e
      go_wp2_with (at_builtin; refine wpList_append_sl _ rfl _ _ _ rfl w.heap.size 61 i1 _ 2 32 Try.underlying46 hj hy0 hy1 hy2 rfl (by omega) _ _ _ rfl (hown.alloc _) (some ⟨wr.heap.size, 0, none⟩) 1 1 [.string x1, .string x2] rfl (Sl.lit wr 2 [.string x1, .string x2] _ 1 rfl) (cells2_one [(x1, x2)]) (by simp only [maxLen]; omega) (by omega) (hb.alloc hb.size _).size ?_; intro v4 w4 hown4 hg4 hat4)
      have hb4 : Below w.heap.size w w4 := (hb.alloc hb.size _).grown hg4 (hb.alloc hb.size _).size (fun g hg => (hown.lt g hg).1)
      have hown5 : w4.ownsRow w.heap.size 61 2 v4 (l.length - j) (cells2 (l.drop j).reverse) := by
        rw [← turn_step HE.out, cells2_append]
        have e : l.length - (j + 1) + 1 = l.length - j := by omega
        rw [e] at hown4
        exact hown4
      clear hg4 hat4 hown4 hown
      go_roundw
      case rel => exact ⟨j, by omega, by go_num, hown5, hb4⟩
      case measure => simp [intOf]
end Go.Proofs.Ytkcpkgegkmockaa
