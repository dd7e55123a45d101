/- UdA ScE ScF ScG. -/
import Derived.Test.YtbdamneophbnnaaGreatDoorCZ11
namespace Wb
open Go
def nmU (l : List UInt8) : Bool := !decide (l = []) && (decide (l.length ≤ 64) && !decide (l = tt11))
def docK (s : List UInt8) : (List UInt8 × List UInt8 × List UInt8 × Bool) × Bool :=
  if (Lib.cut (Lib.cut (Lib.cut s [47]).2.1 [47]).2.1 [47]).1 = sUsers then
    (((Lib.cut (Lib.cut s [47]).2.1 [47]).1, (Lib.cut (Lib.cut (Lib.cut (Lib.cut s [47]).2.1 [47]).2.1 [47]).2.1 [47]).1, (Lib.cut (Lib.cut (Lib.cut (Lib.cut (Lib.cut s [47]).2.1 [47]).2.1 [47]).2.1 [47]).2.1 [47]).1, true),
      (Lib.cut (Lib.cut (Lib.cut (Lib.cut s [47]).2.1 [47]).2.1 [47]).2.1 [47]).2.2 && (!(Lib.cut (Lib.cut (Lib.cut (Lib.cut (Lib.cut s [47]).2.1 [47]).2.1 [47]).2.1 [47]).2.1 [47]).2.2 && decide ((Lib.cut s [47]).1 = [])))
  else
    (((Lib.cut (Lib.cut s [47]).2.1 [47]).1, [], (Lib.cut (Lib.cut (Lib.cut (Lib.cut s [47]).2.1 [47]).2.1 [47]).2.1 [47]).1, false),
      (Lib.cut (Lib.cut (Lib.cut s [47]).2.1 [47]).2.1 [47]).2.2 && (!(Lib.cut (Lib.cut (Lib.cut (Lib.cut s [47]).2.1 [47]).2.1 [47]).2.1 [47]).2.2 && (decide ((Lib.cut s [47]).1 = []) && decide ((Lib.cut (Lib.cut (Lib.cut s [47]).2.1 [47]).2.1 [47]).1 = sGlob))))
theorem cut_nil : Lib.cut [] [47] = ([], [], false) := by kernel_rfl
theorem cut_one {x : List UInt8} (h : ∀ c ∈ x, c ≠ 47) : Lib.cut (joinB 47 [x]) [47] = (x, [], false) := by
  rw [joinB]
  exact cut_none1 (cutC_none h)
theorem cut_two {x y : List UInt8} {r : List (List UInt8)} (h : ∀ c ∈ x, c ≠ 47) : Lib.cut (joinB 47 (x :: y :: r)) [47] = (x, joinB 47 (y :: r), true) := by
  rw [joinB]
  exact cut_some1 (cutC_at _ h)
theorem docK_join : ∀ (l : List (List UInt8)), l ≠ [] → (∀ x ∈ l, ∀ c ∈ x, c ≠ 47) →
    frm11 l = if (docK (joinB 47 l)).2 = true then some ((docK (joinB 47 l)).1.1, if (docK (joinB 47 l)).1.2.2.2 = true then some (docK (joinB 47 l)).1.2.1 else none, (docK (joinB 47 l)).1.2.2.1) else none
  | [], h, _ => absurd rfl h
  | [a], _, h => by
    have h1 := cut_one (h a (by simp))
    have e : ([] : List UInt8) ≠ sUsers := by decide
    unfold docK
    simp only [h1, cut_nil]
    rw [if_neg e]
    cases a <;> rfl
  | [a, b], _, h => by
    have h1 := cut_two (y := b) (r := []) (h a (by simp))
    have h2 := cut_one (h b (by simp))
    have e : ([] : List UInt8) ≠ sUsers := by decide
    unfold docK
    simp only [h1, h2, cut_nil]
    rw [if_neg e]
    cases a <;> rfl
  | [a, b, c], _, h => by
    have h1 := cut_two (y := b) (r := [c]) (h a (by simp))
    have h2 := cut_two (y := c) (r := []) (h b (by simp))
    have h3 := cut_one (h c (by simp))
    unfold docK
    simp only [h1, h2, h3, cut_nil]
    by_cases e : c = sUsers
    · rw [if_pos e]
      cases a <;> rfl
    · rw [if_neg e]
      cases a <;> rfl
  | [a, b, c, d], _, h => by
    have h1 := cut_two (y := b) (r := [c, d]) (h a (by simp))
    have h2 := cut_two (y := c) (r := [d]) (h b (by simp))
    have h3 := cut_two (y := d) (r := []) (h c (by simp))
    have h4 := cut_one (h d (by simp))
    unfold docK
    simp only [h1, h2, h3, h4, cut_nil]
    by_cases e : c = sUsers
    · have e2 : ¬ sUsers = sGlob := by decide
      subst e
      rw [if_pos rfl]
      cases a with
      | nil => simp [frm11, e2]
      | cons x a => simp [frm11]
    · rw [if_neg e]
      cases a with
      | nil => simp [frm11]
      | cons x a => simp [frm11]
  | [a, b, c, d, f], _, h => by
    have h1 := cut_two (y := b) (r := [c, d, f]) (h a (by simp))
    have h2 := cut_two (y := c) (r := [d, f]) (h b (by simp))
    have h3 := cut_two (y := d) (r := [f]) (h c (by simp))
    have h4 := cut_two (y := f) (r := []) (h d (by simp))
    have h5 := cut_one (h f (by simp))
    unfold docK
    simp only [h1, h2, h3, h4, h5]
    by_cases e : c = sUsers
    · subst e
      rw [if_pos rfl]
      cases a with
      | nil => simp [frm11]
      | cons x a => simp [frm11]
    · rw [if_neg e]
      cases a with
      | nil => simp [frm11, e]
      | cons x a => simp [frm11]
  | a :: b :: c :: d :: f :: g :: r, _, h => by
    have h1 := cut_two (y := b) (r := c :: d :: f :: g :: r) (h a (by simp))
    have h2 := cut_two (y := c) (r := d :: f :: g :: r) (h b (by simp))
    have h3 := cut_two (y := d) (r := f :: g :: r) (h c (by simp))
    have h4 := cut_two (y := f) (r := g :: r) (h d (by simp))
    have h5 := cut_two (y := g) (r := r) (h f (by simp))
    unfold docK
    simp only [h1, h2, h3, h4, h5]
    by_cases e : c = sUsers
    · rw [if_pos e]
      cases a with
      | nil => simp [frm11]
      | cons x a => simp [frm11]
    · rw [if_neg e]
      cases a with
      | nil => simp [frm11]
      | cons x a => simp [frm11]
theorem docK_frm (s : List UInt8) : frm11 (pieceF 47 s) = if (docK s).2 = true then some ((docK s).1.1, if (docK s).1.2.2.2 = true then some (docK s).1.2.1 else none, (docK s).1.2.2.1) else none := by
  have hj : joinB 47 (pieceF 47 s) = s := by
    show joinB 47 (pieceA 47 [] s) = s
    simpa using piece_join 47 [] s
  have hf : ∀ x ∈ pieceF 47 s, ∀ c ∈ x, c ≠ 47 := fun x hx c hc e => by
    subst e
    exact piece_free 47 [] s (by simp) x hx hc
  have := docK_join (pieceF 47 s) (pieceA_ne _ _ _) hf
  rw [hj] at this
  exact this
theorem docK_user {s : List UInt8} (h : (docK s).1.2.2.2 = false) : (docK s).1.2.1 = [] := by
  unfold docK at h ⊢
  split
  · rename_i e
    rw [if_pos e] at h
    cases h
  · rfl
theorem que_cut (s : List UInt8) : que11 s = ((Lib.cut s [63]).1, if (Lib.cut s [63]).2.2 = true then some (Lib.cut s [63]).2.1 else none) := by
  unfold que11
  cases h : cutC 63 s with
  | none => rw [cut_none1 h]; rfl
  | some x =>
    obtain ⟨a, b⟩ := x
    rw [cut_some1 h]
    rfl
theorem sel_cut (s : List UInt8) : sel11 s = ((Lib.cut s ssl11).1, if (Lib.cut s ssl11).2.2 = true then some (Lib.cut s ssl11).2.1 else none) := by
  unfold sel11 Lib.cut
  by_cases h : 0 ≤ Lib.index s ssl11
  · rw [if_pos h, if_pos h]
    rfl
  · rw [if_neg h, if_neg h]
    rfl
theorem cut_no {s p : List UInt8} (h : (Lib.cut s p).2.2 = false) : (Lib.cut s p).2.1 = [] := by
  unfold Lib.cut at h ⊢
  split
  · rename_i e
    rw [if_pos e] at h
    cases h
  · rfl
theorem nm_ok {x : Option (List UInt8)} {us d : List UInt8} (hx : x = none → us = []) : ok11 x us d = !(x.isSome && !nmU us || !nmU d) := by
  have h1 : tt11 ≠ [] := by decide
  have h2 : (1 ≤ d.length) ↔ d ≠ [] := by rw [← List.length_pos_iff]; omega
  unfold ok11 nmU
  cases x with
  | none =>
    rw [hx rfl]
    by_cases a : d = []
    · simp [a]
    · by_cases b : d = tt11
      · simp [b, h1.symm]
      · have := h2.2 a
        simp [a, b, h1.symm, this]
  | some y =>
    by_cases a : d = []
    · simp [a]
    · have := h2.2 a
      by_cases b : d = tt11 <;> by_cases c : us = [] <;> by_cases e : us = tt11 <;> simp [a, b, c, e, this, h1, h1.symm] <;> (try simp [tt11]) <;> (try exact Bool.and_comm _ _)
theorem uri_let {s h q doc sel u x d : List UInt8} {asked node ow ok : Bool} (h1 : Lib.cut s [63] = (h, q, asked)) (h2 : Lib.cut h ssl11 = (doc, sel, node)) (h3 : docK doc = ((u, x, d, ow), ok)) :
    uri11 s = if 512 < s.length then .error 3
      else if (ok && (node || !asked)) = false then .error 4
      else if u ∉ usg11 then .error 34
      else if (decP x).2 ≠ 0 then .error (decP x).2
      else if (decP d).2 ≠ 0 then .error (decP d).2
      else if (ow && !nmU (decP x).1 || !nmU (decP d).1) = true then .error 4
      else if node = false then .ok ⟨mkT u, mkT (decP x).1, mkT (decP d).1, false, [], sE, []⟩
      else if (bindsP q).2 ≠ 0 then .error (bindsP q).2
      else match parseS sel ⟨(spc11 u).toArray⟩ (bindsP q).1 with
        | .error e => .error e
        | .ok l => .ok ⟨mkT u, mkT (decP x).1, mkT (decP d).1, true, l, mkT sel, (bindsP q).1⟩ := by
  have hq := que_cut s
  have hs := sel_cut h
  have hf := docK_frm doc
  have hu := docK_user (s := doc)
  have hq0 := cut_no (s := s) (p := [63])
  rw [h1] at hq hq0
  rw [h2] at hs
  rw [h3] at hf hu
  simp only at hq hs hf hu hq0
  unfold uri11
  rw [hq]
  simp only
  rw [hs]
  simp only
  rw [hf]
  by_cases hl : 512 < s.length
  · rw [if_pos hl, if_pos hl]
  · rw [if_neg hl, if_neg hl]
    cases ok with
    | false => rfl
    | true =>
      simp only [if_true, Bool.true_and]
      have hd0 : decP [] = ([], 0) := by kernel_rfl
      have huo : usr11 (if ow = true then some x else none) = decP x := by
        cases ow with
        | true => rfl
        | false => rw [hu rfl, hd0]; rfl
      have hso : (if ow = true then some x else none).isSome = ow := by cases ow <;> rfl
      have hnm : ok11 (if ow = true then some x else none) (decP x).1 (decP d).1 = !(ow && !nmU (decP x).1 || !nmU (decP d).1) := by
        rw [nm_ok, hso]
        intro e
        cases ow with
        | true => cases e
        | false => rw [hu rfl, hd0]
      rw [huo, hnm]
      generalize (ow && !nmU (decP x).1 || !nmU (decP d).1) = B
      cases node with
      | false =>
        cases asked with
        | true => simp
        | false => cases B <;> simp [mkT]
      | true =>
        have hg : (if asked = true then some q else none).getD [] = q := by
          cases asked with
          | true => rfl
          | false => rw [hq0 rfl]; rfl
        rw [hg]
        cases B <;> simp [mkT] <;> (cases parseS sel ⟨(spc11 u).toArray⟩ (bindsP q).1 <;> rfl)
end Wb
namespace Go.Proofs.YtbdamneophbnnaaGreatDoor
open Go.RowKit Wb
theorem mkT_emp {l : List UInt8} (h : l = []) : (mkT l).toList.isEmpty = true := by
  subst h
  rw [ByteArray.toList_eq]
  rfl
theorem mkT_nemp {l : List UInt8} (h : l ≠ []) : (mkT l).toList.isEmpty = false := by
  rw [ByteArray.toList_eq]
  show (mkT l).data.toList.isEmpty = false
  rw [mkT_list]
  simpa using h
theorem mkT_eq (l m : List UInt8) : ((mkT l).toList == m) = decide (l = m) := by
  rw [ByteArray.toList_eq]
  show ((mkT l).data.toList == m) = _
  rw [mkT_list, Bool.eq_iff_iff, beq_iff_eq, decide_eq_true_eq]
def TestOut (o : Option (List UInt8 × List UInt8)) (e : Ending) : Prop :=
  (o = none → ∃ a v : ByteArray, e = .returned (.tuple #[.string a, .string v, .bool false])) ∧ ∀ a v, o = some (a, v) → e = .returned (.tuple #[.string (mkT a), .string (mkT v), .bool true])
theorem TestOut.bad {a v : ByteArray} : TestOut none (.returned (.tuple #[.string a, .string v, .bool false])) := ⟨fun _ => ⟨a, v, rfl⟩, fun a v h => by cases h⟩
theorem TestOut.good {a v : List UInt8} : TestOut (some (a, v)) (.returned (.tuple #[.string (mkT a), .string (mkT v), .bool true])) := ⟨fun h => (by cases h), fun a' v' h => by
  injection h with h
  injection h with h1 h2
  rw [h1, h2]⟩
set_option maxHeartbeats 4000000 in
set_option maxRecDepth 100000 in
theorem cutTest_any (s : ByteArray) (w : World) (hs : s.size ≤ 1000000) (hG : GvS w) :
    Calls Tryz.prog 142 #[.string s] w fun e w' => TestOut (testP s.data.toList) e ∧ Below w.heap.size w w' := by
  obtain ⟨b1, h1⟩ : ∃ b, Lib.hasPrefix s.data.toList [91, 64] = b := ⟨_, rfl⟩
  obtain ⟨N, U, b2, h2⟩ : ∃ P R b, Lib.cut (Lib.trimPrefix s.data.toList [91, 64]) [61] = (P, R, b) := ⟨_, _, _, rfl⟩
  obtain ⟨b3, h3⟩ : ∃ n, (splitB (mkT N)).2.2 = n := ⟨_, rfl⟩
  have hL := testP_let h1 h2 h3
  have ll := trimP_le s.data.toList [91, 64]
  have l1 := cut_le (Lib.trimPrefix s.data.toList [91, 64]) 61
  rw [h2] at l1
  have hsl : s.data.toList.length = s.size := by simp
  have k1 := cutP_any s ⟨#[91, 64]⟩
  have ek : (⟨#[91, 64]⟩ : ByteArray).data.toList = [91, 64] := rfl
  rw [ek, h1] at k1
  obtain ⟨T, hT⟩ : ∃ T, Lib.trimPrefix s.data.toList [91, 64] = T := ⟨_, rfl⟩
  rw [hT] at k1 l1 h2 ll
  have k2 := cut1_any (mkT T) 61 w (by rw [mkT_size]; omega) hG
  rw [mkT_list, h2] at k2
  simp only at k2 l1
  have k3 := fun v => qualified_any (mkT N) v (by rw [mkT_size]; omega)
  rw [h3] at k3
  have hU : U.length ≤ 1000000 := by omega
  obtain ⟨o, ho⟩ : ∃ o, testP s.data.toList = o := ⟨_, rfl⟩
  rw [ho]
  rw [ho] at hL
  have K3 := Lib.hid k3
  have HG := Lib.hid (fun v (hb : Below w.heap.size w v) => hG.next hb)
  clear h1 h2 h3 l1 ll hsl hT ek ho k3 hG
  have hc : b1 = false ∨ (b1 = true ∧ b2 = false) ∨ (b1 = true ∧ b2 = true ∧ b3 = false) ∨ (b1 = true ∧ b2 = true ∧ b3 = true) := by
    cases b1 <;> cases b2 <;> cases b3 <;> simp
  rcases hc with rfl | ⟨rfl, rfl⟩ | ⟨rfl, rfl, rfl⟩ | ⟨rfl, rfl, rfl⟩
  all_goals
    go_enter Tryz.func142, Tryz.ntmps142
    go_wp2_with fail
    refine (k1 _).mono ?_
    rintro e w1 ⟨rfl, rfl⟩
    go_wp2_with fail
    refine k2.mono ?_
    rintro e w2 ⟨rfl, hb2⟩
    have HB2 := Lib.hid hb2
    clear hb2 k1 k2
  · obtain rfl : o = none := by simpa using hL
    go_wp2
    go_ret3
    exact ⟨TestOut.bad, HB2.out⟩
  · obtain rfl : o = none := by simpa using hL
    go_wp2
    go_ret3
    exact ⟨TestOut.bad, HB2.out⟩
  · obtain rfl : o = none := by simpa using hL
    go_wp2_with fail
    refine (K3.out _).mono ?_
    rintro e w3 ⟨rfl, hb3⟩
    have HB3 := Lib.hid (HB2.out.trans (hb3.mono HB2.out.size))
    go_wp2
    go_ret3
    exact ⟨TestOut.bad, HB3.out⟩
  · replace hL : o = (quoV U).map fun v => (N, v) := by simpa using hL
    go_wp2_with fail
    refine (K3.out _).mono ?_
    rintro e w3 ⟨rfl, hb3⟩
    have HB3 := Lib.hid (HB2.out.trans (hb3.mono HB2.out.size))
    clear hb3 K3 HB2
    cases U with
    | nil =>
      obtain rfl : o = none := hL
      have he := mkT_emp (l := []) rfl
      go_wp2
      go_ret3
      exact ⟨TestOut.bad, HB3.out⟩
    | cons q u =>
      have he := mkT_nemp (l := q :: u) (by simp)
      obtain ⟨V, hV⟩ : ∃ V, mkT (q :: u) = V := ⟨_, rfl⟩
      have hVl : V.data.toList = q :: u := by rw [← hV, mkT_list]
      have hVs : V.size = u.length + 1 := by rw [← hV, mkT_size]; rfl
      have h0 : 0 < V.size := by omega
      have hx : V[0] = q := by
        have : V.data.toList[0]'(by simpa using h0) = q := by simp [hVl]
        simp only [Array.getElem_toList] at this
        exact this
      rw [hV] at he ⊢
      clear hV
      by_cases hq : q = 34 ∨ q = 39
      · have hk := fun v hv => cut1_any (mkT u) q v (by rw [mkT_size]; simp at hU; omega) hv
        rw [mkT_list] at hk
        have e1 : V.extract 1 V.size = mkT u := by
          have : (V.extract 1 V.size).data.toList = u := by rw [ext_drop, hVl]; rfl
          rw [← this]
          exact (to_list _).symm
        have e2 : V.extract 0 1 = ⟨#[q]⟩ := by
          have : (V.extract 0 1).data.toList = [q] := by rw [ext_sub, hVl]; rfl
          rw [← to_list (V.extract 0 1), this]
        rw [← e1, ← e2] at hk
        obtain ⟨X, Y, b4, hxy⟩ : ∃ X Y b, Lib.cut u [q] = (X, Y, b) := ⟨_, _, _, rfl⟩
        rw [hxy] at hk
        simp only at hk
        have HL : Hid (o = if b4 = true ∧ Y = [93] then some (N, X) else none) := Lib.hid (by
          rw [hL]
          unfold quoV
          simp only
          rw [if_pos hq]
          cases hcq : cutC q u with
          | none =>
            rw [cut_none1 hcq] at hxy
            injection hxy with e3 e4
            injection e4 with e4 e5
            subst e5
            simp
          | some x =>
            obtain ⟨a, b⟩ := x
            rw [cut_some1 hcq] at hxy
            injection hxy with e3 e4
            injection e4 with e4 e5
            subst e3 e4 e5
            simp only
            by_cases h93 : b = [93]
            · simp [h93]
            · simp [h93])
        have HK := Lib.hid hk
        have h11 : (1 : Int) ≤ (V.size : Int) := by omega
        clear hk hxy hL e1 e2 hVl hVs hU
        have hq34 : q = 34 ∨ (((q.toNat : Int) == 34) = false ∧ q = 39) := by
          rcases hq with rfl | rfl
          · exact .inl rfl
          · exact .inr ⟨rfl, rfl⟩
        rcases hq34 with rfl | ⟨hn34, rfl⟩
        · clear hq
          go_wp2
          go_region_with (go_at_call 33; refine (HK.out _ (HG.out _ HB3.out.drew)).mono ?_; rintro e w4 ⟨rfl, hb4⟩)
          all_goals
            have HB4 := Lib.hid (HB3.out.drew.trans (hb4.mono HB3.out.drew.size))
            clear hb4
            by_cases hy : Y = [93]
            · have he93 : ((mkT Y).toList == [93]) = true := by rw [mkT_eq]; exact decide_eq_true hy
              cases b4 with
              | false =>
                obtain rfl : o = none := by simpa using HL.out
                clear HL
                go_wp2
                go_ret3
                exact ⟨TestOut.bad, HB4.out⟩
              | true =>
                obtain rfl : o = some (N, X) := by simpa [hy] using HL.out
                clear HL hy
                go_wp2
                go_ret3
                exact ⟨TestOut.good, HB4.out⟩
            · have he93 : ((mkT Y).toList == [93]) = false := by rw [mkT_eq]; exact decide_eq_false hy
              obtain rfl : o = none := by simpa [hy] using HL.out
              clear HL
              cases b4 with
              | false =>
                go_wp2
                go_ret3
                exact ⟨TestOut.bad, HB4.out⟩
              | true =>
                go_wp2
                go_ret3
                exact ⟨TestOut.bad, HB4.out⟩
        · have hnq := hn34
          clear hq
          go_wp2
          go_region_with (go_at_call 33; refine (HK.out _ (HG.out _ HB3.out.drew)).mono ?_; rintro e w4 ⟨rfl, hb4⟩)
          all_goals
            have HB4 := Lib.hid (HB3.out.drew.trans (hb4.mono HB3.out.drew.size))
            clear hb4
            by_cases hy : Y = [93]
            · have he93 : ((mkT Y).toList == [93]) = true := by rw [mkT_eq]; exact decide_eq_true hy
              cases b4 with
              | false =>
                obtain rfl : o = none := by simpa using HL.out
                clear HL
                go_wp2
                go_ret3
                exact ⟨TestOut.bad, HB4.out⟩
              | true =>
                obtain rfl : o = some (N, X) := by simpa [hy] using HL.out
                clear HL hy
                go_wp2
                go_ret3
                exact ⟨TestOut.good, HB4.out⟩
            · have he93 : ((mkT Y).toList == [93]) = false := by rw [mkT_eq]; exact decide_eq_false hy
              obtain rfl : o = none := by simpa [hy] using HL.out
              clear HL
              cases b4 with
              | false =>
                go_wp2
                go_ret3
                exact ⟨TestOut.bad, HB4.out⟩
              | true =>
                go_wp2
                go_ret3
                exact ⟨TestOut.bad, HB4.out⟩
      · have hLn : o = none := by
          rw [hL]
          unfold quoV
          simp only
          rw [if_neg hq]
          rfl
        simp only [not_or] at hq
        have n34 : ¬ (q.toNat : Int) = 34 := fun h => hq.1 (UInt8.toNat_inj.1 (by show q.toNat = 34; omega))
        have n39 : ¬ (q.toNat : Int) = 39 := fun h => hq.2 (UInt8.toNat_inj.1 (by show q.toNat = 39; omega))
        have m34 : ((q.toNat : Int) != 34) = true := bne_iff_ne.2 n34
        have m39 : ((q.toNat : Int) != 39) = true := bne_iff_ne.2 n39
        subst hLn
        clear hL hq hVl hVs hU
        go_wp2
        go_ret3
        exact ⟨TestOut.bad, HB3.out⟩
end Go.Proofs.YtbdamneophbnnaaGreatDoor
namespace Go.Proofs.YtbdamneophbnnaaGreatDoor
open Go.RowKit Wb
theorem pie_info : (Tryz.prog.info? 154).map (·.size) = some 5 := by kernel_rfl
def pieV (n : List UInt8) (p : Nat) : Option (List UInt8 × List UInt8) → Value
  | none => .agg #[.string (mkT n), .int .i64 p, .bool false, .string ⟨#[]⟩, .string ⟨#[]⟩]
  | some (a, v) => .agg #[.string (mkT n), .int .i64 p, .bool true, .string (mkT a), .string (mkT v)]
def CutOut (o : Option (List UInt8 × Nat × Option (List UInt8 × List UInt8))) (e : Ending) : Prop :=
  (o = none → ∃ (n a v : ByteArray) (p : Int) (b : Bool), e = .returned (.tuple #[.agg #[.string n, .int .i64 p, .bool b, .string a, .string v], .bool false])) ∧
    ∀ n p av, o = some (n, p, av) → e = .returned (.tuple #[pieV n p av, .bool true])
theorem CutOut.bad {n a v : ByteArray} {p : Int} {b : Bool} : CutOut none (.returned (.tuple #[.agg #[.string n, .int .i64 p, .bool b, .string a, .string v], .bool false])) :=
  ⟨fun _ => ⟨n, a, v, p, b, rfl⟩, fun n p av h => by cases h⟩
theorem CutOut.good {n : List UInt8} {p : Nat} {av : Option (List UInt8 × List UInt8)} : CutOut (some (n, p, av)) (.returned (.tuple #[pieV n p av, .bool true])) :=
  ⟨fun h => (by cases h), fun n' p' av' h => by
    injection h with h
    injection h with h1 h
    injection h with h2 h3
    rw [h1, h2, h3]⟩
set_option maxHeartbeats 8000000 in
set_option maxRecDepth 100000 in
theorem scut_any (d : ByteArray) (w : World) (hs : d.size ≤ 1000000) (hG : GvS w) :
    Calls Tryz.prog 123 #[.string d] w fun e w' => CutOut (cutK d.data.toList) e ∧ Below w.heap.size w w' := by
  have hsl : d.data.toList.length = d.size := by simp
  obtain ⟨n, r, hh⟩ : ∃ n r, headP d.data.toList = (n, r) := ⟨_, _, rfl⟩
  have hl := headP_len d.data.toList
  have hd1 := fun v hv => cutName_any d v (by omega) hv
  rw [hh] at hl hd1
  simp only at hl hd1
  obtain ⟨p, t, hp⟩ : ∃ p t, cposP r = (p, t) := ⟨_, _, rfl⟩
  have hd2 := fun v hv => cutPos_any (mkT r) v (by rw [mkT_size]; omega) hv
  have htl : t.length ≤ r.length := by
    have : (cposP r).2.length ≤ r.length := by
      unfold cposP
      split
      · split
        · exact Nat.le_refl _
        · rename_i hq
          split
          · exact Nat.le_refl _
          · obtain ⟨e, _⟩ := cutC_some hq
            have h3 := congrArg List.length e
            simp only [List.length_append, List.length_cons, List.length_drop] at h3
            simp only
            omega
      · exact Nat.le_refl _
    rw [hp] at this
    exact this
  rw [mkT_list, hp] at hd2
  simp only at hd2
  have hd3 := fun v => qualified_any (mkT n) v (by rw [mkT_size]; omega)
  obtain ⟨b3, h3⟩ : ∃ b, (splitB (mkT n)).2.2 = b := ⟨_, rfl⟩
  rw [h3] at hd3
  have hd4 := fun v hv => cutTest_any (mkT t) v (by rw [mkT_size]; omega) hv
  rw [mkT_list] at hd4
  obtain ⟨o, ho⟩ : ∃ o, cutK d.data.toList = o := ⟨_, rfl⟩
  rw [ho]
  unfold cutK at ho
  rw [hh] at ho
  simp only at ho
  rw [hp, show (splitB ⟨n.toArray⟩).2.2 = b3 from h3] at ho
  simp only at ho
  obtain ⟨ot, hot⟩ : ∃ ot, testP t = ot := ⟨_, rfl⟩
  rw [hot] at ho hd4
  have HO := Lib.hid ho
  have HG := Lib.hid (fun v (hb : Below w.heap.size w v) => hG.next hb)
  have H2 := Lib.hid hd2
  have H3 := Lib.hid hd3
  have H4 := Lib.hid hd4
  have hk0 := OwnB.new0 w #[.string ⟨#[]⟩, .int .i64 0, .bool false, .string ⟨#[]⟩, .string ⟨#[]⟩] 154
  have hb0 := (Below.refl w.heap.size w).alloc (Nat.le_refl _) (.cells #[.string ⟨#[]⟩, .int .i64 0, .bool false, .string ⟨#[]⟩, .string ⟨#[]⟩] 154)
  clear hsl hh hl hp h3 hot ho hd2 hd3 hd4 htl hG
  go_enter Tryz.func123, Tryz.ntmps123
  go_upto_region 1 with fail
  generalize w.alloc (.cells #[.string ⟨#[]⟩, .int .i64 0, .bool false, .string ⟨#[]⟩, .string ⟨#[]⟩] 154) = w0 at *
  go_wp2_with fail
  refine (hd1 _ (HG.out _ hb0)).mono ?_
  rintro e w1 ⟨rfl, hb1⟩
  have hk1 := hk0.next hb1
  replace hb1 := hb0.trans (hb1.mono hb0.size)
  have f0 := hk1.free 0
  have c0 : w1.cell? ⟨w.heap.size, 0, none⟩ = some (.string ⟨#[]⟩) := hk1.cell 0
  clear hd1 hk0 hb0
  go_upto_region 2 with fail
  have hk2 := hk1.put5_0 (.string (mkT n))
  have hb2 := hk1.below hb1 0 (.string (mkT n))
  generalize w1.setCell ⟨w.heap.size, 0, none⟩ (.string (mkT n)) = w2 at *
  clear f0 c0 hk1 hb1
  go_wp2_with fail
  refine (H2.out _ (HG.out _ hb2)).mono ?_
  rintro e w3 ⟨rfl, hb3⟩
  have hk3 := hk2.next hb3
  replace hb3 := hb2.trans (hb3.mono hb2.size)
  have f1 := hk3.free 1
  have c1 : w3.cell? ⟨w.heap.size, 1, none⟩ = some (.int .i64 0) := hk3.cell 1
  clear H2 hk2 hb2
  go_upto_region 3 with fail
  have hk4 := hk3.put5_1 (.int .i64 p)
  have hb4 := hk3.below hb3 1 (.int .i64 p)
  generalize w3.setCell ⟨w.heap.size, 1, none⟩ (.int .i64 p) = w4 at *
  clear f1 c1 hk3 hb3
  have c0 : w4.cell? ⟨w.heap.size, 0, none⟩ = some (.string (mkT n)) := hk4.cell 0
  have c1 : w4.cell? ⟨w.heap.size, 1, none⟩ = some (.int .i64 p) := hk4.cell 1
  have c2 : w4.cell? ⟨w.heap.size, 2, none⟩ = some (.bool false) := hk4.cell 2
  have c3 : w4.cell? ⟨w.heap.size, 3, none⟩ = some (.string ⟨#[]⟩) := hk4.cell 3
  have c4 : w4.cell? ⟨w.heap.size, 4, none⟩ = some (.string ⟨#[]⟩) := hk4.cell 4
  have f0 := hk4.free 0
  have f1 := hk4.free 1
  have f2 := hk4.free 2
  have f3 := hk4.free 3
  have f4 := hk4.free 4
  have HS := Lib.hid hk4
  by_cases hbad : n ≠ [42] ∧ b3 = false
  · obtain ⟨hn, rfl⟩ := hbad
    obtain rfl : o = none := by have := HO.out; rw [if_pos ⟨hn, rfl⟩] at this; exact this.symm
    have hnb : ((mkT n).toList == [42]) = false := by rw [mkT_eq]; exact decide_eq_false hn
    clear HO hk4 hn c1 c2 c3 c4 f0 f1 f2 f3 f4
    go_wp2_with fail
    refine (H3.out _).mono ?_
    rintro e w5 ⟨rfl, hb5⟩
    have HS5 := Lib.hid (HS.out.next hb5)
    have HB5 := Lib.hid (hb4.trans (hb5.mono hb4.size))
    clear hb4 hb5 c0 H3 H4 HS
    have c0 : w5.cell? ⟨w.heap.size, 0, none⟩ = some (.string (mkT n)) := HS5.out.cell 0
    have c1 : w5.cell? ⟨w.heap.size, 1, none⟩ = some (.int .i64 p) := HS5.out.cell 1
    have c2 : w5.cell? ⟨w.heap.size, 2, none⟩ = some (.bool false) := HS5.out.cell 2
    have c3 : w5.cell? ⟨w.heap.size, 3, none⟩ = some (.string ⟨#[]⟩) := HS5.out.cell 3
    have c4 : w5.cell? ⟨w.heap.size, 4, none⟩ = some (.string ⟨#[]⟩) := HS5.out.cell 4
    have f0 := HS5.out.free 0
    have f1 := HS5.out.free 1
    have f2 := HS5.out.free 2
    have f3 := HS5.out.free 3
    have f4 := HS5.out.free 4
    go_wp2
    refine bodyPost_ret (results_cell2 rfl _ _ w.heap.size _ _ _ rfl (HS5.out.all5 _ _ _ _ _).blk Tryz.underlying154 rfl pie_info) rfl ?_
    exact ⟨CutOut.bad, (((((HB5.out.setCell (Nat.le_refl _) _).setCell (Nat.le_refl _) _).setCell (Nat.le_refl _) _).setCell (Nat.le_refl _) _).setCell (Nat.le_refl _) _)⟩
  · have HO2 : Hid ((if t = [] then some (n, p, none) else ot.map fun av => (n, p, some av)) = o) := Lib.hid (by
      have := HO.out
      rw [if_neg hbad] at this
      rw [← this]
      split
      · rfl
      · cases ot <;> rfl)
    clear HO c1 c2 c3 c4 f0 f1 f2 f3 f4
    have hsplit : n = [42] ∨ (n ≠ [42] ∧ b3 = true) := by
      by_cases h : n = [42]
      · exact .inl h
      · refine .inr ⟨h, ?_⟩
        cases b3 with
        | true => rfl
        | false => exact absurd ⟨h, rfl⟩ hbad
    rcases hsplit with hn | ⟨hn, rfl⟩
    · have hnb : ((mkT n).toList == [42]) = true := by rw [mkT_eq]; exact decide_eq_true hn
      clear hn hbad H3
      go_upto_region 5 with fail
      obtain ⟨w5, rfl⟩ : ∃ w5, w4 = w5 := ⟨_, rfl⟩
      have HS5 := Lib.hid hk4
      have HB5 := Lib.hid hb4
      clear hk4 hb4 HS c0
      by_cases ht : t = []
      · have hte := mkT_emp ht
        obtain rfl : some (n, p, none) = o := by have := HO2.out; rw [if_pos ht] at this; exact this
        clear HO2 H4 ht
        have c0 : w4.cell? ⟨w.heap.size, 0, none⟩ = some (.string (mkT n)) := HS5.out.cell 0
        have c1 : w4.cell? ⟨w.heap.size, 1, none⟩ = some (.int .i64 p) := HS5.out.cell 1
        have c2 : w4.cell? ⟨w.heap.size, 2, none⟩ = some (.bool false) := HS5.out.cell 2
        have c3 : w4.cell? ⟨w.heap.size, 3, none⟩ = some (.string ⟨#[]⟩) := HS5.out.cell 3
        have c4 : w4.cell? ⟨w.heap.size, 4, none⟩ = some (.string ⟨#[]⟩) := HS5.out.cell 4
        have f0 := HS5.out.free 0
        have f1 := HS5.out.free 1
        have f2 := HS5.out.free 2
        have f3 := HS5.out.free 3
        have f4 := HS5.out.free 4
        go_wp2
        refine bodyPost_ret (results_cell2 rfl _ _ w.heap.size _ _ _ rfl (HS5.out.all5 _ _ _ _ _).blk Tryz.underlying154 rfl pie_info) rfl ?_
        exact ⟨CutOut.good, (((((HB5.out.setCell (Nat.le_refl _) _).setCell (Nat.le_refl _) _).setCell (Nat.le_refl _) _).setCell (Nat.le_refl _) _).setCell (Nat.le_refl _) _)⟩
      · have hte := mkT_nemp ht
        have HO3 : Hid ((ot.map fun av => (n, p, some av)) = o) := Lib.hid (by have := HO2.out; rw [if_neg ht] at this; exact this)
        clear HO2 ht
        have c2 : w4.cell? ⟨w.heap.size, 2, none⟩ = some (.bool false) := HS5.out.cell 2
        have f2 := HS5.out.free 2
        go_upto_region 8 with fail
        have hk6 := HS5.out.put5_2 (.bool true)
        have hb6 := HB5.out.setCell (p := ⟨w.heap.size, 2, none⟩) (Nat.le_refl _) (.bool true)
        generalize w4.setCell ⟨w.heap.size, 2, none⟩ (.bool true) = w6 at *
        clear c2 f2 HS5 HB5
        go_wp2_with fail
        refine (H4.out _ (HG.out _ hb6)).mono ?_
        rintro e w7 ⟨hto, hb7⟩
        have HS7 := Lib.hid (hk6.next hb7)
        have HB7 := Lib.hid (hb6.trans (hb7.mono hb6.size))
        clear hk6 hb6 hb7 H4
        have c0 : w7.cell? ⟨w.heap.size, 0, none⟩ = some (.string (mkT n)) := HS7.out.cell 0
        have c1 : w7.cell? ⟨w.heap.size, 1, none⟩ = some (.int .i64 p) := HS7.out.cell 1
        have c2 : w7.cell? ⟨w.heap.size, 2, none⟩ = some (.bool true) := HS7.out.cell 2
        have c3 : w7.cell? ⟨w.heap.size, 3, none⟩ = some (.string ⟨#[]⟩) := HS7.out.cell 3
        have c4 : w7.cell? ⟨w.heap.size, 4, none⟩ = some (.string ⟨#[]⟩) := HS7.out.cell 4
        have f0 := HS7.out.free 0
        have f1 := HS7.out.free 1
        have f2 := HS7.out.free 2
        have f3 := HS7.out.free 3
        have f4 := HS7.out.free 4
        cases ot with
        | none =>
          obtain rfl : none = o := HO3.out
          obtain ⟨a, v, rfl⟩ := hto.1 rfl
          clear HO3
          go_wp2
          refine bodyPost_ret (results_cell2 rfl _ _ w.heap.size _ _ _ rfl (((HS7.out.put5_3 _).put5_4 _).all5 _ _ _ _ _).blk Tryz.underlying154 rfl pie_info) rfl ?_
          exact ⟨CutOut.bad, (((((((HB7.out.setCell (Nat.le_refl _) _).setCell (Nat.le_refl _) _).setCell (Nat.le_refl _) _).setCell (Nat.le_refl _) _).setCell (Nat.le_refl _) _).setCell (Nat.le_refl _) _).setCell (Nat.le_refl _) _)⟩
        | some av =>
          obtain ⟨a, v⟩ := av
          obtain rfl : some (n, p, some (a, v)) = o := HO3.out
          obtain rfl := hto.2 a v rfl
          clear HO3
          go_wp2
          refine bodyPost_ret (results_cell2 rfl _ _ w.heap.size _ _ _ rfl (((HS7.out.put5_3 _).put5_4 _).all5 _ _ _ _ _).blk Tryz.underlying154 rfl pie_info) rfl ?_
          exact ⟨CutOut.good, (((((((HB7.out.setCell (Nat.le_refl _) _).setCell (Nat.le_refl _) _).setCell (Nat.le_refl _) _).setCell (Nat.le_refl _) _).setCell (Nat.le_refl _) _).setCell (Nat.le_refl _) _).setCell (Nat.le_refl _) _)⟩
    · have hnb : ((mkT n).toList == [42]) = false := by rw [mkT_eq]; exact decide_eq_false hn
      clear hn hbad
      go_wp2_with fail
      refine (H3.out _).mono ?_
      rintro e w5 ⟨rfl, hb5⟩
      have HS5 := Lib.hid (HS.out.next hb5)
      have HB5 := Lib.hid (hb4.trans (hb5.mono hb4.size))
      clear hk4 hb4 hb5 HS c0 H3
      go_upto_region 5 with fail
      by_cases ht : t = []
      · have hte := mkT_emp ht
        obtain rfl : some (n, p, none) = o := by have := HO2.out; rw [if_pos ht] at this; exact this
        clear HO2 H4 ht
        have c0 : w5.cell? ⟨w.heap.size, 0, none⟩ = some (.string (mkT n)) := HS5.out.cell 0
        have c1 : w5.cell? ⟨w.heap.size, 1, none⟩ = some (.int .i64 p) := HS5.out.cell 1
        have c2 : w5.cell? ⟨w.heap.size, 2, none⟩ = some (.bool false) := HS5.out.cell 2
        have c3 : w5.cell? ⟨w.heap.size, 3, none⟩ = some (.string ⟨#[]⟩) := HS5.out.cell 3
        have c4 : w5.cell? ⟨w.heap.size, 4, none⟩ = some (.string ⟨#[]⟩) := HS5.out.cell 4
        have f0 := HS5.out.free 0
        have f1 := HS5.out.free 1
        have f2 := HS5.out.free 2
        have f3 := HS5.out.free 3
        have f4 := HS5.out.free 4
        go_wp2
        refine bodyPost_ret (results_cell2 rfl _ _ w.heap.size _ _ _ rfl (HS5.out.all5 _ _ _ _ _).blk Tryz.underlying154 rfl pie_info) rfl ?_
        exact ⟨CutOut.good, (((((HB5.out.setCell (Nat.le_refl _) _).setCell (Nat.le_refl _) _).setCell (Nat.le_refl _) _).setCell (Nat.le_refl _) _).setCell (Nat.le_refl _) _)⟩
      · have hte := mkT_nemp ht
        have HO3 : Hid ((ot.map fun av => (n, p, some av)) = o) := Lib.hid (by have := HO2.out; rw [if_neg ht] at this; exact this)
        clear HO2 ht
        have c2 : w5.cell? ⟨w.heap.size, 2, none⟩ = some (.bool false) := HS5.out.cell 2
        have f2 := HS5.out.free 2
        go_upto_region 8 with fail
        have hk6 := HS5.out.put5_2 (.bool true)
        have hb6 := HB5.out.setCell (p := ⟨w.heap.size, 2, none⟩) (Nat.le_refl _) (.bool true)
        generalize w5.setCell ⟨w.heap.size, 2, none⟩ (.bool true) = w6 at *
        clear c2 f2 HS5 HB5
        go_wp2_with fail
        refine (H4.out _ (HG.out _ hb6)).mono ?_
        rintro e w7 ⟨hto, hb7⟩
        have HS7 := Lib.hid (hk6.next hb7)
        have HB7 := Lib.hid (hb6.trans (hb7.mono hb6.size))
        clear hk6 hb6 hb7 H4
        have c0 : w7.cell? ⟨w.heap.size, 0, none⟩ = some (.string (mkT n)) := HS7.out.cell 0
        have c1 : w7.cell? ⟨w.heap.size, 1, none⟩ = some (.int .i64 p) := HS7.out.cell 1
        have c2 : w7.cell? ⟨w.heap.size, 2, none⟩ = some (.bool true) := HS7.out.cell 2
        have c3 : w7.cell? ⟨w.heap.size, 3, none⟩ = some (.string ⟨#[]⟩) := HS7.out.cell 3
        have c4 : w7.cell? ⟨w.heap.size, 4, none⟩ = some (.string ⟨#[]⟩) := HS7.out.cell 4
        have f0 := HS7.out.free 0
        have f1 := HS7.out.free 1
        have f2 := HS7.out.free 2
        have f3 := HS7.out.free 3
        have f4 := HS7.out.free 4
        cases ot with
        | none =>
          obtain rfl : none = o := HO3.out
          obtain ⟨a, v, rfl⟩ := hto.1 rfl
          clear HO3
          go_wp2
          refine bodyPost_ret (results_cell2 rfl _ _ w.heap.size _ _ _ rfl (((HS7.out.put5_3 _).put5_4 _).all5 _ _ _ _ _).blk Tryz.underlying154 rfl pie_info) rfl ?_
          exact ⟨CutOut.bad, (((((((HB7.out.setCell (Nat.le_refl _) _).setCell (Nat.le_refl _) _).setCell (Nat.le_refl _) _).setCell (Nat.le_refl _) _).setCell (Nat.le_refl _) _).setCell (Nat.le_refl _) _).setCell (Nat.le_refl _) _)⟩
        | some av =>
          obtain ⟨a, v⟩ := av
          obtain rfl : some (n, p, some (a, v)) = o := HO3.out
          obtain rfl := hto.2 a v rfl
          clear HO3
          go_wp2
          refine bodyPost_ret (results_cell2 rfl _ _ w.heap.size _ _ _ rfl (((HS7.out.put5_3 _).put5_4 _).all5 _ _ _ _ _).blk Tryz.underlying154 rfl pie_info) rfl ?_
          exact ⟨CutOut.good, (((((((HB7.out.setCell (Nat.le_refl _) _).setCell (Nat.le_refl _) _).setCell (Nat.le_refl _) _).setCell (Nat.le_refl _) _).setCell (Nat.le_refl _) _).setCell (Nat.le_refl _) _).setCell (Nat.le_refl _) _)⟩
end Go.Proofs.YtbdamneophbnnaaGreatDoor
namespace Go.Proofs.YtbdamneophbnnaaGreatDoor
open Go.RowKit Wb
theorem unV_unB (v : List UInt8) : (unB (mkT v) true).1 = mkT (unV v).1 ∧ (unB (mkT v) true).2.2 = (unV v).2 := by
  have hz := mkT_size v
  have hl := mkT_list v
  unfold unV
  cases h : unL true (v.length + 1) v 0 with
  | ok x =>
    have h' : unL true ((mkT v).size + 1) (mkT v).data.toList 0 = .ok x := by rw [hz, hl]; exact h
    rw [unB_ok h']
    exact ⟨rfl, rfl⟩
  | error p =>
    have h' : unL true ((mkT v).size + 1) (mkT v).data.toList 0 = .error p := by rw [hz, hl]; exact h
    rw [unB_bad h']
    exact ⟨rfl, rfl⟩
theorem step9_size : (Tryz.prog.info? 46).map (·.size) = some 9 := by kernel_rfl
def stV (x : StV) : Value := .agg #[.int .i64 x.kind, .bool x.any, .string x.name.1, .string x.name.2, .int .i64 x.pos, .bool x.by_, .string x.attr.1, .string x.attr.2, .string x.val]
def OneOut (o : Except Int StV) (e : Ending) : Prop :=
  (∀ k, o = .error k → e = .returned (.tuple #[stV ⟨0, false, nE, 0, false, nE, sE⟩, .int .i64 k])) ∧ ∀ x, o = .ok x → e = .returned (.tuple #[stV x, .int .i64 0])
theorem OneOut.bad {k : Int} : OneOut (.error k) (.returned (.tuple #[.agg #[.int .i64 0, .bool false, .string ⟨#[]⟩, .string ⟨#[]⟩, .int .i64 0, .bool false, .string ⟨#[]⟩, .string ⟨#[]⟩, .string ⟨#[]⟩], .int .i64 k])) :=
  ⟨fun k' h => by injection h with h; rw [h]; rfl, fun x h => by cases h⟩
theorem OneOut.good {x : StV} : OneOut (.ok x) (.returned (.tuple #[stV x, .int .i64 0])) :=
  ⟨fun k' h => (by cases h), fun x h => by injection h with h; rw [h]⟩
set_option maxHeartbeats 4000000 in
set_option maxRecDepth 100000 in
theorem sres_any (A : Option Addr) (l : List Pr) (c : Nat) (q : ByteArray) (attr : Bool) (s lo : ByteArray) (er : Int) (hr : resB l q attr = ((s, lo), er)) (w : World) (hl : l.length ≤ 1000000000) (hq : q.size ≤ 1000000000) (hsz : s.size ≤ 1000000000) (hA : Sl2 w A l) :
    Calls Tryz.prog 122 #[.slice A l.length c, .string q, .bool attr] w fun e w' => e = .returned (.tuple #[.agg #[.string s, .string lo], .int .i64 er]) ∧ Below w.heap.size w w' := by
  have hk0 := OwnB.new0 w #[.string ⟨#[]⟩, .string ⟨#[]⟩] 44
  have hb0 := (Below.refl w.heap.size w).alloc (Nat.le_refl _) (.cells #[.string ⟨#[]⟩, .string ⟨#[]⟩] 44)
  have hA0 := hA.below hb0
  go_enter Tryz.func122, Tryz.ntmps122
  go_upto_region 1 with fail
  generalize w.alloc (.cells #[.string ⟨#[]⟩, .string ⟨#[]⟩] 44) = w0 at *
  have hres := resolve_any A l c q attr w0 hl hq hA0
  rw [hr] at hres
  simp only at hres
  go_wp2_with fail
  refine hres.mono ?_
  rintro e w1 ⟨rfl, hb1⟩
  have hk1 := hk0.next hb1
  replace hb1 := hb0.trans (hb1.mono hb0.size)
  have hne : w.heap.size ≠ w1.heap.size := by have := hk1.lt; omega
  clear hres hk0 hb0 hA0 hA
  go_upto_region 2 with fail
  have hn2 := OwnB.new #[.string s, .string lo] 44 hb1
  have hk2 := hk1.alloc (.cells #[.string s, .string lo] 44)
  have hb2 := hb1.alloc hb1.size (.cells #[.string s, .string lo] 44)
  generalize w1.alloc (.cells #[.string s, .string lo] 44) = w2 at *
  generalize w1.heap.size = g at *
  clear hk1 hb1
  have c0 : w2.cell? ⟨g, 0, none⟩ = some (.string s) := hn2.cell 0
  go_wp2_with fail
  refine (sclone_any s _ hsz).mono ?_
  rintro e w3 ⟨rfl, hb3⟩
  have hn3 := hn2.next hb3
  have hk3 := hk2.next hb3
  replace hb3 := hb2.trans (hb3.mono hb2.size)
  clear hn2 hk2 hb2 c0
  have c0 : w3.cell? ⟨g, 0, none⟩ = some (.string s) := hn3.cell 0
  have f0 := hn3.free 0
  go_upto_region 3 with fail
  have hn4 := hn3.put2_0 (.string s)
  have hk4 := hk3.other hne 0 (.string s)
  have hb4 := hn3.below hb3 0 (.string s)
  generalize w3.setCell ⟨g, 0, none⟩ (.string s) = w4 at *
  clear c0 f0 hn3 hk3 hb3
  have c0 : w4.cell? ⟨g, 0, none⟩ = some (.string s) := hn4.cell 0
  have c1 : w4.cell? ⟨g, 1, none⟩ = some (.string lo) := hn4.cell 1
  have d0 : w4.cell? ⟨w.heap.size, 0, none⟩ = some (.string ⟨#[]⟩) := hk4.cell 0
  have d1 : w4.cell? ⟨w.heap.size, 1, none⟩ = some (.string ⟨#[]⟩) := hk4.cell 1
  have e0 := hk4.free 0
  have e1 := hk4.free 1
  go_wp2
  refine bodyPost_ret (results_cell2 rfl _ _ w.heap.size _ _ _ rfl (hk4.all2 _ _).blk Tryz.underlying44 rfl name_info) rfl ?_
  exact ⟨rfl, (hb4.setCell (Nat.le_refl _) _).setCell (Nat.le_refl _) _⟩
def ScSm (l : List Pr) : Prop := l.length ≤ 1000000 ∧ ∀ x ∈ l, x.2.size ≤ 1000000
theorem ScSm.res {l : List Pr} (h : ScSm l) {q : ByteArray} {attr : Bool} {s lo : ByteArray} {er : Int} (hr : resB l q attr = ((s, lo), er)) : s.size ≤ 1000000 := by
  have := resB_sp (M := 1000000) (sc := l) q attr (by decide) h.2
  rw [hr] at this
  exact this
set_option maxHeartbeats 8000000 in
set_option maxRecDepth 100000 in
theorem attrStep_any (A : Option Addr) (l : List Pr) (c : Nat) (q : ByteArray) (w : World) (hl : ScSm l) (hq : q.size ≤ 1000000) (hA : Sl2 w A l) :
    Calls Tryz.prog 97 #[.slice A l.length c, .string q] w fun e w' => OneOut (if (resB l q true).2 = 0 then .ok ⟨2, false, (resB l q true).1, 0, false, nE, sE⟩ else .error (resB l q true).2) e ∧ Below w.heap.size w w' := by
  obtain ⟨s, lo, er, hr⟩ : ∃ s lo er, resB l q true = ((s, lo), er) := ⟨_, _, _, rfl⟩
  have hss := hl.res hr
  have HR := Lib.hid (fun v (hv : Sl2 v A l) => sres_any A l c q true s lo er hr v (by have := hl.1; omega) (by omega) (by omega) hv)
  rw [hr]
  simp only
  obtain ⟨o, ho⟩ : ∃ o : Except Int StV, (if er = 0 then .ok ⟨2, false, (s, lo), 0, false, nE, sE⟩ else .error er) = o := ⟨_, rfl⟩
  rw [ho]
  have hk0 := OwnB.new0 w #[.int .i64 0, .bool false, .string ⟨#[]⟩, .string ⟨#[]⟩, .int .i64 0, .bool false, .string ⟨#[]⟩, .string ⟨#[]⟩, .string ⟨#[]⟩] 46
  have hb0 := (Below.refl w.heap.size w).alloc (Nat.le_refl _) (.cells #[.int .i64 0, .bool false, .string ⟨#[]⟩, .string ⟨#[]⟩, .int .i64 0, .bool false, .string ⟨#[]⟩, .string ⟨#[]⟩, .string ⟨#[]⟩] 46)
  have hA0 := hA.below hb0
  clear hr hss
  go_enter Tryz.func97, Tryz.ntmps97
  go_upto_region 1 with fail
  generalize w.alloc (.cells #[.int .i64 0, .bool false, .string ⟨#[]⟩, .string ⟨#[]⟩, .int .i64 0, .bool false, .string ⟨#[]⟩, .string ⟨#[]⟩, .string ⟨#[]⟩] 46) = w0 at *
  go_wp2_with fail
  refine (HR.out _ hA0).mono ?_
  rintro e w1 ⟨rfl, hb1⟩
  have hk1 := hk0.next hb1
  replace hb1 := hb0.trans (hb1.mono hb0.size)
  have hne : w.heap.size ≠ w1.heap.size := by have := hk1.lt; omega
  clear HR hk0 hb0 hA0 hA
  go_upto_region 2 with fail
  have hn2 := OwnB.new #[.string s, .string lo] 44 hb1
  have hk2 := hk1.alloc (.cells #[.string s, .string lo] 44)
  have hb2 := hb1.alloc hb1.size (.cells #[.string s, .string lo] 44)
  generalize w1.alloc (.cells #[.string s, .string lo] 44) = w2 at *
  generalize w1.heap.size = g at *
  clear hk1 hb1
  have c0 : w2.cell? ⟨g, 0, none⟩ = some (.string s) := hn2.cell 0
  have c1 : w2.cell? ⟨g, 1, none⟩ = some (.string lo) := hn2.cell 1
  have d0 : w2.cell? ⟨w.heap.size, 0, none⟩ = some (.int .i64 0) := hk2.cell 0
  have d1 : w2.cell? ⟨w.heap.size, 1, none⟩ = some (.bool false) := hk2.cell 1
  have d2 : w2.cell? ⟨w.heap.size, 2, none⟩ = some (.string ⟨#[]⟩) := hk2.cell 2
  have d3 : w2.cell? ⟨w.heap.size, 3, none⟩ = some (.string ⟨#[]⟩) := hk2.cell 3
  have d4 : w2.cell? ⟨w.heap.size, 4, none⟩ = some (.int .i64 0) := hk2.cell 4
  have d5 : w2.cell? ⟨w.heap.size, 5, none⟩ = some (.bool false) := hk2.cell 5
  have d6 : w2.cell? ⟨w.heap.size, 6, none⟩ = some (.string ⟨#[]⟩) := hk2.cell 6
  have d7 : w2.cell? ⟨w.heap.size, 7, none⟩ = some (.string ⟨#[]⟩) := hk2.cell 7
  have d8 : w2.cell? ⟨w.heap.size, 8, none⟩ = some (.string ⟨#[]⟩) := hk2.cell 8
  have df0 := hk2.free 0
  have df1 := hk2.free 1
  have df2 := hk2.free 2
  have df3 := hk2.free 3
  have df4 := hk2.free 4
  have df5 := hk2.free 5
  have df6 := hk2.free 6
  have df7 := hk2.free 7
  have df8 := hk2.free 8
  by_cases he : er = 0
  · subst he
    rw [if_pos rfl] at ho
    subst ho
    go_wp2
    refine bodyPost_ret (results_cell2 rfl _ _ w.heap.size _ _ _ rfl (hk2.all9 _ _ _ _ _ _ _ _ _).blk Tryz.underlying46 rfl step9_size) rfl ?_
    exact ⟨OneOut.good, (((((((((hb2.setCell (Nat.le_refl _) _).setCell (Nat.le_refl _) _).setCell (Nat.le_refl _) _).setCell (Nat.le_refl _) _).setCell (Nat.le_refl _) _).setCell (Nat.le_refl _) _).setCell (Nat.le_refl _) _).setCell (Nat.le_refl _) _).setCell (Nat.le_refl _) _)⟩
  · have hen : (er == 0) = false := by simpa using he
    rw [if_neg he] at ho
    subst ho
    go_wp2
    refine bodyPost_ret (results_cell2 rfl _ _ w.heap.size _ _ _ rfl (hk2.all9 _ _ _ _ _ _ _ _ _).blk Tryz.underlying46 rfl step9_size) rfl ?_
    exact ⟨OneOut.bad, (((((((((hb2.setCell (Nat.le_refl _) _).setCell (Nat.le_refl _) _).setCell (Nat.le_refl _) _).setCell (Nat.le_refl _) _).setCell (Nat.le_refl _) _).setCell (Nat.le_refl _) _).setCell (Nat.le_refl _) _).setCell (Nat.le_refl _) _).setCell (Nat.le_refl _) _)⟩
set_option maxHeartbeats 16000000 in
set_option maxRecDepth 100000 in
theorem nameStep_any (A : Option Addr) (l : List Pr) (c : Nat) (d : ByteArray) (w : World) (hl : ScSm l) (hd : d.size ≤ 1000000) (hA : Sl2 w A l) (hG : GvS w) :
    Calls Tryz.prog 98 #[.slice A l.length c, .string d] w fun e w' => OneOut (stepP l d.data.toList) e ∧ Below w.heap.size w w' := by
  have hcut := fun v hv => scut_any d v hd hv
  obtain ⟨oc, hoc⟩ : ∃ oc, cutK d.data.toList = oc := ⟨_, rfl⟩
  rw [hoc] at hcut
  obtain ⟨o, ho⟩ : ∃ o, stepP l d.data.toList = o := ⟨_, rfl⟩
  rw [ho]
  have hdl : d.data.toList.length = d.size := by simp
  have HG := Lib.hid (fun v (hb : Below w.heap.size w v) => hG.next hb)
  have HA := Lib.hid (fun v (hb : Below w.heap.size w v) => hA.below hb)
  have hk0 := OwnB.new0 w #[.int .i64 0, .bool false, .string ⟨#[]⟩, .string ⟨#[]⟩, .int .i64 0, .bool false, .string ⟨#[]⟩, .string ⟨#[]⟩, .string ⟨#[]⟩] 46
  have hb0 := (Below.refl w.heap.size w).alloc (Nat.le_refl _) (.cells #[.int .i64 0, .bool false, .string ⟨#[]⟩, .string ⟨#[]⟩, .int .i64 0, .bool false, .string ⟨#[]⟩, .string ⟨#[]⟩, .string ⟨#[]⟩] 46)
  clear hG hA
  cases oc with
  | none =>
    obtain rfl : .error 33 = o := by rw [← ho, step_none hoc]
    clear ho hoc
    go_enter Tryz.func98, Tryz.ntmps98
    go_upto_region 1 with fail
    generalize w.alloc (.cells #[.int .i64 0, .bool false, .string ⟨#[]⟩, .string ⟨#[]⟩, .int .i64 0, .bool false, .string ⟨#[]⟩, .string ⟨#[]⟩, .string ⟨#[]⟩] 46) = w0 at *
    go_wp2_with fail
    refine (hcut _ (HG.out _ hb0)).mono ?_
    rintro e w1 ⟨hco, hb1⟩
    obtain ⟨un, ua, uv, up, ub, rfl⟩ := hco.1 rfl
    have hk1 := hk0.next hb1
    replace hb1 := hb0.trans (hb1.mono hb0.size)
    clear hcut hk0 hb0 hco
    go_upto_region 2 with fail
    have hk2 := hk1.alloc (.cells #[.string un, .int .i64 up, .bool ub, .string ua, .string uv] 154)
    have hb2 := hb1.alloc hb1.size (.cells #[.string un, .int .i64 up, .bool ub, .string ua, .string uv] 154)
    generalize w1.alloc (.cells #[.string un, .int .i64 up, .bool ub, .string ua, .string uv] 154) = w2 at *
    clear hk1 hb1
    have d0 : w2.cell? ⟨w.heap.size, 0, none⟩ = some (.int .i64 0) := hk2.cell 0
    have d1 : w2.cell? ⟨w.heap.size, 1, none⟩ = some (.bool false) := hk2.cell 1
    have d2 : w2.cell? ⟨w.heap.size, 2, none⟩ = some (.string ⟨#[]⟩) := hk2.cell 2
    have d3 : w2.cell? ⟨w.heap.size, 3, none⟩ = some (.string ⟨#[]⟩) := hk2.cell 3
    have d4 : w2.cell? ⟨w.heap.size, 4, none⟩ = some (.int .i64 0) := hk2.cell 4
    have d5 : w2.cell? ⟨w.heap.size, 5, none⟩ = some (.bool false) := hk2.cell 5
    have d6 : w2.cell? ⟨w.heap.size, 6, none⟩ = some (.string ⟨#[]⟩) := hk2.cell 6
    have d7 : w2.cell? ⟨w.heap.size, 7, none⟩ = some (.string ⟨#[]⟩) := hk2.cell 7
    have d8 : w2.cell? ⟨w.heap.size, 8, none⟩ = some (.string ⟨#[]⟩) := hk2.cell 8
    have df0 := hk2.free 0
    have df1 := hk2.free 1
    have df2 := hk2.free 2
    have df3 := hk2.free 3
    have df4 := hk2.free 4
    have df5 := hk2.free 5
    have df6 := hk2.free 6
    have df7 := hk2.free 7
    have df8 := hk2.free 8
    go_wp2
    refine bodyPost_ret (results_cell2 rfl _ _ w.heap.size _ _ _ rfl (hk2.all9 _ _ _ _ _ _ _ _ _).blk Tryz.underlying46 rfl step9_size) rfl ?_
    exact ⟨OneOut.bad, (((((((((hb2.setCell (Nat.le_refl _) _).setCell (Nat.le_refl _) _).setCell (Nat.le_refl _) _).setCell (Nat.le_refl _) _).setCell (Nat.le_refl _) _).setCell (Nat.le_refl _) _).setCell (Nat.le_refl _) _).setCell (Nat.le_refl _) _).setCell (Nat.le_refl _) _)⟩
  | some x =>
    obtain ⟨n, p, av⟩ := x
    obtain ⟨s1, l1, e1, hr1⟩ : ∃ s lo er, resB l (mkT n) false = ((s, lo), er) := ⟨_, _, _, rfl⟩
    have hss1 := hl.res hr1
    have HN := Lib.hid (fun (h : n.length ≤ d.size) v (hb : Below w.heap.size w v) => sres_any A l c (mkT n) false s1 l1 e1 hr1 v (by have := hl.1; omega) (by rw [mkT_size]; omega) (by omega) (HA.out v hb))
    cases av with
    | none =>
      obtain ⟨hp9, hnl, hst⟩ := step_some (sc := l) hoc
      rw [ho, show resB l ⟨n.toArray⟩ false = ((s1, l1), e1) from hr1] at hst
      simp only at hst
      rw [hdl] at hnl
      have HST := Lib.hid hst
      have HN2 := Lib.hid (HN.out hnl)
      clear ho hoc hr1 hss1 hst HN hl
      go_enter Tryz.func98, Tryz.ntmps98
      go_upto_region 1 with fail
      generalize w.alloc (.cells #[.int .i64 0, .bool false, .string ⟨#[]⟩, .string ⟨#[]⟩, .int .i64 0, .bool false, .string ⟨#[]⟩, .string ⟨#[]⟩, .string ⟨#[]⟩] 46) = w0 at *
      go_wp2_with fail
      refine (hcut _ (HG.out _ hb0)).mono ?_
      rintro e w1 ⟨hco, hb1⟩
      obtain rfl := hco.2 _ _ _ rfl
      unfold pieV
      have hk1 := hk0.next hb1
      replace hb1 := hb0.trans (hb1.mono hb0.size)
      have hne1 : w.heap.size ≠ w1.heap.size := by have := hk1.lt; omega
      clear hcut hk0 hb0 hco
      go_upto_region 2 with fail
      have hp2 := OwnB.new #[.string (mkT n), .int .i64 p, .bool false, .string ⟨#[]⟩, .string ⟨#[]⟩] 154 hb1
      have hk2 := hk1.alloc (.cells #[.string (mkT n), .int .i64 p, .bool false, .string ⟨#[]⟩, .string ⟨#[]⟩] 154)
      have hb2 := hb1.alloc hb1.size (.cells #[.string (mkT n), .int .i64 p, .bool false, .string ⟨#[]⟩, .string ⟨#[]⟩] 154)
      generalize w1.alloc (.cells #[.string (mkT n), .int .i64 p, .bool false, .string ⟨#[]⟩, .string ⟨#[]⟩] 154) = w2 at *
      generalize w1.heap.size = gp at *
      clear hk1 hb1
      have q0 : w2.cell? ⟨gp, 0, none⟩ = some (.string (mkT n)) := hp2.cell 0
      have q1 : w2.cell? ⟨gp, 1, none⟩ = some (.int .i64 p) := hp2.cell 1
      have q2 : w2.cell? ⟨gp, 2, none⟩ = some (.bool false) := hp2.cell 2
      obtain ⟨any, hany⟩ : ∃ b, decide (n = [42]) = b := ⟨_, rfl⟩
      have hnb : ((mkT n).toList == [42]) = any := by rw [mkT_eq]; exact hany
      have hnex : gp ≠ w2.heap.size := by have := hp2.lt; omega
      have hnex0 : w.heap.size ≠ w2.heap.size := by have := hk2.lt; omega
      go_upto_region 5 with fail
      (try rw [hnb])
      have XC := Lib.hid (show True from trivial)
      have hx3 := OwnB.new #[.int .i64 1, .bool any, .string ⟨#[]⟩, .string ⟨#[]⟩, .int .i64 p, .bool false, .string ⟨#[]⟩, .string ⟨#[]⟩, .string ⟨#[]⟩] 46 hb2
      have hk3 := hk2.alloc (.cells #[.int .i64 1, .bool any, .string ⟨#[]⟩, .string ⟨#[]⟩, .int .i64 p, .bool false, .string ⟨#[]⟩, .string ⟨#[]⟩, .string ⟨#[]⟩] 46)
      have hp3 := hp2.alloc (.cells #[.int .i64 1, .bool any, .string ⟨#[]⟩, .string ⟨#[]⟩, .int .i64 p, .bool false, .string ⟨#[]⟩, .string ⟨#[]⟩, .string ⟨#[]⟩] 46)
      have hb3 := hb2.alloc hb2.size (.cells #[.int .i64 1, .bool any, .string ⟨#[]⟩, .string ⟨#[]⟩, .int .i64 p, .bool false, .string ⟨#[]⟩, .string ⟨#[]⟩, .string ⟨#[]⟩] 46)
      generalize w2.alloc (.cells #[.int .i64 1, .bool any, .string ⟨#[]⟩, .string ⟨#[]⟩, .int .i64 p, .bool false, .string ⟨#[]⟩, .string ⟨#[]⟩, .string ⟨#[]⟩] 46) = w3 at *
      generalize w2.heap.size = gx at *
      clear hk2 hb2 hp2 q0 q1 q2 XC
      cases any with
      | true =>
        have hn : n = [42] := by simpa using hany
        obtain rfl : Except.ok ⟨1, true, nE, p, false, nE, sE⟩ = o := by have := HST.out; simpa [hn] using this.symm
        have x0 := hx3.cell 0
        have x1 := hx3.cell 1
        have x2 := hx3.cell 2
        have x3 := hx3.cell 3
        have x4 := hx3.cell 4
        have x5 := hx3.cell 5
        have x6 := hx3.cell 6
        have x7 := hx3.cell 7
        have x8 := hx3.cell 8
        simp only [List.getElem?_toArray, List.getElem?_cons_zero, List.getElem?_cons_succ] at x0 x1 x2 x3 x4 x5 x6 x7 x8
        have d0 : w3.cell? ⟨w.heap.size, 0, none⟩ = some (.int .i64 0) := hk3.cell 0
        have d1 : w3.cell? ⟨w.heap.size, 1, none⟩ = some (.bool false) := hk3.cell 1
        have d2 : w3.cell? ⟨w.heap.size, 2, none⟩ = some (.string ⟨#[]⟩) := hk3.cell 2
        have d3 : w3.cell? ⟨w.heap.size, 3, none⟩ = some (.string ⟨#[]⟩) := hk3.cell 3
        have d4 : w3.cell? ⟨w.heap.size, 4, none⟩ = some (.int .i64 0) := hk3.cell 4
        have d5 : w3.cell? ⟨w.heap.size, 5, none⟩ = some (.bool false) := hk3.cell 5
        have d6 : w3.cell? ⟨w.heap.size, 6, none⟩ = some (.string ⟨#[]⟩) := hk3.cell 6
        have d7 : w3.cell? ⟨w.heap.size, 7, none⟩ = some (.string ⟨#[]⟩) := hk3.cell 7
        have d8 : w3.cell? ⟨w.heap.size, 8, none⟩ = some (.string ⟨#[]⟩) := hk3.cell 8
        have df0 := hk3.free 0
        have df1 := hk3.free 1
        have df2 := hk3.free 2
        have df3 := hk3.free 3
        have df4 := hk3.free 4
        have df5 := hk3.free 5
        have df6 := hk3.free 6
        have df7 := hk3.free 7
        have df8 := hk3.free 8
        clear hx3 HST HG HA hp3
        go_wp2
        refine bodyPost_ret (results_cell2 rfl _ _ w.heap.size _ _ _ rfl (hk3.all9 _ _ _ _ _ _ _ _ _).blk Tryz.underlying46 rfl step9_size) rfl ?_
        exact ⟨OneOut.good, (((((((((hb3.setCell (Nat.le_refl _) _).setCell (Nat.le_refl _) _).setCell (Nat.le_refl _) _).setCell (Nat.le_refl _) _).setCell (Nat.le_refl _) _).setCell (Nat.le_refl _) _).setCell (Nat.le_refl _) _).setCell (Nat.le_refl _) _).setCell (Nat.le_refl _) _)⟩
      | false =>
        have hn : ¬ n = [42] := by simpa using hany
        have x1 := hx3.cell 1
        simp only [List.getElem?_toArray, List.getElem?_cons_zero, List.getElem?_cons_succ] at x1
        have qq : w3.cell? ⟨gp, 0, none⟩ = some (.string (mkT n)) := hp3.cell 0
        go_wp2_with fail
        refine (HN2.out _ hb3).mono ?_
        rintro e w4 ⟨rfl, hb4⟩
        have hx4 := hx3.next hb4
        have hk4 := hk3.next hb4
        have hp4 := hp3.next hb4
        replace hb4 := hb3.trans (hb4.mono hb3.size)
        clear hx3 hk3 hp3 hb3 qq x1
        have x2 := hx4.cell 2
        have xf2 := hx4.free 2
        have x3 := hx4.cell 3
        have xf3 := hx4.free 3
        simp only [List.getElem?_toArray, List.getElem?_cons_zero, List.getElem?_cons_succ] at x2 x3
        go_upto_region 8 with fail
        have hx5 := ((hx4.put9_2 (.string s1)).put9_3 (.string l1))
        have hk5 := ((hk4.other hnex0 2 (.string s1)).other hnex0 3 (.string l1))
        have hp5 := ((hp4.other hnex 2 (.string s1)).other hnex 3 (.string l1))
        have hb5 := ((hx4.put9_2 (.string s1)).below (hx4.below hb4 2 (.string s1)) 3 (.string l1))
        generalize ((w4.setCell ⟨gx, 2, none⟩ (.string s1)).setCell ⟨gx, 3, none⟩ (.string l1)) = w5 at *
        clear hx4 hk4 hp4 hb4 x2 xf2 x3 xf3
        by_cases he1 : e1 = 0
        · subst he1
          obtain rfl : Except.ok ⟨1, false, (s1, l1), p, false, nE, sE⟩ = o := by have := HST.out; simpa [hn] using this.symm
          have x0 := hx5.cell 0
          have x1 := hx5.cell 1
          have x2 := hx5.cell 2
          have x3 := hx5.cell 3
          have x4 := hx5.cell 4
          have x5 := hx5.cell 5
          have x6 := hx5.cell 6
          have x7 := hx5.cell 7
          have x8 := hx5.cell 8
          simp only [List.getElem?_toArray, List.getElem?_cons_zero, List.getElem?_cons_succ] at x0 x1 x2 x3 x4 x5 x6 x7 x8
          have d0 : w5.cell? ⟨w.heap.size, 0, none⟩ = some (.int .i64 0) := hk5.cell 0
          have d1 : w5.cell? ⟨w.heap.size, 1, none⟩ = some (.bool false) := hk5.cell 1
          have d2 : w5.cell? ⟨w.heap.size, 2, none⟩ = some (.string ⟨#[]⟩) := hk5.cell 2
          have d3 : w5.cell? ⟨w.heap.size, 3, none⟩ = some (.string ⟨#[]⟩) := hk5.cell 3
          have d4 : w5.cell? ⟨w.heap.size, 4, none⟩ = some (.int .i64 0) := hk5.cell 4
          have d5 : w5.cell? ⟨w.heap.size, 5, none⟩ = some (.bool false) := hk5.cell 5
          have d6 : w5.cell? ⟨w.heap.size, 6, none⟩ = some (.string ⟨#[]⟩) := hk5.cell 6
          have d7 : w5.cell? ⟨w.heap.size, 7, none⟩ = some (.string ⟨#[]⟩) := hk5.cell 7
          have d8 : w5.cell? ⟨w.heap.size, 8, none⟩ = some (.string ⟨#[]⟩) := hk5.cell 8
          have df0 := hk5.free 0
          have df1 := hk5.free 1
          have df2 := hk5.free 2
          have df3 := hk5.free 3
          have df4 := hk5.free 4
          have df5 := hk5.free 5
          have df6 := hk5.free 6
          have df7 := hk5.free 7
          have df8 := hk5.free 8
          clear hx5 HST HG HA hp5
          go_wp2
          refine bodyPost_ret (results_cell2 rfl _ _ w.heap.size _ _ _ rfl (hk5.all9 _ _ _ _ _ _ _ _ _).blk Tryz.underlying46 rfl step9_size) rfl ?_
          exact ⟨OneOut.good, (((((((((hb5.setCell (Nat.le_refl _) _).setCell (Nat.le_refl _) _).setCell (Nat.le_refl _) _).setCell (Nat.le_refl _) _).setCell (Nat.le_refl _) _).setCell (Nat.le_refl _) _).setCell (Nat.le_refl _) _).setCell (Nat.le_refl _) _).setCell (Nat.le_refl _) _)⟩
        · have he1b : (e1 == 0) = false := by simpa using he1
          obtain rfl : Except.error e1 = o := by have := HST.out; simpa [hn, he1] using this.symm
          have x5 := hx5.cell 5
          simp only [List.getElem?_toArray, List.getElem?_cons_zero, List.getElem?_cons_succ] at x5
          have d0 : w5.cell? ⟨w.heap.size, 0, none⟩ = some (.int .i64 0) := hk5.cell 0
          have d1 : w5.cell? ⟨w.heap.size, 1, none⟩ = some (.bool false) := hk5.cell 1
          have d2 : w5.cell? ⟨w.heap.size, 2, none⟩ = some (.string ⟨#[]⟩) := hk5.cell 2
          have d3 : w5.cell? ⟨w.heap.size, 3, none⟩ = some (.string ⟨#[]⟩) := hk5.cell 3
          have d4 : w5.cell? ⟨w.heap.size, 4, none⟩ = some (.int .i64 0) := hk5.cell 4
          have d5 : w5.cell? ⟨w.heap.size, 5, none⟩ = some (.bool false) := hk5.cell 5
          have d6 : w5.cell? ⟨w.heap.size, 6, none⟩ = some (.string ⟨#[]⟩) := hk5.cell 6
          have d7 : w5.cell? ⟨w.heap.size, 7, none⟩ = some (.string ⟨#[]⟩) := hk5.cell 7
          have d8 : w5.cell? ⟨w.heap.size, 8, none⟩ = some (.string ⟨#[]⟩) := hk5.cell 8
          have df0 := hk5.free 0
          have df1 := hk5.free 1
          have df2 := hk5.free 2
          have df3 := hk5.free 3
          have df4 := hk5.free 4
          have df5 := hk5.free 5
          have df6 := hk5.free 6
          have df7 := hk5.free 7
          have df8 := hk5.free 8
          clear hx5 HST HG HA hp5
          go_wp2
          refine bodyPost_ret (results_cell2 rfl _ _ w.heap.size _ _ _ rfl (hk5.all9 _ _ _ _ _ _ _ _ _).blk Tryz.underlying46 rfl step9_size) rfl ?_
          exact ⟨OneOut.bad, (((((((((hb5.setCell (Nat.le_refl _) _).setCell (Nat.le_refl _) _).setCell (Nat.le_refl _) _).setCell (Nat.le_refl _) _).setCell (Nat.le_refl _) _).setCell (Nat.le_refl _) _).setCell (Nat.le_refl _) _).setCell (Nat.le_refl _) _).setCell (Nat.le_refl _) _)⟩
    | some av =>
      obtain ⟨a, v⟩ := av
      obtain ⟨hp9, hnl, hal, hvl, hst⟩ := step_test (sc := l) hoc
      obtain ⟨s2, l2, e2, hr2⟩ : ∃ s lo er, resB l (mkT a) true = ((s, lo), er) := ⟨_, _, _, rfl⟩
      have hss2 := hl.res hr2
      rw [ho, show resB l ⟨n.toArray⟩ false = ((s1, l1), e1) from hr1, show resB l ⟨a.toArray⟩ true = ((s2, l2), e2) from hr2] at hst
      simp only at hst
      rw [hdl] at hnl hal hvl
      have HST := Lib.hid hst
      have HN2 := Lib.hid (HN.out hnl)
      have HAT := Lib.hid (fun u (hb : Below w.heap.size w u) => sres_any A l c (mkT a) true s2 l2 e2 hr2 u (by have := hl.1; omega) (by rw [mkT_size]; omega) (by omega) (HA.out u hb))
      obtain ⟨up, hup⟩ : ∃ up, (unB (mkT v) true).2.1 = up := ⟨_, rfl⟩
      have HU := Lib.hid (fun u (hb : Below w.heap.size w u) => (show Calls Tryz.prog 124 #[.string (mkT v), .bool true] u fun e w' => e = .returned (.tuple #[.string (mkT (unV v).1), .int .i64 up, .int .i64 (unV v).2]) ∧ Below u.heap.size u w' from by
        have := Y.Unescape_any (mkT v) true u (HG.out u hb).1 (by rw [mkT_size]; omega)
        rw [(unV_unB v).1, (unV_unB v).2, hup] at this
        exact this))
      clear ho hoc hr1 hr2 hss1 hss2 hst HN hl hup
      go_enter Tryz.func98, Tryz.ntmps98
      go_upto_region 1 with fail
      generalize w.alloc (.cells #[.int .i64 0, .bool false, .string ⟨#[]⟩, .string ⟨#[]⟩, .int .i64 0, .bool false, .string ⟨#[]⟩, .string ⟨#[]⟩, .string ⟨#[]⟩] 46) = w0 at *
      go_wp2_with fail
      refine (hcut _ (HG.out _ hb0)).mono ?_
      rintro e w1 ⟨hco, hb1⟩
      obtain rfl := hco.2 _ _ _ rfl
      unfold pieV
      have hk1 := hk0.next hb1
      replace hb1 := hb0.trans (hb1.mono hb0.size)
      have hne1 : w.heap.size ≠ w1.heap.size := by have := hk1.lt; omega
      clear hcut hk0 hb0 hco
      go_upto_region 2 with fail
      have hp2 := OwnB.new #[.string (mkT n), .int .i64 p, .bool true, .string (mkT a), .string (mkT v)] 154 hb1
      have hk2 := hk1.alloc (.cells #[.string (mkT n), .int .i64 p, .bool true, .string (mkT a), .string (mkT v)] 154)
      have hb2 := hb1.alloc hb1.size (.cells #[.string (mkT n), .int .i64 p, .bool true, .string (mkT a), .string (mkT v)] 154)
      generalize w1.alloc (.cells #[.string (mkT n), .int .i64 p, .bool true, .string (mkT a), .string (mkT v)] 154) = w2 at *
      generalize w1.heap.size = gp at *
      clear hk1 hb1
      have q0 : w2.cell? ⟨gp, 0, none⟩ = some (.string (mkT n)) := hp2.cell 0
      have q1 : w2.cell? ⟨gp, 1, none⟩ = some (.int .i64 p) := hp2.cell 1
      have q2 : w2.cell? ⟨gp, 2, none⟩ = some (.bool true) := hp2.cell 2
      obtain ⟨any, hany⟩ : ∃ b, decide (n = [42]) = b := ⟨_, rfl⟩
      have hnb : ((mkT n).toList == [42]) = any := by rw [mkT_eq]; exact hany
      have hnex : gp ≠ w2.heap.size := by have := hp2.lt; omega
      have hnex0 : w.heap.size ≠ w2.heap.size := by have := hk2.lt; omega
      go_upto_region 5 with fail
      (try rw [hnb])
      have XC := Lib.hid (show True from trivial)
      have hx3 := OwnB.new #[.int .i64 1, .bool any, .string ⟨#[]⟩, .string ⟨#[]⟩, .int .i64 p, .bool true, .string ⟨#[]⟩, .string ⟨#[]⟩, .string ⟨#[]⟩] 46 hb2
      have hk3 := hk2.alloc (.cells #[.int .i64 1, .bool any, .string ⟨#[]⟩, .string ⟨#[]⟩, .int .i64 p, .bool true, .string ⟨#[]⟩, .string ⟨#[]⟩, .string ⟨#[]⟩] 46)
      have hp3 := hp2.alloc (.cells #[.int .i64 1, .bool any, .string ⟨#[]⟩, .string ⟨#[]⟩, .int .i64 p, .bool true, .string ⟨#[]⟩, .string ⟨#[]⟩, .string ⟨#[]⟩] 46)
      have hb3 := hb2.alloc hb2.size (.cells #[.int .i64 1, .bool any, .string ⟨#[]⟩, .string ⟨#[]⟩, .int .i64 p, .bool true, .string ⟨#[]⟩, .string ⟨#[]⟩, .string ⟨#[]⟩] 46)
      generalize w2.alloc (.cells #[.int .i64 1, .bool any, .string ⟨#[]⟩, .string ⟨#[]⟩, .int .i64 p, .bool true, .string ⟨#[]⟩, .string ⟨#[]⟩, .string ⟨#[]⟩] 46) = w3 at *
      generalize w2.heap.size = gx at *
      clear hk2 hb2 hp2 q0 q1 q2 XC
      cases any with
      | true =>
        have hn : n = [42] := by simpa using hany
        have x1 : w3.cell? ⟨gx, 1, none⟩ = some (.bool true) := hx3.cell 1
        go_upto_region 8 with fail
        clear x1
        have x5 := hx3.cell 5
        simp only [List.getElem?_toArray, List.getElem?_cons_zero, List.getElem?_cons_succ] at x5
        have qq : w3.cell? ⟨gp, 3, none⟩ = some (.string (mkT a)) := hp3.cell 3
        go_wp2_with fail
        refine (HAT.out _ hb3).mono ?_
        rintro e w4 ⟨rfl, hb4⟩
        have hx4 := hx3.next hb4
        have hk4 := hk3.next hb4
        have hp4 := hp3.next hb4
        replace hb4 := hb3.trans (hb4.mono hb3.size)
        clear hx3 hk3 hp3 hb3 qq x5
        have x6 := hx4.cell 6
        have xf6 := hx4.free 6
        have x7 := hx4.cell 7
        have xf7 := hx4.free 7
        simp only [List.getElem?_toArray, List.getElem?_cons_zero, List.getElem?_cons_succ] at x6 x7
        go_upto_region 10 with fail
        have hx5 := ((hx4.put9_6 (.string s2)).put9_7 (.string l2))
        have hk5 := ((hk4.other hnex0 6 (.string s2)).other hnex0 7 (.string l2))
        have hp5 := ((hp4.other hnex 6 (.string s2)).other hnex 7 (.string l2))
        have hb5 := ((hx4.put9_6 (.string s2)).below (hx4.below hb4 6 (.string s2)) 7 (.string l2))
        generalize ((w4.setCell ⟨gx, 6, none⟩ (.string s2)).setCell ⟨gx, 7, none⟩ (.string l2)) = w5 at *
        clear hx4 hk4 hp4 hb4 x6 xf6 x7 xf7
        by_cases he2 : e2 = 0
        · subst he2
          have x5 := hx5.cell 5
          simp only [List.getElem?_toArray, List.getElem?_cons_zero, List.getElem?_cons_succ] at x5
          have qq : w5.cell? ⟨gp, 4, none⟩ = some (.string (mkT v)) := hp5.cell 4
          go_wp2_with fail
          refine (HU.out _ hb5).mono ?_
          rintro e w6 ⟨rfl, hb6⟩
          have hx6 := hx5.next hb6
          have hk6 := hk5.next hb6
          have hp6 := hp5.next hb6
          replace hb6 := hb5.trans (hb6.mono hb5.size)
          clear hx5 hk5 hp5 hb5 qq x5
          have x8 := hx6.cell 8
          have xf8 := hx6.free 8
          simp only [List.getElem?_toArray, List.getElem?_cons_zero, List.getElem?_cons_succ] at x8
          go_upto_region 12 with fail
          have hx7 := (hx6.put9_8 (.string (mkT (unV v).1)))
          have hk7 := (hk6.other hnex0 8 (.string (mkT (unV v).1)))
          have hp7 := (hp6.other hnex 8 (.string (mkT (unV v).1)))
          have hb7 := (hx6.below hb6 8 (.string (mkT (unV v).1)))
          generalize (w6.setCell ⟨gx, 8, none⟩ (.string (mkT (unV v).1))) = w7 at *
          clear hx6 hk6 hp6 hb6 x8 xf8
          by_cases he3 : (unV v).2 = 0
          · have he3b : ((unV v).2 == 0) = true := by rw [he3]; rfl
            obtain rfl : Except.ok ⟨1, true, nE, p, true, (s2, l2), mkT (unV v).1⟩ = o := by have := HST.out; simpa [hn, he3, mkT] using this.symm
            have x0 := hx7.cell 0
            have x1 := hx7.cell 1
            have x2 := hx7.cell 2
            have x3 := hx7.cell 3
            have x4 := hx7.cell 4
            have x5 := hx7.cell 5
            have x6 := hx7.cell 6
            have x7 := hx7.cell 7
            have x8 := hx7.cell 8
            simp only [List.getElem?_toArray, List.getElem?_cons_zero, List.getElem?_cons_succ] at x0 x1 x2 x3 x4 x5 x6 x7 x8
            have d0 : w7.cell? ⟨w.heap.size, 0, none⟩ = some (.int .i64 0) := hk7.cell 0
            have d1 : w7.cell? ⟨w.heap.size, 1, none⟩ = some (.bool false) := hk7.cell 1
            have d2 : w7.cell? ⟨w.heap.size, 2, none⟩ = some (.string ⟨#[]⟩) := hk7.cell 2
            have d3 : w7.cell? ⟨w.heap.size, 3, none⟩ = some (.string ⟨#[]⟩) := hk7.cell 3
            have d4 : w7.cell? ⟨w.heap.size, 4, none⟩ = some (.int .i64 0) := hk7.cell 4
            have d5 : w7.cell? ⟨w.heap.size, 5, none⟩ = some (.bool false) := hk7.cell 5
            have d6 : w7.cell? ⟨w.heap.size, 6, none⟩ = some (.string ⟨#[]⟩) := hk7.cell 6
            have d7 : w7.cell? ⟨w.heap.size, 7, none⟩ = some (.string ⟨#[]⟩) := hk7.cell 7
            have d8 : w7.cell? ⟨w.heap.size, 8, none⟩ = some (.string ⟨#[]⟩) := hk7.cell 8
            have df0 := hk7.free 0
            have df1 := hk7.free 1
            have df2 := hk7.free 2
            have df3 := hk7.free 3
            have df4 := hk7.free 4
            have df5 := hk7.free 5
            have df6 := hk7.free 6
            have df7 := hk7.free 7
            have df8 := hk7.free 8
            clear hx7 HST HG HA hp7
            go_wp2
            refine bodyPost_ret (results_cell2 rfl _ _ w.heap.size _ _ _ rfl (hk7.all9 _ _ _ _ _ _ _ _ _).blk Tryz.underlying46 rfl step9_size) rfl ?_
            exact ⟨OneOut.good, (((((((((hb7.setCell (Nat.le_refl _) _).setCell (Nat.le_refl _) _).setCell (Nat.le_refl _) _).setCell (Nat.le_refl _) _).setCell (Nat.le_refl _) _).setCell (Nat.le_refl _) _).setCell (Nat.le_refl _) _).setCell (Nat.le_refl _) _).setCell (Nat.le_refl _) _)⟩
          · have he3b : ((unV v).2 == 0) = false := by simpa using he3
            obtain rfl : Except.error (unV v).2 = o := by have := HST.out; simpa [hn, he3] using this.symm
            have x5 := hx7.cell 5
            simp only [List.getElem?_toArray, List.getElem?_cons_zero, List.getElem?_cons_succ] at x5
            have d0 : w7.cell? ⟨w.heap.size, 0, none⟩ = some (.int .i64 0) := hk7.cell 0
            have d1 : w7.cell? ⟨w.heap.size, 1, none⟩ = some (.bool false) := hk7.cell 1
            have d2 : w7.cell? ⟨w.heap.size, 2, none⟩ = some (.string ⟨#[]⟩) := hk7.cell 2
            have d3 : w7.cell? ⟨w.heap.size, 3, none⟩ = some (.string ⟨#[]⟩) := hk7.cell 3
            have d4 : w7.cell? ⟨w.heap.size, 4, none⟩ = some (.int .i64 0) := hk7.cell 4
            have d5 : w7.cell? ⟨w.heap.size, 5, none⟩ = some (.bool false) := hk7.cell 5
            have d6 : w7.cell? ⟨w.heap.size, 6, none⟩ = some (.string ⟨#[]⟩) := hk7.cell 6
            have d7 : w7.cell? ⟨w.heap.size, 7, none⟩ = some (.string ⟨#[]⟩) := hk7.cell 7
            have d8 : w7.cell? ⟨w.heap.size, 8, none⟩ = some (.string ⟨#[]⟩) := hk7.cell 8
            have df0 := hk7.free 0
            have df1 := hk7.free 1
            have df2 := hk7.free 2
            have df3 := hk7.free 3
            have df4 := hk7.free 4
            have df5 := hk7.free 5
            have df6 := hk7.free 6
            have df7 := hk7.free 7
            have df8 := hk7.free 8
            clear hx7 HST HG HA hp7
            go_wp2
            refine bodyPost_ret (results_cell2 rfl _ _ w.heap.size _ _ _ rfl (hk7.all9 _ _ _ _ _ _ _ _ _).blk Tryz.underlying46 rfl step9_size) rfl ?_
            exact ⟨OneOut.bad, (((((((((hb7.setCell (Nat.le_refl _) _).setCell (Nat.le_refl _) _).setCell (Nat.le_refl _) _).setCell (Nat.le_refl _) _).setCell (Nat.le_refl _) _).setCell (Nat.le_refl _) _).setCell (Nat.le_refl _) _).setCell (Nat.le_refl _) _).setCell (Nat.le_refl _) _)⟩
        · have he2b : (e2 == 0) = false := by simpa using he2
          obtain rfl : Except.error e2 = o := by have := HST.out; simpa [hn, he2] using this.symm
          have x5 := hx5.cell 5
          simp only [List.getElem?_toArray, List.getElem?_cons_zero, List.getElem?_cons_succ] at x5
          have d0 : w5.cell? ⟨w.heap.size, 0, none⟩ = some (.int .i64 0) := hk5.cell 0
          have d1 : w5.cell? ⟨w.heap.size, 1, none⟩ = some (.bool false) := hk5.cell 1
          have d2 : w5.cell? ⟨w.heap.size, 2, none⟩ = some (.string ⟨#[]⟩) := hk5.cell 2
          have d3 : w5.cell? ⟨w.heap.size, 3, none⟩ = some (.string ⟨#[]⟩) := hk5.cell 3
          have d4 : w5.cell? ⟨w.heap.size, 4, none⟩ = some (.int .i64 0) := hk5.cell 4
          have d5 : w5.cell? ⟨w.heap.size, 5, none⟩ = some (.bool false) := hk5.cell 5
          have d6 : w5.cell? ⟨w.heap.size, 6, none⟩ = some (.string ⟨#[]⟩) := hk5.cell 6
          have d7 : w5.cell? ⟨w.heap.size, 7, none⟩ = some (.string ⟨#[]⟩) := hk5.cell 7
          have d8 : w5.cell? ⟨w.heap.size, 8, none⟩ = some (.string ⟨#[]⟩) := hk5.cell 8
          have df0 := hk5.free 0
          have df1 := hk5.free 1
          have df2 := hk5.free 2
          have df3 := hk5.free 3
          have df4 := hk5.free 4
          have df5 := hk5.free 5
          have df6 := hk5.free 6
          have df7 := hk5.free 7
          have df8 := hk5.free 8
          clear hx5 HST HG HA hp5
          go_wp2
          refine bodyPost_ret (results_cell2 rfl _ _ w.heap.size _ _ _ rfl (hk5.all9 _ _ _ _ _ _ _ _ _).blk Tryz.underlying46 rfl step9_size) rfl ?_
          exact ⟨OneOut.bad, (((((((((hb5.setCell (Nat.le_refl _) _).setCell (Nat.le_refl _) _).setCell (Nat.le_refl _) _).setCell (Nat.le_refl _) _).setCell (Nat.le_refl _) _).setCell (Nat.le_refl _) _).setCell (Nat.le_refl _) _).setCell (Nat.le_refl _) _).setCell (Nat.le_refl _) _)⟩
      | false =>
        have hn : ¬ n = [42] := by simpa using hany
        have x1 := hx3.cell 1
        simp only [List.getElem?_toArray, List.getElem?_cons_zero, List.getElem?_cons_succ] at x1
        have qq : w3.cell? ⟨gp, 0, none⟩ = some (.string (mkT n)) := hp3.cell 0
        go_wp2_with fail
        refine (HN2.out _ hb3).mono ?_
        rintro e w4 ⟨rfl, hb4⟩
        have hx4 := hx3.next hb4
        have hk4 := hk3.next hb4
        have hp4 := hp3.next hb4
        replace hb4 := hb3.trans (hb4.mono hb3.size)
        clear hx3 hk3 hp3 hb3 qq x1
        have x2 := hx4.cell 2
        have xf2 := hx4.free 2
        have x3 := hx4.cell 3
        have xf3 := hx4.free 3
        simp only [List.getElem?_toArray, List.getElem?_cons_zero, List.getElem?_cons_succ] at x2 x3
        go_upto_region 8 with fail
        have hx5 := ((hx4.put9_2 (.string s1)).put9_3 (.string l1))
        have hk5 := ((hk4.other hnex0 2 (.string s1)).other hnex0 3 (.string l1))
        have hp5 := ((hp4.other hnex 2 (.string s1)).other hnex 3 (.string l1))
        have hb5 := ((hx4.put9_2 (.string s1)).below (hx4.below hb4 2 (.string s1)) 3 (.string l1))
        generalize ((w4.setCell ⟨gx, 2, none⟩ (.string s1)).setCell ⟨gx, 3, none⟩ (.string l1)) = w5 at *
        clear hx4 hk4 hp4 hb4 x2 xf2 x3 xf3
        by_cases he1 : e1 = 0
        · subst he1
          have x5 := hx5.cell 5
          simp only [List.getElem?_toArray, List.getElem?_cons_zero, List.getElem?_cons_succ] at x5
          have qq : w5.cell? ⟨gp, 3, none⟩ = some (.string (mkT a)) := hp5.cell 3
          go_wp2_with fail
          refine (HAT.out _ hb5).mono ?_
          rintro e w6 ⟨rfl, hb6⟩
          have hx6 := hx5.next hb6
          have hk6 := hk5.next hb6
          have hp6 := hp5.next hb6
          replace hb6 := hb5.trans (hb6.mono hb5.size)
          clear hx5 hk5 hp5 hb5 qq x5
          have x6 := hx6.cell 6
          have xf6 := hx6.free 6
          have x7 := hx6.cell 7
          have xf7 := hx6.free 7
          simp only [List.getElem?_toArray, List.getElem?_cons_zero, List.getElem?_cons_succ] at x6 x7
          go_upto_region 10 with fail
          have hx7 := ((hx6.put9_6 (.string s2)).put9_7 (.string l2))
          have hk7 := ((hk6.other hnex0 6 (.string s2)).other hnex0 7 (.string l2))
          have hp7 := ((hp6.other hnex 6 (.string s2)).other hnex 7 (.string l2))
          have hb7 := ((hx6.put9_6 (.string s2)).below (hx6.below hb6 6 (.string s2)) 7 (.string l2))
          generalize ((w6.setCell ⟨gx, 6, none⟩ (.string s2)).setCell ⟨gx, 7, none⟩ (.string l2)) = w7 at *
          clear hx6 hk6 hp6 hb6 x6 xf6 x7 xf7
          by_cases he2 : e2 = 0
          · subst he2
            have x5 := hx7.cell 5
            simp only [List.getElem?_toArray, List.getElem?_cons_zero, List.getElem?_cons_succ] at x5
            have qq : w7.cell? ⟨gp, 4, none⟩ = some (.string (mkT v)) := hp7.cell 4
            go_wp2_with fail
            refine (HU.out _ hb7).mono ?_
            rintro e w8 ⟨rfl, hb8⟩
            have hx8 := hx7.next hb8
            have hk8 := hk7.next hb8
            have hp8 := hp7.next hb8
            replace hb8 := hb7.trans (hb8.mono hb7.size)
            clear hx7 hk7 hp7 hb7 qq x5
            have x8 := hx8.cell 8
            have xf8 := hx8.free 8
            simp only [List.getElem?_toArray, List.getElem?_cons_zero, List.getElem?_cons_succ] at x8
            go_upto_region 12 with fail
            have hx9 := (hx8.put9_8 (.string (mkT (unV v).1)))
            have hk9 := (hk8.other hnex0 8 (.string (mkT (unV v).1)))
            have hp9 := (hp8.other hnex 8 (.string (mkT (unV v).1)))
            have hb9 := (hx8.below hb8 8 (.string (mkT (unV v).1)))
            generalize (w8.setCell ⟨gx, 8, none⟩ (.string (mkT (unV v).1))) = w9 at *
            clear hx8 hk8 hp8 hb8 x8 xf8
            by_cases he3 : (unV v).2 = 0
            · have he3b : ((unV v).2 == 0) = true := by rw [he3]; rfl
              obtain rfl : Except.ok ⟨1, false, (s1, l1), p, true, (s2, l2), mkT (unV v).1⟩ = o := by have := HST.out; simpa [hn, he3, mkT] using this.symm
              have x0 := hx9.cell 0
              have x1 := hx9.cell 1
              have x2 := hx9.cell 2
              have x3 := hx9.cell 3
              have x4 := hx9.cell 4
              have x5 := hx9.cell 5
              have x6 := hx9.cell 6
              have x7 := hx9.cell 7
              have x8 := hx9.cell 8
              simp only [List.getElem?_toArray, List.getElem?_cons_zero, List.getElem?_cons_succ] at x0 x1 x2 x3 x4 x5 x6 x7 x8
              have d0 : w9.cell? ⟨w.heap.size, 0, none⟩ = some (.int .i64 0) := hk9.cell 0
              have d1 : w9.cell? ⟨w.heap.size, 1, none⟩ = some (.bool false) := hk9.cell 1
              have d2 : w9.cell? ⟨w.heap.size, 2, none⟩ = some (.string ⟨#[]⟩) := hk9.cell 2
              have d3 : w9.cell? ⟨w.heap.size, 3, none⟩ = some (.string ⟨#[]⟩) := hk9.cell 3
              have d4 : w9.cell? ⟨w.heap.size, 4, none⟩ = some (.int .i64 0) := hk9.cell 4
              have d5 : w9.cell? ⟨w.heap.size, 5, none⟩ = some (.bool false) := hk9.cell 5
              have d6 : w9.cell? ⟨w.heap.size, 6, none⟩ = some (.string ⟨#[]⟩) := hk9.cell 6
              have d7 : w9.cell? ⟨w.heap.size, 7, none⟩ = some (.string ⟨#[]⟩) := hk9.cell 7
              have d8 : w9.cell? ⟨w.heap.size, 8, none⟩ = some (.string ⟨#[]⟩) := hk9.cell 8
              have df0 := hk9.free 0
              have df1 := hk9.free 1
              have df2 := hk9.free 2
              have df3 := hk9.free 3
              have df4 := hk9.free 4
              have df5 := hk9.free 5
              have df6 := hk9.free 6
              have df7 := hk9.free 7
              have df8 := hk9.free 8
              clear hx9 HST HG HA hp9
              go_wp2
              refine bodyPost_ret (results_cell2 rfl _ _ w.heap.size _ _ _ rfl (hk9.all9 _ _ _ _ _ _ _ _ _).blk Tryz.underlying46 rfl step9_size) rfl ?_
              exact ⟨OneOut.good, (((((((((hb9.setCell (Nat.le_refl _) _).setCell (Nat.le_refl _) _).setCell (Nat.le_refl _) _).setCell (Nat.le_refl _) _).setCell (Nat.le_refl _) _).setCell (Nat.le_refl _) _).setCell (Nat.le_refl _) _).setCell (Nat.le_refl _) _).setCell (Nat.le_refl _) _)⟩
            · have he3b : ((unV v).2 == 0) = false := by simpa using he3
              obtain rfl : Except.error (unV v).2 = o := by have := HST.out; simpa [hn, he3] using this.symm
              have x5 := hx9.cell 5
              simp only [List.getElem?_toArray, List.getElem?_cons_zero, List.getElem?_cons_succ] at x5
              have d0 : w9.cell? ⟨w.heap.size, 0, none⟩ = some (.int .i64 0) := hk9.cell 0
              have d1 : w9.cell? ⟨w.heap.size, 1, none⟩ = some (.bool false) := hk9.cell 1
              have d2 : w9.cell? ⟨w.heap.size, 2, none⟩ = some (.string ⟨#[]⟩) := hk9.cell 2
              have d3 : w9.cell? ⟨w.heap.size, 3, none⟩ = some (.string ⟨#[]⟩) := hk9.cell 3
              have d4 : w9.cell? ⟨w.heap.size, 4, none⟩ = some (.int .i64 0) := hk9.cell 4
              have d5 : w9.cell? ⟨w.heap.size, 5, none⟩ = some (.bool false) := hk9.cell 5
              have d6 : w9.cell? ⟨w.heap.size, 6, none⟩ = some (.string ⟨#[]⟩) := hk9.cell 6
              have d7 : w9.cell? ⟨w.heap.size, 7, none⟩ = some (.string ⟨#[]⟩) := hk9.cell 7
              have d8 : w9.cell? ⟨w.heap.size, 8, none⟩ = some (.string ⟨#[]⟩) := hk9.cell 8
              have df0 := hk9.free 0
              have df1 := hk9.free 1
              have df2 := hk9.free 2
              have df3 := hk9.free 3
              have df4 := hk9.free 4
              have df5 := hk9.free 5
              have df6 := hk9.free 6
              have df7 := hk9.free 7
              have df8 := hk9.free 8
              clear hx9 HST HG HA hp9
              go_wp2
              refine bodyPost_ret (results_cell2 rfl _ _ w.heap.size _ _ _ rfl (hk9.all9 _ _ _ _ _ _ _ _ _).blk Tryz.underlying46 rfl step9_size) rfl ?_
              exact ⟨OneOut.bad, (((((((((hb9.setCell (Nat.le_refl _) _).setCell (Nat.le_refl _) _).setCell (Nat.le_refl _) _).setCell (Nat.le_refl _) _).setCell (Nat.le_refl _) _).setCell (Nat.le_refl _) _).setCell (Nat.le_refl _) _).setCell (Nat.le_refl _) _).setCell (Nat.le_refl _) _)⟩
          · have he2b : (e2 == 0) = false := by simpa using he2
            obtain rfl : Except.error e2 = o := by have := HST.out; simpa [hn, he2] using this.symm
            have x5 := hx7.cell 5
            simp only [List.getElem?_toArray, List.getElem?_cons_zero, List.getElem?_cons_succ] at x5
            have d0 : w7.cell? ⟨w.heap.size, 0, none⟩ = some (.int .i64 0) := hk7.cell 0
            have d1 : w7.cell? ⟨w.heap.size, 1, none⟩ = some (.bool false) := hk7.cell 1
            have d2 : w7.cell? ⟨w.heap.size, 2, none⟩ = some (.string ⟨#[]⟩) := hk7.cell 2
            have d3 : w7.cell? ⟨w.heap.size, 3, none⟩ = some (.string ⟨#[]⟩) := hk7.cell 3
            have d4 : w7.cell? ⟨w.heap.size, 4, none⟩ = some (.int .i64 0) := hk7.cell 4
            have d5 : w7.cell? ⟨w.heap.size, 5, none⟩ = some (.bool false) := hk7.cell 5
            have d6 : w7.cell? ⟨w.heap.size, 6, none⟩ = some (.string ⟨#[]⟩) := hk7.cell 6
            have d7 : w7.cell? ⟨w.heap.size, 7, none⟩ = some (.string ⟨#[]⟩) := hk7.cell 7
            have d8 : w7.cell? ⟨w.heap.size, 8, none⟩ = some (.string ⟨#[]⟩) := hk7.cell 8
            have df0 := hk7.free 0
            have df1 := hk7.free 1
            have df2 := hk7.free 2
            have df3 := hk7.free 3
            have df4 := hk7.free 4
            have df5 := hk7.free 5
            have df6 := hk7.free 6
            have df7 := hk7.free 7
            have df8 := hk7.free 8
            clear hx7 HST HG HA hp7
            go_wp2
            refine bodyPost_ret (results_cell2 rfl _ _ w.heap.size _ _ _ rfl (hk7.all9 _ _ _ _ _ _ _ _ _).blk Tryz.underlying46 rfl step9_size) rfl ?_
            exact ⟨OneOut.bad, (((((((((hb7.setCell (Nat.le_refl _) _).setCell (Nat.le_refl _) _).setCell (Nat.le_refl _) _).setCell (Nat.le_refl _) _).setCell (Nat.le_refl _) _).setCell (Nat.le_refl _) _).setCell (Nat.le_refl _) _).setCell (Nat.le_refl _) _).setCell (Nat.le_refl _) _)⟩
        · have he1b : (e1 == 0) = false := by simpa using he1
          obtain rfl : Except.error e1 = o := by have := HST.out; simpa [hn, he1] using this.symm
          have x5 := hx5.cell 5
          simp only [List.getElem?_toArray, List.getElem?_cons_zero, List.getElem?_cons_succ] at x5
          have d0 : w5.cell? ⟨w.heap.size, 0, none⟩ = some (.int .i64 0) := hk5.cell 0
          have d1 : w5.cell? ⟨w.heap.size, 1, none⟩ = some (.bool false) := hk5.cell 1
          have d2 : w5.cell? ⟨w.heap.size, 2, none⟩ = some (.string ⟨#[]⟩) := hk5.cell 2
          have d3 : w5.cell? ⟨w.heap.size, 3, none⟩ = some (.string ⟨#[]⟩) := hk5.cell 3
          have d4 : w5.cell? ⟨w.heap.size, 4, none⟩ = some (.int .i64 0) := hk5.cell 4
          have d5 : w5.cell? ⟨w.heap.size, 5, none⟩ = some (.bool false) := hk5.cell 5
          have d6 : w5.cell? ⟨w.heap.size, 6, none⟩ = some (.string ⟨#[]⟩) := hk5.cell 6
          have d7 : w5.cell? ⟨w.heap.size, 7, none⟩ = some (.string ⟨#[]⟩) := hk5.cell 7
          have d8 : w5.cell? ⟨w.heap.size, 8, none⟩ = some (.string ⟨#[]⟩) := hk5.cell 8
          have df0 := hk5.free 0
          have df1 := hk5.free 1
          have df2 := hk5.free 2
          have df3 := hk5.free 3
          have df4 := hk5.free 4
          have df5 := hk5.free 5
          have df6 := hk5.free 6
          have df7 := hk5.free 7
          have df8 := hk5.free 8
          clear hx5 HST HG HA hp5
          go_wp2
          refine bodyPost_ret (results_cell2 rfl _ _ w.heap.size _ _ _ rfl (hk5.all9 _ _ _ _ _ _ _ _ _).blk Tryz.underlying46 rfl step9_size) rfl ?_
          exact ⟨OneOut.bad, (((((((((hb5.setCell (Nat.le_refl _) _).setCell (Nat.le_refl _) _).setCell (Nat.le_refl _) _).setCell (Nat.le_refl _) _).setCell (Nat.le_refl _) _).setCell (Nat.le_refl _) _).setCell (Nat.le_refl _) _).setCell (Nat.le_refl _) _).setCell (Nat.le_refl _) _)⟩
end Go.Proofs.YtbdamneophbnnaaGreatDoor
