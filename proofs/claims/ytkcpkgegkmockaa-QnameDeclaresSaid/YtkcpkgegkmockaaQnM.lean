
/- Walks of the statements of layer 2. -/
import Derived.Test.YtkcpkgegkmockaaQnL
import Derived.Test.YtkcpkgegkmockaaQnPlain2
namespace Go.Proofs.Ytkcpkgegkmockaa
open Go.RowKit Wb Go.Maps

set_option maxHeartbeats 2000000 in
set_option maxRecDepth 100000 in
theorem awake_any (w : World) : Calls Try.prog 9 #[] w fun e w' => e = .returned (.bool true) ∧ Below w.heap.size w w' := by
  go_enter Try.func9, Try.ntmps9
  go_wp2_with fail
  refine (split_any sAB _ (by decide)).mono ?_
  rw [awake_split]
  rintro e w1 ⟨rfl, hb⟩
  go_wp2_with fail
  refine (add_any none [] 0 sA sUrn _ (by decide) (by decide) (Sl2.nil _ _)).mono ?_
  rintro e w2 hAP
  obtain ⟨hb2, hok, _⟩ := hAP.split awake_bind
  clear hAP
  obtain ⟨C, k, rfl, hC, _⟩ := hok rfl
  replace hb := hb.trans (hb2.mono hb.size)
  clear hb2 hok
  go_wp2_with fail
  refine (resolve_any C [(sA, sUrn)] k sAB false _ (by decide) (by decide) hC).mono ?_
  rw [awake_res]
  rintro e w3 ⟨rfl, hb2⟩
  replace hb := hb.trans (hb2.mono hb.size)
  clear hb2
  go_wp2_with fail
  refine (add_any none [] 0 sXml sUrn _ (by decide) (by decide) (Sl2.nil _ _)).mono ?_
  rintro e w4 hAP
  obtain ⟨hb2, _, hno⟩ := hAP.split awake_bind2
  clear hAP
  obtain rfl := hno (by decide)
  have HB := Lib.hid (kept_block hb2)
  replace hb := hb.trans ((of_alloc hb2).mono hb.size)
  clear hb2 hno
  have e1 := blk_cell HB.out 0
  have e2 := blk_cell HB.out 1
  simp only [List.getElem?_toArray, List.getElem?_cons_zero, List.getElem?_cons_succ] at e1 e2
  have l1 : sA.toList = [97] := by rw [ByteArray.toList_eq]; rfl
  have l2 : sB.toList = [98] := by rw [ByteArray.toList_eq]; rfl
  have l3 : sUrn.toList = [117, 114, 110, 58, 120] := by rw [ByteArray.toList_eq]; rfl
  go_wp2
  go_ret
  exact ⟨rfl, hb⟩

set_option maxHeartbeats 2000000 in
set_option maxRecDepth 100000 in
theorem splits_walk (q : ByteArray) (w : World) : Calls Try.prog 3 #[.string q] w fun e w' => e = .returned (.bool true) ∧ Below w.heap.size w w' := by
  by_cases hlong : (5000 : Int) < q.size
  · go_enter Try.func3, Try.ntmps3
    go_wp2_with fail
    refine (awake_any _).mono ?_
    rintro e w1 ⟨rfl, hb⟩
    go_wp2
    go_ret
    exact ⟨rfl, hb⟩
  · obtain ⟨p, lo, ok, hsp⟩ : ∃ p lo ok, splitB q = (p, lo, ok) := ⟨_, _, _, rfl⟩
    have HS := Lib.hid hsp
    clear hsp
    go_enter Try.func3, Try.ntmps3
    go_wp2_with fail
    refine (awake_any _).mono ?_
    rintro e w1 ⟨rfl, hb⟩
    go_wp2_with fail
    refine (split_any q _ (by omega)).mono ?_
    rw [HS.out]
    rintro e w2 ⟨rfl, hb2⟩
    replace hb := hb.trans (hb2.mono hb.size)
    clear hb2
    go_wp2_with fail
    refine (rsplit_any q _ (by omega)).mono ?_
    rw [HS.out]
    rintro e w3 ⟨rfl, hb2⟩
    replace hb := hb.trans (hb2.mono hb.size)
    clear hb2
    cases ok
    · go_wp2
      go_ret
      exact ⟨rfl, hb⟩
    · rcases split_back HS.out with ⟨rfl, rfl⟩ | ⟨hp, hq⟩
      · have hp0 : sE.toList = [] := (toList_nil_iff _).2 rfl
        go_wp2
        go_ret
        exact ⟨rfl, hb⟩
      · have hp0 := ne_nil p hp
        have hp1 := ne_empty p hp
        have hqq : ((p ++ ⟨#[58]⟩ ++ lo).toList == q.toList) = true := by rw [hq]; exact beq_self_eq_true _
        have hsz := splitB_size q
        rw [HS.out] at hsz
        simp only at hsz
        have z1 : ¬ 9223372036854775807 < p.size + 1 := by omega
        have z2 : ¬ 9223372036854775807 < p.size + 1 + lo.size := by omega
        clear hp hq hsz
        go_wp2
        go_ret
        exact ⟨rfl, hb⟩

set_option maxHeartbeats 2000000 in
set_option maxRecDepth 100000 in
theorem resolves_walk (A : Option Addr) (l : List Pr) (c : Nat) (q : ByteArray) (attr : Bool) (w : World) (hA : Sl2 w A l) :
    Calls Try.prog 5 #[.slice A l.length c, .string q, .bool attr] w fun e w' => e = .returned (.bool true) ∧ Below w.heap.size w w' := by
  obtain ⟨n1, n2, er, hr⟩ : ∃ n1 n2 er, resB l q attr = ((n1, n2), er) := ⟨_, _, _, rfl⟩
  have HR := Lib.hid hr
  clear hr
  go_enter Try.func5, Try.ntmps5
  go_wp2_with fail
  refine (awake_any _).mono ?_
  rintro e w1 ⟨rfl, hb⟩
  go_wp2_with fail
  refine (few_any A l c _ (hA.below hb)).mono ?_
  rintro e w2 ⟨hb2, b, rfl, hfew⟩
  replace hb := hb.trans (hb2.mono hb.size)
  clear hb2
  cases b
  · clear hfew
    go_wp2
    go_ret
    exact ⟨rfl, hb⟩
  · have hl2 : l.length < 3000 := by have := hfew rfl; omega
    clear hfew
    by_cases hlong : (3000 : Int) < q.size
    · go_wp2
      go_ret
      exact ⟨rfl, hb⟩
    · go_wp2_with fail
      refine (resolve_any A l c q attr _ (by omega) (by omega) (hA.below hb)).mono ?_
      rw [HR.out]
      rintro e w3 ⟨rfl, hb2⟩
      replace hb := hb.trans (hb2.mono hb.size)
      clear hb2
      go_wp2_with fail
      refine (rresolve_any A l c q attr _ (by omega) (by omega) ((hA.below hb).alloc _)).mono ?_
      rw [HR.out]
      rintro e w4 ⟨rfl, hb2⟩
      have HB := Lib.hid (still_block (kept_block hb2) ((Below.refl _ w4).alloc (Nat.le_refl _) (.cells #[.string n1, .string n2] 40)))
      replace hb := hb.trans ((of_alloc hb2).mono hb.size)
      clear hb2
      have e1 := blk_cell HB.out 0
      have e2 := blk_cell HB.out 1
      simp only [List.getElem?_toArray, List.getElem?_cons_zero, List.getElem?_cons_succ] at e1 e2
      go_wp2
      go_ret
      exact ⟨rfl, hb.alloc hb.size _⟩

set_option maxHeartbeats 4000000 in
set_option maxRecDepth 100000 in
theorem inner_walk (A : Option Addr) (l : List Pr) (c : Nat) (p s q : ByteArray) (w : World) (hA : Sl2 w A l) :
    Calls Try.prog 7 #[.slice A l.length c, .string p, .string s, .string q] w fun e w' => e = .returned (.bool true) ∧ Below w.heap.size w w' := by
  go_enter Try.func7, Try.ntmps7
  go_wp2_with fail
  refine (awake_any _).mono ?_
  rintro e w1 ⟨rfl, hb⟩
  go_wp2_with fail
  refine (few_any A l c _ (hA.below hb)).mono ?_
  rintro e w2 ⟨hb2, b, rfl, hfew⟩
  replace hb := hb.trans (hb2.mono hb.size)
  clear hb2
  cases b
  · clear hfew
    go_wp2
    go_ret
    exact ⟨rfl, hb⟩
  · have hl2 : l.length < 3000 := by have := hfew rfl; omega
    clear hfew
    by_cases hp : (3000 : Int) < p.size
    · go_wp2
      go_ret
      exact ⟨rfl, hb⟩
    · by_cases hs : (3000 : Int) < s.size
      · go_wp2
        go_ret
        exact ⟨rfl, hb⟩
      · by_cases hq : (3000 : Int) < q.size
        · go_wp2
          go_ret
          exact ⟨rfl, hb⟩
        · go_wp2_with fail
          refine (add_any A l c p s _ (by omega) (by omega) (hA.below hb)).mono ?_
          rintro e w3 hAP
          obtain ⟨b, hbd⟩ : ∃ b, bindB p s = b := ⟨_, rfl⟩
          obtain ⟨hb2, hok, hno⟩ := hAP.split hbd
          clear hAP
          replace hb := hb.trans (hb2.mono hb.size)
          clear hb2
          by_cases hb0 : b = 0
          · subst hb0
            obtain ⟨C, k, rfl, hC, _⟩ := hok rfl
            have HF := Lib.hid (find_added (l := l) hbd)
            clear hok hno hbd
            have hfind := find_any C (l ++ [(p, s)]) k p w3 (by simp; omega) hC
            rw [List.length_append, HF.out] at hfind
            clear HF
            go_wp2_with fail
            refine hfind.mono ?_
            clear hfind
            rintro e w4 ⟨rfl, rfl⟩
            obtain ⟨p', lo, ok, hsp⟩ : ∃ p' lo ok, splitB q = (p', lo, ok) := ⟨_, _, _, rfl⟩
            have HS := Lib.hid hsp
            clear hsp
            go_wp2_with fail
            refine (split_any q _ (by omega)).mono ?_
            rw [HS.out]
            rintro e w5 ⟨rfl, hb2⟩
            have hC5 := hC.below hb2
            replace hb := hb.trans (hb2.mono hb.size)
            clear hb2 hC
            cases ok
            · go_wp2
              go_ret
              exact ⟨rfl, hb⟩
            · cases hpq : (p'.toList == p.toList)
              · obtain ⟨n1, n2, er, hr⟩ : ∃ n1 n2 er, resB l q false = ((n1, n2), er) := ⟨_, _, _, rfl⟩
                have HR := Lib.hid hr
                have hap : eqT p (splitB q).1 = false := by
                  rw [HS.out]
                  have : eqT p' p = false := hpq
                  rw [eqT_false] at this ⊢
                  exact fun e => this e.symm
                have HR2 := Lib.hid ((res_apart (l := l) (s := s) (attr := false) hap).trans hr)
                clear hr hap
                go_wp2_with fail
                refine (resolve_any A l c q false _ (by omega) (by omega) (hA.below hb)).mono ?_
                rw [HR.out]
                rintro e w6 ⟨rfl, hb2⟩
                have hC6 := (hC5.below hb2).alloc (.cells #[.string n1, .string n2] 40)
                replace hb := hb.trans (hb2.mono hb.size)
                clear hb2 hC5
                have hres := resolve_any C (l ++ [(p, s)]) k q false _ (by simp; omega) (by omega) hC6
                rw [List.length_append, HR2.out] at hres
                go_wp2_with fail
                refine hres.mono ?_
                clear hres
                rintro e w7 ⟨rfl, hb2⟩
                have HB := Lib.hid (still_block (kept_block hb2) ((Below.refl _ w7).alloc (Nat.le_refl _) (.cells #[.string n1, .string n2] 40)))
                replace hb := hb.trans ((of_alloc hb2).mono hb.size)
                clear hb2
                have e1 := blk_cell HB.out 0
                have e2 := blk_cell HB.out 1
                simp only [List.getElem?_toArray, List.getElem?_cons_zero, List.getElem?_cons_succ] at e1 e2
                go_wp2
                go_ret
                exact ⟨rfl, hb.alloc hb.size _⟩
              · go_wp2
                go_ret
                exact ⟨rfl, hb⟩
          · have hb0' : (b != 0) = true := by simpa using hb0
            obtain rfl := hno hb0
            clear hok hno hbd
            go_wp2
            go_ret
            exact ⟨rfl, hb⟩
end Go.Proofs.Ytkcpkgegkmockaa
