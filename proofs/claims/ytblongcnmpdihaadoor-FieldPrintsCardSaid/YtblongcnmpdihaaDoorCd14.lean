/- FeP. -/
import Derived.Lib.Join
import Derived.Test.YtblongcnmpdihaaDoorCd13
namespace Wb
open Go
def prepP (out : List (List UInt8 × List UInt8)) (o : Except Int (List (List UInt8 × List UInt8) × List UInt8)) : Except Int (List (List UInt8 × List UInt8) × List UInt8) :=
  match o with
  | .ok (l, r) => .ok (out ++ l, r)
  | .error e => .error e
theorem prepP_nil (o : Except Int (List (List UInt8 × List UInt8) × List UInt8)) : prepP [] o = o := by
  cases o with
  | error e => rfl
  | ok p => rfl
def ParseOut7 (o : Except Int (List (List UInt8 × List UInt8) × List UInt8)) (e : Ending) (w' : World) : Prop :=
  match o with
  | .ok (l, r) => ∃ A c, e = .returned (.tuple #[.slice A l.length c, .string (mkB r), .int .i64 0]) ∧ Sl2 w' A (toPrs l)
  | .error n => e = .returned (.tuple #[.slice none 0 0, .string ⟨#[]⟩, .int .i64 n])
theorem crlf_pre (u : List UInt8) : Lib.hasPrefix u [13, 10] = decide (u.take 2 = [13, 10]) := by
  unfold Lib.hasPrefix
  match u with
  | [] => rfl
  | [a] => simp [List.isPrefixOf]
  | a :: b :: l =>
    rw [Bool.eq_iff_iff, decide_eq_true_eq]
    simp only [List.isPrefixOf, Bool.and_true, Bool.and_eq_true, beq_iff_eq, List.take_succ_cons, List.take_zero, List.cons.injEq, and_true]
    exact ⟨fun h => ⟨h.1.symm, h.2.symm⟩, fun h => ⟨h.1.symm, h.2.symm⟩⟩
theorem parsedF_err {line : List UInt8} {e : Int} (h : parsedF line = .error e) : e = 4 ∨ e = 12 := by
  unfold parsedF at h
  simp only at h
  split at h
  · injection h with h; exact .inl h.symm
  split at h
  · injection h with h; exact .inr h.symm
  split at h
  · injection h with h; exact .inl h.symm
  · cases h
theorem parsedF_len {line : List UInt8} {x : List UInt8 × List UInt8} (h : parsedF line = .ok x) : x.1.length ≤ line.length ∧ x.2.length ≤ line.length := by
  unfold parsedF at h
  simp only at h
  split at h
  · cases h
  split at h
  · cases h
  split at h
  · cases h
  · injection h with h
    rw [← h]
    refine ⟨takeW_le _ _, ?_⟩
    have := trimF_sub (line.drop ((line.takeWhile (fun c => c != 58)).length + 1))
    rw [List.length_drop] at this
    simp only
    omega
theorem join_flat : ∀ xs : List (List UInt8), Lib.join xs [] = xs.flatten
  | [] => rfl
  | [x] => by simp [Lib.join_one]
  | x :: y :: l => by
    have ih := join_flat (y :: l)
    unfold Lib.join List.intercalate at *
    rw [List.flatten_cons, ← ih]
    rfl
theorem flat_sum (ls : List (List UInt8)) : ls.flatten.length = (ls.map List.length).sum := List.length_flatten
theorem flat_mem_len {ls : List (List UInt8)} {y : List UInt8} (h : y ∈ ls) : y.length ≤ ls.flatten.length := by
  induction ls with
  | nil => cases h
  | cons a l ih =>
    rw [List.flatten_cons, List.length_append]
    rcases List.mem_cons.1 h with rfl | h
    · omega
    · have := ih h; omega
theorem toPrs_snoc (l : List (List UInt8 × List UInt8)) (x : List UInt8 × List UInt8) : toPrs (l ++ [x]) = toPrs l ++ [(mkB x.1, mkB x.2)] := by
  unfold toPrs
  rw [List.map_append]
  rfl
theorem toPrs_len (l : List (List UInt8 × List UInt8)) : (toPrs l).length = l.length := List.length_map ..
end Wb
namespace Go.Proofs.YtblongcnmpdihaaDoor
open Go.RowKit Wb
theorem field_info2 : (Tryd.prog.info? 48).map (fun i => (i.zero, i.size, i.bytes)) = some (some (.agg #[.string ⟨#[]⟩, .string ⟨#[]⟩]), 2, 32) := by kernel_rfl
theorem joinS_any {w : World} {g c : Nat} (ls : List (List UInt8)) (h : OwnS w g c (ls.map mkB)) (hz : ls.flatten.length ≤ 1000000000) (hn : ls.length ≤ 1000000000) :
    Calls Tryd.prog 38 #[.slice (some ⟨g, 0, none⟩) ls.length c, .string ⟨#[]⟩] w fun e w' => e = .returned (.string (mkB ls.flatten)) ∧ Below w.heap.size w w' := by
  have em : (ls.map mkB).map (·.data.toList) = ls := by
    rw [List.map_map]
    exact List.map_id _
  have e0 : (⟨#[]⟩ : ByteArray).data.toList = [] := rfl
  have hl : (ls.map mkB).length = ls.length := List.length_map ..
  have hj := Tryd.strings_Join g 0 c (ls.map mkB) ⟨#[]⟩ w (fun j x hx => by rw [Nat.zero_add]; exact h.cells hx) (by obtain ⟨cur, h1, _⟩ := h; exact (Array.getElem?_eq_some_iff.1 h1).1) (by rw [hl]; omega) (by obtain ⟨_, _, h2, _⟩ := h; exact h2)
    (by rw [em, e0, join_flat]; omega)
  rw [em, e0, join_flat, hl] at hj
  exact hj
set_option maxRecDepth 100000 in
set_option maxHeartbeats 8000000 in
theorem parse_any (s : ByteArray) (F : Nat) (w : World) (hs : s.size ≤ 100000000) (hF : s.size < F) (hG : GvF w) :
    Calls Tryd.prog 15 #[.string s] w fun e w' => ParseOut7 (parseL F 0 s.data.toList) e w' ∧ Below w.heap.size w w' := by
  obtain ⟨i2, hk0, hu0, hu1, hu2⟩ := info_parts field_info2
  obtain ⟨o, ho⟩ : ∃ o, parseL F 0 s.data.toList = o := ⟨_, rfl⟩
  rw [ho]
  have HO := Lib.hid (show o = prepP [] (parseL F ([] : List (List UInt8 × List UInt8)).length s.data.toList) by rw [prepP_nil]; exact ho.symm)
  have HG := Lib.hid hG
  clear ho hG
  have e0 : w.ownsRow w.heap.size 48 2 (.slice none 0 0) ([] : List (List UInt8 × List UInt8)).length (cells2 (toPrs [])) := World.ownsRow_nil _ _ _ _
  have E0 := Lib.hid e0
  clear e0
  go_enter Tryd.func15, Tryd.ntmps15
  go_wp2
  go_loopw [0, 2] (fun v0 v2 wr => ∃ (u : ByteArray) (out : List (List UInt8 × List UInt8)) (f : Nat), v0 = .string u ∧ u.size < f ∧ out.length ≤ 8 ∧ u.size ≤ s.size ∧ Hid (o = prepP out (parseL f out.length u.data.toList)) ∧ Hid (wr.ownsRow w.heap.size 48 2 v2 out.length (cells2 (toPrs out))) ∧ Hid (Below w.heap.size w wr)) (fun v0 _ _ => Lib.strSize v0)
  case atStart => exact ⟨s, [], F, rfl, hF, by simp, by omega, HO, E0, Lib.hid (Below.refl _ _)⟩
  case round =>
    obtain ⟨u, out, f, rfl, hf, h8, hsz, HQ, HR, HB⟩ := hrel
    have hGr := HG.out.next HB.out
    have h0 := Tryd.strings_HasPrefix u ⟨#[13, 10]⟩ wr
    have e1 : (⟨#[13, 10]⟩ : ByteArray).data.toList = [13, 10] := rfl
    rw [e1, crlf_pre] at h0
    clear e1
    obtain ⟨f, rfl⟩ : ∃ g, f = g + 1 := ⟨f - 1, by omega⟩
    have hst := HQ.out
    rw [parseL_way] at hst
    by_cases h2 : u.data.toList.take 2 = [13, 10]
    · rw [if_pos h2] at hst
      rw [decide_eq_true h2] at h0
      have hu2' : 2 ≤ u.size := by
        have := congrArg List.length h2
        rw [List.length_take, ← ba_size] at this
        simp only [List.length_cons, List.length_nil] at this
        omega
      have HE : Hid (o = .ok (out, u.data.toList.drop 2)) := Lib.hid (by rw [hst]; simp [prepP])
      have HX := Lib.hid (show u.extract 2 u.size = mkB (u.data.toList.drop 2) from Lib.extract_from u 2)
      obtain ⟨vA, vc, rfl⟩ := own_shape HR.out
      have HS2 := Lib.hid (Sl2.of_own (l := toPrs out) (by rw [toPrs_len]; exact HR.out))
      clear hst HQ h2
      go_wp2_with fail
      refine h0.mono ?_
      rintro e w1 ⟨rfl, rfl⟩
      clear h0
      go_wp2
      go_region
      go_wp2
      go_ret3
      rw [HE.out]
      refine ⟨⟨vA, vc, ?_, HS2.out⟩, HB.out.drew⟩
      rw [← HX.out]
      rfl
    · rw [if_neg h2] at hst
      rw [decide_eq_false h2] at h0
      have h1 := fun v (hg : GvF v) => cutField_any u v (by omega) hg
      rw [show u.data.toList.length = u.size from (ba_size u).symm] at hst
      clear h2
      cases hc : cutL (u.size + 1) u.data.toList with
      | none =>
        rw [hc] at hst h1
        have HE : Hid (o = .error 2) := Lib.hid hst
        have k1 := h1 wr hGr
        clear hst HQ hc h1
        go_wp2_with fail
        refine h0.mono ?_
        rintro e w1 ⟨rfl, rfl⟩
        clear h0
        go_wp2_with fail
        refine k1.mono ?_
        rintro e w2 ⟨he, hb⟩
        obtain rfl : e = _ := he
        have HB2 := Lib.hid (HB.out.trans (hb.mono HB.out.size))
        clear hb k1
        go_wp2
        go_ret3
        rw [HE.out]
        exact ⟨rfl, HB2.out⟩
      | some p =>
        obtain ⟨ls, rest⟩ := p
        rw [hc] at hst h1
        have hlen := cutL_len _ _ _ _ hc
        rw [← ba_size, ← flat_sum] at hlen
        have hne := cutL_ne _ _ _ _ hc
        have hl0 : 0 < ls.length := by
          cases ls with
          | nil => exact absurd rfl hne
          | cons a l => simp
        have hmem : ∀ x ∈ ls.map mkB, x.size ≤ 4000000000 := by
          intro x hx
          obtain ⟨y, hy, rfl⟩ := List.mem_map.1 hx
          rw [mkB_size]
          have : y.length ≤ ls.flatten.length := by
            exact flat_mem_len hy
          omega
        have k1 := h1 wr hGr
        simp only at hst
        clear hc HQ hne h1
        have h5 := fun g c v (hS : OwnS v g c (ls.map mkB)) => tooLong_any (some ⟨g, 0, none⟩) (ls.map mkB) c v hS.sl (by rw [List.length_map]; omega) hmem
        rw [longS_B, List.length_map] at h5
        have h6 := fun g c v (hS : OwnS v g c (ls.map mkB)) => joinS_any ls hS (by omega) (by omega)
        clear hmem
        by_cases hk8 : out.length = 8
        · rw [if_pos (.inl hk8)] at hst
          have HE : Hid (o = .error 3) := Lib.hid hst
          have hk : ((out.length : Int) == 8) = true := by simp [hk8]
          obtain ⟨vA, vc, rfl⟩ := own_shape HR.out
          clear hst h5 h6
          generalize out.length = no at *
          clear hk8
          go_wp2_with fail
          refine h0.mono ?_
          rintro e w1 ⟨rfl, rfl⟩
          clear h0
          go_wp2_with fail
          refine k1.mono ?_
          rintro e w2 ⟨⟨g, c, rfl, hS⟩, hb⟩
          have HB2 := Lib.hid (HB.out.trans (hb.mono HB.out.size))
          clear hb k1 hS
          go_wp2
          go_ret3
          rw [HE.out]
          exact ⟨rfl, HB2.out⟩
        · have hk : ((out.length : Int) == 8) = false := by simp; omega
          have h7 : out.length + 1 ≤ 8 := by omega
          obtain ⟨vA, vc, rfl⟩ := own_shape HR.out
          cases hlong : longB ls
          · rw [if_neg (show ¬ (out.length = 8 ∨ longB ls = true) from fun h => h.elim hk8 (fun h => by rw [hlong] at h; cases h))] at hst
            rw [hlong] at h5
            have h8' := fun v (hg : GvF v) => parsed_any (mkB ls.flatten) v (by rw [mkB_size]; omega) hg
            rw [mkB_list] at h8'
            clear hlong hk8
            cases hp : parsedF ls.flatten with
            | error n =>
              rw [hp] at hst h8'
              have HE : Hid (o = .error n) := Lib.hid hst
              have hn := parsedF_err hp
              clear hst hp
              generalize ls.flatten = fl at *
              rcases hn with rfl | rfl
              all_goals
                go_wp2_with fail
                refine h0.mono ?_
                rintro e w1 ⟨rfl, rfl⟩
                clear h0
                go_wp2_with fail
                refine k1.mono ?_
                rintro e w2 ⟨⟨g, c, rfl, hS⟩, hb⟩
                have HB2 := Lib.hid (HB.out.trans (hb.mono HB.out.size))
                have k5 := h5 g c w2 hS
                have HS2 := Lib.hid hS
                clear hb k1 hS h5
                go_wp2_with fail
                refine k5.mono ?_
                rintro e w3 ⟨rfl, hb⟩
                have HB3 := Lib.hid (HB2.out.trans (hb.mono HB2.out.size))
                have k6 := h6 g c w3 (HS2.out.below hb)
                clear hb k5 h6
                go_wp2_with fail
                refine k6.mono ?_
                rintro e w4 ⟨rfl, hb⟩
                have HB4 := Lib.hid (HB3.out.trans (hb.mono HB3.out.size))
                have k7 := h8' w4 (HG.out.next HB4.out)
                clear hb k6 h8'
                go_wp2_with fail
                refine k7.mono ?_
                rintro e w5 ⟨he, hb⟩
                obtain rfl : e = _ := he
                have HB5 := Lib.hid (HB4.out.trans (hb.mono HB4.out.size))
                clear hb k7
                go_wp2
                go_ret3
                rw [HE.out]
                exact ⟨rfl, HB5.out.alloc HB5.out.size _⟩
            | ok x =>
              rw [hp] at hst h8'
              have hxl := parsedF_len hp
              have HST : Hid (o = prepP (out ++ [x]) (parseL f (out.length + 1) rest)) := Lib.hid (by
                rw [hst]
                simp only
                cases parseL f (out.length + 1) rest with
                | error e => rfl
                | ok q => simp [prepP])
              have hrs : (mkB rest).size = rest.length := mkB_size rest
              have HRL := Lib.hid (mkB_list rest)
              have HMX := Lib.hid (show toPrs (out ++ [x]) = toPrs out ++ [(mkB x.1, mkB x.2)] from toPrs_snoc out x)
              clear hst hp
              generalize ls.flatten = fl at *
              generalize hbr : mkB rest = br at *
              have HBR := Lib.hid hbr
              clear hbr
              have h8'' : ∀ v, GvF v → Calls Tryd.prog 37 #[.string (mkB fl)] v fun e w' => e = .returned (.tuple #[.agg #[.string (mkB x.1), .string (mkB x.2)], .int .i64 0]) ∧ Below v.heap.size v w' := h8'
              clear h8'
              generalize mkB x.1 = b1 at *
              generalize mkB x.2 = b2 at *
              have HFL := Lib.hid hlen
              clear hlen hxl
              go_wp2_with fail
              refine h0.mono ?_
              rintro e w1 ⟨rfl, rfl⟩
              clear h0
              go_wp2_with fail
              refine k1.mono ?_
              rintro e w2 ⟨⟨g, c, he, hS⟩, hb⟩
              rw [HBR.out] at he
              subst he
              have HB2 := Lib.hid (HB.out.trans (hb.mono HB.out.size))
              have HR2 := Lib.hid (own_below HR.out hb)
              have k5 := h5 g c w2 hS
              have HS2 := Lib.hid hS
              clear hb k1 hS h5
              go_wp2_with fail
              refine k5.mono ?_
              rintro e w3 ⟨rfl, hb⟩
              have HB3 := Lib.hid (HB2.out.trans (hb.mono HB2.out.size))
              have HR3 := Lib.hid (own_below HR2.out hb)
              have k6 := h6 g c w3 (HS2.out.below hb)
              clear hb k5 h6
              go_wp2_with fail
              refine k6.mono ?_
              rintro e w4 ⟨rfl, hb⟩
              have HB4 := Lib.hid (HB3.out.trans (hb.mono HB3.out.size))
              have HR4 := Lib.hid (own_below HR3.out hb)
              have k7 := h8'' w4 (HG.out.next HB4.out)
              clear hb k6 h8''
              go_wp2_with fail
              refine k7.mono ?_
              rintro e w5 ⟨rfl, hb⟩
              have HB5 := Lib.hid (HB4.out.trans (hb.mono HB4.out.size))
              have HR5 := Lib.hid (own_below HR4.out hb)
              have hz5 := HB5.out.size
              clear hb k7
              have hSL : Sl ((w5.alloc (.cells #[.string b1, .string b2] 48)).alloc (.cells #[.string b1, .string b2] 48)) 2 (some ⟨w5.heap.size + 1, 0, none⟩) 1 [.string b1, .string b2] := by
                have h := Sl.lit (w5.alloc (.cells #[.string b1, .string b2] 48)) 2 [.string b1, .string b2] 48 1 rfl
                rwa [show (w5.alloc (.cells #[.string b1, .string b2] 48)).heap.size = w5.heap.size + 1 from by simp] at h
              go_wp2_with (at_builtin; apply Classical.byContradiction; intro hNG)
              refine hNG ?_
              refine wpList_append_sl _ rfl _ _ _ rfl w.heap.size 48 i2 _ 2 32 Tryd.underlying22 hk0 hu0 hu1 hu2 rfl (by omega) _ out.length (cells2 (toPrs out)) rfl ((HR5.out.alloc _).alloc _) (some ⟨w5.heap.size + 1, 0, none⟩) 1 1 [.string b1, .string b2] rfl hSL (cells2_one [(b1, b2)]) (by simp only [maxLen]; omega) (by omega) (by simp; omega) ?_
              intro v6 w6 hown6 hg6 hat6
              have HB6 := Lib.hid (((HB5.out.alloc hz5 (.cells #[.string b1, .string b2] 48)).alloc (by simp; omega) (.cells #[.string b1, .string b2] 48)).grown hg6 (by simp; omega) (fun k hk => (HR5.out.lt k hk).1))
              have HR6 := Lib.hid hown6
              clear hown6 hg6 hat6 hNG hSL
              go_wp2
              go_roundw
              case rel => exact ⟨br, out ++ [x], f, rfl, by have := HFL.out; omega, by rw [List.length_append, List.length_singleton]; omega, by have := HFL.out; omega, by rw [List.length_append, List.length_singleton, HRL.out]; exact HST, Lib.hid (by
                have := HR6.out
                rw [List.length_append, List.length_singleton, HMX.out, cells2_append]
                exact this), HB6⟩
              case measure =>
                show br.size < u.size
                have := HFL.out
                omega
          · rw [if_pos (.inr hlong)] at hst
            rw [hlong] at h5
            have HE : Hid (o = .error 3) := Lib.hid hst
            clear hst h6 hlong hk8
            go_wp2_with fail
            refine h0.mono ?_
            rintro e w1 ⟨rfl, rfl⟩
            clear h0
            go_wp2_with fail
            refine k1.mono ?_
            rintro e w2 ⟨⟨g, c, rfl, hS⟩, hb⟩
            have HB2 := Lib.hid (HB.out.trans (hb.mono HB.out.size))
            have k5 := h5 g c w2 hS
            clear hb k1 hS h5
            go_wp2_with fail
            refine k5.mono ?_
            rintro e w3 ⟨rfl, hb⟩
            have HB3 := Lib.hid (HB2.out.trans (hb.mono HB2.out.size))
            clear hb k5
            go_wp2
            go_ret3
            rw [HE.out]
            exact ⟨rfl, HB3.out⟩
end Go.Proofs.YtblongcnmpdihaaDoor
