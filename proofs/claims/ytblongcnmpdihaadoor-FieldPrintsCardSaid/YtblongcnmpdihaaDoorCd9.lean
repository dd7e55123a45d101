/- FeH FeI. -/
import Derived.Maps.OwnSet
import Derived.StringKeys
import Derived.Test.YtblongcnmpdihaaDoorCd8
namespace Wb
open Go
def toPr (x : List UInt8 × List UInt8) : Pr := (⟨x.1.toArray⟩, ⟨x.2.toArray⟩)
def toPrs (l : List (List UInt8 × List UInt8)) : List Pr := l.map toPr
theorem lowOK_nil : lowOK [] := fun p hp => by cases hp
theorem lowOK_snoc {out : List (List UInt8 × List UInt8)} {x : List UInt8 × List UInt8} (h : lowOK out) (hx : lowF x.1 = x.1) : lowOK (out ++ [x]) := fun p hp => by
  rcases List.mem_append.1 hp with hp | hp
  · exact h p hp
  · rw [List.mem_singleton.1 hp]; exact hx
def paramsG (f : Nat) (out : List (List UInt8 × List UInt8)) (u : List UInt8) : Except Int (List (List UInt8 × List UInt8)) :=
  if u = [] then .ok out else match pmF u with
    | none => .error 4
    | some (x, r3) => if hasF out x.1 = true then .error 4 else paramsF f (out ++ [x]) r3
theorem paramsF_G (f : Nat) (out : List (List UInt8 × List UInt8)) (s : List UInt8) : paramsF (f + 1) out s = paramsG f out (s.dropWhile blankB) := params_way f out s
theorem paramsG_done (f : Nat) (out : List (List UInt8 × List UInt8)) : paramsG f out [] = .ok out := by unfold paramsG; rw [if_pos rfl]
theorem paramsG_bad (f : Nat) (out : List (List UInt8 × List UInt8)) (u : List UInt8) (hu : u ≠ []) (h : pmF u = none) : paramsG f out u = .error 4 := by unfold paramsG; rw [if_neg hu, h]
theorem paramsG_twice (f : Nat) (out : List (List UInt8 × List UInt8)) (u : List UInt8) (x : List UInt8 × List UInt8) (r : List UInt8) (hu : u ≠ []) (h : pmF u = some (x, r)) (ht : hasF out x.1 = true) : paramsG f out u = .error 4 := by
  unfold paramsG; rw [if_neg hu, h]; simp only; rw [if_pos ht]
theorem paramsG_next (f : Nat) (out : List (List UInt8 × List UInt8)) (u : List UInt8) (x : List UInt8 × List UInt8) (r : List UInt8) (hf : u.length ≤ f) (hu : u ≠ []) (h : pmF u = some (x, r)) (ht : hasF out x.1 = false) :
    ∃ g, (r.dropWhile blankB).length ≤ g ∧ paramsG f out u = paramsG g (out ++ [x]) (r.dropWhile blankB) := by
  have h1 := pmF_len u x r h
  have h2 := dropW_le blankB r
  obtain ⟨g, rfl⟩ : ∃ g, f = g + 1 := ⟨f - 1, by omega⟩
  refine ⟨g, by omega, ?_⟩
  conv => lhs; unfold paramsG
  rw [if_neg hu, h]
  simp only
  rw [ht, if_neg (by simp), paramsF_G]
end Wb
namespace Go.Proofs.YtblongcnmpdihaaDoor
open Go.RowKit Wb Go.Maps
theorem str_key (x : ByteArray) (h : x.size ≤ maxLen) : keyOf Tryd.prog 9 (.string x) = some (.string x.data.toList) := Go.WideMaps.keyOf_string_mk Tryd.underlying9 h
def SetS (w : World) (b n : Nat) (l : List (List UInt8)) : Prop :=
  ∃ D : DataW Unit, w.ownsMap Tryd.prog 9 unitElem b n D ∧ ∀ x : List UInt8, Maps.has D (.string x) = l.any (fun y => decide (y = x))
theorem SetS.made (w : World) : SetS (w.alloc (.map #[] 0)) w.heap.size 0 [] := ⟨.map [], World.ownsMap_made _ _ _ _, fun x => by simp [has_eq]⟩
theorem SetS.below {w w2 : World} {b n : Nat} {l : List (List UInt8)} (h : SetS w b n l) (hb : Below w.heap.size w w2) : SetS w2 b n l := by
  obtain ⟨D, ⟨es, clock, h1, h2⟩, h3⟩ := h
  exact ⟨D, ⟨es, clock, still_block h1 hb, h2⟩, h3⟩
theorem SetS.grown {w w2 : World} {b n : Nat} {l : List (List UInt8)} {row : Option Nat} (h : SetS w b n l) (hg : w.grownBy w2 row) (hne : some b ≠ row) : SetS w2 b n l := by
  obtain ⟨D, h1, h3⟩ := h
  exact ⟨D, h1.kept hg hne, h3⟩
theorem SetS.put {w : World} {b n : Nat} {l : List (List UInt8)} {D : DataW Unit} {x : List UInt8} (hown : w.ownsMap Tryd.prog 9 unitElem b n (D.put (.string x) (.agg []))) (hD : IsMap D)
    (hhas : ∀ x : List UInt8, Maps.has D (.string x) = l.any (fun y => decide (y = x))) : SetS w b n (l ++ [x]) := by
  refine ⟨_, hown, fun y => ?_⟩
  rw [List.any_append, ← hhas y]
  by_cases e : y = x
  · subst e
    rw [has_put_same hD (show WideAt.IsKeyLit (.string y) from trivial)]
    simp
  · rw [has_put_other (fun h => e (by injection h))]
    have : decide (x = y) = false := decide_eq_false (fun h => e h.symm)
    simp [this]
theorem zero_unit (w : World) : (zeroValue 97).run Tryd.prog w = .ok (.agg #[]) w := by kernel_rfl
theorem par_info : (Tryd.prog.info? 45).map (fun i => (i.zero, i.size, i.bytes)) = some (some (.agg #[.string ⟨#[]⟩, .string ⟨#[]⟩]), 2, 32) := by kernel_rfl
def ParOut (o : Except Int (List (List UInt8 × List UInt8))) (e : Ending) (w' : World) : Prop :=
  match o with
  | .ok l => ∃ A c, e = .returned (.tuple #[.slice A l.length c, .bool true]) ∧ Sl2 w' A (toPrs l)
  | .error _ => e = .returned (.tuple #[.slice none 0 0, .bool false])
set_option maxRecDepth 100000 in
set_option maxHeartbeats 4000000 in
theorem params_any (s : ByteArray) (f : Nat) (w : World) (hs : s.size ≤ 1000000000) (hf : s.size ≤ f) :
    Calls Tryd.prog 46 #[.string s] w fun e w' => ParOut (paramsF (f + 1) [] s.data.toList) e w' ∧ Below w.heap.size w w' := by
  obtain ⟨i0, hi, hz0, hz1, hz2⟩ := info_parts par_info
  obtain ⟨o, ho⟩ : ∃ o, paramsF (f + 1) [] s.data.toList = o := ⟨_, rfl⟩
  rw [ho]
  have HO := Lib.hid ho
  clear ho
  have h1 := fun v => skip_any s v hs
  have z1 := spanR_size blankB s
  have HQ := Lib.hid (show o = paramsG f [] (spanR blankB s).data.toList by rw [← HO.out, paramsF_G]; rfl)
  generalize spanR blankB s = u0 at *
  have hM := Lib.hid (SetS.made w)
  have HB0 := Lib.hid ((Below.refl w.heap.size w).alloc (Nat.le_refl _) (.map #[] 0))
  have hmm := @run_makeMap Tryd.prog
  go_enter Tryd.func46, Tryd.ntmps46
  go_wp2_with fail
  refine (h1 _).mono ?_
  rintro e w1 ⟨rfl, hb⟩
  have HM := Lib.hid (hM.out.below hb)
  have HB := Lib.hid (HB0.out.trans (hb.mono HB0.out.size))
  have HZ : w.heap.size + 1 ≤ w1.heap.size := by have := hb.size; simp at this; omega
  clear hb hM HB0 h1
  have e0 : w1.ownsRow (w.heap.size + 1) 45 2 (.slice none 0 0) ([] : List (List UInt8 × List UInt8)).length (cells2 (toPrs [])) := World.ownsRow_nil _ _ _ _
  have E0 := Lib.hid e0
  have L0 := Lib.hid lowOK_nil
  clear e0
  go_wp2
  go_loopw [0, 4] (fun v0 v4 wr => ∃ (u : ByteArray) (out : List (List UInt8 × List UInt8)) (g : Nat), v0 = .string u ∧ u.size ≤ g ∧ u.size + out.length ≤ s.size ∧ Hid (lowOK out) ∧ Hid (o = paramsG g out u.data.toList) ∧ Hid (wr.ownsRow (w.heap.size + 1) 45 2 v4 out.length (cells2 (toPrs out))) ∧ Hid (SetS wr w.heap.size out.length (out.map Prod.fst)) ∧ Hid (Below w.heap.size w wr) ∧ w.heap.size + 1 ≤ wr.heap.size) (fun v0 _ _ => Lib.strSize v0)
  case atStart => exact ⟨u0, [], f, rfl, by omega, by simp; omega, L0, HQ, E0, HM, HB, HZ⟩
  case round =>
    obtain ⟨u, out, g, rfl, hg, hsz, HL, HQ, HR, HS, HB, hz⟩ := hrel
    by_cases hu : u.toList.isEmpty = true
    · have hun : u.data.toList = [] := by rw [empty_list] at hu; exact List.isEmpty_iff.1 hu
      have HE : Hid (o = .ok out) := Lib.hid (by rw [HQ.out, hun, paramsG_done])
      obtain ⟨A, c, rfl⟩ := own_shape HR.out
      have HS2 := Lib.hid (Sl2.of_own (l := toPrs out) (by unfold toPrs at *; rw [List.length_map]; exact HR.out))
      clear hun
      go_wp2
      go_ret2
      rw [HE.out]
      exact ⟨⟨_, _, rfl, HS2.out⟩, HB.out⟩
    · have hu : u.toList.isEmpty = false := by simpa using hu
      have hun : u.data.toList ≠ [] := by
        intro e
        rw [empty_list, e] at hu
        cases hu
      have h3 := cutParam_any u wr (by omega)
      cases hp : pmF u.data.toList with
      | none =>
        rw [hp] at h3
        have HE : Hid (o = .error 4) := Lib.hid (by rw [HQ.out, paramsG_bad _ _ _ hun hp])
        clear hp hun HQ
        go_wp2_with fail
        refine h3.mono ?_
        rintro e w3 ⟨⟨n, v, r, hn, rfl⟩, hb3⟩
        have HB3 := Lib.hid ((HB.out.trans (hb3.mono HB.out.size)))
        obtain ⟨D, hown, hhas⟩ := HS.out.below hb3
        have hkey := str_key n (by simp only [maxLen]; omega)
        clear hb3 h3 hhas
        go_wp2_with (at_lookup; refine wpList_lookup_own_unit _ rfl _ _ _ rfl 9 97 (string_keyed Tryd.underlying9) Tryd.underlying94 (zero_unit _) w.heap.size out.length D rfl (hown.alloc _) _ _ rfl hkey ?_)
        all_goals
          go_ret2
          rw [HE.out]
          exact ⟨rfl, (HB3.out.alloc HB3.out.size _).alloc (by have := HB3.out.size; simp; omega) _⟩
      | some p =>
        obtain ⟨x, rr⟩ := p
        rw [hp] at h3
        have hlen := pmF_len _ _ _ hp
        rw [← ba_size] at hlen
        have hxs : (⟨x.1.toArray⟩ : ByteArray).size ≤ 1000000000 := by rw [Lib.size_mk]; omega
        have hlow := pmF_small _ _ _ hp
        cases ht : hasF out x.1
        · obtain ⟨g2, hg2, hnext⟩ := paramsG_next g out u.data.toList x rr (by rw [← ba_size]; exact hg) hun hp ht
          have HE : Hid (o = paramsG g2 (out ++ [x]) (rr.dropWhile blankB)) := Lib.hid (by rw [HQ.out, hnext])
          have HLn : Hid (lowOK (out ++ [x])) := Lib.hid (lowOK_snoc HL.out hlow)
          have hth : (out.map Prod.fst).any (fun y => decide (y = x.1)) = false := by rw [← ht, has_any out x.1 HL.out hlow, List.any_map]; rfl
          clear hp hun hnext HQ HL ht hlow
          go_wp2_with fail
          refine h3.mono ?_
          rintro e w3 ⟨he, hb3⟩
          obtain rfl : e = _ := he
          have HB3 := Lib.hid ((HB.out.trans (hb3.mono HB.out.size)))
          obtain ⟨D, hown, hhas⟩ := HS.out.below hb3
          have hkey := str_key ⟨x.1.toArray⟩ (by simp only [maxLen]; omega)
          have hD : Maps.has D (.string x.1) = false := by rw [hhas, hth]
          have HH := Lib.hid hhas
          have HM3 := Lib.hid hown.isMap
          have HR3 := Lib.hid (own_below HR.out hb3)
          have hz3 : w.heap.size + 1 ≤ w3.heap.size := Nat.le_trans hz hb3.size
          have hAA := still_block (heap_alloc_new w3 (.cells #[.string ⟨x.1.toArray⟩, .string ⟨x.2.toArray⟩] 45)) ((Below.refl _ _).alloc (Nat.le_refl _) (.cells #[] 97))
          have hB4 := (HB3.out.alloc HB3.out.size (.cells #[.string ⟨x.1.toArray⟩, .string ⟨x.2.toArray⟩] 45)).alloc (by have := HB3.out.size; simp; omega) (.cells #[] 97)
          have hne4 : some w3.heap.size ≠ some w.heap.size := fun e => by simp only [Option.some.injEq] at e; omega
          clear hb3 h3 hhas hth
          go_wp2_with (first
            | (at_lookup; refine wpList_lookup_own_unit _ rfl _ _ _ rfl 9 97 (string_keyed Tryd.underlying9) Tryd.underlying94 (zero_unit _) w.heap.size out.length D rfl (hown.alloc _) _ _ rfl hkey ?_)
            | (at_mapUpdate; refine wpList_mapUpdate_own _ rfl _ _ _ _ rfl 9 97 (string_keyed Tryd.underlying9) Tryd.underlying94 unitElem w.heap.size out.length D rfl ((hown.alloc _).alloc _) (by simp only [maxLen]; omega) _ _ (.string x.1) rfl rfl hkey (.agg []) [] unitElem_mk ?_; intro w4 hown4 hg4; have hA4 := grown_block hAA hg4 hne4; have c0 := blk_cell hA4 0; have c1 := blk_cell hA4 1; simp only [List.getElem?_toArray, List.getElem?_cons_zero, List.getElem?_cons_succ] at c0 c1)
            | (at_builtin; apply Classical.byContradiction; intro hNG))
          have hB5 := hB4.grown hg4 (by have := HB3.out.size; simp; omega) (fun k hk => by simp only [Option.some.injEq] at hk; omega)
          have hz4 : w.heap.size + 1 ≤ w4.heap.size := by have := hg4.size; simp at this; omega
          obtain ⟨vA, vc, rfl⟩ := own_shape HR3.out
          have hR4 : w4.ownsRow (w.heap.size + 1) 45 2 (.slice vA out.length vc) out.length (cells2 (toPrs out)) := by
            refine own_blk' ((HR3.out.alloc (.cells #[.string ⟨x.1.toArray⟩, .string ⟨x.2.toArray⟩] 45)).alloc (.cells #[] 97)) fun k hk => ?_
            have := own_in' ((HR3.out.alloc (.cells #[.string ⟨x.1.toArray⟩, .string ⟨x.2.toArray⟩] 45)).alloc (.cells #[] 97)) hk
            exact hg4.block k this.2 (fun e => by simp only [Option.some.injEq] at e; omega)
          have HS4 : SetS w4 w.heap.size (out.length + 1) (out.map Prod.fst ++ [x.1]) := SetS.put hown4 HM3.out HH.out
          refine hNG ?_
          refine wpList_append_sl _ rfl _ _ _ rfl (w.heap.size + 1) 45 i0 _ 2 32 Tryd.underlying38 hi hz0 hz1 hz2 rfl (by omega) _ out.length (cells2 (toPrs out)) rfl (hR4.alloc _) (some ⟨w4.heap.size, 0, none⟩) 1 1 [.string ⟨x.1.toArray⟩, .string ⟨x.2.toArray⟩] rfl (Sl.lit w4 2 [.string ⟨x.1.toArray⟩, .string ⟨x.2.toArray⟩] _ 1 rfl) (cells2_one [(⟨x.1.toArray⟩, ⟨x.2.toArray⟩)]) (by simp only [maxLen]; omega) (by omega) (by simp; omega) ?_
          intro v5 w5 hown5 hg5 hat5
          have hB6 := (hB5.alloc (by omega) (.cells #[.string ⟨x.1.toArray⟩, .string ⟨x.2.toArray⟩] 45)).grown hg5 (by simp; omega) (fun k hk => by have := (hR4.lt k hk).1; omega)
          have hz5 : w.heap.size + 1 ≤ w5.heap.size := by have := hg5.size; simp at this; omega
          have HS5 := Lib.hid ((HS4.below ((Below.refl _ _).alloc (Nat.le_refl _) (.cells #[.string ⟨x.1.toArray⟩, .string ⟨x.2.toArray⟩] 45))).grown hg5 (fun e => by have := (hR4.lt w.heap.size e.symm).1; omega))
          have HB6 := Lib.hid hB6
          have HR5 := Lib.hid hown5
          clear hown hown4 hg4 hA4 hAA hB4 hB5 hR4 HS4 hown5 hg5 hat5 hB6 hNG c0 c1 hkey hD
          have h6 := skip_any ⟨rr.toArray⟩ w5 (by rw [Lib.size_mk]; omega)
          go_wp2_with fail
          refine h6.mono ?_
          rintro e w6 ⟨rfl, hb6⟩
          have HB7 := Lib.hid (HB6.out.trans (hb6.mono HB6.out.size))
          have HS7 := Lib.hid (HS5.out.below hb6)
          have HR7 := Lib.hid (own_below HR5.out hb6)
          have hz7 : w.heap.size + 1 ≤ w6.heap.size := Nat.le_trans hz5 hb6.size
          have hrz := dropW_le blankB rr
          clear hb6 h6
          go_wp2
          go_roundw
          case rel => exact ⟨spanR blankB ⟨rr.toArray⟩, out ++ [x], g2, rfl, by rw [ba_size, spanR_list]; exact hg2, by
            rw [ba_size, spanR_list, List.length_append, List.length_singleton]
            show (rr.dropWhile blankB).length + _ ≤ _
            omega, HLn, HE, Lib.hid (by
              have := HR7.out
              rw [List.length_append, List.length_singleton]
              unfold toPrs at *
              rw [List.map_append, cells2_append]
              exact this), Lib.hid (by
              have := HS7.out
              rw [List.length_append, List.length_singleton, List.map_append]
              exact this), HB7, hz7⟩
          case measure =>
            show (spanR blankB ⟨rr.toArray⟩).size < u.size
            rw [ba_size, spanR_list]
            show (rr.dropWhile blankB).length < _
            omega
        · have HE : Hid (o = .error 4) := Lib.hid (by rw [HQ.out, paramsG_twice _ _ _ _ _ hun hp ht])
          have hth : (out.map Prod.fst).any (fun y => decide (y = x.1)) = true := by rw [← ht, has_any out x.1 HL.out hlow, List.any_map]; rfl
          clear hp hun HQ HL ht hlow
          go_wp2_with fail
          refine h3.mono ?_
          rintro e w3 ⟨he, hb3⟩
          obtain rfl : e = _ := he
          have HB3 := Lib.hid ((HB.out.trans (hb3.mono HB.out.size)))
          obtain ⟨D, hown, hhas⟩ := HS.out.below hb3
          have hkey := str_key ⟨x.1.toArray⟩ (by simp only [maxLen]; omega)
          have hD : Maps.has D (.string x.1) = true := by rw [hhas, hth]
          clear hb3 h3 hhas hth
          go_wp2_with (at_lookup; refine wpList_lookup_own_unit _ rfl _ _ _ rfl 9 97 (string_keyed Tryd.underlying9) Tryd.underlying94 (zero_unit _) w.heap.size out.length D rfl (hown.alloc _) _ _ rfl hkey ?_)
          all_goals
            go_ret2
            rw [HE.out]
            exact ⟨rfl, (HB3.out.alloc HB3.out.size _).alloc (by have := HB3.out.size; simp; omega) _⟩
end Go.Proofs.YtblongcnmpdihaaDoor
namespace Wb
open Go
theorem typQ_list (s : ByteArray) : typQ s = typQL s.data.toList := by
  unfold typQ
  rw [empty_list, empty_list]
  rfl
theorem typA_L (s : ByteArray) : (typA s).data.toList = typAL s.data.toList := typA_list s
theorem typR_L (s : ByteArray) : (typR s).data.toList = typRL s.data.toList := typR_list s
theorem paramsF_err : ∀ (f : Nat) (out : List (List UInt8 × List UInt8)) (s : List UInt8) (e : Int), s.length < f → paramsF f out s = .error e → e = 4
  | 0, _, _, _, h, _ => by omega
  | f + 1, out, s, e, hf, h => by
    rw [params_way] at h
    split at h
    · cases h
    · split at h
      · cases h; rfl
      · rename_i x r3 hp
        split at h
        · cases h; rfl
        · have h1 := pmF_len _ _ _ hp
          have h2 := dropW_le blankB s
          exact paramsF_err f _ r3 e (by omega) h
theorem typRL_len (s : List UInt8) : (typRL s).length ≤ s.length := by
  unfold typRL
  simp only
  refine Nat.le_trans (dropW_le tkC _) ?_
  have := dropW_le tkC s
  split
  · simp; omega
  · exact this
theorem typR_size (s : ByteArray) : (typR s).size ≤ s.size := by rw [ba_size, ba_size s, typR_L]; exact typRL_len _
theorem typA_size (s : ByteArray) : (typA s).size ≤ s.size + s.size + 1 := by
  rw [ba_size, ba_size s, typA_list, List.length_append, List.length_cons]
  have h1 := takeW_le tkC s.data.toList
  have h2 := takeW_le tkC (preR 47 (s.data.toList.dropWhile tkC))
  have h3 := dropW_le tkC s.data.toList
  have h4 : (preR 47 (s.data.toList.dropWhile tkC)).length ≤ (s.data.toList.dropWhile tkC).length := by unfold preR; split <;> simp
  omega
def TypOut (o : Except Int (List UInt8 × List (List UInt8 × List UInt8))) (e : Ending) (w' : World) : Prop :=
  match o with
  | .ok (t, l) => ∃ A c, e = .returned (.tuple #[.string ⟨t.toArray⟩, .slice A l.length c, .int .i64 0]) ∧ Sl2 w' A (toPrs l)
  | .error n => e = .returned (.tuple #[.string ⟨#[]⟩, .slice none 0 0, .int .i64 n])
end Wb
namespace Go.Proofs.YtblongcnmpdihaaDoor
open Go.RowKit Wb
set_option maxRecDepth 100000 in
set_option maxHeartbeats 1000000 in
theorem parseType_any (s : ByteArray) (w : World) (hs : s.size ≤ 100000000) :
    Calls Tryd.prog 19 #[.string s] w fun e w' => TypOut (parseT s.data.toList) e w' ∧ Below w.heap.size w w' := by
  have z1 := spanR_size blankB s
  have z2 := typR_size (spanR blankB s)
  have z3 := typA_size (spanR blankB s)
  have h1 := fun v => skip_any s v (by omega)
  have h2 := fun v => cutType_any (spanR blankB s) v (by omega)
  have h3 := fun v => params_any (typR (spanR blankB s)) s.size v (by omega) (by omega)
  have h4 := fun v => small_any (typA (spanR blankB s)) v (by omega)
  obtain ⟨hw1, hw2⟩ := head_way s.data.toList
  have eq1 : typQ (spanR blankB s) = typQL (s.data.toList.dropWhile blankB) := typQ_list _
  have ea : (typA (spanR blankB s)).data.toList = typAL (s.data.toList.dropWhile blankB) := typA_L _
  have er : (typR (spanR blankB s)).data.toList = typRL (s.data.toList.dropWhile blankB) := typR_L _
  have HLA := Lib.hid (show lowB (typA (spanR blankB s)) = ⟨(lowF (typAL (s.data.toList.dropWhile blankB))).toArray⟩ by unfold lowB; rw [ea])
  rw [er] at h3
  obtain ⟨o, ho⟩ : ∃ o, parseT s.data.toList = o := ⟨_, rfl⟩
  rw [ho]
  unfold parseT at ho
  rw [hw1, show s.data.toList.length = s.size from (ba_size s).symm] at ho
  rw [eq1] at h2
  cases hq : typQL (s.data.toList.dropWhile blankB)
  · rw [hq] at h2 ho
    rw [if_pos rfl] at ho
    have HO := Lib.hid ho
    clear ho hw1 hw2 eq1 ea er h3 h4 hq HLA z2 z3
    generalize typA (spanR blankB s) = ta at *
    generalize typR (spanR blankB s) = tr at *
    generalize spanR blankB s = sk at *
    go_enter Tryd.func19, Tryd.ntmps19
    go_wp2_with fail
    refine (h1 _).mono ?_
    rintro e w1 ⟨rfl, hb⟩
    have HB1 := Lib.hid hb
    clear hb h1
    go_wp2_with fail
    refine (h2 _).mono ?_
    rintro e w2 ⟨rfl, hb⟩
    have HB2 := Lib.hid (HB1.out.trans (hb.mono HB1.out.size))
    clear hb h2
    go_wp2
    go_ret3
    rw [← HO.out]
    exact ⟨rfl, HB2.out⟩
  · rw [hq] at h2 ho
    rw [if_neg (by simp), hw2 hq] at ho
    simp only at ho
    have herr := paramsF_err (s.size + 1) [] (typRL (s.data.toList.dropWhile blankB))
    have hlen : (typRL (s.data.toList.dropWhile blankB)).length < s.size + 1 := by rw [← er, ← ba_size]; omega
    clear hw1 hw2 eq1 ea er hq z2 z3
    generalize lowF (typAL (s.data.toList.dropWhile blankB)) = lt at *
    generalize lowB (typA (spanR blankB s)) = lb at *
    generalize typA (spanR blankB s) = ta at *
    generalize typR (spanR blankB s) = tr at *
    generalize spanR blankB s = sk at *
    cases hp : paramsF (s.size + 1) [] (typRL (s.data.toList.dropWhile blankB)) with
    | error n =>
      have hn := herr n hlen hp
      rw [hp] at h3 ho
      subst hn
      have HO := Lib.hid ho
      clear ho herr hlen hp h4
      go_enter Tryd.func19, Tryd.ntmps19
      go_wp2_with fail
      refine (h1 _).mono ?_
      rintro e w1 ⟨rfl, hb⟩
      have HB1 := Lib.hid hb
      clear hb h1
      go_wp2_with fail
      refine (h2 _).mono ?_
      rintro e w2 ⟨rfl, hb⟩
      have HB2 := Lib.hid (HB1.out.trans (hb.mono HB1.out.size))
      clear hb h2
      go_wp2_with fail
      refine (h3 _).mono ?_
      rintro e w3 ⟨he, hb⟩
      obtain rfl : e = _ := he
      have HB3 := Lib.hid (HB2.out.trans (hb.mono HB2.out.size))
      clear hb h3
      go_wp2
      go_ret3
      rw [← HO.out]
      exact ⟨rfl, HB3.out⟩
    | ok l =>
      rw [hp] at h3 ho
      have HO := Lib.hid ho
      clear ho herr hlen hp
      go_enter Tryd.func19, Tryd.ntmps19
      go_wp2_with fail
      refine (h1 _).mono ?_
      rintro e w1 ⟨rfl, hb⟩
      have HB1 := Lib.hid hb
      clear hb h1
      go_wp2_with fail
      refine (h2 _).mono ?_
      rintro e w2 ⟨rfl, hb⟩
      have HB2 := Lib.hid (HB1.out.trans (hb.mono HB1.out.size))
      clear hb h2
      go_wp2_with fail
      refine (h3 _).mono ?_
      rintro e w3 ⟨⟨A, c, rfl, hA⟩, hb⟩
      have HB3 := Lib.hid (HB2.out.trans (hb.mono HB2.out.size))
      have HA := Lib.hid hA
      clear hb h3 hA
      go_wp2_with fail
      refine (h4 _).mono ?_
      rintro e w4 ⟨rfl, hb⟩
      have HB4 := Lib.hid (HB3.out.trans (hb.mono HB3.out.size))
      have HA4 := Lib.hid (HA.out.below hb)
      clear hb h4
      go_wp2
      go_ret3
      rw [← HO.out]
      refine ⟨⟨A, c, ?_, HA4.out⟩, HB4.out⟩
      rw [HLA.out]
      rfl
end Go.Proofs.YtblongcnmpdihaaDoor
