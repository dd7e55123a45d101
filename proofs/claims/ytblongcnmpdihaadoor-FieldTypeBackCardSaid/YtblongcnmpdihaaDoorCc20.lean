/- FgE. -/
import Derived.Test.YtblongcnmpdihaaDoorCc19
namespace Wb
open Go
def DupTo (l : List Pr) (i k : Nat) : Prop := ∃ (a b : Nat) (x y : Pr), l[a]? = some x ∧ l[b]? = some y ∧ b < a ∧ (a < i ∨ a = i ∧ b < k) ∧ lowB x.1 = lowB y.1
theorem DupTo.none (l : List Pr) : ¬ DupTo l 0 0 := by
  rintro ⟨a, b, x, y, _, _, h1, h2, _⟩
  omega
theorem DupTo.next {l : List Pr} {i : Nat} : DupTo l (i + 1) 0 ↔ DupTo l i i := by
  constructor
  · rintro ⟨a, b, x, y, h1, h2, h3, h4, h5⟩
    exact ⟨a, b, x, y, h1, h2, h3, by omega, h5⟩
  · rintro ⟨a, b, x, y, h1, h2, h3, h4, h5⟩
    exact ⟨a, b, x, y, h1, h2, h3, by omega, h5⟩
theorem DupTo.step {l : List Pr} {i k : Nat} {x y : Pr} (hx : l[i]? = some x) (hy : l[k]? = some y) (hk : k < i) : DupTo l i (k + 1) ↔ DupTo l i k ∨ lowB x.1 = lowB y.1 := by
  constructor
  · rintro ⟨a, b, u, v, h1, h2, h3, h4, h5⟩
    by_cases h : a = i ∧ b = k
    · obtain ⟨rfl, rfl⟩ := h
      obtain rfl := Option.some.inj (h1.symm.trans hx)
      obtain rfl := Option.some.inj (h2.symm.trans hy)
      exact .inr h5
    · exact .inl ⟨a, b, u, v, h1, h2, h3, by omega, h5⟩
  · rintro (⟨a, b, u, v, h1, h2, h3, h4, h5⟩ | h)
    · exact ⟨a, b, u, v, h1, h2, h3, by omega, h5⟩
    · exact ⟨i, k, x, y, hx, hy, hk, by omega, h⟩
theorem lowB_iff (a b : ByteArray) : lowB a = lowB b ↔ lowF a.data.toList = lowF b.data.toList := by
  have h := low_eqB a b
  constructor
  · intro e
    rw [decide_eq_true e] at h
    exact of_decide_eq_true h.symm
  · intro e
    rw [decide_eq_true e] at h
    exact of_decide_eq_true h
theorem DupTo.dup (l : List Pr) : DupTo l l.length 0 ↔ dupF [] (l.map ofPr) = true := by
  rw [dup_iff]
  constructor
  · rintro ⟨a, b, x, y, h1, h2, h3, h4, h5⟩
    obtain ⟨ha, ea⟩ := List.getElem?_eq_some_iff.1 h1
    obtain ⟨hb, eb⟩ := List.getElem?_eq_some_iff.1 h2
    refine ⟨a, b, by rw [List.length_map]; exact ha, h3, ?_⟩
    rw [List.getElem_map, List.getElem_map, ea, eb]
    exact (lowB_iff _ _).1 h5
  · rintro ⟨i, k, hi, hk, h⟩
    rw [List.length_map] at hi
    rw [List.getElem_map, List.getElem_map] at h
    exact ⟨i, k, l[i], l[k], List.getElem?_eq_getElem hi, List.getElem?_eq_getElem (by omega), hk, by omega, (lowB_iff _ _).2 h⟩
def lowL (l : List Pr) : List Pr := l.map fun x => (lowB x.1, x.2)
theorem lowL_prs (l : List Pr) : toPrs ((l.map ofPr).map fun p => (lowF p.1, p.2)) = lowL l := by
  unfold toPrs lowL
  rw [List.map_map, List.map_map]
  rfl
theorem lowL_of (l : List Pr) : (lowL l).map ofPr = lowP (l.map ofPr) := by
  unfold lowL lowP
  rw [List.map_map, List.map_map]
  rfl
theorem lowL_len (l : List Pr) : (lowL l).length = l.length := List.length_map ..
theorem lowL_at {l : List Pr} {i : Nat} {x : Pr} (h : l[i]? = some x) : (lowL l)[i]? = some (lowB x.1, x.2) := by
  unfold lowL
  rw [List.getElem?_map, h]
  rfl
theorem get_lowL {l : List Pr} (hd : dupF [] (l.map ofPr) = false) {i : Nat} {x : Pr} (h : l[i]? = some x) : getF ((lowL l).map ofPr) x.1.data.toList = some x.2.data.toList := by
  obtain ⟨hi, e⟩ := List.getElem?_eq_some_iff.1 h
  have := get_low (l.map ofPr) hd i (by rw [List.length_map]; exact hi)
  rw [List.getElem_map, e, ← lowL_of] at this
  exact this
theorem printTQ_size {t : List UInt8} {l : List (List UInt8 × List UInt8)} {s : List UInt8} (h : printT t l = .ok s) : s.length ≤ t.length + 5 * sizeF l := by
  unfold printT at h
  split at h
  · cases h
  split at h
  · rename_i s' hs
    simp only [Except.ok.injEq] at h
    have := printPs_size _ _ hs
    rw [← h, List.length_append]
    omega
  · cases h
end Wb
namespace Go.Proofs.YtblongcnmpdihaaDoor
open Go.RowKit Wb
set_option maxRecDepth 100000 in
set_option maxHeartbeats 16000000 in
theorem typeback_walk (t : ByteArray) (A : Option Addr) (l : List Pr) (c : Nat) (w : World) (hA : Sl2 w A l) (ht0 : t.size ≤ 9223372036854775807) (hG : GvF w) :
    Calls Tryd.prog 5 #[.string t, .slice A l.length c] w fun e w' => e = .returned (.bool true) ∧ Below w.heap.size w w' := by
  have HG := Lib.hid hG
  have HA := Lib.hid hA
  clear hG hA
  go_enter Tryd.func5, Tryd.ntmps5
  go_wp2_with fail
  refine (awake7 w HG.out).mono ?_
  rintro e w1 ⟨rfl, hb⟩
  have HB1 := Lib.hid hb
  by_cases ht : (5000 : Int) < t.size
  · clear hb
    go_wp2
    go_ret
    exact ⟨rfl, HB1.out⟩
  have hfew := fewP_any A l c w1 (HA.out.below HB1.out)
  clear hb
  go_wp2_with fail
  refine hfew.mono ?_
  rintro e w2 ⟨hb, b, rfl, hfb⟩
  have HB2 := Lib.hid (HB1.out.trans (hb.mono HB1.out.size))
  clear hb hfew
  cases b
  · clear hfb
    go_wp2
    go_ret
    exact ⟨rfl, HB2.out⟩
  have hfe := hfb rfl
  clear hfb
  have hl5 : l.length < 5000 := by omega
  have hpr := printType_any t A l c w2 (HA.out.below HB2.out) (by omega) (by omega) (fun x hx => by have := tot7_mem hx; omega) (HG.out.next HB2.out)
  have HSZ := Lib.hid (fun (x : Pr) (hx : x ∈ l) => (show x.1.size ≤ 5000 ∧ x.2.size ≤ 5000 from by have := tot7_mem hx; omega))
  cases hpx : printTQ t.data.toList (l.map ofPr) with
  | error k =>
    rw [hpx] at hpr
    have hk := printTQ_err hpx
    clear hpx hfe
    rcases hk with rfl | rfl | rfl
    all_goals
      go_wp2_with fail
      refine hpr.mono ?_
      rintro e w3 ⟨he, hb⟩
      obtain rfl : e = _ := he
      have HB3 := Lib.hid (HB2.out.trans (hb.mono HB2.out.size))
      clear hb hpr
      go_wp2
      go_ret
      exact ⟨rfl, HB3.out⟩
  | ok st =>
    rw [hpx] at hpr
    have hpT := printTQ_ok hpx
    have hpS := printTQ_size hpT
    rw [sizeF_tot] at hpS
    have hts := ba_size t
    have hst : st.length ≤ 30000 := by omega
    have hback := type_back _ _ _ hpT
    have hpr : Calls Tryd.prog 18 #[.string t, .slice A l.length c] w2 fun e w' => e = .returned (.tuple #[.string (mkB st), .int .i64 0]) ∧ Below w2.heap.size w2 w' := hpr
    have hms : (mkB st).size = st.length := mkB_size st
    have happ : (⟨#[32, 9]⟩ : ByteArray) ++ mkB st ++ (⟨#[32]⟩ : ByteArray) = mkB (32 :: 9 :: (st ++ [32])) := by
      rw [show (⟨#[32, 9]⟩ : ByteArray) ++ mkB st = mkB ([32, 9] ++ st) from mkB_app [32, 9] st, show (⟨#[32]⟩ : ByteArray) = mkB [32] from rfl, mkB_app]
      rfl
    have hpt := fun u => parseType_any ((⟨#[32, 9]⟩ : ByteArray) ++ mkB st ++ (⟨#[32]⟩ : ByteArray)) u (by rw [happ, mkB_size]; simp only [List.length_cons, List.length_append, List.length_nil]; omega)
    rw [show ((⟨#[32, 9]⟩ : ByteArray) ++ mkB st ++ (⟨#[32]⟩ : ByteArray)).data.toList = 32 :: 9 :: (st ++ [32]) from by rw [happ]; rfl, hback] at hpt
    have g1 : ¬ 9223372036854775807 < (⟨#[32, 9]⟩ : ByteArray).size + (mkB st).size := by have : (⟨#[32, 9]⟩ : ByteArray).size = 2 := rfl; omega
    have hz1 : ((⟨#[32, 9]⟩ : ByteArray) ++ mkB st).size = 2 + (mkB st).size := by rw [ByteArray.size_append]; rfl
    have g2 : ¬ 9223372036854775807 < ((⟨#[32, 9]⟩ : ByteArray) ++ mkB st).size + (⟨#[32]⟩ : ByteArray).size := by have : (⟨#[32]⟩ : ByteArray).size = 1 := rfl; omega
    have g3 : ¬ 9223372036854775807 < 2 + (mkB st).size := by omega
    have g4 : ¬ 9223372036854775807 < 2 + (mkB st).size + 1 := by omega
    have HDUP := Lib.hid (DupTo.dup l)
    have HRL := Lib.hid (fun (x : Pr) (hx : x ∈ l) (u : World) => rlower_any x.1 u (by have := HSZ.out x hx; omega))
    clear hpx hpT hpS hback happ hst hms hts
    generalize mkB st = S at *
    go_wp2_with fail
    refine hpr.mono ?_
    rintro e w3 ⟨rfl, hb⟩
    have HB3 := Lib.hid (HB2.out.trans (hb.mono HB2.out.size))
    have k1 := hpt w3
    clear hb hpr hpt
    go_wp2_with fail
    refine k1.mono ?_
    clear k1
    rintro e w4 ⟨hto, hb⟩
    have HB4 := Lib.hid (HB3.out.trans (hb.mono HB3.out.size))
    have hz4 := HB4.out.size
    have hto2 : ∃ (E : Int) (T : ByteArray) (B : Option Addr) (n d : Nat), e = .returned (.tuple #[.string T, .slice B n d, .int .i64 E]) ∧ Hid ((dupF [] (l.map ofPr) = true ∧ E = 4 ∧ T = ⟨#[]⟩ ∧ B = none ∧ n = 0 ∧ d = 0) ∨ (dupF [] (l.map ofPr) = false ∧ E = 0 ∧ T = lowB t ∧ n = l.length ∧ Sl2 w4 B (lowL l))) := by
      cases hd : dupF [] (l.map ofPr)
      · rw [hd, if_neg (by simp)] at hto
        obtain ⟨B, d, h1, h2⟩ := hto
        refine ⟨0, lowB t, B, l.length, d, ?_, Lib.hid (.inr ⟨rfl, rfl, rfl, rfl, ?_⟩)⟩
        · rw [h1, List.length_map, List.length_map]; rfl
        · rwa [lowL_prs] at h2
      · rw [hd, if_pos rfl] at hto
        exact ⟨4, ⟨#[]⟩, none, 0, 0, hto, Lib.hid (.inl ⟨rfl, rfl, rfl, rfl, rfl, rfl⟩)⟩
    obtain ⟨E, T, B, n, d, rfl, HE⟩ := hto2
    clear hto hb
    go_wp2
    go_loopw [10, 11] (fun v10 v11 wr => ∃ (i : Nat) (b : Bool), i ≤ l.length ∧ v11 = .int .i64 i ∧ v10 = .bool b ∧ Hid (b = true ↔ DupTo l i 0) ∧ Hid (Below w4.heap.size w4 wr)) (fun _ v11 _ => l.length - (intOf v11).toNat)
    case atStart => exact ⟨0, false, by omega, rfl, rfl, Lib.hid ⟨fun h => (by cases h), fun h => absurd h (DupTo.none l)⟩, Lib.hid (Below.refl _ _)⟩
    case round =>
      obtain ⟨i, b, hi, rfl, rfl, HD, HB⟩ := hrel
      by_cases hil : i < l.length
      · go_wp2
        go_loopw [10, 12] (fun v10 v12 wq => ∃ (k : Nat) (b : Bool), k ≤ i ∧ v12 = .int .i64 k ∧ v10 = .bool b ∧ Hid (b = true ↔ DupTo l i k) ∧ Hid (Below w4.heap.size w4 wq)) (fun _ v12 _ => i - (intOf v12).toNat)
        case atStart => exact ⟨0, b, by omega, rfl, rfl, HD, HB⟩
        case round =>
          obtain ⟨k, b2, hk, rfl, rfl, HD2, HBq⟩ := hrel
          by_cases hki : k < i
          · have hbq := HB4.out.trans (HBq.out.mono hz4)
            obtain ⟨x, hx⟩ : ∃ x, l[i]? = some x := ⟨l[i], List.getElem?_eq_getElem hil⟩
            obtain ⟨y, hy⟩ : ∃ y, l[k]? = some y := ⟨l[k], List.getElem?_eq_getElem (by omega)⟩
            have hst := DupTo.step hx hy hki
            have hrx := HRL.out x (List.mem_of_getElem? hx)
            have hry := HRL.out y (List.mem_of_getElem? hy)
            obtain ⟨ad, rfl, had, d0, _⟩ := (HA.out.below hbq).at_ hx
            obtain ⟨ae, hae, _, e0, _⟩ := (HA.out.below hbq).at_ hy
            obtain rfl := Option.some.inj hae
            have hbi : (ad.add (i * 2)).block < wr.heap.size := by rw [add_block]; exact had
            have hbk : (ad.add (k * 2)).block < wr.heap.size := by rw [add_block]; exact had
            have HSV := Lib.hid (fun (u : World) (h : Below wr.heap.size wr u) => (show u.cell? (ad.add (i * 2)) = some (.string x.1) ∧ u.cell? (ad.add (k * 2)) = some (.string y.1) from ⟨(h.cell hbi).trans d0, (h.cell hbk).trans e0⟩))
            have hi0 : (0 : Int) ≤ (i : Int) := by omega
            have hi1 : (i : Int) < (l.length : Int) := by omega
            have hk0 : (0 : Int) ≤ (k : Int) := by omega
            have hk1 : (k : Int) < (l.length : Int) := by omega
            have hq4 := HBq.out.size
            obtain ⟨q, hq, hqi⟩ : ∃ q, ((lowB x.1).toList == (lowB y.1).toList) = q ∧ (q = true ↔ lowB x.1 = lowB y.1) := ⟨_, rfl, by
              rw [beq_iff_eq, Lib.toList_data, Lib.toList_data]
              exact ⟨fun h => eq_of_lists h, fun h => by rw [h]⟩⟩
            rw [← hqi] at hst
            have HST := Lib.hid hst
            have HRX := Lib.hid hrx
            have HRY := Lib.hid hry
            clear hx hy hst hrx hry had d0 e0 hae hbi hbk hbq hqi
            generalize lowB x.1 = lo1 at *
            generalize lowB y.1 = lo2 at *
            cases b2
            case false =>
              go_wp2_with fail
              (try simp only [List.append])
              refine wp_region_held_drew (S := (fun u => u.cell? (ad.add (i * 2)) = some (.string x.1) ∧ u.cell? (ad.add (k * 2)) = some (.string y.1))) (by kernel_rfl) (HSV.out _ (Below.refl _ wr).drew) (fun hHeld => ?_)
              refine takeW 0 ?_
              refine takeW 1 ?_
              refine takeW 2 ?_
              refine takeW 3 ?_
              (try simp only [Act.put, List.setIfInBounds_toArray, List.set_cons_zero, List.set_cons_succ])
              refine takeW 4 ?_
              refine takeW 5 ?_
              refine takeW 6 ?_
              refine takeW 8 ?_
              (try simp only [Act.put, List.setIfInBounds_toArray, List.set_cons_zero, List.set_cons_succ])
              refine takeW 9 ?_
              refine takeW 10 ?_
              refine takeW 11 ?_
              refine takeW 12 ?_
              (try simp only [Act.put, List.setIfInBounds_toArray, List.set_cons_zero, List.set_cons_succ])
              refine wpAnyH_ready (rs := [7]) (by kernel_rfl) (by simp) ?_
              refine AllReadyH.cons rfl (fun K2 hK2 => ?_) AllReadyH.nil
              go_simp
              refine (HRX.out _).mono ?_
              rintro e w7 ⟨rfl, hb7⟩
              have HB7 : Hid (Below wr.heap.size wr w7) := Lib.hid ((Below.refl _ wr).drew.trans hb7)
              clear hb7
              refine hK2.out _ _ (HSV.out _ HB7.out) (fun hHeld2 => ?_)
              (try simp only [Act.put, List.setIfInBounds_toArray, List.set_cons_zero, List.set_cons_succ])
              refine wpAnyH_ready (rs := [13]) (by kernel_rfl) (by simp) ?_
              refine AllReadyH.cons rfl (fun K2 hK2 => ?_) AllReadyH.nil
              go_simp
              refine (HRY.out _).mono ?_
              rintro e w13 ⟨rfl, hb13⟩
              have HB13 : Hid (Below wr.heap.size wr w13) := Lib.hid (HB7.out.trans (hb13.mono HB7.out.size))
              clear hb13
              refine hK2.out _ _ (HSV.out _ HB13.out) (fun hHeld2 => ?_)
              (try simp only [Act.put, List.setIfInBounds_toArray, List.set_cons_zero, List.set_cons_succ])
              refine takeW 14 ?_
              refine takeW 15 ?_
              refine takeW 16 ?_
              (try simp only [Act.put, List.setIfInBounds_toArray, List.set_cons_zero, List.set_cons_succ])
              refine wpAnyH_done (by kernel_rfl) ?_ _
              go_wp2
              go_roundw
              case rel => exact ⟨k + 1, q, by omega, by go_num, rfl, Lib.hid (by
                rw [HST.out]
                exact ⟨.inr, fun h => h.elim (fun h => by have := HD2.out.2 h; cases this) id⟩), Lib.hid (HBq.out.trans (HB13.out.mono hq4))⟩
              case measure => simp [intOf]; omega
            case true =>
              go_wp2_with fail
              (try simp only [List.append])
              refine wp_region_held_drew (S := (fun u => u.cell? (ad.add (i * 2)) = some (.string x.1) ∧ u.cell? (ad.add (k * 2)) = some (.string y.1))) (by kernel_rfl) (HSV.out _ (Below.refl _ wr).drew) (fun hHeld => ?_)
              refine takeW 0 ?_
              refine takeW 1 ?_
              refine takeU 2 ?_
              refine takeU 3 ?_
              (try simp only [Act.put, List.setIfInBounds_toArray, List.set_cons_zero, List.set_cons_succ])
              refine takeU 4 ?_
              refine takeU 5 ?_
              refine takeU 6 ?_
              refine takeU 8 ?_
              (try simp only [Act.put, List.setIfInBounds_toArray, List.set_cons_zero, List.set_cons_succ])
              refine takeU 9 ?_
              refine takeU 10 ?_
              refine takeU 11 ?_
              refine takeU 12 ?_
              (try simp only [Act.put, List.setIfInBounds_toArray, List.set_cons_zero, List.set_cons_succ])
              refine wpAnyH_ready (rs := [7]) (by kernel_rfl) (by simp) ?_
              refine AllReadyH.cons rfl (fun K2 hK2 => ?_) AllReadyH.nil
              go_simp
              refine hK2.out _ _ (by assumption) (fun hHeld2 => ?_)
              (try simp only [Act.put, List.setIfInBounds_toArray, List.set_cons_zero, List.set_cons_succ])
              refine wpAnyH_ready (rs := [13]) (by kernel_rfl) (by simp) ?_
              refine AllReadyH.cons rfl (fun K2 hK2 => ?_) AllReadyH.nil
              go_simp
              refine hK2.out _ _ (by assumption) (fun hHeld2 => ?_)
              (try simp only [Act.put, List.setIfInBounds_toArray, List.set_cons_zero, List.set_cons_succ])
              refine takeU 14 ?_
              refine takeW 15 ?_
              refine takeW 16 ?_
              (try simp only [Act.put, List.setIfInBounds_toArray, List.set_cons_zero, List.set_cons_succ])
              refine wpAnyH_done (by kernel_rfl) ?_ _
              go_wp2
              go_roundw
              case rel => exact ⟨k + 1, true, by omega, by go_num, rfl, Lib.hid (by
                have h := HD2.out
                rw [HST.out]
                simp at h ⊢
                exact .inl h), Lib.hid (HBq.out.trans ((Below.refl _ wr).drew.mono hq4))⟩
              case measure => simp [intOf]; omega
          · go_wp2
            go_roundw
            case rel => exact ⟨i + 1, b2, by omega, by go_num, rfl, Lib.hid (by
              obtain rfl : k = i := by omega
              rw [DupTo.next]; exact HD2.out), HBq⟩
            case measure => simp [intOf]; omega
      · obtain rfl : i = l.length := by omega
        have hd := HD.out.trans HDUP.out
        have FIN := Lib.hid (fun (u : World) (h : Below w4.heap.size w4 u) => HB4.out.trans (h.mono hz4))
        rcases HE.out with ⟨h1, rfl, rfl, rfl, rfl, rfl⟩ | ⟨h1, rfl, rfl, rfl, hS⟩
        · obtain rfl : b = true := hd.2 h1
          clear hd h1
          go_wp2
          go_ret
          exact ⟨rfl, FIN.out _ HB.out⟩
        · have hbf : b = false := by
            cases b
            · rfl
            · rw [hd.1 rfl] at h1; cases h1
          subst hbf
          have HS := Lib.hid hS
          have HGL := Lib.hid (fun (i : Nat) (x : Pr) (h : l[i]? = some x) => get_lowL h1 h)
          have hlt := fun (u : World) => rlower_any t u (by omega)
          clear hd h1 hS
          generalize hlo : lowB t = lo at *
          have HLT := Lib.hid hlt
          clear hlt hlo
          have hne := beq_self_eq_true lo.toList
          go_wp2_with fail
          refine (HLT.out _).mono ?_
          rintro e w5 ⟨rfl, hb⟩
          have HB5 := Lib.hid (HB.out.trans (hb.mono HB.out.size))
          clear hb
          go_wp2
          go_loopw [13] (fun v13 wr => ∃ (i : Nat), i ≤ l.length ∧ v13 = .int .i64 i ∧ Hid (Below w4.heap.size w4 wr)) (fun v13 _ => l.length - (intOf v13).toNat)
          case atStart => exact ⟨0, by omega, rfl, HB5⟩
          case round =>
            obtain ⟨i, hi, rfl, HBq⟩ := hrel
            by_cases hil : i < l.length
            · have hbq := HB4.out.trans (HBq.out.mono hz4)
              obtain ⟨x, hx⟩ : ∃ x, l[i]? = some x := ⟨l[i], List.getElem?_eq_getElem hil⟩
              have hrx := HRL.out x (List.mem_of_getElem? hx)
              have hgx := HGL.out i x hx
              have hx2 := HSZ.out x (List.mem_of_getElem? hx)
              have hpx := fun (u : World) (h : Below w4.heap.size w4 u) => paramOf_any B (lowL l) d x.1 u (HS.out.below h) (by rw [lowL_len]; omega) (by omega) (fun y hy => by
                unfold lowL at hy
                obtain ⟨z, hz, rfl⟩ := List.mem_map.1 hy
                have := HSZ.out z hz
                show (lowB z.1).size ≤ _
                rw [lowB_size]
                omega)
              rw [hgx, lowL_len] at hpx
              have hpx : ∀ u, Below w4.heap.size w4 u → Calls Tryd.prog 21 #[.slice B l.length d, .string x.1] u fun e w' => e = .returned (.tuple #[.string x.2, .bool true]) ∧ Below u.heap.size u w' := fun u hu => hpx u hu
              obtain ⟨ad, rfl, had, d0, d1⟩ := (HA.out.below hbq).at_ hx
              obtain ⟨ae, rfl, hae, e0, e1⟩ := (HS.out.below HBq.out).at_ (lowL_at hx)
              simp only at e0 e1
              have hbi : (ad.add (i * 2)).block < wr.heap.size := by rw [add_block]; exact had
              have hbk : (ae.add (i * 2)).block < wr.heap.size := by rw [add_block]; exact hae
              have HSV := Lib.hid (fun (u : World) (h : Below wr.heap.size wr u) => (show u.cell? (ad.add (i * 2)) = some (.string x.1) ∧ u.cell? ⟨(ad.add (i * 2)).block, (ad.add (i * 2)).off + 1, none⟩ = some (.string x.2) ∧ u.cell? (ae.add (i * 2)) = some (.string (lowB x.1)) ∧ u.cell? ⟨(ae.add (i * 2)).block, (ae.add (i * 2)).off + 1, none⟩ = some (.string x.2) from
                ⟨(h.cell hbi).trans d0, (h.cell (p := ⟨(ad.add (i * 2)).block, (ad.add (i * 2)).off + 1, none⟩) hbi).trans d1, (h.cell hbk).trans e0, (h.cell (p := ⟨(ae.add (i * 2)).block, (ae.add (i * 2)).off + 1, none⟩) hbk).trans e1⟩))
              have hi0 : (0 : Int) ≤ (i : Int) := by omega
              have hi1 : (i : Int) < (l.length : Int) := by omega
              have hq4 := HBq.out.size
              have HRX := Lib.hid hrx
              have HPX := Lib.hid hpx
              clear hx hrx hpx hgx had hae d0 d1 e0 e1 hbi hbk hbq hne
              generalize lowB x.1 = lox at *
              have hne2 := beq_self_eq_true lox.toList
              have hne3 := beq_self_eq_true x.2.toList
              go_wp2_with fail
              (try simp only [List.append])
              refine wp_region_held_drew (S := (fun u => u.cell? (ad.add (i * 2)) = some (.string x.1) ∧ u.cell? ⟨(ad.add (i * 2)).block, (ad.add (i * 2)).off + 1, none⟩ = some (.string x.2) ∧ u.cell? (ae.add (i * 2)) = some (.string lox) ∧ u.cell? ⟨(ae.add (i * 2)).block, (ae.add (i * 2)).off + 1, none⟩ = some (.string x.2))) (by kernel_rfl) (HSV.out _ (Below.refl _ wr).drew) (fun hHeld => ?_)
              refine takeW 0 ?_
              refine takeW 1 ?_
              refine takeW 2 ?_
              refine takeW 3 ?_
              (try simp only [Act.put, List.setIfInBounds_toArray, List.set_cons_zero, List.set_cons_succ])
              refine takeW 4 ?_
              refine takeW 5 ?_
              refine takeW 6 ?_
              refine takeW 7 ?_
              (try simp only [Act.put, List.setIfInBounds_toArray, List.set_cons_zero, List.set_cons_succ])
              refine takeW 8 ?_
              refine takeW 9 ?_
              (try simp only [Act.put, List.setIfInBounds_toArray, List.set_cons_zero, List.set_cons_succ])
              refine wpAnyH_ready (rs := [10]) (by kernel_rfl) (by simp) ?_
              refine AllReadyH.cons rfl (fun K2 hK2 => ?_) AllReadyH.nil
              go_simp
              refine (HRX.out _).mono ?_
              rintro e w7 ⟨rfl, hb7⟩
              have HB7 : Hid (Below wr.heap.size wr w7) := Lib.hid ((Below.refl _ wr).drew.trans hb7)
              clear hb7
              refine hK2.out _ _ (HSV.out _ HB7.out) (fun hHeld2 => ?_)
              refine takeW 11 ?_
              refine takeW 12 ?_
              (try simp only [Act.put, List.setIfInBounds_toArray, List.set_cons_zero, List.set_cons_succ])
              refine takeW 13 ?_
              refine takeW 14 ?_
              refine takeW 15 ?_
              refine takeW 16 ?_
              (try simp only [Act.put, List.setIfInBounds_toArray, List.set_cons_zero, List.set_cons_succ])
              refine takeW 17 ?_
              refine takeW 18 ?_
              refine takeW 19 ?_
              refine takeW 20 ?_
              (try simp only [Act.put, List.setIfInBounds_toArray, List.set_cons_zero, List.set_cons_succ])
              refine takeW 21 ?_
              refine takeW 22 ?_
              refine takeW 23 ?_
              refine takeW 24 ?_
              (try simp only [Act.put, List.setIfInBounds_toArray, List.set_cons_zero, List.set_cons_succ])
              refine wpAnyH_done (by kernel_rfl) ?_ _
              have k6 := HPX.out w7 (HBq.out.trans (HB7.out.mono hq4))
              have hz7 := HB7.out.size
              obtain ⟨c0, c1, _, _⟩ := HSV.out _ HB7.out
              go_wp2_with fail
              refine k6.mono ?_
              rintro e w8 ⟨rfl, hb8⟩
              have HB8 := Lib.hid (HBq.out.trans ((HB7.out.trans (hb8.mono hz7)).mono hq4))
              obtain ⟨c0, c1, _, _⟩ := HSV.out _ (HB7.out.trans (hb8.mono hz7))
              clear hb8 k6
              go_wp2
              go_roundw
              case rel => exact ⟨i + 1, by omega, by go_num, HB8⟩
              case measure => simp [intOf]; omega
            · obtain rfl : i = l.length := by omega
              go_wp2
              go_ret
              exact ⟨rfl, FIN.out _ HBq.out⟩
end Go.Proofs.YtblongcnmpdihaaDoor
