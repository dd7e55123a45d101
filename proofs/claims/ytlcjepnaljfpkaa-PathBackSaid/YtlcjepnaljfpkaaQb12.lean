/- PfG PcA PcB. -/
import Derived.Deep.Cut
import Derived.Deep.DeepCutAuto
import Derived.Test.YtlcjepnaljfpkaaQb4
import Derived.Test.YtlcjepnaljfpkaaQb5
import Derived.Test.YtlcjepnaljfpkaaQb10
import Derived.Test.YtlcjepnaljfpkaaQb11
namespace Wb
theorem getA_drop {nm : ByteArray × ByteArray} {l : List Tr} {i : Nat} {a : Tr} (h : l[i]? = some a) : getA nm (l.drop i) = if a.1 = nm then some a.2 else getA nm (l.drop (i + 1)) := by
  obtain ⟨hi, e⟩ := List.getElem?_eq_some_iff.1 h
  rw [List.drop_eq_getElem_cons hi, e]
  rfl
theorem pair_eq {a b c d : ByteArray} : (a.toList == c.toList && b.toList == d.toList) = decide ((a, b) = (c, d)) := by
  by_cases h1 : a = c
  · subst h1
    by_cases h2 : b = d
    · subst h2; simp
    · rw [toList_ne h2, decide_eq_false (fun e => h2 (by injection e))]; simp
  · rw [toList_ne h1, decide_eq_false (fun e => h1 (by injection e))]; rfl
end Wb
namespace Go.Proofs.Ytlcjepnaljfpkaa
open Go.RowKit Wb
set_option maxRecDepth 100000 in
set_option maxHeartbeats 4000000 in
theorem get_any (n : Nd) (nm : ByteArray × ByteArray) (A K : Option Addr) (ca ck : Nat) (w : World) (hV : NodeV w n A K) (hl : n.attrs.length ≤ 1000001) :
    Calls Try.prog 13 #[ndV n A ca K ck, .agg #[.string nm.1, .string nm.2]] w fun e w' => e = .returned (.tuple #[.string ((getA nm n.attrs).getD ⟨#[]⟩), .bool (getA nm n.attrs).isSome]) ∧ Below w.heap.size w w' := by
  obtain ⟨r, hr⟩ : ∃ r, getA nm n.attrs = r := ⟨_, rfl⟩
  rw [hr]
  obtain ⟨hb2, h0, h1, hs2⟩ := two_allocs w (.cells #[.int .i64 n.kind, .string n.name.1, .string n.name.2, .slice A n.attrs.length ca, .slice K n.kids.length ck, .string n.text] 27) (.cells #[.string nm.1, .string nm.2] 23)
  have HB := Lib.hid hb2
  have H0 := Lib.hid h0
  have H1 := Lib.hid h1
  have HA := Lib.hid (hV.1.below hb2)
  have HR := Lib.hid hr
  clear hb2 h0 h1 hs2 hV hr
  obtain ⟨m1, m2⟩ := nm
  unfold ndV ndCells
  go_enter Try.func13, Try.ntmps13
  go_upto_region 1 with fail
  revert HB H0 H1 HA
  generalize (w.alloc (.cells #[.int .i64 n.kind, .string n.name.1, .string n.name.2, .slice A n.attrs.length ca, .slice K n.kids.length ck, .string n.text] 27)).alloc (.cells #[.string m1, .string m2] 23) = wz
  intro HB H0 H1 HA
  generalize hT : w.heap.size = T at *
  have HT := Lib.hid hT
  clear hT
  obtain ⟨n0, n1, n2, n3, n4, n5⟩ := cells_of_nd H0.out
  go_wp2
  clear n0 n1 n2 n3 n4 n5
  go_loopw [11] (fun vi wr => ∃ i : Nat, i ≤ n.attrs.length ∧ vi = .int .i64 i ∧ Hid (getA (m1, m2) (n.attrs.drop i) = r) ∧ Hid (Below wz.heap.size wz wr)) (fun vi _ => ((n.attrs.length : Int) - intOf vi).toNat)
  case atStart => exact ⟨0, by omega, rfl, HR, Lib.hid (Below.refl _ _)⟩
  case round =>
    obtain ⟨i, hi, rfl, HS, HBr⟩ := hrel
    by_cases h0 : i < n.attrs.length
    · obtain ⟨a, ha⟩ : ∃ a, n.attrs[i]? = some a := ⟨n.attrs[i], List.getElem?_eq_getElem h0⟩
      obtain ⟨ad, rfl, had, d0, d1, d2⟩ := (HA.out.below HBr.out).at_ ha
      have hst := HS.out
      rw [getA_drop ha] at hst
      obtain ⟨⟨a1, a2⟩, a3⟩ := a
      simp only at d0 d1 d2 hst
      have HST := Lib.hid hst
      have HBq := Lib.hid (HBr.out.alloc HBr.out.size (.cells #[.string a1, .string a2, .string a3] 29))
      have HQ := Lib.hid (heap_alloc_new wr (.cells #[.string a1, .string a2, .string a3] 29))
      clear hst ha had HS
      go_upto_region 4 with fail
      revert HBq HQ
      generalize wr.alloc (.cells #[.string a1, .string a2, .string a3] 29) = wq
      intro HBq HQ
      generalize wr.heap.size = G at *
      clear d0 d1 d2 HBr
      have HSV := Lib.hid (fun (v : World) (h : Below wq.heap.size wq v) => (show v.cell? ⟨G, 0, none⟩ = some (.string a1) ∧ v.cell? ⟨G, 1, none⟩ = some (.string a2) ∧ v.cell? ⟨G, 2, none⟩ = some (.string a3) ∧ v.cell? ⟨T + 1, 0, none⟩ = some (.string m1) ∧ v.cell? ⟨T + 1, 1, none⟩ = some (.string m2) from by
        have e1 := still_block HQ.out h
        have e2 := still_block H1.out (HBq.out.trans (h.mono HBq.out.size))
        have c0 := blk_cell e1 0
        have c1 := blk_cell e1 1
        have c2 := blk_cell e1 2
        have c3 := blk_cell e2 0
        have c4 := blk_cell e2 1
        simp only [List.getElem?_toArray, List.getElem?_cons_zero, List.getElem?_cons_succ] at c0 c1 c2 c3 c4
        exact ⟨c0, c1, c2, c3, c4⟩))
      have heq := fun w2 => eq_arr a1 a2 m1 m2 w2
      rw [pair_eq] at heq
      obtain ⟨b, hb⟩ : ∃ b, decide ((a1, a2) = (m1, m2)) = b := ⟨_, rfl⟩
      rw [hb] at heq
      have HBB := Lib.hid hb
      clear hb
      go_cut [20] (fun c wx => c = .bool b ∧ Hid (Below wq.heap.size wq wx))
      case first =>
        (try simp only [List.append])
        refine wp_region_held_drew (S := (fun v => v.cell? ⟨G, 0, none⟩ = some (.string a1) ∧ v.cell? ⟨G, 1, none⟩ = some (.string a2) ∧ v.cell? ⟨G, 2, none⟩ = some (.string a3) ∧ v.cell? ⟨T + 1, 0, none⟩ = some (.string m1) ∧ v.cell? ⟨T + 1, 1, none⟩ = some (.string m2))) (by kernel_rfl) (HSV.out _ (Below.refl _ wq).drew) (fun hHeld => ?_)
        refine takeW 0 ?_
        refine takeW 1 ?_
        refine takeW 3 ?_
        (try simp only [Act.put, List.setIfInBounds_toArray, List.set_cons_zero, List.set_cons_succ])
        refine wpAnyH_ready (rs := [2]) (by kernel_rfl) (by simp) ?_
        refine AllReadyH.cons rfl (fun K2 hK2 => ?_) AllReadyH.nil
        go_simp
        refine (key_any a1 a2 _).mono ?_
        rintro e w8 ⟨rfl, hb8⟩
        have HB8 : Hid (Below wq.heap.size wq w8) := Lib.hid (by first | exact (Below.refl wq.heap.size wq).drew.trans hb8 | exact HB11.out.trans (hb8.mono HB11.out.size))
        clear hb8
        refine hK2.out _ _ (HSV.out _ HB8.out) (fun hHeld2 => ?_)
        (try simp only [Act.put, List.setIfInBounds_toArray, List.set_cons_zero, List.set_cons_succ])
        refine wpAnyH_ready (rs := [4]) (by kernel_rfl) (by simp) ?_
        refine AllReadyH.cons rfl (fun K2 hK2 => ?_) AllReadyH.nil
        go_simp
        refine (key_any m1 m2 _).mono ?_
        rintro e w11 ⟨rfl, hb11⟩
        have HB11 : Hid (Below wq.heap.size wq w11) := Lib.hid (by first | exact (Below.refl wq.heap.size wq).drew.trans hb11 | exact HB8.out.trans (hb11.mono HB8.out.size))
        clear hb11
        refine hK2.out _ _ (HSV.out _ HB11.out) (fun hHeld2 => ?_)
        refine takeW 5 ?_
        (try simp only [Act.put, List.setIfInBounds_toArray, List.set_cons_zero, List.set_cons_succ])
        refine wpAnyH_done (by kernel_rfl) ?_ _
        go_wp2_with fail
        go_meet
        exact ⟨rfl, by first | exact HB11 | exact HB8⟩
      case rest =>
        obtain ⟨rfl, HBc⟩ := hcut
        obtain ⟨w5, rfl⟩ : ∃ w5, w5 = wc := ⟨wc, rfl⟩
        obtain ⟨c0, c1, c2, c3, c4⟩ := HSV.out _ HBc.out
        clear heq
        have HB5 := Lib.hid (HBq.out.trans (HBc.out.mono HBq.out.size))
        rcases b with _ | _
        · have HN : Hid (getA (m1, m2) (n.attrs.drop (i + 1)) = r) := Lib.hid (by rw [← HST.out, if_neg (of_decide_eq_false HBB.out)])
          clear HBB HST
          go_wp2
          go_roundw
          case rel => exact ⟨i + 1, by omega, by go_num, HN, HB5⟩
          case measure => simp [intOf]; omega
        · have HN : Hid (some a3 = r) := Lib.hid (by rw [← HST.out, if_pos (of_decide_eq_true HBB.out)])
          clear HBB HST
          go_wp2
          go_ret2
          exact ⟨by rw [← HN.out]; rfl, by rw [HT.out]; exact HB.out.trans (HB5.out.mono (by rw [← HT.out]; exact HB.out.size))⟩
    · have HN : Hid (r = none) := Lib.hid (by rw [← HS.out, List.drop_eq_nil_of_le (by omega)]; rfl)
      go_wp2
      go_ret2
      exact ⟨by rw [HN.out]; rfl, by rw [HT.out]; exact HB.out.trans (HBr.out.mono (by rw [← HT.out]; exact HB.out.size))⟩
end Go.Proofs.Ytlcjepnaljfpkaa
namespace Go.Proofs.Ytlcjepnaljfpkaa
open Go.RowKit Wb
theorem valL_ins (x : Nd) (i : Nat) (ks : List Nd) : (valL (insK x i ks)).length ≤ (valL ks).length + costB x := by
  unfold insK
  have h : (valL ks).length = (valL (ks.take i)).length + (valL (ks.drop i)).length := by
    rw [← List.length_append, ← valL_app, List.take_append_drop]
  rw [valL_app, List.length_append, valL, List.length_append, h, costB_is]
  split
  · rename_i hk
    unfold ownB
    rw [if_neg (by omega), Go.Lib.size_eq]
    omega
  · simp
set_option maxRecDepth 100000 in
set_option maxHeartbeats 8000000 in
theorem insert_clos (x : Nd) (XA XK : Option Addr) (xca xck BB KB : Nat) (p : Int) (W : World) (bB : BB < W.heap.size) (hBB : W.cell? ⟨BB, 0, none⟩ = some (.int .i64 p)) (bK : W.heap[KB]? = some (.cells #[.int .i64 x.kind, .string x.name.1, .string x.name.2, .slice XA x.attrs.length xca, .slice XK x.kids.length xck, .string x.text] 27 (0, 0)))
    (hVx : NodeV W x XA XK) (hgx : GN x) : ClosOK (insF x p) 24 #[.pointer (some ⟨BB, 0, none⟩), .pointer (some ⟨KB, 0, none⟩)] W := by
  intro v q e cs lo hi hv h6 hown hhi hq hgn hk1
  obtain ⟨av, kv, css, rfl, h1, h2, h3, h4, h5, hko⟩ := (ownC_iff e cs lo hi).1 hown
  obtain ⟨A, ca, rfl⟩ := own_shape h1
  obtain ⟨K, ck, rfl⟩ := own_shape h2
  rw [show ∀ a b c : Value, #[a] ++ #[b, c] = #[a, b, c] from fun a b c => by simp]
  have hqb := h6.lt
  have hsm : e.kids.length ≤ 1000000 := Nat.le_trans hgn.len (by decide)
  have hsm9 := hgn.len
  have hcB := (hv.cell (p := ⟨BB, 0, none⟩) bB).trans hBB
  have hhas := fun (u : World) => has_any 1 e.name.1 e.name.2 e.text A K e.attrs.length ca e.kids.length ck p u
  have HSV := Lib.hid (fun (u : World) (hu : Below v.heap.size v u) => (show u.cell? ⟨BB, 0, none⟩ = some (.int .i64 p) ∧ u.cell? q = some (.int .i64 1) ∧ u.cell? ⟨q.block, q.off + 1, none⟩ = some (.string e.name.1) ∧ u.cell? ⟨q.block, q.off + 2, none⟩ = some (.string e.name.2) ∧
      u.cell? ⟨q.block, q.off + 3, none⟩ = some (.slice A e.attrs.length ca) ∧ u.cell? ⟨q.block, q.off + 4, none⟩ = some (.slice K e.kids.length ck) ∧ u.cell? ⟨q.block, q.off + 5, none⟩ = some (.string e.text) from by
    obtain ⟨a0, a1, a2, a3, a4, a5⟩ := (h6.below hu).cells
    rw [hk1] at a0
    exact ⟨(hu.cell (p := ⟨BB, 0, none⟩) (Nat.lt_of_lt_of_le bB hv.size)).trans hcB, a0, a1, a2, a3, a4, a5⟩))
  clear hk1
  by_cases hin : 0 ≤ p ∧ p ≤ (e.kids.length : Int)
  · obtain ⟨i, rfl⟩ : ∃ i : Nat, p = (i : Int) := ⟨p.toNat, by omega⟩
    have hil : i ≤ e.kids.length := by omega
    have hf : insF x (i : Int) e = some (e.withKids (joinK (insK x i e.kids))) := by
      unfold insF
      rw [if_pos hin, show ((i : Int)).toNat = i from by omega]
    rw [hf]
    have hone : ∀ u ∈ css.flatten, u.oneCell' = true := by
      intro u hu
      obtain ⟨c, hc, hu⟩ := List.mem_flatten.1 hu
      obtain ⟨k, hk⟩ := List.getElem?_of_mem hc
      have hkl := (List.getElem?_eq_some_iff.1 hk).1
      obtain ⟨n, hn⟩ : ∃ n, e.kids[k]? = some n := ⟨e.kids[k]'(by omega), List.getElem?_eq_getElem (by omega)⟩
      obtain ⟨c2, l1, h1', c1, _, _, _, _, b5, _⟩ := kidsO_at hko k n hn
      rw [hk] at c1
      injection c1 with c1
      subst c1
      exact one_of_node (ownC_node _ _ _ _ b5) u hu
    have hcp := fun (u : World) (hu : Below v.heap.size v u) => copyO_any x XA XK xca xck u (hVx.below (hv.trans (hu.mono hv.size))) hgx.1
    have hK6 := fun (u : World) (hu : Below v.heap.size v u) => cells_of_nd (still_block bK (hv.trans (hu.mono hv.size)))
    have hins := fun (u : World) (V : Nat) (ys : List Value) (hu : Below v.heap.size v u) (hV : u.heap[V]? = some (.cells ys.toArray 27 (0, 0))) (hVl : v.heap.size ≤ V) (hy : ys.length = 6) (hy1 : ∀ u ∈ ys, u.oneCell' = true) =>
      insert_any K e.kids.length ck i V 0 css.flatten ys u (own_base (own_below h2 hu) (Nat.zero_le _)) hV (fun z => by have := (own_in h2 z).2; omega) hy hy1 hone hil hsm (Nat.zero_le _)
    have hil2 := insK_len x i e.kids hil
    have hvz := valL_ins x i e.kids
    have hvl := hgn.val
    have hxc := hgx.2
    have hleft := fun (u1 u2 u3 u4 : World) (av2 kv2 : Value) (h : Nat) (hu1 : Below v.heap.size v u1) (hb2 : Below u1.heap.size u1 u2) (hx : ownT u2 x (ndC x av2 kv2) u1.heap.size u2.heap.size) (hb3 : Below u2.heap.size u2 u3) (hr : RowOnly (.slice K e.kids.length ck) u3 u4)
        (hh : (Value.slice K e.kids.length ck).ownBlock = some h ∨ u3.heap.size ≤ h) (hhl : h < u4.heap.size) (hrow : ∀ z u, (css.flatten.take (i * 6) ++ ndC x av2 kv2 ++ css.flatten.drop (i * 6))[z]? = some u → u4.cell? ⟨h, z, none⟩ = some u) =>
      ins_left hko hhi (fun b hb => ⟨(own_in h2 hb).1, h5 b hb⟩) hil (hu1.trans (hb2.mono hu1.size)) (ownC_lohi hx hu1.size (Nat.le_refl _)) hb3 hr hh hhl hrow
    have hjo := fun (u4 : World) (h c4 : Nat) (hs : SafeM (MustI lo hi v.heap.size) u4 (fun u => SlN u (some ⟨h, 0, none⟩) (insK x i e.kids))) (hc : e.kids.length + 1 ≤ c4) (hu : v.heap.size ≤ u4.heap.size) =>
      joined_any (some ⟨h, 0, none⟩) (insK x i e.kids) c4 (MustI lo hi v.heap.size) u4 (fun b hb => .inr (Nat.le_trans hu hb)) hs (by rw [hil2]; omega) (by rw [hil2]; exact hc) (by omega)
    have hfin := fun (u4 u5 : World) (K2 : Option Addr) (c2 : Nat) (hr : RowOnly (.slice K e.kids.length ck) v u4) (hb : Below u4.heap.size u4 u5) (hs : SafeM (MustI lo hi v.heap.size) u5 (fun u => SlN u K2 (joinK (insK x i e.kids)))) =>
      kids_left (c2 := c2) h6 hown hq hr hb hs
    have hst := fun (u4 u5 : World) (hr : RowOnly (.slice K e.kids.length ck) v u4) (hb : Below u4.heap.size u4 u5) => (show u5.cell? ⟨q.block, q.off + 4, none⟩ = some (.slice K e.kids.length ck) ∧ u5.frozen? ⟨q.block, q.off + 4, none⟩ = false from by
      have h23 := hr.then hb
      have hq2 : (Value.slice K e.kids.length ck).ownBlock ≠ some q.block := fun x => hq ⟨(own_in h2 x).1, h5 _ x⟩
      have h6' := h6.keep (h23.block q.block h6.lt hq2)
      exact ⟨h6'.cells.2.2.2.2.1, h6'.free 4⟩)
    rw [hil2] at hjo
    generalize insK x i e.kids = J at *
    have HAS := Lib.hid (fun (hl : (i : Int) < (e.kids.length : Int)) (u : World) => by
      have := hhas u
      rw [decide_eq_true (And.intro hin.1 hl)] at this
      exact this)
    have HCP := Lib.hid hcp
    have HK6 := Lib.hid hK6
    have HIN := Lib.hid hins
    have HLE := Lib.hid hleft
    have HJO := Lib.hid hjo
    have HFI := Lib.hid hfin
    have HST := Lib.hid hst
    have hcase : i = e.kids.length ∨ i < e.kids.length := by omega
    have hi0 : (0 : Int) ≤ (i : Int) := by omega
    clear hhas hcp hK6 hins hleft hjo hfin hst hone hf h1 h2 h3 h4 h5 hko hown h6 hcB hBB bK hVx hil2 hvz hvl hxc
    rcases hcase with hl | hl
    case' inl =>
      have hne : ((i : Int) != (e.kids.length : Int)) = false := by simp; omega
      have HL := Lib.hid hl
      clear hl hin hil
      go_enter Try.func24, Try.ntmps24
      go_wp2_with fail
      (try simp only [List.append])
      refine wp_region_held_drew (S := (fun u => u.cell? ⟨BB, 0, none⟩ = some (.int .i64 (i : Int)) ∧ u.cell? q = some (.int .i64 1) ∧ u.cell? ⟨q.block, q.off + 1, none⟩ = some (.string e.name.1) ∧ u.cell? ⟨q.block, q.off + 2, none⟩ = some (.string e.name.2) ∧ u.cell? ⟨q.block, q.off + 3, none⟩ = some (.slice A e.attrs.length ca) ∧ u.cell? ⟨q.block, q.off + 4, none⟩ = some (.slice K e.kids.length ck) ∧ u.cell? ⟨q.block, q.off + 5, none⟩ = some (.string e.text))) (by kernel_rfl) (HSV.out _ (Below.refl _ v).drew) (fun hHeld => ?_)
      refine takeW 0 ?_
      refine takeW 1 ?_
      refine takeW 2 ?_
      refine takeW 3 ?_
      (try simp only [Act.put, List.setIfInBounds_toArray, List.set_cons_zero, List.set_cons_succ])
      refine takeW 4 ?_
      refine takeW 5 ?_
      refine takeW 6 ?_
      refine takeW 7 ?_
      (try simp only [Act.put, List.setIfInBounds_toArray, List.set_cons_zero, List.set_cons_succ])
      refine takeU 8 ?_
      refine takeU 9 ?_
      refine takeU 10 ?_
      refine takeU 11 ?_
      (try simp only [Act.put, List.setIfInBounds_toArray, List.set_cons_zero, List.set_cons_succ])
      refine wpAnyH_ready (rs := [12]) (by kernel_rfl) (by simp) ?_
      refine AllReadyH.cons rfl (fun K2 hK2 => ?_) AllReadyH.nil
      go_simp
      refine hK2.out _ _ (by assumption) (fun hHeld2 => ?_)
      (try simp only [Act.put, List.setIfInBounds_toArray, List.set_cons_zero, List.set_cons_succ])
      refine takeU 13 ?_
      refine takeW 14 ?_
      (try simp only [Act.put, List.setIfInBounds_toArray, List.set_cons_zero, List.set_cons_succ])
      refine wpAnyH_done (by kernel_rfl) ?_ _
      go_upto_region 3 with fail
      have HBA := Lib.hid ((Below.refl v.heap.size v).drew)
      generalize v.drew = wA at HBA ⊢
    case' inr =>
      have hne : ((i : Int) != (e.kids.length : Int)) = true := by simp; omega
      have hhs := HAS.out (by omega)
      have HHS := Lib.hid hhs
      have HL := Lib.hid hl
      clear hl hin hil hhs
      go_enter Try.func24, Try.ntmps24
      go_wp2_with fail
      (try simp only [List.append])
      refine wp_region_held_drew (S := (fun u => u.cell? ⟨BB, 0, none⟩ = some (.int .i64 (i : Int)) ∧ u.cell? q = some (.int .i64 1) ∧ u.cell? ⟨q.block, q.off + 1, none⟩ = some (.string e.name.1) ∧ u.cell? ⟨q.block, q.off + 2, none⟩ = some (.string e.name.2) ∧ u.cell? ⟨q.block, q.off + 3, none⟩ = some (.slice A e.attrs.length ca) ∧ u.cell? ⟨q.block, q.off + 4, none⟩ = some (.slice K e.kids.length ck) ∧ u.cell? ⟨q.block, q.off + 5, none⟩ = some (.string e.text))) (by kernel_rfl) (HSV.out _ (Below.refl _ v).drew) (fun hHeld => ?_)
      refine takeW 0 ?_
      refine takeW 1 ?_
      refine takeW 2 ?_
      refine takeW 3 ?_
      (try simp only [Act.put, List.setIfInBounds_toArray, List.set_cons_zero, List.set_cons_succ])
      refine takeW 4 ?_
      refine takeW 5 ?_
      refine takeW 6 ?_
      refine takeW 7 ?_
      (try simp only [Act.put, List.setIfInBounds_toArray, List.set_cons_zero, List.set_cons_succ])
      refine takeW 8 ?_
      refine takeW 9 ?_
      refine takeW 10 ?_
      refine takeW 11 ?_
      (try simp only [Act.put, List.setIfInBounds_toArray, List.set_cons_zero, List.set_cons_succ])
      refine wpAnyH_ready (rs := [12]) (by kernel_rfl) (by simp) ?_
      refine AllReadyH.cons rfl (fun K2 hK2 => ?_) AllReadyH.nil
      go_simp
      refine (HHS.out _).mono ?_
      rintro r wA ⟨rfl, hb7⟩
      have HBA : Hid (Below v.heap.size v wA) := Lib.hid ((Below.refl _ v).drew.trans hb7)
      clear hb7
      refine hK2.out _ _ (HSV.out _ HBA.out) (fun hHeld2 => ?_)
      (try simp only [Act.put, List.setIfInBounds_toArray, List.set_cons_zero, List.set_cons_succ])
      refine takeW 13 ?_
      refine takeW 14 ?_
      (try simp only [Act.put, List.setIfInBounds_toArray, List.set_cons_zero, List.set_cons_succ])
      refine wpAnyH_done (by kernel_rfl) ?_ _
      go_upto_region 3 with fail
    all_goals
      have hba := HBA.out.drew
      obtain ⟨k0, k1, k2, k3, k4, k5⟩ := HK6.out _ hba
      obtain ⟨eB, _, _, _, _, e4, _⟩ := HSV.out _ hba
      have hcpy := HCP.out _ hba
      unfold ndV ndCells at hcpy
      go_region_law (first
        | (go_simp
           go_at_call 28
           refine hcpy.mono ?_
           rintro r v2 ⟨hb2, av2, kv2, rfl, hx⟩
           obtain ⟨A9, c9, K9, q9, rfl, rfl⟩ := own_slices hx
           have hba2 := hba.trans (hb2.mono hba.size)
           obtain ⟨gB, _, _, _, _, g4, _⟩ := HSV.out _ hba2
           have aB : ∀ o, (v2.alloc o).cell? ⟨BB, 0, none⟩ = some (.int .i64 (i : Int)) := fun o => (HSV.out _ (hba2.alloc hba2.size o)).1
           have a4 : ∀ o, (v2.alloc o).cell? ⟨q.block, q.off + 4, none⟩ = some (.slice K e.kids.length ck) := fun o => (HSV.out _ (hba2.alloc hba2.size o)).2.2.2.2.2.1
           have hv2s := hba2.size
           have hone9 : ∀ u ∈ ndC x (.slice A9 x.attrs.length c9) (.slice K9 x.kids.length q9), u.oneCell' = true := fun u hu => by
             simp only [ndC, List.mem_cons, List.mem_nil_iff, or_false] at hu
             rcases hu with rfl | rfl | rfl | rfl | rfl | rfl <;> rfl
           have hal := heap_alloc_new v2 (.cells (ndC x (.slice A9 x.attrs.length c9) (.slice K9 x.kids.length q9)).toArray 27)
           have HINS := Lib.hid (HIN.out _ _ _ (hba2.alloc hba2.size _) hal hv2s rfl hone9)
           have hba3 := (Below.refl v2.heap.size v2).alloc (Nat.le_refl _) (.cells (ndC x (.slice A9 x.attrs.length c9) (.slice K9 x.kids.length q9)).toArray 27)
           have HB3 := Lib.hid hba3
           have HX9 := Lib.hid hx
           have HB2 := Lib.hid hb2
           clear hx hone9 hal hba3
           unfold ndC)
        | (go_simp
           go_at_call 27
           refine HINS.out.mono ?_
           rintro r v4 ⟨h9, c4, rfl, hc4, hhl, hhb, hrow, hro⟩
           obtain ⟨hsf, hro2⟩ := HLE.out _ _ _ _ _ _ _ hba HB2.out HX9.out HB3.out hro hhb hhl hrow
           have HSF := Lib.hid hsf
           have HRO := Lib.hid hro2
           clear hrow hro hhb hsf hro2)
        | (go_simp
           go_at_call 26
           refine (HJO.out _ _ _ HSF.out hc4 HRO.out.size).mono ?_
           rintro r v5 ⟨K5, c5, rfl, hs5, hb5⟩
           obtain ⟨w4, y4⟩ := HST.out _ _ HRO.out hb5
           have HEND := Lib.hid (HFI.out _ _ K5 c5 HRO.out hb5 hs5)
           clear hs5))
      all_goals (
        go_wp2
        go_ret
        exact HEND.out)
  · have hf : insF x p e = none := by unfold insF; rw [if_neg hin]
    rw [hf]
    rw [decide_eq_false (fun h => hin ⟨h.1, by omega⟩)] at hhas
    have HAS := Lib.hid hhas
    have hne : (p != (e.kids.length : Int)) = true := by simp; omega
    clear hhas hf h1 h2 h3 h4 h5 hko hown hin h6 hcB hBB bK hVx hgx
    go_enter Try.func24, Try.ntmps24
    go_wp2_with fail
    (try simp only [List.append])
    refine wp_region_held_drew (S := (fun u => u.cell? ⟨BB, 0, none⟩ = some (.int .i64 p) ∧ u.cell? q = some (.int .i64 1) ∧ u.cell? ⟨q.block, q.off + 1, none⟩ = some (.string e.name.1) ∧ u.cell? ⟨q.block, q.off + 2, none⟩ = some (.string e.name.2) ∧ u.cell? ⟨q.block, q.off + 3, none⟩ = some (.slice A e.attrs.length ca) ∧ u.cell? ⟨q.block, q.off + 4, none⟩ = some (.slice K e.kids.length ck) ∧ u.cell? ⟨q.block, q.off + 5, none⟩ = some (.string e.text))) (by kernel_rfl) (HSV.out _ (Below.refl _ v).drew) (fun hHeld => ?_)
    refine takeW 0 ?_
    refine takeW 1 ?_
    refine takeW 2 ?_
    refine takeW 3 ?_
    (try simp only [Act.put, List.setIfInBounds_toArray, List.set_cons_zero, List.set_cons_succ])
    refine takeW 4 ?_
    refine takeW 5 ?_
    refine takeW 6 ?_
    refine takeW 7 ?_
    (try simp only [Act.put, List.setIfInBounds_toArray, List.set_cons_zero, List.set_cons_succ])
    refine takeW 8 ?_
    refine takeW 9 ?_
    refine takeW 10 ?_
    refine takeW 11 ?_
    (try simp only [Act.put, List.setIfInBounds_toArray, List.set_cons_zero, List.set_cons_succ])
    refine wpAnyH_ready (rs := [12]) (by kernel_rfl) (by simp) ?_
    refine AllReadyH.cons rfl (fun K2 hK2 => ?_) AllReadyH.nil
    go_simp
    refine (HAS.out _).mono ?_
    rintro r w7 ⟨rfl, hb7⟩
    have HB7 : Hid (Below v.heap.size v w7) := Lib.hid ((Below.refl _ v).drew.trans hb7)
    clear hb7
    refine hK2.out _ _ (HSV.out _ HB7.out) (fun hHeld2 => ?_)
    (try simp only [Act.put, List.setIfInBounds_toArray, List.set_cons_zero, List.set_cons_succ])
    refine takeW 13 ?_
    refine takeW 14 ?_
    (try simp only [Act.put, List.setIfInBounds_toArray, List.set_cons_zero, List.set_cons_succ])
    refine wpAnyH_done (by kernel_rfl) ?_ _
    go_wp2
    go_ret
    exact ⟨Turned.of_below HB7.out hqb _ _ _, rfl⟩
end Go.Proofs.Ytlcjepnaljfpkaa
namespace Wb
open Go Go.RowKit
theorem four_allocs (w : World) (a b c d : Obj) : Below w.heap.size w ((((w.alloc a).alloc b).alloc c).alloc d) ∧ ((((w.alloc a).alloc b).alloc c).alloc d).heap[w.heap.size]? = some a ∧ ((((w.alloc a).alloc b).alloc c).alloc d).heap[w.heap.size + 1]? = some b ∧
    ((((w.alloc a).alloc b).alloc c).alloc d).heap[w.heap.size + 2]? = some c ∧ ((((w.alloc a).alloc b).alloc c).alloc d).heap[w.heap.size + 3]? = some d ∧ ((((w.alloc a).alloc b).alloc c).alloc d).heap.size = w.heap.size + 4 := by
  obtain ⟨h0, h1, h2, h3, h4⟩ := three_allocs w a b c
  have k := fun (k : Nat) (h : k < w.heap.size + 3) => Below.heap_alloc (((w.alloc a).alloc b).alloc c) d k (by omega)
  have h5 := heap_alloc_new (((w.alloc a).alloc b).alloc c) d
  rw [h4] at h5
  exact ⟨h0.alloc (by omega) d, (k _ (by omega)).trans h1, (k _ (by omega)).trans h2, (k _ (by omega)).trans h3, h5, by simp⟩
end Wb
namespace Go.Proofs.Ytlcjepnaljfpkaa
open Go.RowKit Wb
set_option maxRecDepth 100000 in
set_option maxHeartbeats 4000000 in
theorem Insert_any (n x : Nd) (A K XA XK : Option Addr) (ca ck xca xck : Nat) (p : Int) (l : List Int) (PA : Option Addr) (cp : Nat) (w : World) (hV : NodeV w n A K) (hX : NodeV w x XA XK) (hgn : GN n) (hgx : GN x) (hP : SlI w PA l) (hcp : l.length ≤ cp) (hl : l.length ≤ 1000000) :
    Calls Try.prog 8 #[ndV n A ca K ck, ndV x XA xca XK xck, .int .i64 p, .slice PA l.length cp] w (NdOut (chP (insF x p) n l) w) := by
  obtain ⟨r, hr⟩ : ∃ r, chP (insF x p) n l = r := ⟨_, rfl⟩
  rw [hr]
  obtain ⟨hb4, h0, h1, h2, h3, hs4⟩ := four_allocs w (.cells #[.int .i64 n.kind, .string n.name.1, .string n.name.2, .slice A n.attrs.length ca, .slice K n.kids.length ck, .string n.text] 27) (.cells #[.int .i64 x.kind, .string x.name.1, .string x.name.2, .slice XA x.attrs.length xca, .slice XK x.kids.length xck, .string x.text] 27)
    (.cells #[.int .i64 p] 3) (.cells #[.int .i64 0, .string ⟨#[]⟩, .string ⟨#[]⟩, .slice none 0 0, .slice none 0 0, .string ⟨#[]⟩] 27)
  have HB := Lib.hid hb4
  have H0 := Lib.hid h0
  have H1 := Lib.hid h1
  have H2 := Lib.hid h2
  have H3 := Lib.hid h3
  have HS := Lib.hid hs4
  have HCL := Lib.hid (fun (v : World) (hv : Below w.heap.size w v) (b1 : v.heap[w.heap.size + 1]? = some (.cells #[.int .i64 x.kind, .string x.name.1, .string x.name.2, .slice XA x.attrs.length xca, .slice XK x.kids.length xck, .string x.text] 27 (0, 0)))
      (b2 : v.heap[w.heap.size + 2]? = some (.cells #[.int .i64 p] 3 (0, 0))) =>
    changed_any (insF x p) 24 #[.pointer (some ⟨w.heap.size + 2, 0, none⟩), .pointer (some ⟨w.heap.size + 1, 0, none⟩)] (fun args w => by rfl) n A K ca ck l PA cp v (hV.below hv) hgn (hP.below hv) hcp hl
      (insert_clos x XA XK xca xck (w.heap.size + 2) (w.heap.size + 1) p v (blk_in b2) (by simp [World.cell?, b2]) b1 (hX.below hv) hgx))
  rw [hr] at HCL
  unfold ndV ndCells at HCL ⊢
  clear hb4 h0 h1 h2 h3 hs4 hV hX hP hgn hgx hr
  go_enter Try.func8, Try.ntmps8
  go_upto_region 1 with fail
  revert HB H0 H1 H2 H3 HS
  generalize (((w.alloc (.cells #[.int .i64 n.kind, .string n.name.1, .string n.name.2, .slice A n.attrs.length ca, .slice K n.kids.length ck, .string n.text] 27)).alloc (.cells #[.int .i64 x.kind, .string x.name.1, .string x.name.2, .slice XA x.attrs.length xca, .slice XK x.kids.length xck, .string x.text] 27)).alloc
    (.cells #[.int .i64 p] 3)).alloc (.cells #[.int .i64 0, .string ⟨#[]⟩, .string ⟨#[]⟩, .slice none 0 0, .slice none 0 0, .string ⟨#[]⟩] 27) = w1
  intro HB H0 H1 H2 H3 HS
  obtain ⟨n0, n1, n2, n3, n4, n5⟩ := cells_of_nd H0.out
  have hcall := HCL.out w1 HB.out H1.out H2.out
  clear HCL
  go_wp2_with fail
  refine hcall.mono ?_
  rintro e w4 ⟨hb4, ho⟩
  have HZ4 := Lib.hid (still_block H3.out hb4)
  have HB4 := Lib.hid (HB.out.trans (hb4.mono HB.out.size))
  have z0 := blk_free HZ4.out 0
  have z1 := blk_free HZ4.out 1
  have z2 := blk_free HZ4.out 2
  have z3 := blk_free HZ4.out 3
  have z4 := blk_free HZ4.out 4
  have z5 := blk_free HZ4.out 5
  obtain ⟨y0, y1, y2, y3, y4, y5⟩ := cells_of_nd HZ4.out
  clear n0 n1 n2 n3 n4 n5 hcall hb4
  rcases r with _ | m
  · subst ho
    go_wp2
    refine bodyPost_ret (results_cell2 rfl _ _ (w.heap.size + 3) _ _ _ rfl (six_blk HZ4.out _ _ _ _ _ _) Try.underlying27 rfl node_info2) rfl ?_
    exact ⟨six_below HB4.out (by omega) _ _ _ _ _ _, rfl⟩
  · obtain ⟨A5, ca5, K5, ck5, rfl, hV5⟩ := ho
    have HV5 := Lib.hid hV5
    clear hV5
    unfold ndV ndCells
    go_wp2
    refine bodyPost_ret (results_cell2 rfl _ _ (w.heap.size + 3) _ _ _ rfl (six_blk HZ4.out _ _ _ _ _ _) Try.underlying27 rfl node_info2) rfl ?_
    exact ⟨six_below HB4.out (by omega) _ _ _ _ _ _, A5, ca5, K5, ck5, rfl, out_stored HV5.out (by have := HS.out; omega) (by have := HS.out; omega)⟩
end Go.Proofs.Ytlcjepnaljfpkaa
