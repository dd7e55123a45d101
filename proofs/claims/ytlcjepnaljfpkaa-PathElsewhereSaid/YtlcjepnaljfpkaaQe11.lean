/- PaY PcA PcB PcC. -/
import Derived.Test.YtlcjepnaljfpkaaQe10
namespace Wb
open Go Go.RowKit
def insK (x : Nd) (i : Nat) (ks : List Nd) : List Nd := ks.take i ++ x :: ks.drop i
theorem insK_len (x : Nd) (i : Nat) (ks : List Nd) (h : i ≤ ks.length) : (insK x i ks).length = ks.length + 1 := by
  unfold insK
  rw [List.length_append, List.length_take, List.length_cons, List.length_drop]; omega
def insF (x : Nd) (p : Int) (e : Nd) : Option Nd := if 0 ≤ p ∧ p ≤ (e.kids.length : Int) then some (e.withKids (joinK (insK x p.toNat e.kids))) else none
end Wb
namespace Go.Proofs.Ytlcjepnaljfpkaa
open Go.RowKit Wb
theorem insert_any (K : Option Addr) (n c i V base : Nat) (xs ys : List Value) (w : World) (hown : w.ownsRow base 27 6 (.slice K n c) n xs) (hV : w.heap[V]? = some (.cells ys.toArray 27 (0, 0))) (hVg : (Value.slice K n c).ownBlock ≠ some V) (hy : ys.length = 6) (h1 : ∀ u ∈ ys, u.oneCell' = true)
    (h2 : ∀ u ∈ xs, u.oneCell' = true) (hi : i ≤ n) (hn : n ≤ 1000000) (hb : base ≤ w.heap.size) :
    Calls Try.prog 27 #[.slice K n c, .int .i64 (i : Int), .slice (some ⟨V, 0, none⟩) 1 1] w (InsOut (.slice K n c) n (xs.take (i * 6) ++ ys ++ xs.drop (i * 6)) w) := by
  have hxl := hown.1
  by_cases hin : i = n
  · subst hin
    rw [List.take_of_length_le (by omega), List.drop_of_length_le (by omega), List.append_nil]
    exact insert_end K i c V base xs ys w hown hV hy h1 hn hb
  · rcases hown.2 with ⟨x, y⟩ | ⟨g, cap, cur, x, hg0, hg, hnc, hcm, hcs, htk⟩
    · omega
    · simp only [Value.slice.injEq, true_and] at x
      obtain ⟨rfl, rfl⟩ := x
      have hne : V ≠ g := fun z => hVg (by rw [z]; rfl)
      have ht : xs.take (i * 6) = cur.toList.take (i * 6) := by rw [← htk, List.take_take, Nat.min_eq_left (by omega)]
      have hd : xs.drop (i * 6) = (cur.toList.drop (i * 6)).take ((n - i) * 6) := by
        rw [← htk, List.drop_take, show n * 6 - i * 6 = (n - i) * 6 from by omega]
      rw [ht, hd]
      have h2' : ∀ u ∈ cur.toList.take (n * 6), u.oneCell' = true := by rw [htk]; exact h2
      by_cases hc : n + 1 ≤ c
      · exact insert_shift g n c i V cur ys w hg hcs hV hne hy h1 h2' (by omega) hc hn
      · have : c = n := by omega
        subst this
        exact insert_grow g c i V cur ys w hg hcs hV hy h1 h2' (by omega) hn
theorem ins_left {e x : Nd} {av kv av2 kv2 : Value} {css : List (List Value)} {lo hi h i : Nat} {v v2 v3 v4 : World}
    (hko : kidsO 29 27 v (fun b => av.ownBlock = some b ∨ kv.ownBlock = some b) e.kids css lo hi) (hhi : hi ≤ v.heap.size) (hkv : ∀ b, kv.ownBlock = some b → lo ≤ b ∧ b < hi) (hi0 : i ≤ e.kids.length)
    (hb2 : Below v.heap.size v v2) (hx : ownT v2 x (ndC x av2 kv2) v.heap.size v2.heap.size) (hb3 : Below v2.heap.size v2 v3) (hr : RowOnly kv v3 v4)
    (hh : kv.ownBlock = some h ∨ v3.heap.size ≤ h) (hhl : h < v4.heap.size) (hrow : ∀ z u, (css.flatten.take (i * 6) ++ ndC x av2 kv2 ++ css.flatten.drop (i * 6))[z]? = some u → v4.cell? ⟨h, z, none⟩ = some u) :
    SafeM (MustI lo hi v.heap.size) v4 (fun u => SlN u (some ⟨h, 0, none⟩) (insK x i e.kids)) ∧ RowOnly kv v v4 := by
  obtain ⟨h3, h6⟩ := kidsO_len hko
  have hb := hb2.trans (hb3.mono hb2.size)
  have hro := hr.after hb
  have s2 := hb2.size
  have s3 := hb3.size
  have s4 := hr.size
  have hfl : (css.take i ++ ndC x av2 kv2 :: css.drop i).flatten = css.flatten.take (i * 6) ++ ndC x av2 kv2 ++ css.flatten.drop (i * 6) := by
    rw [List.flatten_append, List.flatten_cons, (cells_flat h6 i).1, (cells_flat h6 i).2, List.append_assoc]
  refine ⟨row_safe (cN := css.take i ++ ndC x av2 kv2 :: css.drop i) hko hhi hro ?_ (fun c hc => ?_) (fun j m c a b => ?_) ?_ hhl (by rw [hfl]; exact hrow), hro⟩
  · rw [insK_len x i _ hi0, List.length_append, List.length_take, List.length_cons, List.length_drop]; omega
  · rcases List.mem_append.1 hc with hc | hc
    · exact h6 c (List.mem_of_mem_take hc)
    · rcases List.mem_cons.1 hc with rfl | hc
      · rfl
      · exact h6 c (List.mem_of_mem_drop hc)
  · unfold insK at a
    by_cases hj : j < i
    · rw [List.getElem?_append_left (by rw [List.length_take]; omega), List.getElem?_take_of_lt hj] at a b
      exact .inl ⟨j, a, b⟩
    · rw [List.getElem?_append_right (by rw [List.length_take]; omega), List.length_take] at a b
      rw [show min i e.kids.length = i from by omega] at a
      rw [show min i css.length = i from by omega] at b
      obtain ⟨d, rfl⟩ : ∃ d, j = i + d := ⟨j - i, by omega⟩
      rw [Nat.add_sub_cancel_left] at a b
      cases d with
      | zero =>
        simp only [List.getElem?_cons_zero, Option.some.injEq] at a b
        subst a b
        refine .inr (fun w2 k1 k2 => ownC_node _ _ _ _ (ownC_keep _ _ _ _ (fun b p q => ?_) hx))
        have hne : kv.ownBlock ≠ some b := fun z => by have := hkv b z; omega
        exact (k1 b (.inr p) (by omega)).trans ((hr.block b (by omega) hne).trans (hb3.block b q))
      | succ d =>
        rw [List.getElem?_cons_succ, List.getElem?_drop] at a b
        exact .inl ⟨i + d, a, b⟩
  · rcases hh with hh | hh
    · exact .inl (hkv h hh)
    · exact .inr (by omega)
end Go.Proofs.Ytlcjepnaljfpkaa
namespace Go.Proofs.Ytlcjepnaljfpkaa
open Go.RowKit Wb
theorem valL_ins (x : Nd) (i : Nat) (ks : List Nd) : (valL (insK x i ks)).length ≤ (valL ks).length + costB x := by
  unfold insK
  have h : (valL ks).length = (valL (ks.take i)).length + (valL (ks.drop i)).length := by
    rw [← List.length_append, ← valL_app, List.take_append_drop]
  rw [valL_app, List.length_append, valL, List.length_append, h, costB_is]
  split
  · rename_i hk
    unfold ownB
    rw [if_neg (by omega), Go.Lib.size_eq]
    omega
  · simp
set_option maxRecDepth 100000 in
set_option maxHeartbeats 8000000 in
theorem insert_clos (x : Nd) (XA XK : Option Addr) (xca xck BB KB : Nat) (p : Int) (W : World) (bB : BB < W.heap.size) (hBB : W.cell? ⟨BB, 0, none⟩ = some (.int .i64 p)) (bK : W.heap[KB]? = some (.cells #[.int .i64 x.kind, .string x.name.1, .string x.name.2, .slice XA x.attrs.length xca, .slice XK x.kids.length xck, .string x.text] 27 (0, 0)))
    (hVx : NodeV W x XA XK) (hgx : GN x) : ClosOK (insF x p) 24 #[.pointer (some ⟨BB, 0, none⟩), .pointer (some ⟨KB, 0, none⟩)] W := by
  intro v q e cs lo hi hv h6 hown hhi hq hgn hk1
  obtain ⟨av, kv, css, rfl, h1, h2, h3, h4, h5, hko⟩ := (ownC_iff e cs lo hi).1 hown
  obtain ⟨A, ca, rfl⟩ := own_shape h1
  obtain ⟨K, ck, rfl⟩ := own_shape h2
  rw [show ∀ a b c : Value, #[a] ++ #[b, c] = #[a, b, c] from fun a b c => by simp]
  have hqb := h6.lt
  have hsm : e.kids.length ≤ 1000000 := Nat.le_trans hgn.len (by decide)
  have hsm9 := hgn.len
  have hcB := (hv.cell (p := ⟨BB, 0, none⟩) bB).trans hBB
  have hhas := fun (u : World) => has_any 1 e.name.1 e.name.2 e.text A K e.attrs.length ca e.kids.length ck p u
  have HSV := Lib.hid (fun (u : World) (hu : Below v.heap.size v u) => (show u.cell? ⟨BB, 0, none⟩ = some (.int .i64 p) ∧ u.cell? q = some (.int .i64 1) ∧ u.cell? ⟨q.block, q.off + 1, none⟩ = some (.string e.name.1) ∧ u.cell? ⟨q.block, q.off + 2, none⟩ = some (.string e.name.2) ∧
      u.cell? ⟨q.block, q.off + 3, none⟩ = some (.slice A e.attrs.length ca) ∧ u.cell? ⟨q.block, q.off + 4, none⟩ = some (.slice K e.kids.length ck) ∧ u.cell? ⟨q.block, q.off + 5, none⟩ = some (.string e.text) from by
    obtain ⟨a0, a1, a2, a3, a4, a5⟩ := (h6.below hu).cells
    rw [hk1] at a0
    exact ⟨(hu.cell (p := ⟨BB, 0, none⟩) (Nat.lt_of_lt_of_le bB hv.size)).trans hcB, a0, a1, a2, a3, a4, a5⟩))
  clear hk1
  by_cases hin : 0 ≤ p ∧ p ≤ (e.kids.length : Int)
  · obtain ⟨i, rfl⟩ : ∃ i : Nat, p = (i : Int) := ⟨p.toNat, by omega⟩
    have hil : i ≤ e.kids.length := by omega
    have hf : insF x (i : Int) e = some (e.withKids (joinK (insK x i e.kids))) := by
      unfold insF
      rw [if_pos hin, show ((i : Int)).toNat = i from by omega]
    rw [hf]
    have hone : ∀ u ∈ css.flatten, u.oneCell' = true := by
      intro u hu
      obtain ⟨c, hc, hu⟩ := List.mem_flatten.1 hu
      obtain ⟨k, hk⟩ := List.getElem?_of_mem hc
      have hkl := (List.getElem?_eq_some_iff.1 hk).1
      obtain ⟨n, hn⟩ : ∃ n, e.kids[k]? = some n := ⟨e.kids[k]'(by omega), List.getElem?_eq_getElem (by omega)⟩
      obtain ⟨c2, l1, h1', c1, _, _, _, _, b5, _⟩ := kidsO_at hko k n hn
      rw [hk] at c1
      injection c1 with c1
      subst c1
      exact one_of_node (ownC_node _ _ _ _ b5) u hu
    have hcp := fun (u : World) (hu : Below v.heap.size v u) => copyO_any x XA XK xca xck u (hVx.below (hv.trans (hu.mono hv.size))) hgx.1
    have hK6 := fun (u : World) (hu : Below v.heap.size v u) => cells_of_nd (still_block bK (hv.trans (hu.mono hv.size)))
    have hins := fun (u : World) (V : Nat) (ys : List Value) (hu : Below v.heap.size v u) (hV : u.heap[V]? = some (.cells ys.toArray 27 (0, 0))) (hVl : v.heap.size ≤ V) (hy : ys.length = 6) (hy1 : ∀ u ∈ ys, u.oneCell' = true) =>
      insert_any K e.kids.length ck i V 0 css.flatten ys u (own_base (own_below h2 hu) (Nat.zero_le _)) hV (fun z => by have := (own_in h2 z).2; omega) hy hy1 hone hil hsm (Nat.zero_le _)
    have hil2 := insK_len x i e.kids hil
    have hvz := valL_ins x i e.kids
    have hvl := hgn.val
    have hxc := hgx.2
    have hleft := fun (u1 u2 u3 u4 : World) (av2 kv2 : Value) (h : Nat) (hu1 : Below v.heap.size v u1) (hb2 : Below u1.heap.size u1 u2) (hx : ownT u2 x (ndC x av2 kv2) u1.heap.size u2.heap.size) (hb3 : Below u2.heap.size u2 u3) (hr : RowOnly (.slice K e.kids.length ck) u3 u4)
        (hh : (Value.slice K e.kids.length ck).ownBlock = some h ∨ u3.heap.size ≤ h) (hhl : h < u4.heap.size) (hrow : ∀ z u, (css.flatten.take (i * 6) ++ ndC x av2 kv2 ++ css.flatten.drop (i * 6))[z]? = some u → u4.cell? ⟨h, z, none⟩ = some u) =>
      ins_left hko hhi (fun b hb => ⟨(own_in h2 hb).1, h5 b hb⟩) hil (hu1.trans (hb2.mono hu1.size)) (ownC_lohi hx hu1.size (Nat.le_refl _)) hb3 hr hh hhl hrow
    have hjo := fun (u4 : World) (h c4 : Nat) (hs : SafeM (MustI lo hi v.heap.size) u4 (fun u => SlN u (some ⟨h, 0, none⟩) (insK x i e.kids))) (hc : e.kids.length + 1 ≤ c4) (hu : v.heap.size ≤ u4.heap.size) =>
      joined_any (some ⟨h, 0, none⟩) (insK x i e.kids) c4 (MustI lo hi v.heap.size) u4 (fun b hb => .inr (Nat.le_trans hu hb)) hs (by rw [hil2]; omega) (by rw [hil2]; exact hc) (by omega)
    have hfin := fun (u4 u5 : World) (K2 : Option Addr) (c2 : Nat) (hr : RowOnly (.slice K e.kids.length ck) v u4) (hb : Below u4.heap.size u4 u5) (hs : SafeM (MustI lo hi v.heap.size) u5 (fun u => SlN u K2 (joinK (insK x i e.kids)))) =>
      kids_left (c2 := c2) h6 hown hq hr hb hs
    have hst := fun (u4 u5 : World) (hr : RowOnly (.slice K e.kids.length ck) v u4) (hb : Below u4.heap.size u4 u5) => (show u5.cell? ⟨q.block, q.off + 4, none⟩ = some (.slice K e.kids.length ck) ∧ u5.frozen? ⟨q.block, q.off + 4, none⟩ = false from by
      have h23 := hr.then hb
      have hq2 : (Value.slice K e.kids.length ck).ownBlock ≠ some q.block := fun x => hq ⟨(own_in h2 x).1, h5 _ x⟩
      have h6' := h6.keep (h23.block q.block h6.lt hq2)
      exact ⟨h6'.cells.2.2.2.2.1, h6'.free 4⟩)
    rw [hil2] at hjo
    generalize insK x i e.kids = J at *
    have HAS := Lib.hid (fun (hl : (i : Int) < (e.kids.length : Int)) (u : World) => by
      have := hhas u
      rw [decide_eq_true (And.intro hin.1 hl)] at this
      exact this)
    have HCP := Lib.hid hcp
    have HK6 := Lib.hid hK6
    have HIN := Lib.hid hins
    have HLE := Lib.hid hleft
    have HJO := Lib.hid hjo
    have HFI := Lib.hid hfin
    have HST := Lib.hid hst
    have hcase : i = e.kids.length ∨ i < e.kids.length := by omega
    have hi0 : (0 : Int) ≤ (i : Int) := by omega
    clear hhas hcp hK6 hins hleft hjo hfin hst hone hf h1 h2 h3 h4 h5 hko hown h6 hcB hBB bK hVx hil2 hvz hvl hxc
    rcases hcase with hl | hl
    case' inl =>
      have hne : ((i : Int) != (e.kids.length : Int)) = false := by simp; omega
      have HL := Lib.hid hl
      clear hl hin hil
      go_enter Try.func24, Try.ntmps24
      go_wp2_with fail
      (try simp only [List.append])
      refine wp_region_held_drew (S := (fun u => u.cell? ⟨BB, 0, none⟩ = some (.int .i64 (i : Int)) ∧ u.cell? q = some (.int .i64 1) ∧ u.cell? ⟨q.block, q.off + 1, none⟩ = some (.string e.name.1) ∧ u.cell? ⟨q.block, q.off + 2, none⟩ = some (.string e.name.2) ∧ u.cell? ⟨q.block, q.off + 3, none⟩ = some (.slice A e.attrs.length ca) ∧ u.cell? ⟨q.block, q.off + 4, none⟩ = some (.slice K e.kids.length ck) ∧ u.cell? ⟨q.block, q.off + 5, none⟩ = some (.string e.text))) (by kernel_rfl) (HSV.out _ (Below.refl _ v).drew) (fun hHeld => ?_)
      refine takeW 0 ?_
      refine takeW 1 ?_
      refine takeW 2 ?_
      refine takeW 3 ?_
      (try simp only [Act.put, List.setIfInBounds_toArray, List.set_cons_zero, List.set_cons_succ])
      refine takeW 4 ?_
      refine takeW 5 ?_
      refine takeW 6 ?_
      refine takeW 7 ?_
      (try simp only [Act.put, List.setIfInBounds_toArray, List.set_cons_zero, List.set_cons_succ])
      refine takeU 8 ?_
      refine takeU 9 ?_
      refine takeU 10 ?_
      refine takeU 11 ?_
      (try simp only [Act.put, List.setIfInBounds_toArray, List.set_cons_zero, List.set_cons_succ])
      refine wpAnyH_ready (rs := [12]) (by kernel_rfl) (by simp) ?_
      refine AllReadyH.cons rfl (fun K2 hK2 => ?_) AllReadyH.nil
      go_simp
      refine hK2.out _ _ (by assumption) (fun hHeld2 => ?_)
      (try simp only [Act.put, List.setIfInBounds_toArray, List.set_cons_zero, List.set_cons_succ])
      refine takeU 13 ?_
      refine takeW 14 ?_
      (try simp only [Act.put, List.setIfInBounds_toArray, List.set_cons_zero, List.set_cons_succ])
      refine wpAnyH_done (by kernel_rfl) ?_ _
      go_upto_region 3 with fail
      have HBA := Lib.hid ((Below.refl v.heap.size v).drew)
      generalize v.drew = wA at HBA ⊢
    case' inr =>
      have hne : ((i : Int) != (e.kids.length : Int)) = true := by simp; omega
      have hhs := HAS.out (by omega)
      have HHS := Lib.hid hhs
      have HL := Lib.hid hl
      clear hl hin hil hhs
      go_enter Try.func24, Try.ntmps24
      go_wp2_with fail
      (try simp only [List.append])
      refine wp_region_held_drew (S := (fun u => u.cell? ⟨BB, 0, none⟩ = some (.int .i64 (i : Int)) ∧ u.cell? q = some (.int .i64 1) ∧ u.cell? ⟨q.block, q.off + 1, none⟩ = some (.string e.name.1) ∧ u.cell? ⟨q.block, q.off + 2, none⟩ = some (.string e.name.2) ∧ u.cell? ⟨q.block, q.off + 3, none⟩ = some (.slice A e.attrs.length ca) ∧ u.cell? ⟨q.block, q.off + 4, none⟩ = some (.slice K e.kids.length ck) ∧ u.cell? ⟨q.block, q.off + 5, none⟩ = some (.string e.text))) (by kernel_rfl) (HSV.out _ (Below.refl _ v).drew) (fun hHeld => ?_)
      refine takeW 0 ?_
      refine takeW 1 ?_
      refine takeW 2 ?_
      refine takeW 3 ?_
      (try simp only [Act.put, List.setIfInBounds_toArray, List.set_cons_zero, List.set_cons_succ])
      refine takeW 4 ?_
      refine takeW 5 ?_
      refine takeW 6 ?_
      refine takeW 7 ?_
      (try simp only [Act.put, List.setIfInBounds_toArray, List.set_cons_zero, List.set_cons_succ])
      refine takeW 8 ?_
      refine takeW 9 ?_
      refine takeW 10 ?_
      refine takeW 11 ?_
      (try simp only [Act.put, List.setIfInBounds_toArray, List.set_cons_zero, List.set_cons_succ])
      refine wpAnyH_ready (rs := [12]) (by kernel_rfl) (by simp) ?_
      refine AllReadyH.cons rfl (fun K2 hK2 => ?_) AllReadyH.nil
      go_simp
      refine (HHS.out _).mono ?_
      rintro r wA ⟨rfl, hb7⟩
      have HBA : Hid (Below v.heap.size v wA) := Lib.hid ((Below.refl _ v).drew.trans hb7)
      clear hb7
      refine hK2.out _ _ (HSV.out _ HBA.out) (fun hHeld2 => ?_)
      (try simp only [Act.put, List.setIfInBounds_toArray, List.set_cons_zero, List.set_cons_succ])
      refine takeW 13 ?_
      refine takeW 14 ?_
      (try simp only [Act.put, List.setIfInBounds_toArray, List.set_cons_zero, List.set_cons_succ])
      refine wpAnyH_done (by kernel_rfl) ?_ _
      go_upto_region 3 with fail
    all_goals
      have hba := HBA.out.drew
      obtain ⟨k0, k1, k2, k3, k4, k5⟩ := HK6.out _ hba
      obtain ⟨eB, _, _, _, _, e4, _⟩ := HSV.out _ hba
      have hcpy := HCP.out _ hba
      unfold ndV ndCells at hcpy
      go_region_law (first
        | (go_simp
           go_at_call 28
           refine hcpy.mono ?_
           rintro r v2 ⟨hb2, av2, kv2, rfl, hx⟩
           obtain ⟨A9, c9, K9, q9, rfl, rfl⟩ := own_slices hx
           have hba2 := hba.trans (hb2.mono hba.size)
           obtain ⟨gB, _, _, _, _, g4, _⟩ := HSV.out _ hba2
           have aB : ∀ o, (v2.alloc o).cell? ⟨BB, 0, none⟩ = some (.int .i64 (i : Int)) := fun o => (HSV.out _ (hba2.alloc hba2.size o)).1
           have a4 : ∀ o, (v2.alloc o).cell? ⟨q.block, q.off + 4, none⟩ = some (.slice K e.kids.length ck) := fun o => (HSV.out _ (hba2.alloc hba2.size o)).2.2.2.2.2.1
           have hv2s := hba2.size
           have hone9 : ∀ u ∈ ndC x (.slice A9 x.attrs.length c9) (.slice K9 x.kids.length q9), u.oneCell' = true := fun u hu => by
             simp only [ndC, List.mem_cons, List.mem_nil_iff, or_false] at hu
             rcases hu with rfl | rfl | rfl | rfl | rfl | rfl <;> rfl
           have hal := heap_alloc_new v2 (.cells (ndC x (.slice A9 x.attrs.length c9) (.slice K9 x.kids.length q9)).toArray 27)
           have HINS := Lib.hid (HIN.out _ _ _ (hba2.alloc hba2.size _) hal hv2s rfl hone9)
           have hba3 := (Below.refl v2.heap.size v2).alloc (Nat.le_refl _) (.cells (ndC x (.slice A9 x.attrs.length c9) (.slice K9 x.kids.length q9)).toArray 27)
           have HB3 := Lib.hid hba3
           have HX9 := Lib.hid hx
           have HB2 := Lib.hid hb2
           clear hx hone9 hal hba3
           unfold ndC)
        | (go_simp
           go_at_call 27
           refine HINS.out.mono ?_
           rintro r v4 ⟨h9, c4, rfl, hc4, hhl, hhb, hrow, hro⟩
           obtain ⟨hsf, hro2⟩ := HLE.out _ _ _ _ _ _ _ hba HB2.out HX9.out HB3.out hro hhb hhl hrow
           have HSF := Lib.hid hsf
           have HRO := Lib.hid hro2
           clear hrow hro hhb hsf hro2)
        | (go_simp
           go_at_call 26
           refine (HJO.out _ _ _ HSF.out hc4 HRO.out.size).mono ?_
           rintro r v5 ⟨K5, c5, rfl, hs5, hb5⟩
           obtain ⟨w4, y4⟩ := HST.out _ _ HRO.out hb5
           have HEND := Lib.hid (HFI.out _ _ K5 c5 HRO.out hb5 hs5)
           clear hs5))
      all_goals (
        go_wp2
        go_ret
        exact HEND.out)
  · have hf : insF x p e = none := by unfold insF; rw [if_neg hin]
    rw [hf]
    rw [decide_eq_false (fun h => hin ⟨h.1, by omega⟩)] at hhas
    have HAS := Lib.hid hhas
    have hne : (p != (e.kids.length : Int)) = true := by simp; omega
    clear hhas hf h1 h2 h3 h4 h5 hko hown hin h6 hcB hBB bK hVx hgx
    go_enter Try.func24, Try.ntmps24
    go_wp2_with fail
    (try simp only [List.append])
    refine wp_region_held_drew (S := (fun u => u.cell? ⟨BB, 0, none⟩ = some (.int .i64 p) ∧ u.cell? q = some (.int .i64 1) ∧ u.cell? ⟨q.block, q.off + 1, none⟩ = some (.string e.name.1) ∧ u.cell? ⟨q.block, q.off + 2, none⟩ = some (.string e.name.2) ∧ u.cell? ⟨q.block, q.off + 3, none⟩ = some (.slice A e.attrs.length ca) ∧ u.cell? ⟨q.block, q.off + 4, none⟩ = some (.slice K e.kids.length ck) ∧ u.cell? ⟨q.block, q.off + 5, none⟩ = some (.string e.text))) (by kernel_rfl) (HSV.out _ (Below.refl _ v).drew) (fun hHeld => ?_)
    refine takeW 0 ?_
    refine takeW 1 ?_
    refine takeW 2 ?_
    refine takeW 3 ?_
    (try simp only [Act.put, List.setIfInBounds_toArray, List.set_cons_zero, List.set_cons_succ])
    refine takeW 4 ?_
    refine takeW 5 ?_
    refine takeW 6 ?_
    refine takeW 7 ?_
    (try simp only [Act.put, List.setIfInBounds_toArray, List.set_cons_zero, List.set_cons_succ])
    refine takeW 8 ?_
    refine takeW 9 ?_
    refine takeW 10 ?_
    refine takeW 11 ?_
    (try simp only [Act.put, List.setIfInBounds_toArray, List.set_cons_zero, List.set_cons_succ])
    refine wpAnyH_ready (rs := [12]) (by kernel_rfl) (by simp) ?_
    refine AllReadyH.cons rfl (fun K2 hK2 => ?_) AllReadyH.nil
    go_simp
    refine (HAS.out _).mono ?_
    rintro r w7 ⟨rfl, hb7⟩
    have HB7 : Hid (Below v.heap.size v w7) := Lib.hid ((Below.refl _ v).drew.trans hb7)
    clear hb7
    refine hK2.out _ _ (HSV.out _ HB7.out) (fun hHeld2 => ?_)
    (try simp only [Act.put, List.setIfInBounds_toArray, List.set_cons_zero, List.set_cons_succ])
    refine takeW 13 ?_
    refine takeW 14 ?_
    (try simp only [Act.put, List.setIfInBounds_toArray, List.set_cons_zero, List.set_cons_succ])
    refine wpAnyH_done (by kernel_rfl) ?_ _
    go_wp2
    go_ret
    exact ⟨Turned.of_below HB7.out hqb _ _ _, rfl⟩
end Go.Proofs.Ytlcjepnaljfpkaa
namespace Wb
open Go Go.RowKit
theorem four_allocs (w : World) (a b c d : Obj) : Below w.heap.size w ((((w.alloc a).alloc b).alloc c).alloc d) ∧ ((((w.alloc a).alloc b).alloc c).alloc d).heap[w.heap.size]? = some a ∧ ((((w.alloc a).alloc b).alloc c).alloc d).heap[w.heap.size + 1]? = some b ∧
    ((((w.alloc a).alloc b).alloc c).alloc d).heap[w.heap.size + 2]? = some c ∧ ((((w.alloc a).alloc b).alloc c).alloc d).heap[w.heap.size + 3]? = some d ∧ ((((w.alloc a).alloc b).alloc c).alloc d).heap.size = w.heap.size + 4 := by
  obtain ⟨h0, h1, h2, h3, h4⟩ := three_allocs w a b c
  have k := fun (k : Nat) (h : k < w.heap.size + 3) => Below.heap_alloc (((w.alloc a).alloc b).alloc c) d k (by omega)
  have h5 := heap_alloc_new (((w.alloc a).alloc b).alloc c) d
  rw [h4] at h5
  exact ⟨h0.alloc (by omega) d, (k _ (by omega)).trans h1, (k _ (by omega)).trans h2, (k _ (by omega)).trans h3, h5, by simp⟩
end Wb
namespace Go.Proofs.Ytlcjepnaljfpkaa
open Go.RowKit Wb
set_option maxRecDepth 100000 in
set_option maxHeartbeats 4000000 in
theorem Insert_any (n x : Nd) (A K XA XK : Option Addr) (ca ck xca xck : Nat) (p : Int) (l : List Int) (PA : Option Addr) (cp : Nat) (w : World) (hV : NodeV w n A K) (hX : NodeV w x XA XK) (hgn : GN n) (hgx : GN x) (hP : SlI w PA l) (hcp : l.length ≤ cp) (hl : l.length ≤ 1000000) :
    Calls Try.prog 8 #[ndV n A ca K ck, ndV x XA xca XK xck, .int .i64 p, .slice PA l.length cp] w (NdOut (chP (insF x p) n l) w) := by
  obtain ⟨r, hr⟩ : ∃ r, chP (insF x p) n l = r := ⟨_, rfl⟩
  rw [hr]
  obtain ⟨hb4, h0, h1, h2, h3, hs4⟩ := four_allocs w (.cells #[.int .i64 n.kind, .string n.name.1, .string n.name.2, .slice A n.attrs.length ca, .slice K n.kids.length ck, .string n.text] 27) (.cells #[.int .i64 x.kind, .string x.name.1, .string x.name.2, .slice XA x.attrs.length xca, .slice XK x.kids.length xck, .string x.text] 27)
    (.cells #[.int .i64 p] 3) (.cells #[.int .i64 0, .string ⟨#[]⟩, .string ⟨#[]⟩, .slice none 0 0, .slice none 0 0, .string ⟨#[]⟩] 27)
  have HB := Lib.hid hb4
  have H0 := Lib.hid h0
  have H1 := Lib.hid h1
  have H2 := Lib.hid h2
  have H3 := Lib.hid h3
  have HS := Lib.hid hs4
  have HCL := Lib.hid (fun (v : World) (hv : Below w.heap.size w v) (b1 : v.heap[w.heap.size + 1]? = some (.cells #[.int .i64 x.kind, .string x.name.1, .string x.name.2, .slice XA x.attrs.length xca, .slice XK x.kids.length xck, .string x.text] 27 (0, 0)))
      (b2 : v.heap[w.heap.size + 2]? = some (.cells #[.int .i64 p] 3 (0, 0))) =>
    changed_any (insF x p) 24 #[.pointer (some ⟨w.heap.size + 2, 0, none⟩), .pointer (some ⟨w.heap.size + 1, 0, none⟩)] (fun args w => by rfl) n A K ca ck l PA cp v (hV.below hv) hgn (hP.below hv) hcp hl
      (insert_clos x XA XK xca xck (w.heap.size + 2) (w.heap.size + 1) p v (blk_in b2) (by simp [World.cell?, b2]) b1 (hX.below hv) hgx))
  rw [hr] at HCL
  unfold ndV ndCells at HCL ⊢
  clear hb4 h0 h1 h2 h3 hs4 hV hX hP hgn hgx hr
  go_enter Try.func8, Try.ntmps8
  go_upto_region 1 with fail
  revert HB H0 H1 H2 H3 HS
  generalize (((w.alloc (.cells #[.int .i64 n.kind, .string n.name.1, .string n.name.2, .slice A n.attrs.length ca, .slice K n.kids.length ck, .string n.text] 27)).alloc (.cells #[.int .i64 x.kind, .string x.name.1, .string x.name.2, .slice XA x.attrs.length xca, .slice XK x.kids.length xck, .string x.text] 27)).alloc
    (.cells #[.int .i64 p] 3)).alloc (.cells #[.int .i64 0, .string ⟨#[]⟩, .string ⟨#[]⟩, .slice none 0 0, .slice none 0 0, .string ⟨#[]⟩] 27) = w1
  intro HB H0 H1 H2 H3 HS
  obtain ⟨n0, n1, n2, n3, n4, n5⟩ := cells_of_nd H0.out
  have hcall := HCL.out w1 HB.out H1.out H2.out
  clear HCL
  go_wp2_with fail
  refine hcall.mono ?_
  rintro e w4 ⟨hb4, ho⟩
  have HZ4 := Lib.hid (still_block H3.out hb4)
  have HB4 := Lib.hid (HB.out.trans (hb4.mono HB.out.size))
  have z0 := blk_free HZ4.out 0
  have z1 := blk_free HZ4.out 1
  have z2 := blk_free HZ4.out 2
  have z3 := blk_free HZ4.out 3
  have z4 := blk_free HZ4.out 4
  have z5 := blk_free HZ4.out 5
  obtain ⟨y0, y1, y2, y3, y4, y5⟩ := cells_of_nd HZ4.out
  clear n0 n1 n2 n3 n4 n5 hcall hb4
  rcases r with _ | m
  · subst ho
    go_wp2
    refine bodyPost_ret (results_cell2 rfl _ _ (w.heap.size + 3) _ _ _ rfl (six_blk HZ4.out _ _ _ _ _ _) Try.underlying27 rfl node_info2) rfl ?_
    exact ⟨six_below HB4.out (by omega) _ _ _ _ _ _, rfl⟩
  · obtain ⟨A5, ca5, K5, ck5, rfl, hV5⟩ := ho
    have HV5 := Lib.hid hV5
    clear hV5
    unfold ndV ndCells
    go_wp2
    refine bodyPost_ret (results_cell2 rfl _ _ (w.heap.size + 3) _ _ _ rfl (six_blk HZ4.out _ _ _ _ _ _) Try.underlying27 rfl node_info2) rfl ?_
    exact ⟨six_below HB4.out (by omega) _ _ _ _ _ _, A5, ca5, K5, ck5, rfl, out_stored HV5.out (by have := HS.out; omega) (by have := HS.out; omega)⟩
end Go.Proofs.Ytlcjepnaljfpkaa
namespace Go.Proofs.Ytlcjepnaljfpkaa
open Go.RowKit Wb
theorem int_info : (Try.prog.info? 3).map (fun i => (i.zero, i.size, i.bytes)) = some (some (.int .i64 0), 1, 8) := by kernel_rfl
theorem ints_info : (Try.prog.info? 30).map (fun i => (i.zero, i.size, i.bytes)) = some (some (.slice none 0 0), 1, 24) := by kernel_rfl
theorem iclone_any (A : Option Addr) (l : List Int) (c : Nat) (w : World) (h : SlI w A l) (hl : l.length ≤ 1000000) :
    Calls Try.prog 55 #[.slice A l.length c] w fun e w' => ∃ A' n' c', e = .returned (.slice A' n' c') ∧ Below w.heap.size w w' := by
  cases A with
  | none =>
    obtain rfl : l = [] := by
      cases l with
      | nil => rfl
      | cons x l =>
        obtain ⟨ad, e, _⟩ := h.2 (by simp)
        cases e
    have hq : ∀ w, (binOp .eql 30 (.slice none 0 c) (.slice none 0 0)).run Try.prog w = .ok (.bool true) w := fun w => Lib.run_eql_slice_nil w _ _ none 0 c 0 0 Try.underlying30
    go_enter Try.func55, Try.ntmps55
    go_wp2
    go_ret
    exact ⟨_, _, _, rfl, Below.refl _ _⟩
  | some ad =>
    obtain ⟨i0, hi, hz0, hz1, hz2⟩ := info_parts int_info
    have hq : ∀ w, (binOp .eql 30 (.slice (some ad) l.length c) (.slice none 0 0)).run Try.prog w = .ok (.bool false) w := fun w => Lib.run_eql_slice_nil w _ _ (some ad) l.length c 0 0 Try.underlying30
    have HOWN := Lib.hid (World.ownsRow_made (base := w.heap.size) (e := 3) (size := 1) w #[] 0 (Nat.le_refl _) (Nat.zero_le _) (by simp))
    have HSL := Lib.hid (Sl.alloc h (.cells #[] 3))
    have HBA := Lib.hid ((Below.refl w.heap.size w).alloc (Nat.le_refl _) (.cells #[] 3))
    have hm : 0 + l.length ≤ maxLen := by unfold maxLen; omega
    have hb : (0 + l.length) * 8 ≤ 140737488355328 := by omega
    have hs : w.heap.size ≤ (w.alloc (.cells #[] 3)).heap.size := by simp
    clear h
    go_enter Try.func55, Try.ntmps55
    go_wp2_with (at_builtin; refine wpList_append_sl _ rfl (.tmp 5) (.tmp 6) _ rfl w.heap.size 3 i0 _ 1 8 Try.underlying30 hi hz0 hz1 hz2 rfl (by omega) _ 0 [] rfl HOWN.out (some ad) l.length c (cellsI l) rfl HSL.out (cellsI_one l) hm hb hs ?_)
    intro v5 w5 hown5 hg5 hat5
    obtain ⟨A5, c5, rfl⟩ := own_shape hown5
    have HB := Lib.hid (HBA.out.grown hg5 hs (fun k hk => by simp [Value.ownBlock] at hk; omega))
    clear hown5 hg5 hat5
    go_wp2
    go_ret
    exact ⟨_, _, _, rfl, HB.out⟩
theorem pl_text (lv pv : Value) (k : Nd) (A K : Option Addr) (ca ck : Nat) (w : World) (hk : k.kind = 2) :
    Calls Try.prog 42 #[lv, ndV k A ca K ck, pv] w fun e w' => e = .returned lv ∧ Below w.heap.size w w' := by
  unfold ndV ndCells
  rw [hk]
  have HB := Lib.hid ((Below.refl w.heap.size w).alloc (Nat.le_refl _) (.cells #[.int .i64 2, .string k.name.1, .string k.name.2, .slice A k.attrs.length ca, .slice K k.kids.length ck, .string k.text] 27))
  clear hk
  go_enter Try.func42, Try.ntmps42
  go_wp2
  go_ret
  exact ⟨rfl, HB.out⟩
set_option maxRecDepth 100000 in
set_option maxHeartbeats 4000000 in
theorem pl_leaf (lv : Value) (m : Nat) (xs : List Value) (P : Option Addr) (pl : List Int) (pc base : Nat) (k : Nd) (A K : Option Addr) (ca ck : Nat) (w : World) (hk : k.kind = 1) (hks : k.kids = []) (hown : w.ownsRow base 30 1 lv m xs) (hb : base ≤ w.heap.size) (hm : m ≤ 1000000) (hP : SlI w P pl) (hl : pl.length ≤ 1000000) :
    Calls Try.prog 42 #[lv, ndV k A ca K ck, .slice P pl.length pc] w fun e w' => ∃ v' xs', e = .returned v' ∧ w'.ownsRow base 30 1 v' (m + 1) xs' ∧ Below base w w' := by
  obtain ⟨i0, hi, hz0, hz1, hz2⟩ := info_parts ints_info
  unfold ndV ndCells
  rw [hk, hks, List.length_nil]
  obtain ⟨LA, lc, rfl⟩ := own_shape hown
  have hb1 := (Below.refl w.heap.size w).alloc (Nat.le_refl _) (.cells #[.int .i64 1, .string k.name.1, .string k.name.2, .slice A k.attrs.length ca, .slice K 0 ck, .string k.text] 27)
  have HN := Lib.hid (heap_alloc_new w (.cells #[.int .i64 1, .string k.name.1, .string k.name.2, .slice A k.attrs.length ca, .slice K 0 ck, .string k.text] 27))
  have HO := Lib.hid (own_below hown hb1)
  have HP := Lib.hid (hP.below hb1)
  have HB := Lib.hid hb1
  clear hk hks hown hP hb1
  go_enter Try.func42, Try.ntmps42
  go_upto_region 1 with fail
  revert HN HO HP HB
  generalize w.alloc (.cells #[.int .i64 1, .string k.name.1, .string k.name.2, .slice A k.attrs.length ca, .slice K 0 ck, .string k.text] 27) = w1
  intro HN HO HP HB
  obtain ⟨n0, n1, n2, n3, n4, n5⟩ := cells_of_nd HN.out
  have hcl := iclone_any P pl pc w1 HP.out hl
  have hs1 := HB.out.size
  go_wp2_with fail
  refine hcl.mono ?_
  rintro e w2 ⟨A2, n2', c2, rfl, hb2⟩
  have HN2 := Lib.hid (still_block HN.out hb2)
  have HB2 := Lib.hid (HB.out.trans (hb2.mono HB.out.size))
  have HO2 := Lib.hid ((own_below HO.out hb2).alloc (.cells #[.slice A2 n2' c2] 30))
  have HLIT := Lib.hid (Sl.lit w2 1 [.slice A2 n2' c2] 30 1 rfl)
  have HONE := Lib.hid (show ∀ u ∈ [Value.slice A2 n2' c2], u.oneCell' = true from fun u hu => by rw [List.mem_singleton.1 hu]; rfl)
  have hs2 := hb2.size
  clear hcl hb2 n0 n1 n2 n3 n4 n5
  go_upto_region 5 with (
    at_builtin
    refine wpList_append_sl _ rfl _ _ _ rfl base 30 i0 _ 1 24 Try.underlying50 hi hz0 hz1 hz2 rfl (by omega) _ m xs rfl HO2.out (some ⟨w2.heap.size, 0, none⟩) 1 1 [.slice A2 n2' c2] rfl HLIT.out HONE.out (by simp only [maxLen]; omega) (by omega) (by simp; omega) ?_
    intro v5 w5 hown5 hg5 hat5)
  have hb5 : Below base w w5 := ((HB2.out.alloc (by omega) _).mono hb).grown hg5 (by simp; omega) (fun b hb => (own_in HO2.out hb).1)
  have HN5 := Lib.hid (grown_block ((Below.heap_alloc w2 (.cells #[.slice A2 n2' c2] 30) _ (blk_in HN2.out)).trans HN2.out) hg5 (fun z => own_blk_ne HO2.out ((Below.heap_alloc w2 (.cells #[.slice A2 n2' c2] 30) _ (blk_in HN2.out)).trans HN2.out) (by decide) z.symm))
  obtain ⟨n0, n1, n2, n3, n4, n5⟩ := cells_of_nd HN5.out
  obtain ⟨LA5, lc5, rfl⟩ := own_shape hown5
  have HF := Lib.hid hown5
  have HG := Lib.hid hb5
  clear hown5 hg5 hat5 hb5
  go_wp2
  go_loopw [0, 24] (fun vl vi wr => vl = .slice LA5 (m + 1) lc5 ∧ vi = .int .i64 0 ∧ Hid (wr = w5)) (fun _ _ _ => 0)
  case atStart => exact ⟨rfl, rfl, Lib.hid rfl⟩
  case round =>
    obtain ⟨rfl, rfl, HW⟩ := hrel
    have hw := HW.out
    subst hw
    go_wp2
    go_ret
    first
      | exact ⟨⟨_, HF.out⟩, HG.out⟩
      | exact ⟨_, rfl, ⟨_, HF.out⟩, HG.out⟩
def elsN : List Nd → Nat
  | [] => 0
  | k :: ks => (if k.kind = 1 then 1 else 0) + elsN ks
theorem elsN_take {ks : List Nd} {i : Nat} {x : Nd} (h : ks[i]? = some x) : elsN (ks.take (i + 1)) = elsN (ks.take i) + if x.kind = 1 then 1 else 0 := by
  have app : ∀ a b : List Nd, elsN (a ++ b) = elsN a + elsN b := fun a b => by
    induction a with
    | nil => simp [elsN]
    | cons k a ih => rw [List.cons_append, elsN, ih, elsN]; omega
  rw [List.take_add_one, h]
  show elsN (ks.take i ++ [x]) = _
  rw [app]
  simp [elsN]
theorem elsN_le : ∀ ks : List Nd, elsN ks ≤ ks.length
  | [] => by simp [elsN]
  | k :: ks => by
    rw [elsN, List.length_cons]
    have := elsN_le ks
    split <;> omega
set_option maxRecDepth 100000 in
set_option maxHeartbeats 4000000 in
theorem pl_top (n : Nd) (A K : Option Addr) (ca ck : Nat) (w : World) (hk : n.kind = 1) (hks : ∀ k ∈ n.kids, k.kind = 2 ∨ (k.kind = 1 ∧ k.kids = [])) (hl : n.kids.length ≤ 1000) (hV : NodeV w n A K) :
    Calls Try.prog 42 #[.slice none 0 0, ndV n A ca K ck, .slice none 0 0] w fun e w' => ∃ L c, e = .returned (.slice L (1 + elsN n.kids) c) ∧ Below w.heap.size w w' := by
  obtain ⟨i0, hi, hz0, hz1, hz2⟩ := info_parts ints_info
  obtain ⟨j0, hj, hy0, hy1, hy2⟩ := info_parts int_info
  unfold ndV ndCells
  rw [hk]
  have hb1 := (Below.refl w.heap.size w).alloc (Nat.le_refl _) (.cells #[.int .i64 1, .string n.name.1, .string n.name.2, .slice A n.attrs.length ca, .slice K n.kids.length ck, .string n.text] 27)
  have HN := Lib.hid (heap_alloc_new w (.cells #[.int .i64 1, .string n.name.1, .string n.name.2, .slice A n.attrs.length ca, .slice K n.kids.length ck, .string n.text] 27))
  have HB := Lib.hid hb1
  have HV := Lib.hid hV
  have HKS := Lib.hid hks
  clear hk hb1 hV hks
  go_enter Try.func42, Try.ntmps42
  go_upto_region 1 with fail
  revert HN HB
  generalize w.alloc (.cells #[.int .i64 1, .string n.name.1, .string n.name.2, .slice A n.attrs.length ca, .slice K n.kids.length ck, .string n.text] 27) = w1
  intro HN HB
  obtain ⟨n0, n1, n2, n3, n4, n5⟩ := cells_of_nd HN.out
  have hcl := iclone_any none [] 0 w1 (SlI.nil _ _) (by simp)
  rw [List.length_nil] at hcl
  have hs1 := HB.out.size
  go_wp2_with fail
  refine hcl.mono ?_
  rintro e w2 ⟨A2, n2', c2, rfl, hb2⟩
  have HN2 := Lib.hid (still_block HN.out hb2)
  have HB2 := Lib.hid (HB.out.trans (hb2.mono HB.out.size))
  have HLIT := Lib.hid (Sl.lit w2 1 [.slice A2 n2' c2] 30 1 rfl)
  have HONE := Lib.hid (show ∀ u ∈ [Value.slice A2 n2' c2], u.oneCell' = true from fun u hu => by rw [List.mem_singleton.1 hu]; rfl)
  have hs2 := hb2.size
  clear hcl hb2 n0 n1 n2 n3 n4 n5
  go_upto_region 5 with (
    at_builtin
    refine wpList_append_sl _ rfl _ _ _ rfl w.heap.size 30 i0 _ 1 24 Try.underlying50 hi hz0 hz1 hz2 rfl (by omega) _ 0 [] rfl (World.ownsRow_nil _ _ _ _) (some ⟨w2.heap.size, 0, none⟩) 1 1 [.slice A2 n2' c2] rfl HLIT.out HONE.out (by simp only [maxLen]; omega) (by omega) (by simp; omega) ?_
    intro v5 w5 hown5 hg5 hat5)
  have hb5 : Below w.heap.size w w5 := (HB2.out.alloc (by omega) _).grown hg5 (by simp; omega) (fun b hb => by cases hb)
  have HN5 := Lib.hid (grown_block ((Below.heap_alloc w2 (.cells #[.slice A2 n2' c2] 30) _ (blk_in HN2.out)).trans HN2.out) hg5 (fun z => Option.some_ne_none _ z))
  obtain ⟨n0, n1, n2, n3, n4, n5⟩ := cells_of_nd HN5.out
  have HF := Lib.hid hown5
  have HG := Lib.hid hb5
  have hws := hb5.size
  clear hown5 hg5 hat5 hb5
  go_wp2
  go_loopw [0, 24] (fun vl vi wr => ∃ (i : Nat) (xs : List Value), i ≤ n.kids.length ∧ vi = .int .i64 i ∧ Hid (wr.ownsRow w.heap.size 30 1 vl (1 + elsN (n.kids.take i)) xs) ∧ Hid (Below w.heap.size w wr)) (fun _ vi _ => ((n.kids.length : Int) - intOf vi).toNat)
  case atStart => exact ⟨0, _, by omega, rfl, Lib.hid (by rw [List.take_zero, show 1 + elsN [] = 0 + 1 from rfl]; exact HF.out), HG⟩
  case round =>
    obtain ⟨i, xs, hil, rfl, HO, HBr⟩ := hrel
    by_cases h0 : i < n.kids.length
    · obtain ⟨x, he⟩ : ∃ x, n.kids[i]? = some x := ⟨n.kids[i], List.getElem?_eq_getElem h0⟩
      obtain ⟨ad, A1, ca1, K1, ck1, rfl, had, d0, d1, d2, d3, d4, d5, hA1, hK1⟩ := (HV.out.2.below HBr.out).at_ he
      have htk := elsN_take he
      have hle := elsN_le (n.kids.take i)
      rw [List.length_take] at hle
      have hkind := HKS.out x (List.mem_of_getElem? he)
      obtain ⟨LA, lc, rfl⟩ := own_shape HO.out
      have hba : Below wr.heap.size wr (wr.alloc (.cells #[.int .i64 x.kind, .string x.name.1, .string x.name.2, .slice A1 x.attrs.length ca1, .slice K1 x.kids.length ck1, .string x.text] 27)) := (Below.refl _ wr).alloc (Nat.le_refl _) _
      have HNk := Lib.hid (heap_alloc_new wr (.cells #[.int .i64 x.kind, .string x.name.1, .string x.name.2, .slice A1 x.attrs.length ca1, .slice K1 x.kids.length ck1, .string x.text] 27))
      have HOk := Lib.hid (own_below HO.out hba)
      have HBk := Lib.hid (HBr.out.trans (hba.mono HBr.out.size))
      have HTK := Lib.hid htk
      clear htk hA1 hK1 he hba
      go_upto_region 8 with fail
      clear d0 d1 d2 d3 d4 d5 had
      revert HNk HOk HBk
      generalize wr.alloc (.cells #[.int .i64 x.kind, .string x.name.1, .string x.name.2, .slice A1 x.attrs.length ca1, .slice K1 x.kids.length ck1, .string x.text] 27) = wk
      intro HNk HOk HBk
      generalize wr.heap.size = T at *
      have hsk := HBk.out.size
      obtain ⟨t0, t1, t2, t3, t4, t5⟩ := cells_of_nd HNk.out
      have hNl : ∀ o, (wk.alloc o).heap[T]? = _ := fun o => (Below.heap_alloc wk o _ (blk_in HNk.out)).trans HNk.out
      have s0 : ∀ o, (wk.alloc o).cell? ⟨T, 0, none⟩ = _ := fun o => (cells_of_nd (hNl o)).1
      have s1 : ∀ o, (wk.alloc o).cell? ⟨T, 1, none⟩ = _ := fun o => (cells_of_nd (hNl o)).2.1
      have s2 : ∀ o, (wk.alloc o).cell? ⟨T, 2, none⟩ = _ := fun o => (cells_of_nd (hNl o)).2.2.1
      have s3 : ∀ o, (wk.alloc o).cell? ⟨T, 3, none⟩ = _ := fun o => (cells_of_nd (hNl o)).2.2.2.1
      have s4 : ∀ o, (wk.alloc o).cell? ⟨T, 4, none⟩ = _ := fun o => (cells_of_nd (hNl o)).2.2.2.2.1
      have s5 : ∀ o, (wk.alloc o).cell? ⟨T, 5, none⟩ = _ := fun o => (cells_of_nd (hNl o)).2.2.2.2.2
      have HLI := Lib.hid (show Sl (wk.alloc (.cells #[.int .i64 (i : Int)] 3)).drew 1 (some ⟨wk.heap.size, 0, none⟩) 1 [.int .i64 (i : Int)] from (Sl.lit wk 1 [.int .i64 (i : Int)] 3 1 rfl).drew)
      have HLO := Lib.hid (show ∀ u ∈ [Value.int .i64 (i : Int)], u.oneCell' = true from fun u hu => by rw [List.mem_singleton.1 hu]; rfl)
      rcases hkind with hk2 | ⟨hk1, hk0⟩
      · have hpt := fun (v : World) (pv : Value) => pl_text (.slice LA (1 + elsN (n.kids.take i)) lc) pv x A1 K1 ca1 ck1 v hk2
        unfold ndV ndCells at hpt
        rw [hk2] at hpt
        have htk := HTK.out
        rw [if_neg (by omega), Nat.add_zero] at htk
        have HT2 := Lib.hid htk
        clear htk
        go_region_law (first
          | (refine step_append_sl _ rfl (.tmp 31) (.tmp 33) _ rfl w.heap.size 3 j0 _ 1 8 Try.underlying30 hj hy0 hy1 hy2 rfl (by omega) _ 0 [] rfl (World.ownsRow_nil _ _ _ _) (some ⟨wk.heap.size, 0, none⟩) 1 1 [.int .i64 (i : Int)] rfl HLI.out HLO.out (by simp only [maxLen]; omega) (by omega) (by simp; omega) ?_
             intro v6 w6 hown6 hg6 hat6
             obtain ⟨A6, c6, rfl⟩ := own_shape hown6
             have hN6 := grown_block (w := (wk.alloc (.cells #[.int .i64 (i : Int)] 3)).drew) (hNl _) hg6 (fun z => Option.some_ne_none _ z)
             obtain ⟨p0, p1, p2, p3, p4, p5⟩ := cells_of_nd hN6
             have hb6 : Below wk.heap.size wk w6 := (((Below.refl wk.heap.size wk).alloc (Nat.le_refl _) (.cells #[.int .i64 (i : Int)] 3)).drew).grown hg6 (by simp) (fun b hb => by cases hb)
             have HB6 := Lib.hid hb6
             have HP6 : Hid (SlI w6 A6 [(i : Int)]) := Lib.hid (SlI.of_own (l := [(i : Int)]) (by simpa [cellsI] using hown6))
             clear hown6 hg6 hat6 hb6)
          | (go_simp
             go_at_call 42
             refine (hpt _ _).mono ?_
             rintro e w7 ⟨rfl, hb7⟩
             have HO7 : Hid (w7.ownsRow w.heap.size 30 1 (.slice LA (1 + elsN (n.kids.take i)) lc) (1 + elsN (n.kids.take (i + 1))) xs) := Lib.hid (by rw [HT2.out]; exact own_below (own_below HOk.out HB6.out) hb7)
             have HB7 := Lib.hid ((HBk.out.trans (HB6.out.mono HBk.out.size)).trans (hb7.mono (Nat.le_trans HBk.out.size HB6.out.size)))
             clear hb7))
        all_goals (
          clear hpt
          go_wp2
          go_roundw
          case rel => exact ⟨i + 1, _, by omega, by go_num, HO7, HB7⟩
          case measure => simp [intOf]; omega)
      · have hpl := fun (v : World) (A6 : Option Addr) (c6 : Nat) (ho : v.ownsRow w.heap.size 30 1 (.slice LA (1 + elsN (n.kids.take i)) lc) (1 + elsN (n.kids.take i)) xs) (hs : w.heap.size ≤ v.heap.size) (hp : SlI v A6 [(i : Int)]) =>
          pl_leaf (.slice LA (1 + elsN (n.kids.take i)) lc) (1 + elsN (n.kids.take i)) xs A6 [(i : Int)] c6 w.heap.size x A1 K1 ca1 ck1 v hk1 hk0 ho hs (by omega) hp (by simp)
        unfold ndV ndCells at hpl
        rw [hk1, hk0, List.length_nil] at hpl
        have htk := HTK.out
        rw [if_pos hk1] at htk
        have HT2 := Lib.hid htk
        clear htk
        go_region_law (first
          | (refine step_append_sl _ rfl (.tmp 31) (.tmp 33) _ rfl w.heap.size 3 j0 _ 1 8 Try.underlying30 hj hy0 hy1 hy2 rfl (by omega) _ 0 [] rfl (World.ownsRow_nil _ _ _ _) (some ⟨wk.heap.size, 0, none⟩) 1 1 [.int .i64 (i : Int)] rfl HLI.out HLO.out (by simp only [maxLen]; omega) (by omega) (by simp; omega) ?_
             intro v6 w6 hown6 hg6 hat6
             obtain ⟨A6, c6, rfl⟩ := own_shape hown6
             have hN6 := grown_block (w := (wk.alloc (.cells #[.int .i64 (i : Int)] 3)).drew) (hNl _) hg6 (fun z => Option.some_ne_none _ z)
             obtain ⟨p0, p1, p2, p3, p4, p5⟩ := cells_of_nd hN6
             have hb6 : Below wk.heap.size wk w6 := (((Below.refl wk.heap.size wk).alloc (Nat.le_refl _) (.cells #[.int .i64 (i : Int)] 3)).drew).grown hg6 (by simp) (fun b hb => by cases hb)
             have HB6 := Lib.hid hb6
             have HP6 : Hid (SlI w6 A6 [(i : Int)]) := Lib.hid (SlI.of_own (l := [(i : Int)]) (by simpa [cellsI] using hown6))
             clear hown6 hg6 hat6 hb6)
          | (go_simp
             go_at_call 42
             refine (hpl _ _ _ (own_below HOk.out HB6.out) (Nat.le_trans HBk.out.size HB6.out.size) HP6.out).mono ?_
             rintro e w7 ⟨v7, xs7, rfl, ho7, hb7⟩
             have HO7 : Hid (w7.ownsRow w.heap.size 30 1 v7 (1 + elsN (n.kids.take (i + 1))) xs7) := Lib.hid (by rw [HT2.out, ← Nat.add_assoc]; exact ho7)
             have HB7 := Lib.hid ((HBk.out.trans (HB6.out.mono HBk.out.size)).trans hb7)
             clear hb7 ho7))
        all_goals (
          clear hpl
          go_wp2
          go_roundw
          case rel => exact ⟨i + 1, _, by omega, by go_num, HO7, HB7⟩
          case measure => simp [intOf]; omega)
    · have : i = n.kids.length := by omega
      subst this
      have ho := HO.out
      rw [List.take_length] at ho
      obtain ⟨L, c, rfl⟩ := own_shape ho
      clear ho
      go_wp2
      go_ret
      exact ⟨L, c, rfl, HBr.out⟩
end Go.Proofs.Ytlcjepnaljfpkaa
