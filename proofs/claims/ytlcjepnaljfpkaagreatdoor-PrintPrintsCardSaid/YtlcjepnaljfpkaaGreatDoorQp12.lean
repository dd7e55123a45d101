/- PrC. -/
import Derived.Deep.Cut
import Derived.Deep.RegionHeld
import Derived.Test.YtlcjepnaljfpkaaGreatDoorQp8
import Derived.Test.YtlcjepnaljfpkaaGreatDoorQp11
namespace Wb
def flatS (l : List ByteArray) : List UInt8 := l.flatMap (·.data.toList)
theorem flatS_take {l : List ByteArray} {k : Nat} {s : ByteArray} (h : l[k]? = some s) : flatS (l.take (k + 1)) = flatS (l.take k) ++ s.data.toList := by
  rw [List.take_add_one, h]
  simp [flatS]
theorem flatS_len (l : List ByteArray) (k : Nat) : (flatS (l.take k)).length ≤ (flatS l).length := by
  conv => rhs; rw [← List.take_append_drop k l]
  unfold flatS
  rw [List.flatMap_append, List.length_append]
  omega
theorem wrap_sub {a b : Int} (h0 : -9223372036854775808 ≤ a - b) (h1 : a - b ≤ 9223372036854775807) : Go.IntKind.i64.wrap (a - b) = a - b := by
  simp [Go.IntKind.wrap, Go.IntKind.bits, Go.IntKind.signed]
  omega
def Room (most n : Nat) : Prop := most ≤ 140737488355328 ∨ n ≤ 140737488355328
theorem Room.le {most n m : Nat} (h : Room most n) (hm : m ≤ n) : Room most m := h.imp id (fun h => Nat.le_trans hm h)
end Wb
namespace Go.Proofs.YtlcjepnaljfpkaaGreatDoor
open Go.RowKit Wb
def PgT (base b : Nat) (t : List UInt8) (most : Nat) (w : World) : Prop :=
  (t.length ≤ most ∧ PgAt base b t most false w) ∨ (most < t.length ∧ ∃ bs : List UInt8, bs.length ≤ most ∧ PgAt base b bs most true w)
theorem PgT.lt {base b most : Nat} {t : List UInt8} {w : World} (h : PgT base b t most w) : base ≤ b ∧ b < w.heap.size := by
  rcases h with ⟨_, h⟩ | ⟨_, _, _, h⟩
  · exact h.lt
  · exact h.lt
theorem PgT.other {base b most : Nat} {t : List UInt8} {w w' : World} (h : PgT base b t most w) (hb : Below w.heap.size w w') : PgT base b t most w' := by
  rcases h with ⟨h1, h⟩ | ⟨h1, bs, h2, h⟩
  · exact .inl ⟨h1, h.other hb⟩
  · exact .inr ⟨h1, bs, h2, h.other hb⟩
theorem PgT.alloc {base b most : Nat} {t : List UInt8} {w : World} (h : PgT base b t most w) (o : Obj) : PgT base b t most (w.alloc o) := h.other ((Below.refl _ w).alloc (Nat.le_refl _) o)
theorem PgAt.cells {base b : Nat} {bs : List UInt8} {most : Int} {over : Bool} {w : World} (h : PgAt base b bs most over w) : w.cell? ⟨b, 2, none⟩ = some (.int .i64 most) ∧ w.cell? ⟨b, 3, none⟩ = some (.bool over) ∧ w.frozen? ⟨b, 3, none⟩ = false := by
  obtain ⟨p, _, _, v, h2, _⟩ := h.raw
  exact ⟨blk_cell h2 2, blk_cell h2 3, blk_free h2 3⟩
theorem PgAt.set_over {base b : Nat} {bs : List UInt8} {most : Int} {over : Bool} {w : World} (h : PgAt base b bs most over w) : PgAt base b bs most true (w.setCell ⟨b, 3, none⟩ (.bool true)) ∧ PgK base b w (w.setCell ⟨b, 3, none⟩ (.bool true)) := by
  obtain ⟨p, hp, h1, v, h2, h3, h4⟩ := h.raw
  refine ⟨.of_raw hp ⟨h1, v, by simpa using blk_set h2 3 (.bool true), own_blk h3 fun k hv => Below.heap_setCell _ _ _ _ (fun e => h4 (by rw [hv]; simpa using e)), h4⟩, (Keep.refl _ w).setCell (p := ⟨b, 3, none⟩) ⟨h1, .inl rfl⟩ _⟩
set_option maxHeartbeats 2000000 in
set_option maxRecDepth 100000 in
theorem pput_any {base b most g : Nat} {t : List UInt8} {w : World} (l : List ByteArray) (c : Nat) (h : PgT base b t most w) (hg : w.heap[g]? = some (.cells (cells1 l).toArray 9 (0, 0))) (hgb : g ≠ b) (hl : l.length ≤ 1000) (hm : most ≤ 9223372036854775807) (hr : Room most (t.length + (flatS l).length)) :
    Calls Tryz.prog 51 #[.pointer (some ⟨b, 0, none⟩), .slice (some ⟨g, 0, none⟩) l.length c] w fun e w' => e = .returned (.tuple #[]) ∧ PgT base b (t ++ flatS l) most w' ∧ PgK base b w w' := by
  have H0 := Lib.hid h
  have HG := Lib.hid hg
  clear h hg
  go_enter Tryz.func51, Tryz.ntmps51
  go_wp2
  go_loopw [8] (fun vi wr => ∃ k : Nat, k ≤ l.length ∧ vi = .int .i64 k ∧ Hid (PgT base b (t ++ flatS (l.take k)) most wr) ∧ Hid (PgK base b w wr)) (fun vi _ => ((l.length : Int) - intOf vi).toNat)
  case atStart => exact ⟨0, by omega, rfl, Lib.hid (by simpa [flatS] using H0.out), Lib.hid (PgK.refl _ _ _)⟩
  case round =>
    obtain ⟨k, hk, rfl, HP, HK⟩ := hrel
    by_cases h0 : k < l.length
    · obtain ⟨s, he⟩ : ∃ s, l[k]? = some s := ⟨l[k], List.getElem?_eq_getElem h0⟩
      have hgr := HK.out.blk HG.out (by decide) hgb
      have hc : wr.cell? ⟨g, k, none⟩ = some (.string s) := (blk_cell hgr k).trans (by simp [cells1, he])
      have hft := flatS_take he
      have hfl := flatS_len l (k + 1)
      have hfull := flatS_len l l.length
      rw [List.take_length] at hfull
      clear hgr
      rcases HP.out with ⟨h1, hp0⟩ | ⟨h1, bs, h2, hp0⟩
      · have hp : PgAt base b (t ++ flatS (l.take k)) most false wr.drew := hp0.other (Below.refl _ wr).drew
        obtain ⟨c2, c3, f3⟩ := hp.cells
        have hlen := page_len hp
        have HKd := Lib.hid HK.out.drew
        have hc2 := hc
        by_cases hfit : (t ++ flatS (l.take k)).length + s.size ≤ most
        · have hwr := page_write s hp (by rcases hr with hr | hr <;> (rw [hft] at hfl; simp only [List.length_append, ← Lib.size_eq] at hfit hfl ⊢; omega))
          have hpost : Hid (∀ w2, PgAt base b (t ++ flatS (l.take k) ++ s.data.toList) most false w2 → PgT base b (t ++ flatS (l.take (k + 1))) most w2) := Lib.hid (fun w2 h => .inl ⟨by rw [hft, ← List.append_assoc, List.length_append, ← Lib.size_eq]; exact hfit, by rw [hft, ← List.append_assoc]; exact h⟩)
          have hnf : ¬ ((most : Int) - ((t ++ flatS (l.take k)).length : Int) < (s.size : Int)) := by omega
          have hln0 : ((t ++ flatS (l.take k)).length : Int) ≤ most := by omega
          clear hft hfl hp hp0 he hfit hfull hc2
          generalize (t ++ flatS (l.take k)).length = n at *
          have hwp : IntKind.i64.wrap ((most : Int) - (n : Int)) = (most : Int) - (n : Int) := wrap_sub (by omega) (by omega)
          go_wp2_with fail
          (try simp only [List.append])
          refine wp_region_held_drew (S := (fun v => v.cell? ⟨b, 2, none⟩ = some (.int .i64 most) ∧ v.cell? ⟨b, 3, none⟩ = some (.bool false))) (by kernel_rfl) (⟨c2, c3⟩) (fun hHeld => ?_)
          refine takeW 0 ?_
          refine takeW 1 ?_
          refine takeW 2 ?_
          refine takeW 3 ?_
          (try simp only [Act.put, List.setIfInBounds_toArray, List.set_cons_zero, List.set_cons_succ])
          refine takeW 4 ?_
          refine takeW 5 ?_
          refine takeW 6 ?_
          refine takeW 7 ?_
          (try simp only [Act.put, List.setIfInBounds_toArray, List.set_cons_zero, List.set_cons_succ])
          refine takeW 8 ?_
          refine takeW 9 ?_
          refine takeW 10 ?_
          refine takeW 11 ?_
          (try simp only [Act.put, List.setIfInBounds_toArray, List.set_cons_zero, List.set_cons_succ])
          refine takeW 12 ?_
          refine takeW 13 ?_
          (try simp only [Act.put, List.setIfInBounds_toArray, List.set_cons_zero, List.set_cons_succ])
          refine wpAnyH_ready (rs := [14]) (by kernel_rfl) (by simp) ?_
          refine AllReadyH.cons rfl (fun K2 hK2 => ?_) AllReadyH.nil
          go_simp
          refine hlen.mono ?_
          rintro e w2 ⟨rfl, rfl⟩
          refine hK2.out _ _ hHeld (fun hHeld2 => ?_)
          refine takeW 15 ?_
          refine takeW 16 ?_
          (try simp only [Act.put, List.setIfInBounds_toArray, List.set_cons_zero, List.set_cons_succ])
          refine takeW 17 ?_
          (try simp only [Act.put, List.setIfInBounds_toArray, List.set_cons_zero, List.set_cons_succ])
          refine wpAnyH_done (by kernel_rfl) ?_ _
          go_wp2_with fail
          refine hwr.mono ?_
          rintro e w3 ⟨rfl, hp3, hk3⟩
          have HP3 := Lib.hid (hpost.out _ hp3)
          have HK3 := Lib.hid (HKd.out.trans hk3)
          clear hlen hwr hp3 hk3 hpost
          go_wp2
          go_roundw
          case rel => exact ⟨k + 1, by omega, by go_num, HP3, HK3⟩
          case measure => simp [intOf]; omega
        · obtain ⟨hs1, hs2⟩ := hp.set_over
          have hpost : Hid (PgT base b (t ++ flatS l) most (wr.drew.setCell ⟨b, 3, none⟩ (.bool true))) := Lib.hid (.inr ⟨by rw [hft] at hfl; simp only [List.length_append, ← Lib.size_eq] at hfit hfl ⊢; omega, _, h1, hs1⟩)
          have HK2 := Lib.hid (HKd.out.trans hs2)
          have hnf : (most : Int) - ((t ++ flatS (l.take k)).length : Int) < (s.size : Int) := by omega
          have hln0 : ((t ++ flatS (l.take k)).length : Int) ≤ most := by omega
          clear hft hfl hp hp0 he hfit hfull hs1 hs2 hc2
          generalize (t ++ flatS (l.take k)).length = n at *
          have hwp : IntKind.i64.wrap ((most : Int) - (n : Int)) = (most : Int) - (n : Int) := wrap_sub (by omega) (by omega)
          go_wp2_with fail
          (try simp only [List.append])
          refine wp_region_held_drew (S := (fun v => v.cell? ⟨b, 2, none⟩ = some (.int .i64 most) ∧ v.cell? ⟨b, 3, none⟩ = some (.bool false))) (by kernel_rfl) (⟨c2, c3⟩) (fun hHeld => ?_)
          refine takeW 0 ?_
          refine takeW 1 ?_
          refine takeW 2 ?_
          refine takeW 3 ?_
          (try simp only [Act.put, List.setIfInBounds_toArray, List.set_cons_zero, List.set_cons_succ])
          refine takeW 4 ?_
          refine takeW 5 ?_
          refine takeW 6 ?_
          refine takeW 7 ?_
          (try simp only [Act.put, List.setIfInBounds_toArray, List.set_cons_zero, List.set_cons_succ])
          refine takeW 8 ?_
          refine takeW 9 ?_
          refine takeW 10 ?_
          refine takeW 11 ?_
          (try simp only [Act.put, List.setIfInBounds_toArray, List.set_cons_zero, List.set_cons_succ])
          refine takeW 12 ?_
          refine takeW 13 ?_
          (try simp only [Act.put, List.setIfInBounds_toArray, List.set_cons_zero, List.set_cons_succ])
          refine wpAnyH_ready (rs := [14]) (by kernel_rfl) (by simp) ?_
          refine AllReadyH.cons rfl (fun K2 hK2 => ?_) AllReadyH.nil
          go_simp
          refine hlen.mono ?_
          rintro e w2 ⟨rfl, rfl⟩
          refine hK2.out _ _ hHeld (fun hHeld2 => ?_)
          refine takeW 15 ?_
          refine takeW 16 ?_
          (try simp only [Act.put, List.setIfInBounds_toArray, List.set_cons_zero, List.set_cons_succ])
          refine takeW 17 ?_
          (try simp only [Act.put, List.setIfInBounds_toArray, List.set_cons_zero, List.set_cons_succ])
          refine wpAnyH_done (by kernel_rfl) ?_ _
          clear hlen
          go_wp2
          refine bodyPost_ret (results_none rfl _ _ _) rfl ?_
          exact ⟨rfl, hpost.out, HK2.out⟩
      · have hp : PgAt base b bs most true wr.drew := hp0.other (Below.refl _ wr).drew
        obtain ⟨c2, c3, f3⟩ := hp.cells
        obtain ⟨hs1, hs2⟩ := hp.set_over
        have hpost : Hid (PgT base b (t ++ flatS l) most (wr.drew.setCell ⟨b, 3, none⟩ (.bool true))) := Lib.hid (.inr ⟨by have := flatS_len l k; simp only [List.length_append] at h1 ⊢; omega, _, h2, hs1⟩)
        have HK2 := Lib.hid (HK.out.drew.trans hs2)
        clear hft hfl hp hp0 he hfull hs1 hs2 h1 h2
        go_wp2_with fail
        (try simp only [List.append])
        refine wp_region_held_drew (S := (fun v => v.cell? ⟨b, 2, none⟩ = some (.int .i64 most) ∧ v.cell? ⟨b, 3, none⟩ = some (.bool true))) (by kernel_rfl) (⟨c2, c3⟩) (fun hHeld => ?_)
        refine takeW 0 ?_
        refine takeW 1 ?_
        refine takeW 2 ?_
        refine takeW 3 ?_
        (try simp only [Act.put, List.setIfInBounds_toArray, List.set_cons_zero, List.set_cons_succ])
        refine takeW 4 ?_
        refine takeU 5 ?_
        refine takeU 6 ?_
        refine takeU 7 ?_
        (try simp only [Act.put, List.setIfInBounds_toArray, List.set_cons_zero, List.set_cons_succ])
        refine takeU 8 ?_
        refine takeU 9 ?_
        refine takeU 10 ?_
        refine takeU 11 ?_
        (try simp only [Act.put, List.setIfInBounds_toArray, List.set_cons_zero, List.set_cons_succ])
        refine takeU 12 ?_
        refine takeU 13 ?_
        (try simp only [Act.put, List.setIfInBounds_toArray, List.set_cons_zero, List.set_cons_succ])
        refine wpAnyH_ready (rs := [14]) (by kernel_rfl) (by simp) ?_
        refine AllReadyH.cons rfl (fun K2 hK2 => ?_) AllReadyH.nil
        go_simp
        refine hK2.out _ _ (by assumption) (fun hHeld2 => ?_)
        refine takeU 15 ?_
        refine takeU 16 ?_
        (try simp only [Act.put, List.setIfInBounds_toArray, List.set_cons_zero, List.set_cons_succ])
        refine takeW 17 ?_
        (try simp only [Act.put, List.setIfInBounds_toArray, List.set_cons_zero, List.set_cons_succ])
        refine wpAnyH_done (by kernel_rfl) ?_ _
        go_wp2
        refine bodyPost_ret (results_none rfl _ _ _) rfl ?_
        exact ⟨rfl, hpost.out, HK2.out⟩
    · have : k = l.length := by omega
      subst this
      rw [List.take_length] at HP
      go_wp2
      go_end0
      exact ⟨rfl, HP.out, HK.out⟩
theorem pref_any (c : UInt8) (attr : Bool) (w : World) : Calls Tryz.prog 60 #[.int .u8 c.toNat, .bool attr] w fun e w' => e = .returned (.string ⟨(refB attr c).toArray⟩) ∧ w' = w := by
  have eqc : ∀ k : UInt8, c = k ↔ (c.toNat : Int) = k.toNat := fun k => ⟨fun h => by rw [h], fun h => UInt8.toNat_inj.1 (by omega)⟩
  have hR : (refB attr c) = if (c.toNat : Int) = 38 then [38, 97, 109, 112, 59] else if (c.toNat : Int) = 60 then [38, 108, 116, 59] else if (c.toNat : Int) = 62 ∧ attr = false then [38, 103, 116, 59]
      else if (c.toNat : Int) = 34 ∧ attr = true then [38, 113, 117, 111, 116, 59] else if (c.toNat : Int) = 13 then [38, 35, 49, 51, 59]
      else if (c.toNat : Int) = 10 ∧ attr = true then [38, 35, 49, 48, 59] else if (c.toNat : Int) = 9 ∧ attr = true then [38, 35, 57, 59] else [] := by
    unfold refB
    simp only [eqc]
    rfl
  rw [hR]
  generalize (c.toNat : Int) = z
  clear hR eqc
  cases attr
  all_goals
    by_cases h1 : z = 38
    · subst h1
      go_enter Tryz.func60, Tryz.ntmps60
      go_wp2
      go_ret
      exact ⟨rfl, rfl⟩
    by_cases h2 : z = 60
    · subst h2
      go_enter Tryz.func60, Tryz.ntmps60
      go_wp2
      go_ret
      exact ⟨rfl, rfl⟩
    by_cases h3 : z = 62
    · subst h3
      go_enter Tryz.func60, Tryz.ntmps60
      go_wp2
      go_ret
      exact ⟨rfl, rfl⟩
    by_cases h4 : z = 34
    · subst h4
      go_enter Tryz.func60, Tryz.ntmps60
      go_wp2
      go_ret
      exact ⟨rfl, rfl⟩
    by_cases h5 : z = 13
    · subst h5
      go_enter Tryz.func60, Tryz.ntmps60
      go_wp2
      go_ret
      exact ⟨rfl, rfl⟩
    by_cases h6 : z = 10
    · subst h6
      go_enter Tryz.func60, Tryz.ntmps60
      go_wp2
      go_ret
      exact ⟨rfl, rfl⟩
    by_cases h7 : z = 9
    · subst h7
      go_enter Tryz.func60, Tryz.ntmps60
      go_wp2
      go_ret
      exact ⟨rfl, rfl⟩
    have e1 : (z == 38) = false := by simpa using h1
    have e2 : (z == 60) = false := by simpa using h2
    have e3 : (z == 62) = false := by simpa using h3
    have e4 : (z == 34) = false := by simpa using h4
    have e5 : (z == 13) = false := by simpa using h5
    have e6 : (z == 10) = false := by simpa using h6
    have e7 : (z == 9) = false := by simpa using h7
    go_enter Tryz.func60, Tryz.ntmps60
    go_wp2
    go_ret
    exact ⟨rfl, rfl⟩
theorem esc_step {s : ByteArray} {attr : Bool} {dn k : Nat} (hdk : dn ≤ k) (hk : k < s.size) (hp : ∀ j (h : j < s.size), dn ≤ j → j < k → refB attr s[j] = []) (hne : refB attr s[k] ≠ []) :
    escL attr (s.data.toList.take dn) ++ ((s.extract dn k).data.toList ++ refB attr s[k]) = escL attr (s.data.toList.take (k + 1)) := by
  have e1 : s.data.toList.take (k + 1) = s.data.toList.take dn ++ ((s.data.toList.drop dn).take (k - dn) ++ [s[k]]) := by
    rw [List.take_add_one, show s.data.toList[k]? = some s[k] from by rw [Array.getElem?_toList]; exact Array.getElem?_eq_getElem (by simpa using hk)]
    show _ ++ [s[k]] = _
    rw [← List.append_assoc]
    congr 1
    rw [← List.take_add]
    congr 1
    omega
  rw [e1, escL_app, escL_app, extract_L]
  congr 2
  · rw [escL_plain]
    intro c hc
    obtain ⟨j, hj, rfl⟩ := List.mem_iff_getElem.1 hc
    rw [List.length_take, List.length_drop, ← Lib.size_eq] at hj
    rw [List.getElem_take, List.getElem_drop]
    exact hp (dn + j) (by omega) (by omega) (by omega)
  · simp only [escL, List.append_nil]
    unfold escB
    rw [if_neg hne]
theorem esc_last {s : ByteArray} {attr : Bool} {dn : Nat} (hdk : dn ≤ s.size) (hp : ∀ j (h : j < s.size), dn ≤ j → refB attr s[j] = []) :
    escL attr (s.data.toList.take dn) ++ (s.extract dn s.size).data.toList = escL attr s.data.toList := by
  conv => rhs; rw [← List.take_append_drop dn s.data.toList, escL_app]
  rw [extract_L]
  congr 1
  rw [List.take_of_length_le (by rw [List.length_drop, ← Lib.size_eq]; exact Nat.le_refl _), escL_plain]
  intro c hc
  obtain ⟨j, hj, rfl⟩ := List.mem_iff_getElem.1 hc
  rw [List.length_drop, ← Lib.size_eq] at hj
  rw [List.getElem_drop]
  exact hp (dn + j) (by omega) (by omega)
theorem esc_take_len (attr : Bool) (l : List UInt8) (k : Nat) : (escL attr (l.take k)).length ≤ (escL attr l).length := by
  conv => rhs; rw [← List.take_append_drop k l, escL_app, List.length_append]
  omega
set_option maxHeartbeats 2000000 in
set_option maxRecDepth 100000 in
theorem pescape_any {base b most : Nat} {t : List UInt8} {w : World} (s : ByteArray) (attr : Bool) (h : PgT base b t most w) (hm : most ≤ 9223372036854775807) (hs : s.size ≤ 1000000000) (hr : Room most (t.length + (escL attr s.data.toList).length)) :
    Calls Tryz.prog 34 #[.pointer (some ⟨b, 0, none⟩), .string s, .bool attr] w fun e w' => e = .returned (.tuple #[]) ∧ PgT base b (t ++ escL attr s.data.toList) most w' ∧ PgK base b w w' := by
  have H0 := Lib.hid h
  clear h
  go_enter Tryz.func34, Tryz.ntmps34
  go_wp2
  go_loopw [6, 11] (fun vd vi wr => ∃ dn k : Nat, dn ≤ k ∧ k ≤ s.size ∧ vd = .int .i64 dn ∧ vi = .int .i64 k ∧ Hid (PgT base b (t ++ escL attr (s.data.toList.take dn)) most wr) ∧ Hid (PgK base b w wr) ∧ Hid (∀ j (h : j < s.size), dn ≤ j → j < k → refB attr s[j] = [])) (fun _ vi _ => ((s.size : Int) - intOf vi).toNat)
  case atStart => exact ⟨0, 0, by omega, by omega, rfl, rfl, Lib.hid (by simpa [escL] using H0.out), Lib.hid (PgK.refl _ _ _), Lib.hid (fun j _ _ h => by omega)⟩
  case round =>
    obtain ⟨dn, k, hdk, hk, rfl, rfl, HP, HK, HR⟩ := hrel
    by_cases h0 : k < s.size
    · have hrf := pref_any s[k] attr wr
      by_cases hrb : refB attr s[k] = []
      · rw [hrb] at hrf
        have HR2 : Hid (∀ j (h : j < s.size), dn ≤ j → j < k + 1 → refB attr s[j] = []) := Lib.hid (fun j h h1 h2 => by
          by_cases e : j = k
          · subst e; exact hrb
          · exact HR.out j h h1 (by omega))
        clear hrb HR
        go_wp2_with fail
        refine hrf.mono ?_
        rintro e w2 ⟨rfl, rfl⟩
        clear hrf
        go_wp2
        go_roundw
        case rel => exact ⟨dn, k + 1, by omega, by omega, rfl, by go_num, HP, HK, HR2⟩
        case measure => simp [intOf]; omega
      · have hst := esc_step hdk h0 HR.out hrb
        have hle := esc_take_len attr s.data.toList (k + 1)
        have hbl := HP.out.lt
        have hfl : flatS [s.extract dn k, ⟨(refB attr s[k]).toArray⟩] = (s.extract dn k).data.toList ++ refB attr s[k] := by simp [flatS]
        have hput := pput_any [s.extract dn k, ⟨(refB attr s[k]).toArray⟩] 2 (HP.out.alloc (.cells #[.string (s.extract dn k), .string ⟨(refB attr s[k]).toArray⟩] 9)) (g := wr.heap.size) (heap_alloc_new wr _) (by omega) (by simp) hm (by
          rw [hfl]
          refine hr.le ?_
          rw [← hst] at hle
          simp only [List.length_append] at hle ⊢
          omega)
        rw [hfl, List.append_assoc, hst] at hput
        have hne : ((ByteArray.mk (refB attr s[k]).toArray).toList.isEmpty) = false := by
          rw [ByteArray.toList_eq]
          simpa using hrb
        have HKa := Lib.hid (HK.out.trans (PgK.alloc (base := base) (b := b) wr (.cells #[.string (s.extract dn k), .string ⟨(refB attr s[k]).toArray⟩] 9)))
        clear hst hle hfl hrb HR HP
        generalize (ByteArray.mk (refB attr s[k]).toArray) = rb at *
        go_wp2_with fail
        refine hrf.mono ?_
        rintro e w2 ⟨rfl, rfl⟩
        clear hrf
        go_wp2_with fail
        refine hput.mono ?_
        rintro e w3 ⟨rfl, hp3, hk3⟩
        have HP3 := Lib.hid hp3
        have HK3 := Lib.hid (HKa.out.trans hk3)
        clear hput hp3 hk3 hne
        go_wp2
        go_roundw
        case rel => exact ⟨k + 1, k + 1, by omega, by omega, by go_num, by go_num, HP3, HK3, Lib.hid (fun j _ _ h => by omega)⟩
        case measure => simp [intOf]; omega
    · have : k = s.size := by omega
      subst this
      have hst := esc_last (attr := attr) hdk (fun j h h1 => HR.out j h h1 h)
      have hbl := HP.out.lt
      have hfl : flatS [s.extract dn s.size] = (s.extract dn s.size).data.toList := by simp [flatS]
      have hput := pput_any [s.extract dn s.size] 1 (HP.out.alloc (.cells #[.string (s.extract dn s.size)] 9)) (g := wr.heap.size) (heap_alloc_new wr _) (by omega) (by simp) hm (by
        rw [hfl]
        refine hr.le ?_
        have hst2 := congrArg List.length hst
        simp only [List.length_append] at hst2 ⊢
        omega)
      rw [hfl, List.append_assoc, hst] at hput
      have HKa := Lib.hid (HK.out.trans (PgK.alloc (base := base) (b := b) wr (.cells #[.string (s.extract dn s.size)] 9)))
      clear hst hfl HR HP
      go_wp2_with fail
      refine hput.mono ?_
      rintro e w3 ⟨rfl, hp3, hk3⟩
      have HP3 := Lib.hid hp3
      have HK3 := Lib.hid (HKa.out.trans hk3)
      clear hput hp3 hk3
      go_wp2
      go_end0
      exact ⟨rfl, HP3.out, HK3.out⟩
end Go.Proofs.YtlcjepnaljfpkaaGreatDoor
