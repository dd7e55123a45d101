/- PrC PrF SbE SbF SaG SbG. -/
import Derived.Deep.Cut
import Derived.Deep.RegionHeld
import Derived.Test.YtbeglliabpflpaaGreatDoorCA2
import Derived.Test.YtbeglliabpflpaaGreatDoorCA4
import Derived.Test.YtbeglliabpflpaaGreatDoorCA7
import Derived.Test.YtbeglliabpflpaaGreatDoorCA8
import Derived.Test.YtbeglliabpflpaaGreatDoorCA13
namespace Wb
def flatS (l : List ByteArray) : List UInt8 := l.flatMap (·.data.toList)
theorem flatS_take {l : List ByteArray} {k : Nat} {s : ByteArray} (h : l[k]? = some s) : flatS (l.take (k + 1)) = flatS (l.take k) ++ s.data.toList := by
  rw [List.take_add_one, h]
  simp [flatS]
theorem flatS_len (l : List ByteArray) (k : Nat) : (flatS (l.take k)).length ≤ (flatS l).length := by
  conv => rhs; rw [← List.take_append_drop k l]
  unfold flatS
  rw [List.flatMap_append, List.length_append]
  omega
theorem wrap_sub {a b : Int} (h0 : -9223372036854775808 ≤ a - b) (h1 : a - b ≤ 9223372036854775807) : Go.IntKind.i64.wrap (a - b) = a - b := by
  simp [Go.IntKind.wrap, Go.IntKind.bits, Go.IntKind.signed]
  omega
def Room (most n : Nat) : Prop := most ≤ 140737488355328 ∨ n ≤ 140737488355328
theorem Room.le {most n m : Nat} (h : Room most n) (hm : m ≤ n) : Room most m := h.imp id (fun h => Nat.le_trans hm h)
end Wb
namespace Go.Proofs.YtbeglliabpflpaaGreatDoor
open Go.RowKit Wb
def PgT (base b : Nat) (t : List UInt8) (most : Nat) (w : World) : Prop :=
  (t.length ≤ most ∧ PgAt base b t most false w) ∨ (most < t.length ∧ ∃ bs : List UInt8, bs.length ≤ most ∧ PgAt base b bs most true w)
theorem PgT.lt {base b most : Nat} {t : List UInt8} {w : World} (h : PgT base b t most w) : base ≤ b ∧ b < w.heap.size := by
  rcases h with ⟨_, h⟩ | ⟨_, _, _, h⟩
  · exact h.lt
  · exact h.lt
theorem PgT.other {base b most : Nat} {t : List UInt8} {w w' : World} (h : PgT base b t most w) (hb : Below w.heap.size w w') : PgT base b t most w' := by
  rcases h with ⟨h1, h⟩ | ⟨h1, bs, h2, h⟩
  · exact .inl ⟨h1, h.other hb⟩
  · exact .inr ⟨h1, bs, h2, h.other hb⟩
theorem PgT.alloc {base b most : Nat} {t : List UInt8} {w : World} (h : PgT base b t most w) (o : Obj) : PgT base b t most (w.alloc o) := h.other ((Below.refl _ w).alloc (Nat.le_refl _) o)
theorem PgAt.cells {base b : Nat} {bs : List UInt8} {most : Int} {over : Bool} {w : World} (h : PgAt base b bs most over w) : w.cell? ⟨b, 2, none⟩ = some (.int .i64 most) ∧ w.cell? ⟨b, 3, none⟩ = some (.bool over) ∧ w.frozen? ⟨b, 3, none⟩ = false := by
  obtain ⟨p, _, _, v, h2, _⟩ := h.raw
  exact ⟨blk_cell h2 2, blk_cell h2 3, blk_free h2 3⟩
theorem PgAt.set_over {base b : Nat} {bs : List UInt8} {most : Int} {over : Bool} {w : World} (h : PgAt base b bs most over w) : PgAt base b bs most true (w.setCell ⟨b, 3, none⟩ (.bool true)) ∧ PgK base b w (w.setCell ⟨b, 3, none⟩ (.bool true)) := by
  obtain ⟨p, hp, h1, v, h2, h3, h4⟩ := h.raw
  refine ⟨.of_raw hp ⟨h1, v, by simpa using blk_set h2 3 (.bool true), own_blk h3 fun k hv => Below.heap_setCell _ _ _ _ (fun e => h4 (by rw [hv]; simpa using e)), h4⟩, (Keep.refl _ w).setCell (p := ⟨b, 3, none⟩) ⟨h1, .inl rfl⟩ _⟩
set_option maxHeartbeats 2000000 in
set_option maxRecDepth 100000 in
theorem pput_any {base b most g : Nat} {t : List UInt8} {w : World} (l : List ByteArray) (c : Nat) (h : PgT base b t most w) (hg : w.heap[g]? = some (.cells (cells1 l).toArray 9 (0, 0))) (hgb : g ≠ b) (hl : l.length ≤ 1000) (hm : most ≤ 9223372036854775807) (hr : Room most (t.length + (flatS l).length)) :
    Calls Tryz.prog 110 #[.pointer (some ⟨b, 0, none⟩), .slice (some ⟨g, 0, none⟩) l.length c] w fun e w' => e = .returned (.tuple #[]) ∧ PgT base b (t ++ flatS l) most w' ∧ PgK base b w w' := by
  have H0 := Lib.hid h
  have HG := Lib.hid hg
  clear h hg
  go_enter Tryz.func110, Tryz.ntmps110
  go_wp2
  go_loopw [8] (fun vi wr => ∃ k : Nat, k ≤ l.length ∧ vi = .int .i64 k ∧ Hid (PgT base b (t ++ flatS (l.take k)) most wr) ∧ Hid (PgK base b w wr)) (fun vi _ => ((l.length : Int) - intOf vi).toNat)
  case atStart => exact ⟨0, by omega, rfl, Lib.hid (by simpa [flatS] using H0.out), Lib.hid (PgK.refl _ _ _)⟩
  case round =>
    obtain ⟨k, hk, rfl, HP, HK⟩ := hrel
    by_cases h0 : k < l.length
    · obtain ⟨s, he⟩ : ∃ s, l[k]? = some s := ⟨l[k], List.getElem?_eq_getElem h0⟩
      have hgr := HK.out.blk HG.out (by decide) hgb
      have hc : wr.cell? ⟨g, k, none⟩ = some (.string s) := (blk_cell hgr k).trans (by simp [cells1, he])
      have hft := flatS_take he
      have hfl := flatS_len l (k + 1)
      have hfull := flatS_len l l.length
      rw [List.take_length] at hfull
      clear hgr
      rcases HP.out with ⟨h1, hp0⟩ | ⟨h1, bs, h2, hp0⟩
      · have hp : PgAt base b (t ++ flatS (l.take k)) most false wr.drew := hp0.other (Below.refl _ wr).drew
        obtain ⟨c2, c3, f3⟩ := hp.cells
        have hlen := page_len hp
        have HKd := Lib.hid HK.out.drew
        have hc2 := hc
        by_cases hfit : (t ++ flatS (l.take k)).length + s.size ≤ most
        · have hwr := page_write s hp (by rcases hr with hr | hr <;> (rw [hft] at hfl; simp only [List.length_append, ← Lib.size_eq] at hfit hfl ⊢; omega))
          have hpost : Hid (∀ w2, PgAt base b (t ++ flatS (l.take k) ++ s.data.toList) most false w2 → PgT base b (t ++ flatS (l.take (k + 1))) most w2) := Lib.hid (fun w2 h => .inl ⟨by rw [hft, ← List.append_assoc, List.length_append, ← Lib.size_eq]; exact hfit, by rw [hft, ← List.append_assoc]; exact h⟩)
          have hnf : ¬ ((most : Int) - ((t ++ flatS (l.take k)).length : Int) < (s.size : Int)) := by omega
          have hln0 : ((t ++ flatS (l.take k)).length : Int) ≤ most := by omega
          clear hft hfl hp hp0 he hfit hfull hc2
          generalize (t ++ flatS (l.take k)).length = n at *
          have hwp : IntKind.i64.wrap ((most : Int) - (n : Int)) = (most : Int) - (n : Int) := wrap_sub (by omega) (by omega)
          go_wp2_with fail
          (try simp only [List.append])
          refine wp_region_held_drew (S := (fun v => v.cell? ⟨b, 2, none⟩ = some (.int .i64 most) ∧ v.cell? ⟨b, 3, none⟩ = some (.bool false))) (by kernel_rfl) (⟨c2, c3⟩) (fun hHeld => ?_)
          refine takeW 0 ?_
          refine takeW 1 ?_
          refine takeW 2 ?_
          refine takeW 3 ?_
          (try simp only [Act.put, List.setIfInBounds_toArray, List.set_cons_zero, List.set_cons_succ])
          refine takeW 4 ?_
          refine takeW 5 ?_
          refine takeW 6 ?_
          refine takeW 7 ?_
          (try simp only [Act.put, List.setIfInBounds_toArray, List.set_cons_zero, List.set_cons_succ])
          refine takeW 8 ?_
          refine takeW 9 ?_
          refine takeW 10 ?_
          refine takeW 11 ?_
          (try simp only [Act.put, List.setIfInBounds_toArray, List.set_cons_zero, List.set_cons_succ])
          refine takeW 12 ?_
          refine takeW 13 ?_
          (try simp only [Act.put, List.setIfInBounds_toArray, List.set_cons_zero, List.set_cons_succ])
          refine wpAnyH_ready (rs := [14]) (by kernel_rfl) (by simp) ?_
          refine AllReadyH.cons rfl (fun K2 hK2 => ?_) AllReadyH.nil
          go_simp
          refine hlen.mono ?_
          rintro e w2 ⟨rfl, rfl⟩
          refine hK2.out _ _ hHeld (fun hHeld2 => ?_)
          refine takeW 15 ?_
          refine takeW 16 ?_
          (try simp only [Act.put, List.setIfInBounds_toArray, List.set_cons_zero, List.set_cons_succ])
          refine takeW 17 ?_
          (try simp only [Act.put, List.setIfInBounds_toArray, List.set_cons_zero, List.set_cons_succ])
          refine wpAnyH_done (by kernel_rfl) ?_ _
          go_wp2_with fail
          refine hwr.mono ?_
          rintro e w3 ⟨rfl, hp3, hk3⟩
          have HP3 := Lib.hid (hpost.out _ hp3)
          have HK3 := Lib.hid (HKd.out.trans hk3)
          clear hlen hwr hp3 hk3 hpost
          go_wp2
          go_roundw
          case rel => exact ⟨k + 1, by omega, by go_num, HP3, HK3⟩
          case measure => simp [intOf]; omega
        · obtain ⟨hs1, hs2⟩ := hp.set_over
          have hpost : Hid (PgT base b (t ++ flatS l) most (wr.drew.setCell ⟨b, 3, none⟩ (.bool true))) := Lib.hid (.inr ⟨by rw [hft] at hfl; simp only [List.length_append, ← Lib.size_eq] at hfit hfl ⊢; omega, _, h1, hs1⟩)
          have HK2 := Lib.hid (HKd.out.trans hs2)
          have hnf : (most : Int) - ((t ++ flatS (l.take k)).length : Int) < (s.size : Int) := by omega
          have hln0 : ((t ++ flatS (l.take k)).length : Int) ≤ most := by omega
          clear hft hfl hp hp0 he hfit hfull hs1 hs2 hc2
          generalize (t ++ flatS (l.take k)).length = n at *
          have hwp : IntKind.i64.wrap ((most : Int) - (n : Int)) = (most : Int) - (n : Int) := wrap_sub (by omega) (by omega)
          go_wp2_with fail
          (try simp only [List.append])
          refine wp_region_held_drew (S := (fun v => v.cell? ⟨b, 2, none⟩ = some (.int .i64 most) ∧ v.cell? ⟨b, 3, none⟩ = some (.bool false))) (by kernel_rfl) (⟨c2, c3⟩) (fun hHeld => ?_)
          refine takeW 0 ?_
          refine takeW 1 ?_
          refine takeW 2 ?_
          refine takeW 3 ?_
          (try simp only [Act.put, List.setIfInBounds_toArray, List.set_cons_zero, List.set_cons_succ])
          refine takeW 4 ?_
          refine takeW 5 ?_
          refine takeW 6 ?_
          refine takeW 7 ?_
          (try simp only [Act.put, List.setIfInBounds_toArray, List.set_cons_zero, List.set_cons_succ])
          refine takeW 8 ?_
          refine takeW 9 ?_
          refine takeW 10 ?_
          refine takeW 11 ?_
          (try simp only [Act.put, List.setIfInBounds_toArray, List.set_cons_zero, List.set_cons_succ])
          refine takeW 12 ?_
          refine takeW 13 ?_
          (try simp only [Act.put, List.setIfInBounds_toArray, List.set_cons_zero, List.set_cons_succ])
          refine wpAnyH_ready (rs := [14]) (by kernel_rfl) (by simp) ?_
          refine AllReadyH.cons rfl (fun K2 hK2 => ?_) AllReadyH.nil
          go_simp
          refine hlen.mono ?_
          rintro e w2 ⟨rfl, rfl⟩
          refine hK2.out _ _ hHeld (fun hHeld2 => ?_)
          refine takeW 15 ?_
          refine takeW 16 ?_
          (try simp only [Act.put, List.setIfInBounds_toArray, List.set_cons_zero, List.set_cons_succ])
          refine takeW 17 ?_
          (try simp only [Act.put, List.setIfInBounds_toArray, List.set_cons_zero, List.set_cons_succ])
          refine wpAnyH_done (by kernel_rfl) ?_ _
          clear hlen
          go_wp2
          refine bodyPost_ret (results_none rfl _ _ _) rfl ?_
          exact ⟨rfl, hpost.out, HK2.out⟩
      · have hp : PgAt base b bs most true wr.drew := hp0.other (Below.refl _ wr).drew
        obtain ⟨c2, c3, f3⟩ := hp.cells
        obtain ⟨hs1, hs2⟩ := hp.set_over
        have hpost : Hid (PgT base b (t ++ flatS l) most (wr.drew.setCell ⟨b, 3, none⟩ (.bool true))) := Lib.hid (.inr ⟨by have := flatS_len l k; simp only [List.length_append] at h1 ⊢; omega, _, h2, hs1⟩)
        have HK2 := Lib.hid (HK.out.drew.trans hs2)
        clear hft hfl hp hp0 he hfull hs1 hs2 h1 h2
        go_wp2_with fail
        (try simp only [List.append])
        refine wp_region_held_drew (S := (fun v => v.cell? ⟨b, 2, none⟩ = some (.int .i64 most) ∧ v.cell? ⟨b, 3, none⟩ = some (.bool true))) (by kernel_rfl) (⟨c2, c3⟩) (fun hHeld => ?_)
        refine takeW 0 ?_
        refine takeW 1 ?_
        refine takeW 2 ?_
        refine takeW 3 ?_
        (try simp only [Act.put, List.setIfInBounds_toArray, List.set_cons_zero, List.set_cons_succ])
        refine takeW 4 ?_
        refine takeU 5 ?_
        refine takeU 6 ?_
        refine takeU 7 ?_
        (try simp only [Act.put, List.setIfInBounds_toArray, List.set_cons_zero, List.set_cons_succ])
        refine takeU 8 ?_
        refine takeU 9 ?_
        refine takeU 10 ?_
        refine takeU 11 ?_
        (try simp only [Act.put, List.setIfInBounds_toArray, List.set_cons_zero, List.set_cons_succ])
        refine takeU 12 ?_
        refine takeU 13 ?_
        (try simp only [Act.put, List.setIfInBounds_toArray, List.set_cons_zero, List.set_cons_succ])
        refine wpAnyH_ready (rs := [14]) (by kernel_rfl) (by simp) ?_
        refine AllReadyH.cons rfl (fun K2 hK2 => ?_) AllReadyH.nil
        go_simp
        refine hK2.out _ _ (by assumption) (fun hHeld2 => ?_)
        refine takeU 15 ?_
        refine takeU 16 ?_
        (try simp only [Act.put, List.setIfInBounds_toArray, List.set_cons_zero, List.set_cons_succ])
        refine takeW 17 ?_
        (try simp only [Act.put, List.setIfInBounds_toArray, List.set_cons_zero, List.set_cons_succ])
        refine wpAnyH_done (by kernel_rfl) ?_ _
        go_wp2
        refine bodyPost_ret (results_none rfl _ _ _) rfl ?_
        exact ⟨rfl, hpost.out, HK2.out⟩
    · have : k = l.length := by omega
      subst this
      rw [List.take_length] at HP
      go_wp2
      go_end0
      exact ⟨rfl, HP.out, HK.out⟩
theorem pref_any (c : UInt8) (attr : Bool) (w : World) : Calls Tryz.prog 109 #[.int .u8 c.toNat, .bool attr] w fun e w' => e = .returned (.string ⟨(refB attr c).toArray⟩) ∧ w' = w := by
  have eqc : ∀ k : UInt8, c = k ↔ (c.toNat : Int) = k.toNat := fun k => ⟨fun h => by rw [h], fun h => UInt8.toNat_inj.1 (by omega)⟩
  have hR : (refB attr c) = if (c.toNat : Int) = 38 then [38, 97, 109, 112, 59] else if (c.toNat : Int) = 60 then [38, 108, 116, 59] else if (c.toNat : Int) = 62 ∧ attr = false then [38, 103, 116, 59]
      else if (c.toNat : Int) = 34 ∧ attr = true then [38, 113, 117, 111, 116, 59] else if (c.toNat : Int) = 13 then [38, 35, 49, 51, 59]
      else if (c.toNat : Int) = 10 ∧ attr = true then [38, 35, 49, 48, 59] else if (c.toNat : Int) = 9 ∧ attr = true then [38, 35, 57, 59] else [] := by
    unfold refB
    simp only [eqc]
    rfl
  rw [hR]
  generalize (c.toNat : Int) = z
  clear hR eqc
  cases attr
  all_goals
    by_cases h1 : z = 38
    · subst h1
      go_enter Tryz.func109, Tryz.ntmps109
      go_wp2
      go_ret
      exact ⟨rfl, rfl⟩
    by_cases h2 : z = 60
    · subst h2
      go_enter Tryz.func109, Tryz.ntmps109
      go_wp2
      go_ret
      exact ⟨rfl, rfl⟩
    by_cases h3 : z = 62
    · subst h3
      go_enter Tryz.func109, Tryz.ntmps109
      go_wp2
      go_ret
      exact ⟨rfl, rfl⟩
    by_cases h4 : z = 34
    · subst h4
      go_enter Tryz.func109, Tryz.ntmps109
      go_wp2
      go_ret
      exact ⟨rfl, rfl⟩
    by_cases h5 : z = 13
    · subst h5
      go_enter Tryz.func109, Tryz.ntmps109
      go_wp2
      go_ret
      exact ⟨rfl, rfl⟩
    by_cases h6 : z = 10
    · subst h6
      go_enter Tryz.func109, Tryz.ntmps109
      go_wp2
      go_ret
      exact ⟨rfl, rfl⟩
    by_cases h7 : z = 9
    · subst h7
      go_enter Tryz.func109, Tryz.ntmps109
      go_wp2
      go_ret
      exact ⟨rfl, rfl⟩
    have e1 : (z == 38) = false := by simpa using h1
    have e2 : (z == 60) = false := by simpa using h2
    have e3 : (z == 62) = false := by simpa using h3
    have e4 : (z == 34) = false := by simpa using h4
    have e5 : (z == 13) = false := by simpa using h5
    have e6 : (z == 10) = false := by simpa using h6
    have e7 : (z == 9) = false := by simpa using h7
    go_enter Tryz.func109, Tryz.ntmps109
    go_wp2
    go_ret
    exact ⟨rfl, rfl⟩
theorem esc_step {s : ByteArray} {attr : Bool} {dn k : Nat} (hdk : dn ≤ k) (hk : k < s.size) (hp : ∀ j (h : j < s.size), dn ≤ j → j < k → refB attr s[j] = []) (hne : refB attr s[k] ≠ []) :
    escL attr (s.data.toList.take dn) ++ ((s.extract dn k).data.toList ++ refB attr s[k]) = escL attr (s.data.toList.take (k + 1)) := by
  have e1 : s.data.toList.take (k + 1) = s.data.toList.take dn ++ ((s.data.toList.drop dn).take (k - dn) ++ [s[k]]) := by
    rw [List.take_add_one, show s.data.toList[k]? = some s[k] from by rw [Array.getElem?_toList]; exact Array.getElem?_eq_getElem (by simpa using hk)]
    show _ ++ [s[k]] = _
    rw [← List.append_assoc]
    congr 1
    rw [← List.take_add]
    congr 1
    omega
  rw [e1, escL_app, escL_app, extract_L]
  congr 2
  · rw [escL_plain]
    intro c hc
    obtain ⟨j, hj, rfl⟩ := List.mem_iff_getElem.1 hc
    rw [List.length_take, List.length_drop, ← Lib.size_eq] at hj
    rw [List.getElem_take, List.getElem_drop]
    exact hp (dn + j) (by omega) (by omega) (by omega)
  · simp only [escL, List.append_nil]
    unfold escB
    rw [if_neg hne]
theorem esc_last {s : ByteArray} {attr : Bool} {dn : Nat} (hdk : dn ≤ s.size) (hp : ∀ j (h : j < s.size), dn ≤ j → refB attr s[j] = []) :
    escL attr (s.data.toList.take dn) ++ (s.extract dn s.size).data.toList = escL attr s.data.toList := by
  conv => rhs; rw [← List.take_append_drop dn s.data.toList, escL_app]
  rw [extract_L]
  congr 1
  rw [List.take_of_length_le (by rw [List.length_drop, ← Lib.size_eq]; exact Nat.le_refl _), escL_plain]
  intro c hc
  obtain ⟨j, hj, rfl⟩ := List.mem_iff_getElem.1 hc
  rw [List.length_drop, ← Lib.size_eq] at hj
  rw [List.getElem_drop]
  exact hp (dn + j) (by omega) (by omega)
theorem esc_take_len (attr : Bool) (l : List UInt8) (k : Nat) : (escL attr (l.take k)).length ≤ (escL attr l).length := by
  conv => rhs; rw [← List.take_append_drop k l, escL_app, List.length_append]
  omega
set_option maxHeartbeats 2000000 in
set_option maxRecDepth 100000 in
theorem pescape_any {base b most : Nat} {t : List UInt8} {w : World} (s : ByteArray) (attr : Bool) (h : PgT base b t most w) (hm : most ≤ 9223372036854775807) (hs : s.size ≤ 1000000000) (hr : Room most (t.length + (escL attr s.data.toList).length)) :
    Calls Tryz.prog 91 #[.pointer (some ⟨b, 0, none⟩), .string s, .bool attr] w fun e w' => e = .returned (.tuple #[]) ∧ PgT base b (t ++ escL attr s.data.toList) most w' ∧ PgK base b w w' := by
  have H0 := Lib.hid h
  clear h
  go_enter Tryz.func91, Tryz.ntmps91
  go_wp2
  go_loopw [6, 11] (fun vd vi wr => ∃ dn k : Nat, dn ≤ k ∧ k ≤ s.size ∧ vd = .int .i64 dn ∧ vi = .int .i64 k ∧ Hid (PgT base b (t ++ escL attr (s.data.toList.take dn)) most wr) ∧ Hid (PgK base b w wr) ∧ Hid (∀ j (h : j < s.size), dn ≤ j → j < k → refB attr s[j] = [])) (fun _ vi _ => ((s.size : Int) - intOf vi).toNat)
  case atStart => exact ⟨0, 0, by omega, by omega, rfl, rfl, Lib.hid (by simpa [escL] using H0.out), Lib.hid (PgK.refl _ _ _), Lib.hid (fun j _ _ h => by omega)⟩
  case round =>
    obtain ⟨dn, k, hdk, hk, rfl, rfl, HP, HK, HR⟩ := hrel
    by_cases h0 : k < s.size
    · have hrf := pref_any s[k] attr wr
      by_cases hrb : refB attr s[k] = []
      · rw [hrb] at hrf
        have HR2 : Hid (∀ j (h : j < s.size), dn ≤ j → j < k + 1 → refB attr s[j] = []) := Lib.hid (fun j h h1 h2 => by
          by_cases e : j = k
          · subst e; exact hrb
          · exact HR.out j h h1 (by omega))
        clear hrb HR
        go_wp2_with fail
        refine hrf.mono ?_
        rintro e w2 ⟨rfl, rfl⟩
        clear hrf
        go_wp2
        go_roundw
        case rel => exact ⟨dn, k + 1, by omega, by omega, rfl, by go_num, HP, HK, HR2⟩
        case measure => simp [intOf]; omega
      · have hst := esc_step hdk h0 HR.out hrb
        have hle := esc_take_len attr s.data.toList (k + 1)
        have hbl := HP.out.lt
        have hfl : flatS [s.extract dn k, ⟨(refB attr s[k]).toArray⟩] = (s.extract dn k).data.toList ++ refB attr s[k] := by simp [flatS]
        have hput := pput_any [s.extract dn k, ⟨(refB attr s[k]).toArray⟩] 2 (HP.out.alloc (.cells #[.string (s.extract dn k), .string ⟨(refB attr s[k]).toArray⟩] 9)) (g := wr.heap.size) (heap_alloc_new wr _) (by omega) (by simp) hm (by
          rw [hfl]
          refine hr.le ?_
          rw [← hst] at hle
          simp only [List.length_append] at hle ⊢
          omega)
        rw [hfl, List.append_assoc, hst] at hput
        have hne : ((ByteArray.mk (refB attr s[k]).toArray).toList.isEmpty) = false := by
          rw [ByteArray.toList_eq]
          simpa using hrb
        have HKa := Lib.hid (HK.out.trans (PgK.alloc (base := base) (b := b) wr (.cells #[.string (s.extract dn k), .string ⟨(refB attr s[k]).toArray⟩] 9)))
        clear hst hle hfl hrb HR HP
        generalize (ByteArray.mk (refB attr s[k]).toArray) = rb at *
        go_wp2_with fail
        refine hrf.mono ?_
        rintro e w2 ⟨rfl, rfl⟩
        clear hrf
        go_wp2_with fail
        refine hput.mono ?_
        rintro e w3 ⟨rfl, hp3, hk3⟩
        have HP3 := Lib.hid hp3
        have HK3 := Lib.hid (HKa.out.trans hk3)
        clear hput hp3 hk3 hne
        go_wp2
        go_roundw
        case rel => exact ⟨k + 1, k + 1, by omega, by omega, by go_num, by go_num, HP3, HK3, Lib.hid (fun j _ _ h => by omega)⟩
        case measure => simp [intOf]; omega
    · have : k = s.size := by omega
      subst this
      have hst := esc_last (attr := attr) hdk (fun j h h1 => HR.out j h h1 h)
      have hbl := HP.out.lt
      have hfl : flatS [s.extract dn s.size] = (s.extract dn s.size).data.toList := by simp [flatS]
      have hput := pput_any [s.extract dn s.size] 1 (HP.out.alloc (.cells #[.string (s.extract dn s.size)] 9)) (g := wr.heap.size) (heap_alloc_new wr _) (by omega) (by simp) hm (by
        rw [hfl]
        refine hr.le ?_
        have hst2 := congrArg List.length hst
        simp only [List.length_append] at hst2 ⊢
        omega)
      rw [hfl, List.append_assoc, hst] at hput
      have HKa := Lib.hid (HK.out.trans (PgK.alloc (base := base) (b := b) wr (.cells #[.string (s.extract dn s.size)] 9)))
      clear hst hfl HR HP
      go_wp2_with fail
      refine hput.mono ?_
      rintro e w3 ⟨rfl, hp3, hk3⟩
      have HP3 := Lib.hid hp3
      have HK3 := Lib.hid (HKa.out.trans hk3)
      clear hput hp3 hk3
      go_wp2
      go_end0
      exact ⟨rfl, HP3.out, HK3.out⟩
end Go.Proofs.YtbeglliabpflpaaGreatDoor
namespace Wb
theorem ba_app (a b : List UInt8) : (ByteArray.mk a.toArray) ++ (ByteArray.mk b.toArray) = ByteArray.mk (a ++ b).toArray := by
  apply ba_data
  rw [ByteArray.data_append]
  simp
end Wb
namespace Go.Proofs.YtbeglliabpflpaaGreatDoor
open Go.RowKit Wb
theorem page_new (most : Nat) (w : World) : PgT w.heap.size w.heap.size [] most (w.alloc (.cells #[.pointer none, .slice none 0 0, .int .i64 most, .bool false] 121)) :=
  .inl ⟨Nat.zero_le _, .inl ⟨Nat.le_refl _, .slice none 0 0, heap_alloc_new w _, World.ownsRow_nil _ _ _ _, by simp [Value.ownBlock]⟩⟩
set_option maxHeartbeats 2000000 in
set_option maxRecDepth 100000 in
theorem Escape_any (s : ByteArray) (attr : Bool) (w : World) (hs : s.size ≤ 1000000000) :
    Calls Tryz.prog 59 #[.string s, .bool attr] w fun e w' => e = .returned (.string ⟨(escL attr s.data.toList).toArray⟩) ∧ Below w.heap.size w w' := by
  have hl := (escL_len attr s.data.toList).2
  rw [← Lib.size_eq] at hl
  have h1 := pescape_any s attr (page_new 9223372036854775807 w) (by omega) hs (.inr (by simp only [List.length_nil]; omega))
  have HB := Lib.hid ((Below.refl w.heap.size w).alloc (Nat.le_refl _) (.cells #[.pointer none, .slice none 0 0, .int .i64 ((9223372036854775807 : Nat) : Int), .bool false] 121))
  have HL := Lib.hid hl
  clear hl
  go_enter Tryz.func59, Tryz.ntmps59
  go_wp2_with fail
  refine h1.mono ?_
  rintro e w1 ⟨rfl, hp1, hk1⟩
  have HB1 := Lib.hid (HB.out.trans (hk1.below (by simp)))
  have hp : PgAt w.heap.size w.heap.size (escL attr s.data.toList) ((9223372036854775807 : Nat) : Int) false w1 := by
    rw [List.nil_append] at hp1
    rcases hp1 with ⟨_, h⟩ | ⟨h, _⟩
    · exact h
    · have := HL.out; omega
  have h2 := page_string hp
  clear h1 hp1 hk1 hp
  go_wp2_with fail
  refine h2.mono ?_
  rintro e w2 ⟨rfl, hb2⟩
  clear h2
  go_wp2
  go_ret
  exact ⟨rfl, HB1.out.trans hb2⟩
theorem small_lo {C : ByteArray} (hC : ∀ n, n < 10 → C.extract n (n + 1) = ⟨(digT n).toArray⟩) (n : Nat) (h : n < 10) : C.extract n (n + 1) = ⟨(digT n).toArray⟩ := hC n h
theorem small_hi {C : ByteArray} (hC : ∀ n, n < 100 → ¬ n < 10 → C.extract (n * 2) (n * 2 + 2) = ⟨(digT n).toArray⟩) (n : Nat) (h : n < 100) (h1 : ¬ n < 10) : C.extract (n * 2) (n * 2 + 2) = ⟨(digT n).toArray⟩ := hC n h h1
set_option maxRecDepth 100000 in
theorem psmall_any (n : Nat) (h : n < 100) (w : World) : Calls Tryz.prog 126 #[.int .i64 n] w fun e w' => e = .returned (.string ⟨(digT n).toArray⟩) ∧ w' = w := by
  by_cases h1 : n < 10
  · go_enter Tryz.func126, Tryz.ntmps126
    go_wp2
    go_ret
    refine ⟨congrArg (fun s => Ending.returned (Value.string s)) ?_, rfl⟩
    refine small_lo ?_ n h1
    decide +kernel
  · go_enter Tryz.func126, Tryz.ntmps126
    go_wp2
    go_ret
    refine ⟨congrArg (fun s => Ending.returned (Value.string s)) ?_, rfl⟩
    refine small_hi ?_ n h h1
    decide +kernel
theorem itoa_small (n : Nat) (h : n < 100) (w : World) : Calls Tryz.prog 57 #[.int .i64 n] w fun e w' => e = .returned (.string ⟨(digT n).toArray⟩) ∧ w' = w := by
  have hs := psmall_any n h w
  generalize (ByteArray.mk (digT n).toArray) = r at *
  have h3 : Calls Tryz.prog 107 #[.int .i64 n, .int .i64 10] w fun e w' => e = .returned (.string r) ∧ w' = w := by
    go_enter Tryz.func107, Tryz.ntmps107
    go_wp2_with fail
    refine hs.mono ?_
    rintro e w' ⟨rfl, rfl⟩
    go_wp2
    go_ret
    exact ⟨rfl, rfl⟩
  have h2 : Calls Tryz.prog 87 #[.int .i64 n] w fun e w' => e = .returned (.string r) ∧ w' = w := by
    go_enter Tryz.func87, Tryz.ntmps87
    go_wp2_with fail
    refine h3.mono ?_
    rintro e w' ⟨rfl, rfl⟩
    go_wp2
    go_ret
    exact ⟨rfl, rfl⟩
  go_enter Tryz.func57, Tryz.ntmps57
  go_wp2_with fail
  refine h2.mono ?_
  rintro e w' ⟨rfl, rfl⟩
  go_wp2
  go_ret
  exact ⟨rfl, rfl⟩
end Go.Proofs.YtbeglliabpflpaaGreatDoor
namespace Wb
theorem nameT_len {n : Pr} {plain : ByteArray} {l l' : List ByteArray} {t : List UInt8} (h : nameT n plain l = .ok (t, l')) (hl : l.length ≤ 16) : t.length ≤ n.2.size + 8 ∧ l'.length ≤ 16 := by
  have hz : n.2.data.toList.length = n.2.size := by simp
  obtain ⟨hn, ⟨_, rfl, rfl⟩ | ⟨_, _, rfl, rfl⟩ | ⟨_, _, _, hm, rfl, rfl | ⟨rfl, h16⟩⟩⟩ := nameT_cases h
  · exact ⟨by omega, hl⟩
  · refine ⟨?_, hl⟩
    rw [List.length_append, hz]
    have : sXmlK.length = 4 := rfl
    omega
  · have hi := idxB_lt hm
    have := num_len ⟨idxB n.1 l', by omega⟩
    simp only at this
    refine ⟨?_, hl⟩
    rw [List.length_append, List.length_cons, hz]
    omega
  · have hi := idxB_lt hm
    rw [List.length_append, List.length_singleton] at hi
    have := num_len ⟨idxB n.1 (l ++ [n.1]), by omega⟩
    simp only at this
    refine ⟨?_, by rw [List.length_append, List.length_singleton]; omega⟩
    rw [List.length_append, List.length_cons, hz]
    omega
end Wb
namespace Go.Proofs.YtbeglliabpflpaaGreatDoor
open Go.RowKit Wb
def cells9 (x : StV) : List Value := [.int .i64 x.kind, .bool x.any, .string x.name.1, .string x.name.2, .int .i64 x.pos, .bool x.by_, .string x.attr.1, .string x.attr.2, .string x.val]
end Go.Proofs.YtbeglliabpflpaaGreatDoor
namespace Wb
open Go Go.RowKit
theorem cells9_len (x : StV) : (Go.Proofs.YtbeglliabpflpaaGreatDoor.cells9 x).length = 9 := rfl
end Wb
namespace Go.Proofs.YtbeglliabpflpaaGreatDoor
open Go.RowKit Wb
theorem emp_or (p : ByteArray) : (p = sE ∧ p.toList = []) ∨ (p ≠ sE ∧ ¬ p.toList = []) := by
  by_cases h : p = sE
  · exact .inl ⟨h, nil_of p ((eqT_iff _ _).2 h)⟩
  · exact .inr ⟨h, ne_nil p (eqT_false.2 h)⟩
theorem nE_iff (a b : ByteArray) : ((a, b) : Pr) = nE ↔ a = sE ∧ b = sE := by unfold nE; rw [Prod.mk.injEq]
def cells9L (l : List StV) : List Value := l.flatMap cells9
theorem cells9L_at : ∀ (l : List StV) (k : Nat) (x : StV) (j : Nat), l[k]? = some x → j < 9 → (cells9L l)[k * 9 + j]? = (cells9 x)[j]?
  | [], k, x, j, h, _ => by simp at h
  | y :: l, 0, x, j, h, hj => by
    simp only [List.getElem?_cons_zero, Option.some.injEq] at h
    subst h
    unfold cells9L
    rw [List.flatMap_cons, List.getElem?_append_left (by rw [cells9_len]; omega), Nat.zero_mul, Nat.zero_add]
  | y :: l, k + 1, x, j, h, hj => by
    unfold cells9L
    rw [List.flatMap_cons, List.getElem?_append_right (by rw [cells9_len]; omega), cells9_len]
    have := cells9L_at l k x j (by simpa using h) hj
    unfold cells9L at this
    rw [← this]
    congr 1
    omega
theorem cells9L_one (l : List StV) : ∀ u ∈ cells9L l, u.oneCell' = true := by
  intro u hu
  obtain ⟨x, _, hx⟩ := List.mem_flatMap.1 hu
  unfold cells9 at hx
  simp only [List.mem_cons, List.not_mem_nil, or_false] at hx
  rcases hx with rfl | rfl | rfl | rfl | rfl | rfl | rfl | rfl | rfl <;> rfl
def Sl9 (w : World) (A : Option Addr) (l : List StV) : Prop := Sl w 9 A l.length (cells9L l)
theorem Sl9.below {w w' : World} {A : Option Addr} {l : List StV} (h : Sl9 w A l) (hb : Below w.heap.size w w') : Sl9 w' A l := Sl.below h hb
theorem Sl9.at_ {w : World} {A : Option Addr} {l : List StV} (h : Sl9 w A l) {k : Nat} {x : StV} (hx : l[k]? = some x) :
    ∃ ad, A = some ad ∧ ad.block < w.heap.size ∧ w.cell? (ad.add (k * 9)) = some (.int .i64 x.kind) ∧ ∀ j v, 0 < j → (cells9 x)[j]? = some v → w.cell? ⟨(ad.add (k * 9)).block, (ad.add (k * 9)).off + j, none⟩ = some v := by
  have hk : k < l.length := (List.getElem?_eq_some_iff.1 hx).1
  obtain ⟨ad, e, hb, hc⟩ := h.2 (by omega)
  refine ⟨ad, e, hb, ?_, fun j v hj hv => ?_⟩
  · have := cells9L_at l k x 0 hx (by omega)
    exact hc _ _ (by rw [Nat.add_zero] at this; rw [this]; rfl)
  · have hj9 : j < 9 := (List.getElem?_eq_some_iff.1 hv).1
    have := cells9L_at l k x j hx hj9
    rw [← add_succ _ _ j hj]
    exact hc _ _ (by rw [this]; exact hv)
end Go.Proofs.YtbeglliabpflpaaGreatDoor
namespace Wb
def contT (ts : List (List UInt8)) : Except Int (List (List UInt8) × List ByteArray) → Except Int (List (List UInt8) × List ByteArray)
  | .error e => .error e
  | .ok (a, l) => .ok (ts ++ a, l)
theorem contT_nil : ∀ o, contT [] o = o
  | .error _ => rfl
  | .ok (_, _) => rfl
theorem contT_bad {space : ByteArray} {x : StV} {r : List StV} {sp : List ByteArray} {k : Int} (ts : List (List UInt8)) (h : stpT x space sp = .error k) : contT ts (stpsT space (x :: r) sp) = .error k := by
  rw [stpsT, h]
  rfl
theorem contT_good {space : ByteArray} {x : StV} {r : List StV} {sp sp' : List ByteArray} {t : List UInt8} (ts : List (List UInt8)) (h : stpT x space sp = .ok (t, sp')) : contT ts (stpsT space (x :: r) sp) = contT (ts ++ [t]) (stpsT space r sp') := by
  rw [stpsT, h]
  simp only
  cases stpsT space r sp' with
  | error e => rfl
  | ok p =>
    obtain ⟨a, l⟩ := p
    simp [contT]
theorem query_more : ∀ (sp : List ByteArray) (k i : Nat) (s : ByteArray), sp[i]? = some s → queryT k (sp.take (i + 1)) = queryT k (sp.take i) ++ (sBindK ++ (numT (k + i) ++ 61 :: s.data.toList) ++ [41])
  | [], k, i, s, h => by simp at h
  | x :: sp, k, 0, s, h => by
    simp only [List.getElem?_cons_zero, Option.some.injEq] at h
    subst h
    simp [queryT]
  | x :: sp, k, i + 1, s, h => by
    rw [List.take_succ_cons, List.take_succ_cons, queryT, queryT, query_more sp (k + 1) i s (by simpa using h)]
    rw [show k + 1 + i = k + (i + 1) by omega]
    simp
def prV : Except Int (List UInt8 × List UInt8) → Int × List UInt8 × List UInt8
  | .error k => (k, [], [])
  | .ok (s, q) => (0, s, q)
theorem printS_no {space : ByteArray} {l : List StV} (h : shapeS l = false) : printS space l = .error 33 := by unfold printS; rw [if_pos h]
theorem printS_bad {space : ByteArray} {l : List StV} {k : Int} (h : shapeS l = true) (hs : stpsT space l [] = .error k) : printS space l = .error k := by unfold printS; rw [if_neg (by rw [h]; decide), hs]
theorem printS_ok {space : ByteArray} {l : List StV} {ts : List (List UInt8)} {sp : List ByteArray} (h : shapeS l = true) (hs : stpsT space l [] = .ok (ts, sp)) : printS space l = .ok (joinB 47 (ts.map (pctE [])), pctE [] (queryT 0 sp)) := by unfold printS; rw [if_neg (by rw [h]; decide), hs]
theorem shapeS_len {l : List StV} (h : shapeS l = true) : 1 ≤ l.length ∧ l.length ≤ 16 := by
  unfold shapeS at h
  simp only [Bool.and_eq_true, decide_eq_true_eq] at h
  exact h.2
theorem contT_end (ts : List (List UInt8)) (space : ByteArray) (sp : List ByteArray) : contT ts (stpsT space [] sp) = .ok (ts, sp) := by
  rw [stpsT]
  simp [contT]
end Wb
namespace Wb
theorem nameT_nz {n : Pr} {plain : ByteArray} {l : List ByteArray} {k : Int} (h : nameT n plain l = .error k) : k ≠ 0 := by
  unfold nameT at h
  repeat' (split at h)
  all_goals first
    | (injection h with h; subst h; decide)
    | cases h
theorem stp_err {x : StV} {space : ByteArray} {l : List ByteArray} {k : Int} (h : stpT x space l = .error k) : k ≠ 0 := by
  unfold stpT elemT at h
  repeat' (split at h)
  all_goals first
    | cases h; done
    | (rename_i hn; injection h with h; subst h; exact nameT_nz hn)
    | (injection h with h; subst h; decide)
    | (rename_i hn; injection h with h; subst h; split at hn; exact nameT_nz hn)
    | (rename_i hn; injection h with h; subst h; split at hn <;> first | (cases hn; done) | exact nameT_nz hn)
theorem shapeL_pos : ∀ (l : List StV) (f : Bool), shapeL f l = true → ∀ x ∈ l, x.pos ≤ 9999
  | [], _, _ => fun x hx => by simp at hx
  | y :: l, f, h => by
    rw [shapeL, Bool.and_eq_true] at h
    intro x hx
    rcases List.mem_cons.1 hx with rfl | hx
    · have h1 := h.1
      unfold shape1 at h1
      repeat' (split at h1)
      all_goals simp at h1
      · omega
      · omega
      · omega
    · exact shapeL_pos l false h.2 x hx
theorem shapeS_pos {l : List StV} (h : shapeS l = true) : ∀ x ∈ l, x.pos ≤ 9999 := by
  unfold shapeS at h
  rw [Bool.and_eq_true] at h
  exact shapeL_pos l true h.1
end Wb
namespace Go.Proofs.YtbeglliabpflpaaGreatDoor
open Go.RowKit Wb
def PrintV (o : Except Int (List UInt8 × List UInt8)) : Value := .tuple #[.string (mkT (prV o).2.1), .string (mkT (prV o).2.2), .int .i64 (prV o).1]
end Go.Proofs.YtbeglliabpflpaaGreatDoor
