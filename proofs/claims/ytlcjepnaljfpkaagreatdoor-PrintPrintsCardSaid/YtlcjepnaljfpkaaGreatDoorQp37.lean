/- TrYd TrE TrEf TrSu. -/
import Derived.Deep.RegionHeld2
import Derived.Deep.Cut
import Derived.BigRegion
import Derived.Deep.RegionHeld
import Derived.Test.YtlcjepnaljfpkaaGreatDoorQp11
import Derived.Test.YtlcjepnaljfpkaaGreatDoorQp36
namespace Go.Proofs.YtlcjepnaljfpkaaGreatDoor
open Go.RowKit Wb
theorem parse_right {s : ByteArray} {n : Nd} (h : parseX s = .ok n) : okN 1 n ∧ n.kind = 1 ∧ costN n ≤ 2000 ∧ 2 * costN n ≤ s.size := by
  unfold parseX at h
  rcases tokens_fit s.data.toList with ⟨ts, hd, ht⟩ | ⟨_, p, c, ht, _⟩
  · rw [ht] at h
    have h : treeX s.size (ts.map tkv) = .ok n := h
    rw [Lib.size_eq] at h ⊢
    exact doc_tree hd h
  · rw [ht] at h
    cases h
end Go.Proofs.YtlcjepnaljfpkaaGreatDoor
namespace Go.Proofs.YtlcjepnaljfpkaaGreatDoor
open Go.RowKit Wb
theorem drop_at' {α : Type} {l : List α} {k : Nat} {x : α} (h : l[k]? = some x) : l.drop k = x :: l.drop (k + 1) := by
  obtain ⟨hk, e⟩ := List.getElem?_eq_some_iff.1 h
  rw [List.drop_eq_getElem_cons hk, e]
theorem run_min (P : Program) (a m : Nat) (ts : Array TypeId) (t : TypeId) (w : World) : (Builtin.min_ ts t #[.int .i64 (a : Int), .int .i64 (m : Int)]).run P w = .ok (.int .i64 ((min a m : Nat) : Int)) w := by
  by_cases h : (m : Int) < a
  · have : min a m = m := by omega
    rw [this]
    simp [Builtin.min_, Builtin.min2, h]
  · have : min a m = a := by omega
    rw [this]
    simp [Builtin.min_, Builtin.min2, h]
theorem min_nat (P : Program) (a m : Nat) : ∃ p : Nat, p ≤ m ∧ (∀ (ts : Array TypeId) (t : TypeId) (w : World), (Builtin.min_ ts t #[.int .i64 (a : Int), .int .i64 (m : Int)]).run P w = .ok (.int .i64 (p : Int)) w) ∧ min a m = p :=
  ⟨min a m, Nat.min_le_right _ _, run_min P a m, rfl⟩
theorem weighAs_done {m v : Nat} {l : List Tr} (h : m < v ∨ l = []) : weighAs m v l = v := by
  cases l with
  | nil => rfl
  | cons a l =>
    rcases h with h | h
    · unfold weighAs; rw [if_neg (by omega)]
    · cases h
theorem weighKs_done {m v : Nat} {l : List Nd} (h : m < v ∨ l = []) : weighKs l m v = v := by
  cases l with
  | nil => unfold weighKs; rfl
  | cons a l =>
    rcases h with h | h
    · unfold weighKs; rw [if_neg (by omega)]
    · cases h
theorem weighAs_go {m v k : Nat} {al : List Tr} {a1 a2 a3 : ByteArray} (he : al[k]? = some ((a1, a2), a3)) (h : v ≤ m) : weighAs m v (al.drop k) = weighAs m (v + (min a1.size m + min a2.size m + min a3.size m)) (al.drop (k + 1)) := by
  rw [drop_at' he]
  conv => lhs; unfold weighAs
  rw [if_pos h]
  rfl
theorem weighKs_go {m v k : Nat} {ks : List Nd} {x : Nd} (he : ks[k]? = some x) (h : v ≤ m) : weighKs (ks.drop k) m v = weighKs (ks.drop (k + 1)) m (v + weighN x (m - v)) := by
  rw [drop_at' he]
  conv => lhs; unfold weighKs
  rw [if_pos h]
set_option maxHeartbeats 4000000 in
theorem weigh_any (n : Nd) : ∀ (A K : Option Addr) (ca ck m : Nat) (w : World), m ≤ 30000 → NodeV w n A K → lenN 9223372036854775807 n →
    Calls Tryz.prog 28 #[ndV n A ca K ck, .int .i64 m] w fun e w' => e = .returned (.int .i64 (weighN n m)) ∧ Below w.heap.size w w' := by
  induction n using Nd.induct with
  | h n ih =>
    intro A K ca ck m w hm hV hln
    obtain ⟨hA, hK⟩ := hV
    obtain ⟨hla, hlk, hl3⟩ := (lenN_is _ n).1 hln
    have IH := Lib.hid ih
    have L3 := Lib.hid hl3
    rw [weighN_is]
    unfold headW
    obtain ⟨kd, ⟨sp, lo⟩, al, ks, tx⟩ := n
    simp only [Nd.kids] at IH L3 hK hlk ⊢
    simp only [Nd.attrs] at hA hla ⊢
    unfold ndV ndCells
    simp only [Nd.kind, Nd.name, Nd.attrs, Nd.kids, Nd.text]
    clear ih hln hl3
    obtain ⟨p1, b1, e1, f1⟩ := min_nat Tryz.prog tx.size m
    obtain ⟨p2, b2, e2, f2⟩ := min_nat Tryz.prog sp.size m
    obtain ⟨p3, b3, e3, f3⟩ := min_nat Tryz.prog lo.size m
    obtain ⟨p4, b4, e4, f4⟩ := min_nat Tryz.prog al.length m
    rw [f1, f2, f3, f4]
    clear f1 f2 f3 f4
    go_enter Tryz.func28, Tryz.ntmps28
    go_wp2
    have hbx : (w.alloc (.cells #[.int .i64 kd, .string sp, .string lo, .slice A al.length ca, .slice K ks.length ck, .string tx] 37)).heap[w.heap.size]? = some (.cells #[.int .i64 kd, .string sp, .string lo, .slice A al.length ca, .slice K ks.length ck, .string tx] 37 (0, 0)) := by
      show (w.heap.push _)[w.heap.size]? = _
      simp
    have hbw : Below w.heap.size w (w.alloc (.cells #[.int .i64 kd, .string sp, .string lo, .slice A al.length ca, .slice K ks.length ck, .string tx] 37)) := (Below.refl _ w).alloc (Nat.le_refl _) _
    have hA1 := hA.below hbw
    have hK1 := Lib.hid (hK.below hbw)
    have hw0 : w.heap.size < (w.alloc (.cells #[.int .i64 kd, .string sp, .string lo, .slice A al.length ca, .slice K ks.length ck, .string tx] 37)).heap.size := by simp
    have HB := Lib.hid hbw
    clear hbw
    revert hbx hA1 hK1 hw0 HB
    generalize (w.alloc (.cells #[.int .i64 kd, .string sp, .string lo, .slice A al.length ca, .slice K ks.length ck, .string tx] 37)) = wb
    intro hbx hA1 hK1 hw0 HB
    have C3 := Lib.hid (fun (v : World) (h : Below wb.heap.size wb v) => (show v.cell? ⟨w.heap.size, 3, none⟩ = some (.slice A al.length ca) by simp only [World.cell?, (h.block _ hw0).trans hbx]; rfl))
    have C4 := Lib.hid (fun (v : World) (h : Below wb.heap.size wb v) => (show v.cell? ⟨w.heap.size, 4, none⟩ = some (.slice K ks.length ck) by simp only [World.cell?, (h.block _ hw0).trans hbx]; rfl))
    clear hbx
    go_loopw [5, 6] (fun vs vi wr => ∃ k v : Nat, k ≤ al.length ∧ vi = .int .i64 k ∧ vs = .int .i64 v ∧ v ≤ 4 * m + 1 ∧ Hid (weighAs m (1 + p1 + p2 + p3 + p4) al = weighAs m v (al.drop k)) ∧ Hid (Below wb.heap.size wb wr)) (fun _ vi _ => ((al.length : Int) - intOf vi).toNat)
    case atStart => exact ⟨0, 1 + p1 + p2 + p3 + p4, by omega, rfl, by go_num, by omega, Lib.hid rfl, Lib.hid (Below.refl _ _)⟩
    case round =>
      obtain ⟨k, v, hk, rfl, rfl, hv, hW, HR⟩ := hrel
      have c3 := C3.out wr HR.out
      by_cases h0 : k < al.length ∧ v ≤ m
      · obtain ⟨h1, h2⟩ := h0
        obtain ⟨⟨⟨a1, a2⟩, a3⟩, he⟩ : ∃ x, al[k]? = some x := ⟨al[k], List.getElem?_eq_getElem h1⟩
        obtain ⟨ad, rfl, had, d1, d2, d3⟩ := (hA1.below HR.out).at_ he
        have hgo := weighAs_go he h2
        simp only at d1 d2 d3
        obtain ⟨q1, g1, r1, s1⟩ := min_nat Tryz.prog a1.size m
        obtain ⟨q2, g2, r2, s2⟩ := min_nat Tryz.prog a2.size m
        obtain ⟨q3, g3, r3, s3⟩ := min_nat Tryz.prog a3.size m
        rw [s1, s2, s3] at hgo
        have hW2 := Lib.hid (hW.out.trans hgo)
        clear hgo s1 s2 s3 he hW
        go_upto_region 5 with fail
        go_region
        go_wp2
        go_roundw
        case rel => exact ⟨k + 1, v + (q1 + q2 + q3), by omega, by go_num, by go_num, by omega, hW2, Lib.hid HR.out.drew⟩
        case measure => simp [intOf]; omega
      · have hx : m < v ∨ al.drop k = [] := by
          by_cases h1 : k < al.length
          · left; omega
          · right; exact List.drop_eq_nil_of_le (by omega)
        have hd := Lib.hid (hW.out.trans (weighAs_done hx))
        clear hx hW
        have hh : al.length ≤ k ∨ (k < al.length ∧ m < v) := by omega
        clear h0
        rcases hh with h1 | ⟨h1, h2⟩
        all_goals
          go_wp2
          try rw [decide_eq_false (show ¬ v ≤ m by omega)]
          go_loopw [5, 7] (fun vs vi wr2 => ∃ k2 v2 : Nat, k2 ≤ ks.length ∧ vi = .int .i64 k2 ∧ vs = .int .i64 v2 ∧ v2 ≤ 5 * m + 1 ∧ Hid (weighKs ks m v = weighKs (ks.drop k2) m v2) ∧ Hid (Below wb.heap.size wb wr2)) (fun _ vi _ => ((ks.length : Int) - intOf vi).toNat)
          case atStart => exact ⟨0, v, by omega, rfl, rfl, by omega, Lib.hid rfl, HR⟩
          case round =>
            obtain ⟨k2, v2, hk2, rfl, rfl, hv2, hW2, HR2⟩ := hrel
            have c4 := C4.out _ HR2.out
            by_cases h3 : k2 < ks.length ∧ v2 ≤ m
            · obtain ⟨h4, h5⟩ := h3
              obtain ⟨x, he⟩ : ∃ x, ks[k2]? = some x := ⟨ks[k2], List.getElem?_eq_getElem h4⟩
              obtain ⟨ad, A1, ca1, K1, ck1, rfl, had, d0, d1, d2, d3, d4, d5, hA2, hK2⟩ := (hK1.out.below HR2.out).at_ he
              have hgo := weighKs_go he h5
              have hI := IH.out x (List.mem_of_getElem? he) A1 K1 ca1 ck1 (m - v2) _ (by omega) ⟨hA2, hK2⟩ (L3.out x (List.mem_of_getElem? he))
              have hb5 := weigh_bound x (m - v2)
              have hmv : ((m - v2 : Nat) : Int) = (m : Int) - (v2 : Int) := by omega
              rw [hmv] at hI
              generalize weighN x (m - v2) = z at hI hgo hb5
              have hW3 := Lib.hid (hW2.out.trans hgo)
              unfold ndV ndCells at hI
              clear hgo he hA2 hK2 hmv hW2
              go_wp2_with fail
              refine hI.mono ?_
              rintro e w2 ⟨rfl, hb2⟩
              have HR3 := Lib.hid (HR2.out.trans (hb2.mono HR2.out.size))
              clear hI hb2
              go_wp2
              go_roundw
              case rel => exact ⟨k2 + 1, v2 + z, by omega, by go_num, by go_num, by omega, hW3, HR3⟩
              case measure => simp [intOf]; omega
            · have hx2 : m < v2 ∨ ks.drop k2 = [] := by
                by_cases h4 : k2 < ks.length
                · left; omega
                · right; exact List.drop_eq_nil_of_le (by omega)
              have hd2 := Lib.hid (hW2.out.trans (weighKs_done hx2))
              clear hx2 hW2
              have hh2 : ks.length ≤ k2 ∨ (k2 < ks.length ∧ m < v2) := by omega
              clear h3
              rcases hh2 with h4 | ⟨h4, h5⟩
              all_goals
                go_wp2
                go_ret
                refine ⟨?_, HB.out.trans (HR2.out.mono HB.out.size)⟩
                show Ending.returned (.int .i64 (v2 : Int)) = _
                rw [hd.out, hd2.out]
end Go.Proofs.YtlcjepnaljfpkaaGreatDoor
namespace Go.Proofs.YtlcjepnaljfpkaaGreatDoor
open Go.RowKit Wb
set_option maxRecDepth 100000 in
theorem tfew_any (n : Nd) (A K : Option Addr) (ca ck : Nat) (w : World) (hV : NodeV w n A K) (hl : lenN 9223372036854775807 n) :
    Calls Tryz.prog 12 #[ndV n A ca K ck] w fun e w' => e = .returned (.bool (decide (weighN n 30000 ≤ 30000))) ∧ Below w.heap.size w w' := by
  have hI := weigh_any n A K ca ck 30000 (w.alloc (.cells (ndCells n.kind n.name A n.attrs.length ca K n.kids.length ck n.text).toArray 37)) (by omega) (NodeV.below hV ((Below.refl _ w).alloc (Nat.le_refl _) _)) hl
  have hN := heap_alloc_new w (.cells (ndCells n.kind n.name A n.attrs.length ca K n.kids.length ck n.text).toArray 37)
  have HB := Lib.hid ((Below.refl w.heap.size w).alloc (Nat.le_refl _) (.cells (ndCells n.kind n.name A n.attrs.length ca K n.kids.length ck n.text).toArray 37))
  have hsz : w.heap.size ≤ (w.alloc (.cells (ndCells n.kind n.name A n.attrs.length ca K n.kids.length ck n.text).toArray 37)).heap.size := by simp
  unfold ndV ndCells at hI ⊢
  unfold ndCells at hN HB hsz
  have n0 := blk_cell hN 0
  have n1 := blk_cell hN 1
  have n2 := blk_cell hN 2
  have n3 := blk_cell hN 3
  have n4 := blk_cell hN 4
  have n5 := blk_cell hN 5
  simp only [List.getElem?_toArray, List.getElem?_cons_zero, List.getElem?_cons_succ] at n0 n1 n2 n3 n4 n5
  clear hN
  go_enter Tryz.func12, Tryz.ntmps12
  go_wp2_with fail
  refine hI.mono ?_
  rintro e w2 ⟨rfl, hb2⟩
  clear hI
  go_wp2
  go_ret
  exact ⟨by congr 2; simp; omega, HB.out.trans (hb2.mono hsz)⟩
end Go.Proofs.YtlcjepnaljfpkaaGreatDoor
namespace Go.Proofs.YtlcjepnaljfpkaaGreatDoor
open Go.RowKit Wb
theorem cells_of_nd {w : World} {g : Nat} {k : Int} {p q : ByteArray} {A K : Option Addr} {la ca lk ck : Nat} {t : ByteArray} {ty : TypeId} (h : w.heap[g]? = some (.cells #[.int .i64 k, .string p, .string q, .slice A la ca, .slice K lk ck, .string t] ty (0, 0))) :
    w.cell? ⟨g, 0, none⟩ = some (.int .i64 k) ∧ w.cell? ⟨g, 1, none⟩ = some (.string p) ∧ w.cell? ⟨g, 2, none⟩ = some (.string q) ∧ w.cell? ⟨g, 3, none⟩ = some (.slice A la ca) ∧ w.cell? ⟨g, 4, none⟩ = some (.slice K lk ck) ∧ w.cell? ⟨g, 5, none⟩ = some (.string t) := by
  refine ⟨?_, ?_, ?_, ?_, ?_, ?_⟩ <;> simp [World.cell?, h]
end Go.Proofs.YtlcjepnaljfpkaaGreatDoor
