/- PrF. -/
import Derived.Test.YtlcjepnaljfpkaaGreatDoorQp12
import Derived.Test.YtlcjepnaljfpkaaGreatDoorQp13
namespace Wb
theorem flat3 (a b c : ByteArray) : flatS [a, b, c] = a.data.toList ++ (b.data.toList ++ c.data.toList) := by simp [flatS]
theorem flat2 (a b : ByteArray) : flatS [a, b] = a.data.toList ++ b.data.toList := by simp [flatS]
theorem flat1 (a : ByteArray) : flatS [a] = a.data.toList := by simp [flatS]
theorem ba_app (a b : List UInt8) : (ByteArray.mk a.toArray) ++ (ByteArray.mk b.toArray) = ByteArray.mk (a ++ b).toArray := by
  apply ba_data
  rw [ByteArray.data_append]
  simp
end Wb
namespace Go.Proofs.YtlcjepnaljfpkaaGreatDoor
open Go.RowKit Wb
theorem two_pg {base b : Nat} {w w2 w3 : World} (h : PgK base b w w2) (o : Obj) (k : PgK base b (w2.alloc o) w3) : PgK base b w w3 := (h.trans (PgK.alloc w2 o)).trans k
set_option maxHeartbeats 2000000 in
set_option maxRecDepth 100000 in
theorem pattr_any {base b most : Nat} {t : List UInt8} {w : World} (name value : ByteArray) (h : PgT base b t most w) (hm : most ≤ 9223372036854775807) (hs : value.size ≤ 1000000000) (hr : Room most (t.length + (attrT name.data.toList value.data.toList).length)) :
    Calls Tryz.prog 52 #[.pointer (some ⟨b, 0, none⟩), .string name, .string value] w fun e w' => e = .returned (.tuple #[]) ∧ PgT base b (t ++ attrT name.data.toList value.data.toList) most w' ∧ PgK base b w w' := by
  have hlt := h.lt
  have ht : ∀ t : List UInt8, t ++ attrT name.data.toList value.data.toList = t ++ flatS [⟨#[32]⟩, name, ⟨#[61, 34]⟩] ++ escL true value.data.toList ++ flatS [⟨#[34]⟩] := fun t => by
    rw [flat3, flat1]
    unfold attrT
    simp
  have hlen : (attrT name.data.toList value.data.toList).length = (flatS [⟨#[32]⟩, name, ⟨#[61, 34]⟩]).length + (escL true value.data.toList).length + (flatS [(⟨#[34]⟩ : ByteArray)]).length := by
    have := congrArg List.length (ht [])
    simp only [List.nil_append, List.length_append] at this
    exact this
  rw [ht t]
  have h1 := pput_any [⟨#[32]⟩, name, ⟨#[61, 34]⟩] 3 (h.alloc (.cells #[.string ⟨#[32]⟩, .string name, .string ⟨#[61, 34]⟩] 9)) (g := w.heap.size) (heap_alloc_new w _) (by omega) (by simp) hm (hr.le (by omega))
  have h2 := fun (v : World) (hv : PgT base b (t ++ flatS [⟨#[32]⟩, name, ⟨#[61, 34]⟩]) most v) => pescape_any value true hv hm hs (hr.le (by rw [List.length_append]; omega))
  have h3 := fun (v : World) (hv : PgT base b (t ++ flatS [⟨#[32]⟩, name, ⟨#[61, 34]⟩] ++ escL true value.data.toList) most v) => pput_any [⟨#[34]⟩] 1 (hv.alloc (.cells #[.string ⟨#[34]⟩] 9)) (g := v.heap.size) (heap_alloc_new v _) (by have := hv.lt; omega) (by simp) hm (hr.le (by rw [List.length_append, List.length_append]; omega))
  have H2 := Lib.hid h2
  have H3 := Lib.hid h3
  have HA := Lib.hid (PgK.alloc (base := base) (b := b) w (.cells #[.string ⟨#[32]⟩, .string name, .string ⟨#[61, 34]⟩] 9))
  clear h hlt ht hlen h2 h3
  go_enter Tryz.func52, Tryz.ntmps52
  go_wp2_with fail
  refine h1.mono ?_
  rintro e w1 ⟨rfl, hp1, hk1⟩
  have HK1 := Lib.hid (HA.out.trans hk1)
  have h2 := H2.out w1 hp1
  clear h1 hp1 hk1
  go_wp2_with fail
  refine h2.mono ?_
  rintro e w2 ⟨rfl, hp2, hk2⟩
  have HK2 := Lib.hid (HK1.out.trans hk2)
  have h3 := H3.out w2 hp2
  clear h2 hp2 hk2
  go_wp2_with fail
  refine h3.mono ?_
  rintro e w3 ⟨rfl, hp3, hk3⟩
  have HK3 := Lib.hid (two_pg HK2.out _ hk3)
  have HP3 := Lib.hid hp3
  clear h3 hp3 hk3
  go_wp2
  go_end0
  exact ⟨rfl, HP3.out, HK3.out⟩
theorem page_new (most : Nat) (w : World) : PgT w.heap.size w.heap.size [] most (w.alloc (.cells #[.pointer none, .slice none 0 0, .int .i64 most, .bool false] 73)) :=
  .inl ⟨Nat.zero_le _, .inl ⟨Nat.le_refl _, .slice none 0 0, heap_alloc_new w _, World.ownsRow_nil _ _ _ _, by simp [Value.ownBlock]⟩⟩
set_option maxHeartbeats 2000000 in
set_option maxRecDepth 100000 in
theorem Escape_any (s : ByteArray) (attr : Bool) (w : World) (hs : s.size ≤ 1000000000) :
    Calls Tryz.prog 16 #[.string s, .bool attr] w fun e w' => e = .returned (.string ⟨(escL attr s.data.toList).toArray⟩) ∧ Below w.heap.size w w' := by
  have hl := (escL_len attr s.data.toList).2
  rw [← Lib.size_eq] at hl
  have h1 := pescape_any s attr (page_new 9223372036854775807 w) (by omega) hs (.inr (by simp only [List.length_nil]; omega))
  have HB := Lib.hid ((Below.refl w.heap.size w).alloc (Nat.le_refl _) (.cells #[.pointer none, .slice none 0 0, .int .i64 ((9223372036854775807 : Nat) : Int), .bool false] 73))
  have HL := Lib.hid hl
  clear hl
  go_enter Tryz.func16, Tryz.ntmps16
  go_wp2_with fail
  refine h1.mono ?_
  rintro e w1 ⟨rfl, hp1, hk1⟩
  have HB1 := Lib.hid (HB.out.trans (hk1.below (by simp)))
  have hp : PgAt w.heap.size w.heap.size (escL attr s.data.toList) ((9223372036854775807 : Nat) : Int) false w1 := by
    rw [List.nil_append] at hp1
    rcases hp1 with ⟨_, h⟩ | ⟨h, _⟩
    · exact h
    · have := HL.out; omega
  have h2 := page_string hp
  clear h1 hp1 hk1 hp
  go_wp2_with fail
  refine h2.mono ?_
  rintro e w2 ⟨rfl, hb2⟩
  clear h2
  go_wp2
  go_ret
  exact ⟨rfl, HB1.out.trans hb2⟩
theorem small_lo {C : ByteArray} (hC : ∀ n, n < 10 → C.extract n (n + 1) = ⟨(digT n).toArray⟩) (n : Nat) (h : n < 10) : C.extract n (n + 1) = ⟨(digT n).toArray⟩ := hC n h
theorem small_hi {C : ByteArray} (hC : ∀ n, n < 100 → ¬ n < 10 → C.extract (n * 2) (n * 2 + 2) = ⟨(digT n).toArray⟩) (n : Nat) (h : n < 100) (h1 : ¬ n < 10) : C.extract (n * 2) (n * 2 + 2) = ⟨(digT n).toArray⟩ := hC n h h1
set_option maxRecDepth 100000 in
theorem psmall_any (n : Nat) (h : n < 100) (w : World) : Calls Tryz.prog 41 #[.int .i64 n] w fun e w' => e = .returned (.string ⟨(digT n).toArray⟩) ∧ w' = w := by
  by_cases h1 : n < 10
  · go_enter Tryz.func41, Tryz.ntmps41
    go_wp2
    go_ret
    refine ⟨congrArg (fun s => Ending.returned (Value.string s)) ?_, rfl⟩
    refine small_lo ?_ n h1
    decide +kernel
  · go_enter Tryz.func41, Tryz.ntmps41
    go_wp2
    go_ret
    refine ⟨congrArg (fun s => Ending.returned (Value.string s)) ?_, rfl⟩
    refine small_hi ?_ n h h1
    decide +kernel
theorem itoa_small (n : Nat) (h : n < 100) (w : World) : Calls Tryz.prog 6 #[.int .i64 n] w fun e w' => e = .returned (.string ⟨(digT n).toArray⟩) ∧ w' = w := by
  have hs := psmall_any n h w
  generalize (ByteArray.mk (digT n).toArray) = r at *
  have h3 : Calls Tryz.prog 21 #[.int .i64 n, .int .i64 10] w fun e w' => e = .returned (.string r) ∧ w' = w := by
    go_enter Tryz.func21, Tryz.ntmps21
    go_wp2_with fail
    refine hs.mono ?_
    rintro e w' ⟨rfl, rfl⟩
    go_wp2
    go_ret
    exact ⟨rfl, rfl⟩
  have h2 : Calls Tryz.prog 20 #[.int .i64 n] w fun e w' => e = .returned (.string r) ∧ w' = w := by
    go_enter Tryz.func20, Tryz.ntmps20
    go_wp2_with fail
    refine h3.mono ?_
    rintro e w' ⟨rfl, rfl⟩
    go_wp2
    go_ret
    exact ⟨rfl, rfl⟩
  go_enter Tryz.func6, Tryz.ntmps6
  go_wp2_with fail
  refine h2.mono ?_
  rintro e w' ⟨rfl, rfl⟩
  go_wp2
  go_ret
  exact ⟨rfl, rfl⟩
theorem pnumbered_any (i : Nat) (h : i < 99) (w : World) : Calls Tryz.prog 92 #[.int .i64 i] w fun e w' => e = .returned (.string ⟨(numT i).toArray⟩) ∧ w' = w := by
  have hs := itoa_small (i + 1) (by omega) w
  rw [show (((i + 1 : Nat)) : Int) = (i : Int) + 1 from by omega] at hs
  have hr : (ByteArray.mk #[110]) ++ (ByteArray.mk (digT (i + 1)).toArray) = ByteArray.mk (numT i).toArray := ba_app [110] (digT (i + 1))
  have hz : (ByteArray.mk (digT (i + 1)).toArray).size ≤ 2 := by
    show (digT (i + 1)).toArray.size ≤ 2
    unfold digT
    split <;> simp
  rw [← hr]
  generalize (ByteArray.mk (digT (i + 1)).toArray) = r at *
  have hz2 : ¬ 9223372036854775807 < 1 + r.size := by omega
  clear hr
  go_enter Tryz.func92, Tryz.ntmps92
  go_wp2_with fail
  refine hs.mono ?_
  rintro e w' ⟨rfl, rfl⟩
  go_wp2
  go_ret
  exact ⟨rfl, rfl⟩
end Go.Proofs.YtlcjepnaljfpkaaGreatDoor
