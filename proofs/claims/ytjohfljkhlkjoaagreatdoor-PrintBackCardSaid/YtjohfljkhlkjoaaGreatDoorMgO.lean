import Derived.Test.YtjohfljkhlkjoaaGreatDoorTa
import Derived.Test.YtjohfljkhlkjoaaGreatDoorMgK
import Derived.Test.YtjohfljkhlkjoaaGreatDoorMgJ
import Derived.Test.YtjohfljkhlkjoaaGreatDoorMgQ
import Derived.Sort.Grow
import Derived.Lib.SliceRun
import Derived.Test.YtjohfljkhlkjoaaGreatDoorShelfB
import Derived.Test.YtjohfljkhlkjoaaGreatDoorMgKi
namespace Wb
theorem flat3 (a b c : ByteArray) : flatS [a, b, c] = a.data.toList ++ (b.data.toList ++ c.data.toList) := by simp [flatS]
theorem flat2 (a b : ByteArray) : flatS [a, b] = a.data.toList ++ b.data.toList := by simp [flatS]
theorem flat1 (a : ByteArray) : flatS [a] = a.data.toList := by simp [flatS]
theorem ba_app (a b : List UInt8) : (ByteArray.mk a.toArray) ++ (ByteArray.mk b.toArray) = ByteArray.mk (a ++ b).toArray := by
  apply ba_data
  rw [ByteArray.data_append]
  simp
end Wb
namespace Go.Proofs.YtjohfljkhlkjoaaGreatDoor
open Go.RowKit Wb
theorem two_pg {base b : Nat} {w w2 w3 : World} (h : PgK base b w w2) (o : Obj) (k : PgK base b (w2.alloc o) w3) : PgK base b w w3 := (h.trans (PgK.alloc w2 o)).trans k
set_option maxHeartbeats 2000000 in
set_option maxRecDepth 100000 in
theorem pattr_any {base b most : Nat} {t : List UInt8} {w : World} (name value : ByteArray) (h : PgT base b t most w) (hm : most ≤ 9223372036854775807) (hs : value.size ≤ 1000000000) (hr : Room most (t.length + (attrT name.data.toList value.data.toList).length)) :
    Calls Tryz.prog 69 #[.pointer (some ⟨b, 0, none⟩), .string name, .string value] w fun e w' => e = .returned (.tuple #[]) ∧ PgT base b (t ++ attrT name.data.toList value.data.toList) most w' ∧ PgK base b w w' := by
  have hlt := h.lt
  have ht : ∀ t : List UInt8, t ++ attrT name.data.toList value.data.toList = t ++ flatS [⟨#[32]⟩, name, ⟨#[61, 34]⟩] ++ escL true value.data.toList ++ flatS [⟨#[34]⟩] := fun t => by
    rw [flat3, flat1]
    unfold attrT
    simp
  have hlen : (attrT name.data.toList value.data.toList).length = (flatS [⟨#[32]⟩, name, ⟨#[61, 34]⟩]).length + (escL true value.data.toList).length + (flatS [(⟨#[34]⟩ : ByteArray)]).length := by
    have := congrArg List.length (ht [])
    simp only [List.nil_append, List.length_append] at this
    exact this
  rw [ht t]
  have h1 := pput_any [⟨#[32]⟩, name, ⟨#[61, 34]⟩] 3 (h.alloc (.cells #[.string ⟨#[32]⟩, .string name, .string ⟨#[61, 34]⟩] 9)) (g := w.heap.size) (heap_alloc_new w _) (by omega) (by simp) hm (hr.le (by omega))
  have h2 := fun (v : World) (hv : PgT base b (t ++ flatS [⟨#[32]⟩, name, ⟨#[61, 34]⟩]) most v) => pescape_any value true hv hm hs (hr.le (by rw [List.length_append]; omega))
  have h3 := fun (v : World) (hv : PgT base b (t ++ flatS [⟨#[32]⟩, name, ⟨#[61, 34]⟩] ++ escL true value.data.toList) most v) => pput_any [⟨#[34]⟩] 1 (hv.alloc (.cells #[.string ⟨#[34]⟩] 9)) (g := v.heap.size) (heap_alloc_new v _) (by have := hv.lt; omega) (by simp) hm (hr.le (by rw [List.length_append, List.length_append]; omega))
  have H2 := Lib.hid h2
  have H3 := Lib.hid h3
  have HA := Lib.hid (PgK.alloc (base := base) (b := b) w (.cells #[.string ⟨#[32]⟩, .string name, .string ⟨#[61, 34]⟩] 9))
  clear h hlt ht hlen h2 h3
  go_enter Tryz.func69, Tryz.ntmps69
  go_wp2_with fail
  refine h1.mono ?_
  rintro e w1 ⟨rfl, hp1, hk1⟩
  have HK1 := Lib.hid (HA.out.trans hk1)
  have h2 := H2.out w1 hp1
  clear h1 hp1 hk1
  go_wp2_with fail
  refine h2.mono ?_
  rintro e w2 ⟨rfl, hp2, hk2⟩
  have HK2 := Lib.hid (HK1.out.trans hk2)
  have h3 := H3.out w2 hp2
  clear h2 hp2 hk2
  go_wp2_with fail
  refine h3.mono ?_
  rintro e w3 ⟨rfl, hp3, hk3⟩
  have HK3 := Lib.hid (two_pg HK2.out _ hk3)
  have HP3 := Lib.hid hp3
  clear h3 hp3 hk3
  go_wp2
  go_end0
  exact ⟨rfl, HP3.out, HK3.out⟩
theorem page_new (most : Nat) (w : World) : PgT w.heap.size w.heap.size [] most (w.alloc (.cells #[.pointer none, .slice none 0 0, .int .i64 most, .bool false] 84)) :=
  .inl ⟨Nat.zero_le _, .inl ⟨Nat.le_refl _, .slice none 0 0, heap_alloc_new w _, World.ownsRow_nil _ _ _ _, by simp [Value.ownBlock]⟩⟩
set_option maxHeartbeats 2000000 in
set_option maxRecDepth 100000 in
theorem Escape_any (s : ByteArray) (attr : Bool) (w : World) (hs : s.size ≤ 1000000000) :
    Calls Tryz.prog 21 #[.string s, .bool attr] w fun e w' => e = .returned (.string ⟨(escL attr s.data.toList).toArray⟩) ∧ Below w.heap.size w w' := by
  have hl := (escL_len attr s.data.toList).2
  rw [← Lib.size_eq] at hl
  have h1 := pescape_any s attr (page_new 9223372036854775807 w) (by omega) hs (.inr (by simp only [List.length_nil]; omega))
  have HB := Lib.hid ((Below.refl w.heap.size w).alloc (Nat.le_refl _) (.cells #[.pointer none, .slice none 0 0, .int .i64 ((9223372036854775807 : Nat) : Int), .bool false] 84))
  have HL := Lib.hid hl
  clear hl
  go_enter Tryz.func21, Tryz.ntmps21
  go_wp2_with fail
  refine h1.mono ?_
  rintro e w1 ⟨rfl, hp1, hk1⟩
  have HB1 := Lib.hid (HB.out.trans (hk1.below (by simp)))
  have hp : PgAt w.heap.size w.heap.size (escL attr s.data.toList) ((9223372036854775807 : Nat) : Int) false w1 := by
    rw [List.nil_append] at hp1
    rcases hp1 with ⟨_, h⟩ | ⟨h, _⟩
    · exact h
    · have := HL.out; omega
  have h2 := page_string hp
  clear h1 hp1 hk1 hp
  go_wp2_with fail
  refine h2.mono ?_
  rintro e w2 ⟨rfl, hb2⟩
  clear h2
  go_wp2
  go_ret
  exact ⟨rfl, HB1.out.trans hb2⟩
theorem small_lo {C : ByteArray} (hC : ∀ n, n < 10 → C.extract n (n + 1) = ⟨(digT n).toArray⟩) (n : Nat) (h : n < 10) : C.extract n (n + 1) = ⟨(digT n).toArray⟩ := hC n h
theorem small_hi {C : ByteArray} (hC : ∀ n, n < 100 → ¬ n < 10 → C.extract (n * 2) (n * 2 + 2) = ⟨(digT n).toArray⟩) (n : Nat) (h : n < 100) (h1 : ¬ n < 10) : C.extract (n * 2) (n * 2 + 2) = ⟨(digT n).toArray⟩ := hC n h h1
set_option maxRecDepth 100000 in
theorem psmall_any (n : Nat) (h : n < 100) (w : World) : Calls Tryz.prog 57 #[.int .i64 n] w fun e w' => e = .returned (.string ⟨(digT n).toArray⟩) ∧ w' = w := by
  by_cases h1 : n < 10
  · go_enter Tryz.func57, Tryz.ntmps57
    go_wp2
    go_ret
    refine ⟨congrArg (fun s => Ending.returned (Value.string s)) ?_, rfl⟩
    refine small_lo ?_ n h1
    decide +kernel
  · go_enter Tryz.func57, Tryz.ntmps57
    go_wp2
    go_ret
    refine ⟨congrArg (fun s => Ending.returned (Value.string s)) ?_, rfl⟩
    refine small_hi ?_ n h h1
    decide +kernel
theorem itoa_small (n : Nat) (h : n < 100) (w : World) : Calls Tryz.prog 8 #[.int .i64 n] w fun e w' => e = .returned (.string ⟨(digT n).toArray⟩) ∧ w' = w := by
  have hs := psmall_any n h w
  generalize (ByteArray.mk (digT n).toArray) = r at *
  have h3 : Calls Tryz.prog 29 #[.int .i64 n, .int .i64 10] w fun e w' => e = .returned (.string r) ∧ w' = w := by
    go_enter Tryz.func29, Tryz.ntmps29
    go_wp2_with fail
    refine hs.mono ?_
    rintro e w' ⟨rfl, rfl⟩
    go_wp2
    go_ret
    exact ⟨rfl, rfl⟩
  have h2 : Calls Tryz.prog 28 #[.int .i64 n] w fun e w' => e = .returned (.string r) ∧ w' = w := by
    go_enter Tryz.func28, Tryz.ntmps28
    go_wp2_with fail
    refine h3.mono ?_
    rintro e w' ⟨rfl, rfl⟩
    go_wp2
    go_ret
    exact ⟨rfl, rfl⟩
  go_enter Tryz.func8, Tryz.ntmps8
  go_wp2_with fail
  refine h2.mono ?_
  rintro e w' ⟨rfl, rfl⟩
  go_wp2
  go_ret
  exact ⟨rfl, rfl⟩
theorem pnumbered_any (i : Nat) (h : i < 99) (w : World) : Calls Tryz.prog 114 #[.int .i64 i] w fun e w' => e = .returned (.string ⟨(numT i).toArray⟩) ∧ w' = w := by
  have hs := itoa_small (i + 1) (by omega) w
  rw [show (((i + 1 : Nat)) : Int) = (i : Int) + 1 from by omega] at hs
  have hr : (ByteArray.mk #[110]) ++ (ByteArray.mk (digT (i + 1)).toArray) = ByteArray.mk (numT i).toArray := ba_app [110] (digT (i + 1))
  have hz : (ByteArray.mk (digT (i + 1)).toArray).size ≤ 2 := by
    show (digT (i + 1)).toArray.size ≤ 2
    unfold digT
    split <;> simp
  rw [← hr]
  generalize (ByteArray.mk (digT (i + 1)).toArray) = r at *
  have hz2 : ¬ 9223372036854775807 < 1 + r.size := by omega
  clear hr
  go_enter Tryz.func114, Tryz.ntmps114
  go_wp2_with fail
  refine hs.mono ?_
  rintro e w' ⟨rfl, rfl⟩
  go_wp2
  go_ret
  exact ⟨rfl, rfl⟩
end Go.Proofs.YtjohfljkhlkjoaaGreatDoor

namespace Wb
def encT (x : Tr) : List Go.Value := [.string x.1.1, .string x.1.2, .string x.2]
end Wb
namespace Go.Proofs.YtjohfljkhlkjoaaGreatDoor
open Go.RowKit Wb
set_option maxHeartbeats 1000000 in
theorem byName_any (x y : Tr) (W : World) : Calls Tryz.prog 112 #[.agg (encT x).toArray, .agg (encT y).toArray] W fun e w' => e = .returned (.int .i64 (cmpT x y)) ∧ ∃ q os', w' = Sort.grow (W.drewN q) os' := by
  have h1 := fun v => Tryz.strings_Compare x.1.1 y.1.1 v
  have h2 := fun v => Tryz.strings_Compare x.1.2 y.1.2 v
  have hc : cmpT x y = if Lib.compareBytes x.1.1.data.toList y.1.1.data.toList ≠ 0 then Lib.compareBytes x.1.1.data.toList y.1.1.data.toList else Lib.compareBytes x.1.2.data.toList y.1.2.data.toList := rfl
  rw [hc]
  have hg : (W.alloc (.cells #[.string x.1.1, .string x.1.2, .string x.2] 42)).alloc (.cells #[.string y.1.1, .string y.1.2, .string y.2] 42) = Sort.grow (W.drewN 0) #[.cells #[.string x.1.1, .string x.1.2, .string x.2] 42, .cells #[.string y.1.1, .string y.1.2, .string y.2] 42] := by
    rw [Sort.alloc_eq_grow, Sort.alloc_eq_grow, Sort.grow_grow]
    rfl
  have HG := Lib.hid hg
  have n1 := (Below.heap_alloc (W.alloc (.cells #[.string x.1.1, .string x.1.2, .string x.2] 42)) (.cells #[.string y.1.1, .string y.1.2, .string y.2] 42) _ (blk_in (heap_alloc_new W _))).trans (heap_alloc_new W (.cells #[.string x.1.1, .string x.1.2, .string x.2] 42))
  have n2 := heap_alloc_new (W.alloc (.cells #[.string x.1.1, .string x.1.2, .string x.2] 42)) (.cells #[.string y.1.1, .string y.1.2, .string y.2] 42)
  generalize Lib.compareBytes x.1.1.data.toList y.1.1.data.toList = r1 at *
  generalize Lib.compareBytes x.1.2.data.toList y.1.2.data.toList = r2 at *
  unfold encT
  clear hc hg n1 n2
  by_cases h0 : r1 = 0
  · subst h0
    rw [if_neg (by simp)]
    go_enter Tryz.func112, Tryz.ntmps112
    go_wp2_with fail
    refine (h1 _).mono ?_
    rintro e w1 ⟨rfl, rfl⟩
    go_wp2_with fail
    refine (h2 _).mono ?_
    rintro e w1 ⟨rfl, rfl⟩
    go_wp2
    go_ret
    exact ⟨rfl, 0, _, HG.out⟩
  · rw [if_pos h0]
    have hb : (r1 == 0) = false := by simpa using h0
    go_enter Tryz.func112, Tryz.ntmps112
    go_wp2_with fail
    refine (h1 _).mono ?_
    rintro e w1 ⟨rfl, rfl⟩
    go_wp2
    go_ret
    exact ⟨rfl, 0, _, HG.out⟩
set_option maxRecDepth 100000 in
set_option maxHeartbeats 1000000 in
theorem clone_any (A : Option Addr) (l : List Tr) (c : Nat) (w : World) (h : Sl3 w A l) (hl : l.length ≤ 1000000) :
    Calls Tryz.prog 110 #[.slice A l.length c] w fun e w' => ∃ v', e = .returned v' ∧ w'.ownsRow w.heap.size 42 3 v' l.length (cells3 l) ∧ Below w.heap.size w w' := by
  cases A with
  | none =>
    obtain rfl : l = [] := by
      cases l with
      | nil => rfl
      | cons x l =>
        obtain ⟨ad, e, _⟩ := h.2 (by simp)
        cases e
    have hq : ∀ w, (binOp .eql 34 (.slice none 0 c) (.slice none 0 0)).run Tryz.prog w = .ok (.bool true) w := fun w => Lib.run_eql_slice_nil w _ _ none 0 c 0 0 Tryz.underlying34
    go_enter Tryz.func110, Tryz.ntmps110
    go_wp2
    go_ret
    exact ⟨_, rfl, World.ownsRow_nil _ _ _ _, Below.refl _ _⟩
  | some ad =>
    obtain ⟨i0, hi, hz0, hz1, hz2⟩ := info_parts attr_info
    have hq : ∀ w, (binOp .eql 34 (.slice (some ad) l.length c) (.slice none 0 0)).run Tryz.prog w = .ok (.bool false) w := fun w => Lib.run_eql_slice_nil w _ _ (some ad) l.length c 0 0 Tryz.underlying34
    have HOWN := Lib.hid (World.ownsRow_made (base := w.heap.size) (e := 42) (size := 3) w #[] 0 (Nat.le_refl _) (Nat.zero_le _) (by simp))
    have HSL := Lib.hid (Sl.alloc h (.cells #[] 42))
    have HBA := Lib.hid ((Below.refl w.heap.size w).alloc (Nat.le_refl _) (.cells #[] 42))
    have hm : 0 + l.length ≤ maxLen := by unfold maxLen; omega
    have hb : (0 + l.length) * 48 ≤ 140737488355328 := by omega
    have hs : w.heap.size ≤ (w.alloc (.cells #[] 42)).heap.size := by simp
    clear h
    go_enter Tryz.func110, Tryz.ntmps110
    go_wp2_with (at_builtin; refine wpList_append_sl _ rfl (.tmp 5) (.tmp 6) _ rfl w.heap.size 42 i0 _ 3 48 Tryz.underlying34 hi hz0 hz1 hz2 rfl (by omega) _ 0 [] rfl HOWN.out (some ad) l.length c (cells3 l) rfl HSL.out (cells3_one l) hm hb hs ?_)
    intro v5 w5 hown5 hg5 hat5
    have HF := Lib.hid hown5
    have HB := Lib.hid (HBA.out.grown hg5 hs (fun k hk => by simp [Value.ownBlock] at hk; omega))
    clear hown5 hg5 hat5
    go_wp2
    go_ret
    exact ⟨_, rfl, HF.out, HB.out⟩
set_option maxHeartbeats 1000000 in
theorem pindex_any (A : Option Addr) (l : List ByteArray) (x : ByteArray) (c : Nat) (w : World) (h : Sl w 1 A l.length (cells1 l)) (hx : x ∈ l) (hl : l.length ≤ 1000000) :
    Calls Tryz.prog 149 #[.slice A l.length c, .string x] w fun e w' => e = .returned (.int .i64 (idxB x l)) ∧ w' = w := by
  obtain ⟨ad, rfl, had, hc⟩ := h.2 (List.length_pos_of_mem hx)
  have HX := Lib.hid hx
  obtain ⟨r, hr⟩ : ∃ r, idxB x l = r := ⟨_, rfl⟩
  rw [hr]
  have HR := Lib.hid hr
  clear h hx hr
  go_enter Tryz.func149, Tryz.ntmps149
  go_wp2
  go_loop [8] (fun vi => ∃ k : Nat, k ≤ l.length ∧ vi = .int .i64 k ∧ Hid (∀ j (hj : j < l.length), j < k → l[j] ≠ x)) (fun vi => ((l.length : Int) - intOf vi).toNat)
  case atStart => exact ⟨0, by omega, rfl, Lib.hid (fun j _ h => by omega)⟩
  case round =>
    obtain ⟨k, hk, rfl, HN⟩ := hrel
    by_cases h0 : k < l.length
    · have hcell := hc k (.string l[k]) (by simp [cells1, List.getElem?_eq_getElem h0])
      by_cases he : l[k] = x
      · have hi := idxB_at h0 he HN.out
        have hrk : r = k := HR.out.symm.trans hi
        subst hrk
        have hb : (x.toList == (l[r]).toList) = true := by rw [he]; exact beq_self_eq_true _
        clear hi HN HX hc HR he
        generalize l[r] = y at *
        go_wp2
        go_ret
        exact ⟨rfl, rfl⟩
      · have hb : (x.toList == (l[k]).toList) = false := by
          have h1 : eqT x l[k] = false := by rw [eqT_dec]; exact decide_eq_false (fun e => he e.symm)
          exact h1
        have HN2 : Hid (∀ j (hj : j < l.length), j < k + 1 → l[j] ≠ x) := Lib.hid (fun j hj hjk => by
          by_cases e : j = k
          · subst e; exact he
          · exact HN.out j hj (by omega))
        clear he HN
        generalize l[k] = y at hcell hb
        go_wp2
        go_round
        case rel => exact ⟨k + 1, by omega, by go_num, HN2⟩
        case measure => simp [intOf]; omega
    · exact absurd HX.out (fun hx => by
        obtain ⟨j, hj, e⟩ := List.mem_iff_getElem.1 hx
        exact HN.out j hj (by omega) e)
set_option maxRecDepth 100000 in
set_option maxHeartbeats 1000000 in
theorem prefix_any (A : Option Addr) (l : List ByteArray) (s : ByteArray) (c : Nat) (w : World) (h : Sl w 1 A l.length (cells1 l)) (hx : needs s = true → s ∈ l) (hl : l.length ≤ 32) :
    Calls Tryz.prog 115 #[.slice A l.length c, .string s] w fun e w' => e = .returned (.string ⟨(preT l s).toArray⟩) ∧ w' = w := by
  by_cases h1 : s = sE
  · have hb : s.toList.isEmpty = true := by rw [empty_eq, h1]; exact (eqT_iff _ _).2 rfl
    have hr : (preT l s) = [] := by unfold preT; rw [if_pos h1]
    rw [hr]
    clear h hx hr h1
    go_enter Tryz.func115, Tryz.ntmps115
    go_wp2
    all_goals (go_ret)
    all_goals (exact ⟨rfl, rfl⟩)
  · have hb : s.toList.isEmpty = false := by rw [empty_eq, eqT_dec]; exact decide_eq_false h1
    have hxl : sXML.toList = [104, 116, 116, 112, 58, 47, 47, 119, 119, 119, 46, 119, 51, 46, 111, 114, 103, 47, 88, 77, 76, 47, 49, 57, 57, 56, 47, 110, 97, 109, 101, 115, 112, 97, 99, 101] := by rw [ByteArray.toList_eq]; rfl
    by_cases h2 : s = sXML
    · have hr : (preT l s) = sXmlK := by unfold preT; rw [if_neg h1, if_pos h2]
      rw [hr]
      have hb2 : (s.toList == [104, 116, 116, 112, 58, 47, 47, 119, 119, 119, 46, 119, 51, 46, 111, 114, 103, 47, 88, 77, 76, 47, 49, 57, 57, 56, 47, 110, 97, 109, 101, 115, 112, 97, 99, 101]) = true := by rw [h2, hxl]; rfl
      clear h hx hr h1 h2 hxl
      go_enter Tryz.func115, Tryz.ntmps115
      go_wp2
      go_ret
      exact ⟨rfl, rfl⟩
    · have hb2 : (s.toList == [104, 116, 116, 112, 58, 47, 47, 119, 119, 119, 46, 119, 51, 46, 111, 114, 103, 47, 88, 77, 76, 47, 49, 57, 57, 56, 47, 110, 97, 109, 101, 115, 112, 97, 99, 101]) = false := by
        have h3 : eqT s sXML = false := by rw [eqT_dec]; exact decide_eq_false h2
        unfold eqT at h3
        rw [hxl] at h3
        exact h3
      have hm := hx (by unfold needs; rw [eqT_dec, eqT_dec, decide_eq_false h1, decide_eq_false h2]; rfl)
      have hr : (preT l s) = numT (idxB s l) ++ [58] := by unfold preT; rw [if_neg h1, if_neg h2]
      have hix := pindex_any A l s c w h hm (by omega)
      have hil : idxB s l < l.length := idxB_lt hm
      have hnum := pnumbered_any (idxB s l) (by omega) w
      have hrr : (ByteArray.mk (numT (idxB s l)).toArray) ++ (ByteArray.mk #[58]) = ByteArray.mk (preT l s).toArray := by rw [hr]; exact ba_app _ [58]
      have hz : (ByteArray.mk (numT (idxB s l)).toArray).size ≤ 3 := by
        show (numT (idxB s l)).toArray.size ≤ 3
        unfold numT digT
        split <;> simp
      rw [← hrr]
      generalize (ByteArray.mk (numT (idxB s l)).toArray) = r at *
      have hz2 : ¬ 9223372036854775807 < r.size + 1 := by omega
      clear h hx hr h1 h2 hxl hrr hm
      generalize idxB s l = ix at *
      go_enter Tryz.func115, Tryz.ntmps115
      go_wp2_with fail
      refine hix.mono ?_
      rintro e w' ⟨rfl, rfl⟩
      go_wp2_with fail
      refine hnum.mono ?_
      rintro e w' ⟨rfl, rfl⟩
      go_wp2
      go_ret
      exact ⟨rfl, rfl⟩
end Go.Proofs.YtjohfljkhlkjoaaGreatDoor

namespace Wb
open Go.Sort Go.Proofs
theorem encT_one (x : Tr) : ∀ v ∈ encT x, v.oneCell' = true := by
  intro v hv
  simp only [encT, List.mem_cons, List.mem_nil_iff, or_false] at hv
  rcases hv with rfl | rfl | rfl <;> rfl
theorem ltOf_cmp (x y : Tr) : ltOf cmpT x y = decide (ltT x y) := by
  unfold ltOf
  refine decide_eq_decide.2 ?_
  unfold ltT
  rcases cmpT_cases x y with h | h | h <;> omega
theorem swo_cmp : SWO (ltOf cmpT) where
  irrefl x := by rw [ltOf_cmp]; exact decide_eq_false (ltT_irrefl x)
  trans x y z h1 h2 := by
    rw [ltOf_cmp] at *
    exact decide_eq_true (ltT_trans (of_decide_eq_true h1) (of_decide_eq_true h2))
  ntrans x y z h1 h2 := by
    rw [ltOf_cmp] at *
    exact decide_eq_false (fun h => not_lt_trans (of_decide_eq_false h2) (of_decide_eq_false h1) h)
theorem cells3_flat (d : Array Tr) : cells3 d.toList = (flatK encT 3 d).toList := by
  apply List.ext_getElem?
  intro t
  by_cases ht : t < d.size * 3
  · have hx : d.toList[t / 3]? = some d[t / 3]! := by
      have : t / 3 < d.size := by omega
      rw [Array.getElem?_toList, Array.getElem?_eq_getElem this, getElem!_pos d (t / 3) this]
    obtain ⟨g1, g2, g3⟩ := cells3_at _ _ _ hx
    have hf : (flatK encT 3 d).toList[t]? = some ((encT d[t / 3]!)[t % 3]!) := by
      rw [Array.getElem?_toList, Array.getElem?_eq_getElem (by simpa using ht), ← getElem!_pos (flatK encT 3 d) t (by simpa using ht), get_flatK _ _ _ _ ht]
    rw [hf]
    rcases (by omega : t = t / 3 * 3 ∨ t = t / 3 * 3 + 1 ∨ t = t / 3 * 3 + 2) with e | e | e
    · rw [e, g1, ← e, show t % 3 = 0 from by omega]; rfl
    · rw [e, g2, ← e, show t % 3 = 1 from by omega]; rfl
    · rw [e, g3, ← e, show t % 3 = 2 from by omega]; rfl
  · rw [List.getElem?_eq_none (by rw [cells3_length]; simpa using ht), List.getElem?_eq_none (by simpa using ht)]
end Wb
namespace Go.Proofs.YtjohfljkhlkjoaaGreatDoor
open Go.RowKit Wb Go.Sort
theorem put_heap (w : World) (n g : Nat) (F : Array Value) (os : Array Obj) (cur : Array Value) (e : TypeId) (h : w.heap[g]? = some (.cells cur e (0, 0))) :
    (Sort.grow (putRow id (Sort.ahead w n) g 0 F) os).heap[g]? = some (.cells (putCells id 0 F cur) e (0, 0)) := by
  have hg := blk_in h
  have h2 : (putRow id (Sort.ahead w n) g 0 F).heap[g]? = some (.cells (putCells id 0 F cur) e (0, 0)) := by
    show (w.heap.modify g (onCells (putCells id 0 F)))[g]? = _
    rw [Array.getElem?_modify, if_pos rfl, h]
    rfl
  show ((putRow id (Sort.ahead w n) g 0 F).heap ++ os)[g]? = _
  rw [Array.getElem?_append_left (blk_in h2)]
  exact h2
theorem put_keep (w : World) (n g : Nat) (F : Array Value) (os : Array Obj) : Keep (fun k => k = g) w (Sort.grow (putRow id (Sort.ahead w n) g 0 F) os) := by
  have hsz : (putRow id (Sort.ahead w n) g 0 F).heap.size = w.heap.size := by
    show (w.heap.modify g (onCells (putCells id 0 F))).size = _
    simp
  refine ⟨rfl, rfl, rfl, ?_, fun k hk hn => ?_⟩
  · show w.heap.size ≤ ((putRow id (Sort.ahead w n) g 0 F).heap ++ os).size
    rw [Array.size_append, hsz]; omega
  · show ((putRow id (Sort.ahead w n) g 0 F).heap ++ os)[k]? = _
    rw [Array.getElem?_append_left (by rw [hsz]; exact hk)]
    show (w.heap.modify g (onCells (putCells id 0 F)))[k]? = _
    rw [Array.getElem?_modify, if_neg (fun e => hn e.symm)]
set_option maxHeartbeats 2000000 in
theorem insertion_none (p : Option Addr) (cap : Nat) (fv : Value) (w : World) :
    Calls Tryz.prog 170 #[.slice p 0 cap, .int .i64 0, .int .i64 0, fv] w fun e w' => e = .returned (.tuple #[]) ∧ w' = w := by
  go_enter Tryz.func170, Tryz.ntmps170
  go_wp2
  refine wp_loop_rounds 1 ?_
  rw [rounds_succ]
  go_wp2
  go_end0
  exact ⟨rfl, rfl⟩
set_option maxHeartbeats 2000000 in
theorem pdq_none (p : Option Addr) (cap : Nat) (lim : Int) (fv : Value) (w : World) :
    Calls Tryz.prog 145 #[.slice p 0 cap, .int .i64 0, .int .i64 0, .int .i64 lim, fv] w fun e w' => e = .returned (.tuple #[]) ∧ w' = w := by
  have hi := insertion_none p cap fv
  go_enter Tryz.func145, Tryz.ntmps145
  go_wp2
  refine wp_loop_rounds 1 ?_
  rw [rounds_succ]
  go_wp2_with fail
  refine (hi _).mono ?_
  rintro e w' ⟨rfl, rfl⟩
  go_wp2
  (try simp only [Exit.inBlock, Exit.then]); refine bodyPost_ret (results_none rfl _ _ _) rfl ?_
  exact ⟨rfl, rfl⟩
set_option maxHeartbeats 2000000 in
theorem sort_none (p : Option Addr) (cap : Nat) (fv : Value) (w : World) :
    Calls Tryz.prog 111 #[.slice p 0 cap, fv] w fun e w' => e = .returned (.tuple #[]) ∧ w' = w := by
  have hp := fun lim W => pdq_none p cap lim fv W
  have hl : ∀ W, Calls Tryz.prog 146 #[.int .u64 0] W fun e w' => e = .returned (.int .i64 (Lib.bitLen 0 : Nat)) ∧ w' = W := fun W => Any.bits_Len (SlLaysF0.n15.bits (P := Tryz.prog) (ρ := Tryz.sortF_ren) { Tryz.sortF with }) 0 W (by omega) (by omega)
  go_enter Tryz.func111, Tryz.ntmps111
  go_wp2_with fail
  refine (hl _).mono ?_
  rintro e w' ⟨rfl, rfl⟩
  go_wp2_with fail
  refine (hp _ _).mono ?_
  rintro e w' ⟨rfl, rfl⟩
  go_wp2
  go_end0
  exact ⟨rfl, rfl⟩
theorem sort_any {base : Nat} {A : Option Addr} {c : Nat} {w : World} (l : List Tr) (h : w.ownsRow base 42 3 (.slice A l.length c) l.length (cells3 l)) (hl : l.length ≤ 1000000) :
    Calls Tryz.prog 111 #[.slice A l.length c, .func (.func 112) #[] #[]] w fun e w' => e = .returned (.tuple #[]) ∧
      ∃ l' : List Tr, l'.Perm l ∧ Rise l' ∧ w'.ownsRow base 42 3 (.slice A l.length c) l.length (cells3 l') ∧ Keep (fun k => (Value.slice A l.length c).ownBlock = some k) w w' := by
  by_cases h0 : l = []
  · subst h0
    refine (sort_none A c (.func (.func 112) #[] #[]) w).mono ?_
    rintro e w' ⟨rfl, rfl⟩
    exact ⟨rfl, [], List.Perm.refl _, List.Pairwise.nil, h, Keep.refl _ _⟩
  · rcases h.2 with ⟨hv, hz⟩ | ⟨g, cap, cur, hv, hbg, hg, hnc, hcm, hcs, htake⟩
    · exact absurd (List.eq_nil_of_length_eq_zero hz) h0
    · obtain ⟨rfl, _, rfl⟩ : A = some ⟨g, 0, none⟩ ∧ l.length = l.length ∧ c = cap := by injection hv with a b c; exact ⟨a, b, c⟩
      have hcl := h.cells (g := g) rfl
      have hH : HoldsK encT 3 w g 0 l.toArray := by
        intro j hj
        have hj' : j < (flatK encT 3 l.toArray).size := hj
        refine ⟨?_, blk_free hg _⟩
        rw [Nat.zero_add]
        have h1 : (cells3 l)[j]? = some (flatK encT 3 l.toArray)[j]! := by
          rw [show cells3 l = cells3 l.toArray.toList from rfl, cells3_flat, Array.getElem?_toList, Array.getElem?_eq_getElem hj', getElem!_pos _ j hj']
        have h2 := hcl j _ h1
        have e : (⟨g, 0, none⟩ : Addr).add j = ⟨g, j, none⟩ := by unfold Addr.add; split <;> simp_all
        rw [e] at h2
        exact h2
      have hcmp : CmpLays Tryz.prog 112 #[] encT 3 cmpT g 0 l.toArray.size w := fun _ _ _ _ x y => byName_any x y _
      have eg : ∀ args w, (callFunc 112 args).run Tryz.prog w = .ok (.enter 112 args) w := enters_of Tryz.func112 (by kernel_rfl) rfl
      have hcon := AnyQ.slices_SortFunc Tryz.sortF 3 Tryz.isAgg42 Tryz.sizeOf42 encT (fun _ => rfl) encT_one cmpT swo_cmp 112 #[] g 0 c l.toArray w eg hcmp hH (blk_in hg) (by simp; omega)
      refine Calls.mono (show Calls Tryz.prog 111 #[.slice (some ⟨g, 0, none⟩) l.length c, .func (.func 112) #[] #[]] w _ from hcon) ?_
      rintro e w' ⟨rfl, d', n, os, ⟨hs, _, hp⟩, hsort, rfl⟩
      have hs' : d'.size = l.length := by simpa using hs
      refine ⟨rfl, d'.toList, ?_, ?_, ?_, ?_⟩
      · have e1 : d'.extract 0 l.toArray.size = d' := by rw [show l.toArray.size = d'.size from hs.symm]; exact Array.extract_size
        have e2 : l.toArray.extract 0 l.toArray.size = l.toArray := Array.extract_size
        rw [e1, e2] at hp
        exact hp
      · refine List.pairwise_iff_getElem.2 fun i j hi hj hij => ?_
        have h1 := hsort i j (Nat.zero_le _) hij (by rw [← hs]; simpa using hj)
        rw [ltOf_cmp] at h1
        have h2 := of_decide_eq_false h1
        rw [getElem!_pos d' i (by simpa using hi), getElem!_pos d' j (by simpa using hj)] at h2
        simpa using h2
      · refine ⟨by rw [cells3_length]; simp [hs'], .inr ⟨g, c, putCells id 0 (flatK encT 3 d') cur, rfl, hbg, put_heap w n g _ os cur _ hg, hnc, hcm, by simp [putCells, hcs], ?_⟩⟩
        rw [cells3_flat]
        apply List.ext_getElem?
        intro t
        have hfs : (flatK encT 3 d').size = l.length * 3 := by simp [hs']
        by_cases ht : t < l.length * 3
        · rw [List.getElem?_take, if_pos ht, Array.getElem?_toList, Array.getElem?_toList]
          have htc : t < cur.size := by rw [hcs]; have := Nat.mul_le_mul_right 3 hnc; omega
          simp only [putCells, Array.getElem?_mapIdx, Array.getElem?_eq_getElem htc, Option.map_some]
          rw [if_pos ⟨Nat.zero_le _, by omega⟩, Nat.sub_zero, Array.getElem?_eq_getElem (by omega), getElem!_pos _ t (by omega)]
          rfl
        · rw [List.getElem?_take, if_neg ht, List.getElem?_eq_none (by simp [hs']; omega)]
      · exact (put_keep w n g _ os).mono fun k _ hk => by simp [Value.ownBlock, hk]
end Go.Proofs.YtjohfljkhlkjoaaGreatDoor

namespace Wb
open Go.Lib (compactUpTo keeps compactUpTo_succ)
theorem once_snoc : ∀ (l : List ByteArray) (z : ByteArray), onceT (l ++ [z]) = if l.getLast? = some z then onceT l else onceT l ++ [z]
  | [], z => by simp [onceT]
  | [x], z => by
    show onceT (x :: z :: []) = _
    unfold onceT
    by_cases h : x = z
    · rw [if_pos h, if_pos (by simp [h])]; simp [onceT, h]
    · rw [if_neg h, if_neg (by simp [h])]; simp [onceT]
  | x :: y :: l, z => by
    have ih := once_snoc (y :: l) z
    show onceT (x :: y :: (l ++ [z])) = _
    have e : (x :: y :: l).getLast? = (y :: l).getLast? := by simp [List.getLast?_cons_cons]
    rw [e]
    have h1 : onceT (x :: y :: (l ++ [z])) = if x = y then onceT (y :: (l ++ [z])) else x :: onceT (y :: (l ++ [z])) := by rw [onceT]
    have h2 : onceT (x :: y :: l) = if x = y then onceT (y :: l) else x :: onceT (y :: l) := by rw [onceT]
    rw [h1, h2, show y :: (l ++ [z]) = (y :: l) ++ [z] from rfl, ih]
    by_cases hxy : x = y
    · simp [hxy]
    · simp only [hxy, if_false]
      split <;> simp
theorem once_upto (l : List ByteArray) : ∀ m, m ≤ l.length → compactUpTo l.toArray m = onceT (l.take m)
  | 0, _ => by simp [compactUpTo, onceT]
  | m + 1, h => by
    have hm : m < l.length := by omega
    have hx : l.toArray[m]! = l[m] := by rw [getElem!_pos l.toArray m (by simpa using hm)]; simp
    rw [compactUpTo_succ, once_upto l m (by omega), List.take_add_one, List.getElem?_eq_getElem hm, hx]
    show _ = onceT (l.take m ++ [l[m]])
    rw [once_snoc]
    unfold keeps
    rw [hx]
    by_cases h0 : m = 0
    · subst h0
      simp
    · have hp : m - 1 < l.length := by omega
      have hx2 : l.toArray[m - 1]! = l[m - 1] := by rw [getElem!_pos l.toArray (m - 1) (by simpa using hp)]; simp
      have hl : (l.take m).getLast? = some l[m - 1] := by
        rw [List.getLast?_eq_getElem?, List.length_take, Nat.min_eq_left (by omega), List.getElem?_take, if_pos (by omega), List.getElem?_eq_getElem hp]
      rw [hx2, hl]
      by_cases he : l[m] = l[m - 1]
      · rw [he]
        simp [h0]
      · have he2 : ¬ l[m - 1] = l[m] := fun e => he e.symm
        simp [h0, he, he2]
theorem once_eq (l : List ByteArray) : compactUpTo l.toArray l.length = onceT l := by rw [once_upto l _ (Nat.le_refl _), List.take_length]
theorem once_len (l : List ByteArray) : (onceT l).length ≤ l.length := by
  induction l with
  | nil => simp [onceT]
  | cons x l ih =>
    cases l with
    | nil => simp [onceT]
    | cons y l =>
      rw [onceT]
      split
      · simp only [List.length_cons] at ih ⊢; omega
      · simp only [List.length_cons] at ih ⊢; omega
theorem once_mem (l : List ByteArray) (x : ByteArray) : x ∈ onceT l ↔ x ∈ l := by
  induction l with
  | nil => simp [onceT]
  | cons y l ih =>
    cases l with
    | nil => simp [onceT]
    | cons z l =>
      rw [onceT]
      split
      · rename_i h
        rw [ih, h]
        simp
      · rw [List.mem_cons, ih, List.mem_cons (b := y)]
theorem spaces_mem {l : List Tr} {x : Tr} (h : x ∈ l) (hn : needs x.1.1 = true) : x.1.1 ∈ spacesT l := by
  unfold spacesT
  rw [once_mem]
  exact List.mem_filter.2 ⟨List.mem_map.2 ⟨x, h, rfl⟩, hn⟩
theorem spaces_len (l : List Tr) : (spacesT l).length ≤ l.length := by
  unfold spacesT
  refine Nat.le_trans (once_len _) (Nat.le_trans (List.length_filter_le _ _) (by simp))
def rawS (l : List Tr) : List ByteArray := (l.map (·.1.1)).filter needs
theorem rawS_take {l : List Tr} {k : Nat} {x : Tr} (h : l[k]? = some x) : rawS (l.take (k + 1)) = rawS (l.take k) ++ if needs x.1.1 then [x.1.1] else [] := by
  unfold rawS
  rw [List.take_add_one, h]
  show List.filter needs (List.map _ (l.take k ++ [x])) = _
  rw [List.map_append, List.filter_append]
  congr 1
  by_cases hn : needs x.1.1 = true <;> simp [hn]
theorem rawS_len (l : List Tr) (k : Nat) : (rawS (l.take k)).length ≤ k := by
  unfold rawS
  refine Nat.le_trans (List.length_filter_le _ _) ?_
  rw [List.length_map, List.length_take]
  omega
end Wb
namespace Go.Proofs.YtjohfljkhlkjoaaGreatDoor
open Go.RowKit Wb Go.Sort
theorem put_heapS (w : World) (n g : Nat) (F : Array ByteArray) (cur : Array Value) (e : TypeId) (h : w.heap[g]? = some (.cells cur e (0, 0))) :
    (putRow Value.string (Sort.ahead w n) g 0 F).heap[g]? = some (.cells (putCells Value.string 0 F cur) e (0, 0)) := by
  show (w.heap.modify g (onCells (putCells Value.string 0 F)))[g]? = _
  rw [Array.getElem?_modify, if_pos rfl, h]
  rfl
theorem put_keepS (w : World) (n g : Nat) (F : Array ByteArray) : Keep (fun k => k = g) w (putRow Value.string (Sort.ahead w n) g 0 F) := by
  refine ⟨rfl, rfl, rfl, ?_, fun k hk hn => ?_⟩
  · show w.heap.size ≤ (w.heap.modify g (onCells (putCells Value.string 0 F))).size
    simp
  · show (w.heap.modify g (onCells (putCells Value.string 0 F)))[k]? = _
    rw [Array.getElem?_modify, if_neg (fun e => hn e.symm)]
theorem eqlS : EqlAt Tryz.prog 9 Value.string (fun x y => decide (x = y)) := ⟨fun x y w => by
  rw [(EqlAt.string Tryz.prog 9).1 x y w]
  have : (x.toList == y.toList) = decide (x = y) := eqT_dec x y
  exact congrArg (fun b => Result.ok (Value.bool b) w) this, .string _ _⟩
theorem neqlS : NeqAt Tryz.prog 9 Value.string (fun x y => decide (x = y)) := ⟨fun x y w => by
  rw [(NeqAt.string Tryz.prog 9).1 x y w]
  have : (x.toList == y.toList) = decide (x = y) := eqT_dec x y
  exact congrArg (fun b => Result.ok (Value.bool (!b)) w) this, .string _ _⟩
theorem compact_any {base : Nat} {v : Value} {w : World} (sp : List ByteArray) (h : w.ownsRow base 9 1 v sp.length (cells1 sp)) (hl : sp.length ≤ 1000000) :
    Calls Tryz.prog 148 #[v] w fun e w' => ∃ v', e = .returned v' ∧ w'.ownsRow base 9 1 v' (onceT sp).length (cells1 (onceT sp)) ∧ Keep (fun k => v.ownBlock = some k) w w' := by
  rcases h.2 with ⟨rfl, hz⟩ | ⟨g, cap, cur, rfl, hbg, hg, hnc, hcm, hcs, htake⟩
  · obtain rfl : sp = [] := List.eq_nil_of_length_eq_zero hz
    clear h
    go_enter Tryz.func148, Tryz.ntmps148
    go_wp2
    go_ret
    exact ⟨_, rfl, World.ownsRow_nil _ _ _ _, Keep.refl _ _⟩
  · have hcl := h.cells (g := g) rfl
    have hH : Holds Value.string w g 0 sp.toArray := by
      intro j hj
      have hj' : j < sp.length := by simpa using hj
      refine ⟨?_, blk_free hg _⟩
      rw [Nat.zero_add]
      have h1 : (cells1 sp)[j]? = some (.string sp.toArray[j]!) := by
        rw [getElem!_pos sp.toArray j hj]
        simp [cells1, List.getElem?_eq_getElem hj']
      have h2 := hcl j _ h1
      have e : (⟨g, 0, none⟩ : Addr).add j = ⟨g, j, none⟩ := by unfold Addr.add; split <;> simp_all
      rw [e] at h2
      exact h2
    have hcon := AnyE.slices_Compact Tryz.compactF Value.string (fun _ => rfl) eqlS neqlS ⟨#[]⟩ (fun w => Tryz.zeroValue9 w) g 0 cap sp.toArray w hH (by simp; omega) (by simpa using hnc)
    have hco : Lib.compactUpTo sp.toArray sp.toArray.size = onceT sp := by rw [show sp.toArray.size = sp.length from by simp, once_eq]
    rw [hco] at hcon
    refine Calls.mono (show Calls Tryz.prog 148 #[.slice (some ⟨g, 0, none⟩) sp.length cap] w _ from hcon) ?_
    rintro e w' ⟨rfl, q, rfl⟩
    have hol := once_len sp
    refine ⟨_, rfl, ⟨by simp [cells1], .inr ⟨g, cap, _, rfl, hbg, put_heapS w q g _ cur _ hg, by omega, hcm, by simp [putCells, hcs], ?_⟩⟩, (put_keepS w q g _).mono fun k _ hk => by simp [Value.ownBlock, hk]⟩
    apply List.ext_getElem?
    intro t
    by_cases ht : t < (onceT sp).length
    · rw [List.getElem?_take, if_pos (by omega), Array.getElem?_toList]
      have htc : t < cur.size := by rw [hcs]; omega
      simp only [putCells, Array.getElem?_mapIdx, Array.getElem?_eq_getElem htc, Option.map_some]
      have hsz : t < (onceT sp ++ List.replicate (sp.toArray.size - (onceT sp).length) ({ data := #[] } : ByteArray)).toArray.size := by simp; omega
      rw [if_pos ⟨Nat.zero_le _, by omega⟩, Nat.sub_zero, getElem!_pos _ t hsz]
      simp [cells1, List.getElem_append_left, ht]
    · rw [List.getElem?_take, if_neg (by omega), List.getElem?_eq_none (by simp [cells1]; omega)]
theorem pstr_info : (Tryz.prog.info? 9).map (fun i => (i.zero, i.size, i.bytes)) = some (some (.string ⟨#[]⟩), 1, 16) := by kernel_rfl
set_option maxRecDepth 100000 in
set_option maxHeartbeats 2000000 in
theorem pdeclared_any (A : Option Addr) (l : List Tr) (c : Nat) (w : World) (h : Sl3 w A l) (hl : l.length ≤ 32) :
    Calls Tryz.prog 113 #[.slice A l.length c] w fun e w' => ∃ v', e = .returned v' ∧ w'.ownsRow w.heap.size 9 1 v' (spacesT l).length (cells1 (spacesT l)) ∧ Below w.heap.size w w' := by
  obtain ⟨i0, hi, hz0, hz1, hz2⟩ := info_parts pstr_info
  have HA := Lib.hid h
  have hxl : sXML.toList = [104, 116, 116, 112, 58, 47, 47, 119, 119, 119, 46, 119, 51, 46, 111, 114, 103, 47, 88, 77, 76, 47, 49, 57, 57, 56, 47, 110, 97, 109, 101, 115, 112, 97, 99, 101] := by rw [ByteArray.toList_eq]; rfl
  have HX := Lib.hid hxl
  clear h hxl
  go_enter Tryz.func113, Tryz.ntmps113
  go_wp2
  go_loopw [3, 9] (fun vs vi wr => ∃ (k : Nat) (Q : Option Addr) (cq : Nat), k ≤ l.length ∧ vs = .slice Q (rawS (l.take k)).length cq ∧ vi = .int .i64 k ∧ Hid (wr.ownsRow w.heap.size 9 1 (.slice Q (rawS (l.take k)).length cq) (rawS (l.take k)).length (cells1 (rawS (l.take k)))) ∧ Hid (Below w.heap.size w wr)) (fun _ vi _ => ((l.length : Int) - intOf vi).toNat)
  case atStart => exact ⟨0, none, 0, by omega, rfl, rfl, Lib.hid (World.ownsRow_nil _ _ _ _), Lib.hid (Below.refl _ _)⟩
  case round =>
    obtain ⟨k, Q, cq, hk, rfl, rfl, HO, HB⟩ := hrel
    by_cases h0 : k < l.length
    · obtain ⟨⟨⟨a1, a2⟩, a3⟩, he⟩ : ∃ x, l[k]? = some x := ⟨l[k], List.getElem?_eq_getElem h0⟩
      obtain ⟨ad, rfl, had, d1, d2, d3⟩ := (HA.out.below HB.out).at_ he
      have hst := rawS_take he
      have hrl := rawS_len l k
      simp only at d1 d2 d3 hst
      have hba := (Below.refl wr.heap.size wr).alloc (Nat.le_refl _) (.cells #[.string a1, .string a2, .string a3] 42)
      have HBA := Lib.hid (HB.out.alloc HB.out.size (.cells #[.string a1, .string a2, .string a3] 42))
      have HOA := Lib.hid (own_below HO.out hba)
      have hbs := HB.out.size
      clear hba had he HO
      by_cases h1 : a1 = sE
      · have hb : a1.toList.isEmpty = true := by rw [empty_eq, h1]; exact (eqT_iff _ _).2 rfl
        have hn : needs a1 = false := by unfold needs; rw [h1, (eqT_iff sE sE).2 rfl]; rfl
        rw [hn] at hst
        simp only [Bool.false_eq_true, if_false, List.append_nil] at hst
        have HO2 : Hid ((wr.alloc (.cells #[.string a1, .string a2, .string a3] 42)).ownsRow w.heap.size 9 1 (.slice Q (rawS (l.take (k + 1))).length cq) (rawS (l.take (k + 1))).length (cells1 (rawS (l.take (k + 1))))) := Lib.hid (by rw [hst]; exact HOA.out)
        have HSL := Lib.hid hst
        clear hst hn h1 HOA
        go_wp2
        go_roundw
        case rel => exact ⟨k + 1, Q, cq, by omega, by rw [HSL.out], by go_num, HO2, HBA⟩
        case measure => simp [intOf]; omega
      · have hb : a1.toList.isEmpty = false := by rw [empty_eq, eqT_dec]; exact decide_eq_false h1
        by_cases h2 : a1 = sXML
        · have hb2 : (a1.toList == [104, 116, 116, 112, 58, 47, 47, 119, 119, 119, 46, 119, 51, 46, 111, 114, 103, 47, 88, 77, 76, 47, 49, 57, 57, 56, 47, 110, 97, 109, 101, 115, 112, 97, 99, 101]) = true := by rw [h2, HX.out]; rfl
          have hn : needs a1 = false := by unfold needs; rw [h2, (eqT_iff sXML sXML).2 rfl]; simp
          rw [hn] at hst
          simp only [Bool.false_eq_true, if_false, List.append_nil] at hst
          have HO2 : Hid ((wr.alloc (.cells #[.string a1, .string a2, .string a3] 42)).ownsRow w.heap.size 9 1 (.slice Q (rawS (l.take (k + 1))).length cq) (rawS (l.take (k + 1))).length (cells1 (rawS (l.take (k + 1))))) := Lib.hid (by rw [hst]; exact HOA.out)
          have HSL := Lib.hid hst
          clear hst hn h1 h2 HOA
          go_wp2
          go_roundw
          case rel => exact ⟨k + 1, Q, cq, by omega, by rw [HSL.out], by go_num, HO2, HBA⟩
          case measure => simp [intOf]; omega
        · have hb2 : (a1.toList == [104, 116, 116, 112, 58, 47, 47, 119, 119, 119, 46, 119, 51, 46, 111, 114, 103, 47, 88, 77, 76, 47, 49, 57, 57, 56, 47, 110, 97, 109, 101, 115, 112, 97, 99, 101]) = false := by
            have h3 : eqT a1 sXML = false := by rw [eqT_dec]; exact decide_eq_false h2
            unfold eqT at h3
            rw [HX.out] at h3
            exact h3
          have hn : needs a1 = true := by unfold needs; rw [eqT_dec, eqT_dec, decide_eq_false h1, decide_eq_false h2]; rfl
          rw [hn] at hst
          simp only [if_true] at hst
          have HST := Lib.hid hst
          have HLIT := Lib.hid (Sl.lit (wr.alloc (.cells #[.string a1, .string a2, .string a3] 42)) 1 [.string a1] 9 1 rfl)
          have HOW := Lib.hid (HOA.out.alloc (.cells #[.string a1] 9))
          have HB2 := Lib.hid (HBA.out.alloc HBA.out.size (.cells #[.string a1] 9))
          have hm : (rawS (l.take k)).length + 1 ≤ maxLen := by unfold maxLen; omega
          have hb16 : ((rawS (l.take k)).length + 1) * 16 ≤ 140737488355328 := by omega
          have hbs2 : w.heap.size ≤ ((wr.alloc (.cells #[.string a1, .string a2, .string a3] 42)).alloc (.cells #[.string a1] 9)).heap.size := by simp; omega
          have HONE := Lib.hid (show ∀ u ∈ [Value.string a1], u.oneCell' = true from fun u hu => by simp only [List.mem_singleton] at hu; subst hu; rfl)
          clear hst hn h1 h2 HOA
          generalize hRL : (rawS (l.take k)).length = rl at *
          go_wp2_with (at_builtin; refine wpList_append_sl _ rfl (.tmp 22) (.tmp 24) _ rfl w.heap.size 9 i0 _ 1 16 Tryz.underlying122 hi hz0 hz1 hz2 rfl (by omega) _ rl (cells1 (rawS (l.take k))) rfl HOW.out (some ⟨wr.heap.size + 1, 0, none⟩) 1 1 [.string a1] rfl (by have := HLIT.out; simpa using this) HONE.out hm hb16 hbs2 ?_)
          intro v5 w5 hown5 hg5 hat5
          have HO2 : Hid (w5.ownsRow w.heap.size 9 1 v5 (rawS (l.take (k + 1))).length (cells1 (rawS (l.take (k + 1))))) := Lib.hid (by
            have e1 : (rawS (l.take (k + 1))).length = rl + 1 := by rw [HST.out, List.length_append, hRL]; rfl
            have e2 : cells1 (rawS (l.take (k + 1))) = cells1 (rawS (l.take k)) ++ [.string a1] := by rw [HST.out]; simp [cells1]
            rw [e1, e2]
            exact hown5)
          obtain ⟨Q5, c5, rfl⟩ := own_shape HO2.out
          have HB5 := Lib.hid (HB2.out.grown hg5 hbs2 (fun k hk => (own_in HOW.out hk).1))
          clear hown5 hg5 hat5 HLIT HOW HB2 HONE HST hb hb2
          go_wp2
          go_roundw
          case rel => exact ⟨k + 1, Q5, c5, by omega, rfl, by go_num, HO2, HB5⟩
          case measure => simp [intOf]; omega
    · have : k = l.length := by omega
      subst this
      rw [List.take_length] at HO
      have hlen : (rawS l).length ≤ 1000000 := by have := rawS_len l l.length; rw [List.take_length] at this; omega
      have hc := compact_any (rawS l) HO.out hlen
      have HBS := Lib.hid (fun k (hk : (Value.slice Q (rawS l).length cq).ownBlock = some k) => (own_in HO.out hk).1)
      clear hlen HO
      go_wp2_with fail
      refine hc.mono ?_
      rintro e w5 ⟨v5, rfl, hown5, hk5⟩
      have HO5 := Lib.hid hown5
      have HB5 := Lib.hid (HB.out.trans (hk5.below HBS.out HB.out.size))
      clear hc hown5 hk5
      go_wp2
      go_ret
      exact ⟨v5, rfl, HO5.out, HB5.out⟩
end Go.Proofs.YtjohfljkhlkjoaaGreatDoor

namespace Wb
theorem attrs_sorted {l l' : List Tr} (hp : l'.Perm l) (hr : Rise l') (hn : (l.map (·.1)).Pairwise (· ≠ ·)) : l' = sortT l := by
  refine rise_one l' (sortT l) hr (sortT_rise l) (hp.trans (sortT_perm l).symm) ?_
  have h2 : (l'.map (·.1)).Perm (l.map (·.1)) := hp.map _
  exact (h2.pairwise_iff (fun h e => h e.symm)).2 hn
theorem pre_size (sp : List ByteArray) (s : ByteArray) : (preT sp s).length ≤ 5 := by
  unfold preT
  split
  · simp
  · split
    · simp [sXmlK]
    · unfold numT digT
      split <;> simp
end Wb
namespace Go.Proofs.YtjohfljkhlkjoaaGreatDoor
open Go.RowKit Wb
theorem PgT.beside {base b most : Nat} {t : List UInt8} {w w' : World} {S : Nat → Prop} (h : PgT base b t most w) (hk : Keep S w w') (h1 : ¬ S b) (h2 : ∀ k, S k → ¬ isU8 w k) : PgT base b t most w' := by
  rcases h with ⟨h0, h⟩ | ⟨h0, bs, h3, h⟩
  · exact .inl ⟨h0, h.beside hk h1 h2⟩
  · exact .inr ⟨h0, bs, h3, h.beside hk h1 h2⟩
theorem not_u8 {w : World} {k : Nat} {cs : Array Value} {t : TypeId} {f : Nat × Nat} (h : w.heap[k]? = some (.cells cs t f)) (ht : t ≠ 5) : ¬ isU8 w k := by
  rintro ⟨cs', f', h'⟩
  rw [h] at h'
  injection h' with h'
  injection h' with _ h'
  exact ht h'
theorem own_u8 {w : World} {base sz n : Nat} {e : TypeId} {v : Value} {xs : List Value} (h : w.ownsRow base e sz v n xs) (he : e ≠ 5) {k : Nat} (hk : v.ownBlock = some k) : ¬ isU8 w k := by
  rcases h.2 with ⟨rfl, _⟩ | ⟨g, cap, cur, rfl, _, hg, _⟩
  · simp [Value.ownBlock] at hk
  · simp only [Value.ownBlock, Option.some.injEq] at hk
    subst hk
    exact not_u8 hg he
set_option maxRecDepth 100000 in
set_option maxHeartbeats 4000000 in
theorem pattrs_any {base b most : Nat} {t : List UInt8} {w : World} (A : Option Addr) (l : List Tr) (c : Nat) (h : PgT base b t most w) (hm : most ≤ 140737488355328) (hA : Sl3 w A l) (hl : l.length ≤ 32) (hn : (l.map (·.1)).Pairwise (· ≠ ·))
    (hz : ∀ a ∈ l, a.1.1.size ≤ 1000000000 ∧ a.1.2.size ≤ 1000000000 ∧ a.2.size ≤ 1000000000) :
    Calls Tryz.prog 70 #[.pointer (some ⟨b, 0, none⟩), .slice A l.length c] w fun e w' => e = .returned (.tuple #[]) ∧ PgT base b (t ++ attrsT l) most w' ∧ PgK base b w w' := by
  have hm2 : most ≤ 9223372036854775807 := by omega
  have hc := clone_any A l c w hA (by omega)
  have H0 := Lib.hid h
  have HN := Lib.hid hn
  obtain ⟨l2, hl2⟩ : ∃ l2, sortT l = l2 := ⟨_, rfl⟩
  obtain ⟨sp, hsp⟩ : ∃ sp, spacesT l2 = sp := ⟨_, rfl⟩
  have hat : attrsT l = declT 0 sp ++ eachT sp l2 := by rw [← hsp, ← hl2]; rfl
  rw [hat]
  have HL2 := Lib.hid hl2
  have HSP := Lib.hid hsp
  have HZ := Lib.hid (show ∀ a ∈ sortT l, a.1.1.size ≤ 1000000000 ∧ a.1.2.size ≤ 1000000000 ∧ a.2.size ≤ 1000000000 from fun a ha => hz a ((sortT_perm l).mem_iff.1 ha))
  have hbb := h.lt
  clear h hn hz hA hat hl2 hsp
  go_enter Tryz.func70, Tryz.ntmps70
  go_wp2_with fail
  refine hc.mono ?_
  rintro e w1 ⟨v1, rfl, hown1, hb1⟩
  obtain ⟨A1, c1, rfl⟩ := own_shape hown1
  have hs := sort_any l hown1 (by omega)
  have HO1 := Lib.hid hown1
  have HB1 := Lib.hid hb1
  have hbs1 := hb1.size
  clear hc hown1 hb1
  go_wp2_with fail
  refine hs.mono ?_
  rintro e w2 ⟨rfl, l', hp, hr, hown2, hk2⟩
  have hl2' : l' = l2 := (attrs_sorted hp hr HN.out).trans HL2.out
  subst l'
  have hk2' : Keep (fun k => (Value.slice A1 l.length c1).ownBlock = some k) w1 w2 := hk2
  have hB2 : Below w.heap.size w w2 := HB1.out.trans (hk2'.below (fun k hk => (own_in HO1.out hk).1) hbs1)
  have hP2 : PgT base b t most w2 := ((H0.out.other HB1.out).beside hk2' (fun hk => by have := (own_in HO1.out hk).1; omega) (fun k hk => own_u8 HO1.out (by decide) hk))
  have hl' : l2.length = l.length := by rw [← HL2.out]; exact sortT_len l
  have hown2' : w2.ownsRow w.heap.size 42 3 (.slice A1 l2.length c1) l2.length (cells3 l2) := by rw [hl']; exact hown2
  have hl32 : l2.length ≤ 32 := by omega
  have HO2 := Lib.hid hown2'
  have HB2 := Lib.hid hB2
  have HP2 := Lib.hid hP2
  have hbs2 := hB2.size
  rw [← hl']
  clear hs hp hr hown2 hk2 hk2' hB2 hP2 hown2' HN HO1 HB1 H0 hl' hl
  rw [HL2.out] at HZ
  clear HL2
  have hd := pdeclared_any A1 l2 c1 w2 (Sl3.of_own HO2.out) hl32
  have hsl := spaces_len l2
  rw [HSP.out] at hd hsl
  have HSM := Lib.hid (fun x (hx : x ∈ l2) => HSP.out ▸ spaces_mem (l := l2) hx)
  have HSZ := Lib.hid (show ∀ s ∈ sp, s.size ≤ 1000000000 from fun s hs => by
    rw [← HSP.out] at hs
    unfold spacesT at hs
    rw [once_mem] at hs
    obtain ⟨hs1, _⟩ := List.mem_filter.1 hs
    obtain ⟨x, hx, rfl⟩ := List.mem_map.1 hs1
    exact (HZ.out x hx).1)
  clear HSP
  go_wp2_with fail
  refine hd.mono ?_
  rintro e w3 ⟨v3, rfl, hown3, hb3⟩
  obtain ⟨Q, cq, rfl⟩ := own_shape hown3
  have HO3 := Lib.hid hown3
  have HB3 := Lib.hid (HB2.out.trans (hb3.mono hbs2))
  have HP3 := Lib.hid (HP2.out.other hb3)
  have HOA3 := Lib.hid (own_below HO2.out hb3)
  have HGQ := Lib.hid (show (Value.slice Q sp.length cq).ownBlock ≠ some b from fun hk => by have := (own_in hown3 hk).1; omega)
  have HGA := Lib.hid (show (Value.slice A1 l2.length c1).ownBlock ≠ some b from fun hk => by have := (own_in HO2.out hk).1; omega)
  clear hd hown3 hb3 HO2 HB2 HP2
  go_wp2
  go_loopw [17] (fun vi wr => ∃ i : Nat, i ≤ sp.length ∧ vi = .int .i64 i ∧ Hid (PgT base b (t ++ declT 0 (sp.take i)) most wr) ∧ Hid (PgK base b w3 wr)) (fun vi _ => ((sp.length : Int) - intOf vi).toNat)
  case atStart => exact ⟨0, by omega, rfl, Lib.hid (by simpa [declT] using HP3.out), Lib.hid (PgK.refl _ _ _)⟩
  case round =>
    obtain ⟨i, hi, rfl, HP, HK⟩ := hrel
    by_cases h0 : i < sp.length
    · obtain ⟨s, he⟩ : ∃ s, sp[i]? = some s := ⟨sp[i], List.getElem?_eq_getElem h0⟩
      have hrow := HK.out.own HO3.out (by decide) HGQ.out
      obtain ⟨g3, cap3, hv3, hg3, hgl3⟩ := hrow.form (by omega)
      have hQ : Q = some ⟨g3, 0, none⟩ := by injection hv3
      subst hQ
      have hcell := hrow.cells (g := g3) rfl i (.string s) (by simp [cells1, he])
      rw [Addr.add_lit, Nat.zero_add] at hcell
      have hss : s.size ≤ 1000000000 := by
        have hmem := List.mem_of_getElem? he
        exact HSZ.out s hmem
      have hnum := pnumbered_any i (by omega) wr
      have hdt := declT_take he
      have hrr : (ByteArray.mk #[120, 109, 108, 110, 115, 58]) ++ (ByteArray.mk (numT i).toArray) = ByteArray.mk (sXmlnsK ++ numT i).toArray := ba_app sXmlnsK (numT i)
      have hzr : (ByteArray.mk (numT i).toArray).size ≤ 3 := by
        show (numT i).toArray.size ≤ 3
        unfold numT digT
        split <;> simp
      have hat := pattr_any (ByteArray.mk (sXmlnsK ++ numT i).toArray) s HP.out hm2 hss (.inl hm)
      rw [List.append_assoc] at hat
      rw [show (ByteArray.mk (sXmlnsK ++ numT i).toArray).data.toList = sXmlnsK ++ numT i from rfl, ← hdt, ← hrr] at hat
      have HKd := HK
      clear hrow hv3 hg3 hgl3 he hdt hrr HP
      generalize (ByteArray.mk (numT i).toArray) = r at *
      have hz2 : ¬ 9223372036854775807 < 6 + r.size := by omega
      go_wp2_with fail
      refine hnum.mono ?_
      rintro e w' ⟨rfl, rfl⟩
      go_wp2_with fail
      refine hat.mono ?_
      rintro e w4 ⟨rfl, hp4, hk4⟩
      have HP4 := Lib.hid hp4
      have HK4 := Lib.hid (HKd.out.trans hk4)
      clear hnum hat hp4 hk4 hcell
      go_wp2
      go_roundw
      case rel => exact ⟨i + 1, by omega, by go_num, HP4, HK4⟩
      case measure => simp [intOf]; omega
    · have : i = sp.length := by omega
      subst this
      rw [List.take_length] at HP
      go_wp2
      go_loopw [31] (fun vi wr => ∃ k : Nat, k ≤ l2.length ∧ vi = .int .i64 k ∧ Hid (PgT base b (t ++ declT 0 sp ++ eachT sp (l2.take k)) most wr) ∧ Hid (PgK base b w3 wr)) (fun vi _ => ((l2.length : Int) - intOf vi).toNat)
      case atStart => exact ⟨0, by omega, rfl, Lib.hid (by simpa [eachT] using HP.out), HK⟩
      case round =>
        obtain ⟨k, hk, rfl, HP, HK⟩ := hrel
        by_cases h1 : k < l2.length
        · obtain ⟨⟨⟨a1, a2⟩, a3⟩, he⟩ : ∃ x, l2[k]? = some x := ⟨l2[k], List.getElem?_eq_getElem h1⟩
          have hrow := HK.out.own HOA3.out (by decide) HGA.out
          obtain ⟨ad, rfl, had, d1, d2, d3⟩ := (Sl3.of_own hrow).at_ he
          have hmem := List.mem_of_getElem? he
          obtain ⟨z1, z2, z3⟩ := HZ.out _ hmem
          have hsm := HSM.out _ hmem
          have het := eachT_take (sp := sp) he
          simp only at d1 d2 d3 z1 z2 z3 hsm het
          have hrq := HK.out.own HO3.out (by decide) HGQ.out
          have hslq : Sl wr 1 Q sp.length (cells1 sp) := Sl.of_own hrq
          have hT := heap_alloc_new wr (.cells #[.string a1, .string a2, .string a3] 42)
          have hpa := HP.out.alloc (.cells #[.string a1, .string a2, .string a3] 42)
          have hka := HK.out.trans (PgK.alloc (base := base) (b := b) wr (.cells #[.string a1, .string a2, .string a3] 42))
          have hsa := hslq.alloc (.cells #[.string a1, .string a2, .string a3] 42)
          have hTb : wr.heap.size ≠ b := by have := HP.out.lt; omega
          have HT := Lib.hid hT
          have HPA := Lib.hid hpa
          have HKA := Lib.hid hka
          have HSA := Lib.hid hsa
          clear hrow hrq hslq hT hpa hka hsa hmem he HP HK
          go_upto_region 11 with fail
          clear d1 d2 d3 had
          revert HT HPA HKA HSA
          generalize (wr.alloc (.cells #[.string a1, .string a2, .string a3] 42)) = wz
          intro HT HPA HKA HSA
          generalize wr.heap.size = T at *
          have hpre := prefix_any Q sp a1 cq wz.drew (HSA.out.drew) hsm (by omega)
          have hrr : (ByteArray.mk (preT sp a1).toArray) ++ a2 = ByteArray.mk (preT sp a1 ++ a2.data.toList).toArray := by
            have := ba_app (preT sp a1) a2.data.toList
            exact this
          have hpz := pre_size sp a1
          have hzr : (ByteArray.mk (preT sp a1).toArray).size ≤ 5 := by
            show (preT sp a1).toArray.size ≤ 5
            simpa using hpz
          have hat := pattr_any (ByteArray.mk (preT sp a1 ++ a2.data.toList).toArray) a3 (HPA.out.other (Below.refl _ wz).drew) hm2 z3 (.inl hm)
          rw [List.append_assoc, show (ByteArray.mk (preT sp a1 ++ a2.data.toList).toArray).data.toList = preT sp a1 ++ a2.data.toList from rfl, ← het, ← hrr] at hat
          have n0 : wz.drew.cell? ⟨T, 0, none⟩ = some (.string a1) := blk_cell HT.out 0
          have n1 : wz.drew.cell? ⟨T, 1, none⟩ = some (.string a2) := blk_cell HT.out 1
          have n2 : wz.drew.cell? ⟨T, 2, none⟩ = some (.string a3) := blk_cell HT.out 2
          have HN2 := Lib.hid (fun (v : World) (hv : PgK base b wz.drew v) => (show v.cell? ⟨T, 0, none⟩ = some (.string a1) ∧ v.cell? ⟨T, 1, none⟩ = some (.string a2) ∧ v.cell? ⟨T, 2, none⟩ = some (.string a3) from by
            have hb := PgK.blk (w := wz.drew) hv HT.out (by decide) hTb
            exact ⟨blk_cell hb 0, blk_cell hb 1, blk_cell hb 2⟩))
          have HKD := Lib.hid (HKA.out.drew)
          clear hrr het hsm HPA hpz HSA
          generalize (ByteArray.mk (preT sp a1).toArray) = r at *
          have hz2 : ¬ 9223372036854775807 < r.size + a2.size := by omega
          go_wp2_with fail
          (try simp only [List.append])
          refine wp_region_held_drew (S := (fun v => v.cell? ⟨T, 0, none⟩ = some (.string a1) ∧ v.cell? ⟨T, 1, none⟩ = some (.string a2) ∧ v.cell? ⟨T, 2, none⟩ = some (.string a3))) (by kernel_rfl) (⟨n0, n1, n2⟩) (fun hHeld => ?_)
          refine takeW 0 ?_; refine takeW 1 ?_; refine takeW 2 ?_; refine takeW 3 ?_
          (try simp only [Act.put, Ta.p0, Ta.p1, Ta.p2])
          refine takeW 4 ?_; refine takeW 6 ?_; refine takeW 7 ?_; refine takeW 8 ?_
          (try simp only [Act.put, Ta.p0, Ta.p1, Ta.p2])
          refine takeW 10 ?_; refine takeW 11 ?_
          (try simp only [Act.put, Ta.p0, Ta.p1, Ta.p2])
          refine wpAnyH_ready (rs := [5]) (by kernel_rfl) (by simp) ?_
          refine AllReadyH.cons rfl (fun K2 hK2 => ?_) AllReadyH.nil
          go_simp
          refine hpre.mono ?_
          rintro e w4 ⟨rfl, rfl⟩
          refine hK2.out _ _ hHeld (fun hHeld2 => ?_)
          refine takeW 9 ?_
          (try simp only [Act.put, Ta.p0, Ta.p1, Ta.p2])
          refine wpAnyH_ready (rs := [12]) (by kernel_rfl) (by simp) ?_
          refine AllReadyH.cons rfl (fun K2 hK2 => ?_) AllReadyH.nil
          go_simp
          refine hat.mono ?_
          rintro e w4 ⟨rfl, hp4, hk4⟩
          refine hK2.out _ _ (HN2.out _ hk4) (fun hHeld2 => ?_)
          have HP4 := Lib.hid hp4
          have HK4 := Lib.hid (HKD.out.trans hk4)
          (try simp only [Act.put, Ta.p0, Ta.p1, Ta.p2])
          refine wpAnyH_done (by kernel_rfl) ?_ _
          clear hat hp4 hk4 hpre
          go_wp2
          go_roundw
          case rel => exact ⟨k + 1, by omega, by go_num, HP4, HK4⟩
          case measure => simp [intOf]; omega
        · have : k = l2.length := by omega
          subst this
          rw [List.take_length] at HP
          go_wp2
          go_end0
          exact ⟨rfl, by rw [← List.append_assoc]; exact HP.out, (PgK.of_below HB3.out).trans HK.out⟩
end Go.Proofs.YtjohfljkhlkjoaaGreatDoor

