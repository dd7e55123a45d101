/- QnH QnI PrH ShelfB. -/
import Derived.DeepKeys4
import Derived.Sort.Grow
import Derived.Lib.SliceRun
import Derived.Shelf.SlGeneric
import Derived.Shelf.SlSortCmp.WholeK
import Derived.Shelf.SlicesE.Compact
import Derived.Ground.SlsfProg
import Derived.Ground.SlgnProg
import Derived.Ground.NamesProg
import Derived.Test.YtlcjepnaljfpkaaGreatDoorProg
import Derived.Test.YtlcjepnaljfpkaaGreatDoorQp7
import Derived.Test.YtlcjepnaljfpkaaGreatDoorQp14
import Derived.Test.YtlcjepnaljfpkaaGreatDoorQp21
namespace Go.Proofs.YtlcjepnaljfpkaaGreatDoor
open Go.RowKit Wb Go.Maps
set_option maxRecDepth 1000000 in
theorem laidOut : laidOutB Tryz.prog = true := by kernel_rfl
theorem name_row : (33 : TypeId) < Tryz.prog.types.size := of_decide_eq_true (by kernel_rfl)
theorem name_wide : (match Tryz.prog.underlying 33 with | some (.array _ _) | some (.struct _) => true | _ => false) = true := by kernel_rfl
set_option maxRecDepth 1000000 in
theorem name_law : Keyed Tryz.prog 33 := Keyed.of_law (deep_law_laid laidOut (m := 3) (by omega) name_row (by kernel_rfl) name_wide)
theorem name_kt : Tryz.prog.keyType 33 = true := by kernel_rfl
theorem name_cells : Tryz.prog.cellsOf 33 = 2 := by kernel_rfl
def litN (x : Pr) : Lit := .string (keyBytes [.string x.1.data.toList, .string x.2.data.toList])
theorem str_cells : Tryz.prog.cellsOf 9 = 1 := by kernel_rfl
theorem many_types : (2 : Nat) ≤ Tryz.prog.types.size := of_decide_eq_true (by kernel_rfl)
theorem key_str (m : Nat) (s : ByteArray) (h : s.size ≤ maxLen) : Tryz.prog.keyLits (m + 1) 9 [.string s] = some [.string s.data.toList] := by
  unfold Program.keyLits
  rw [Tryz.underlying9]
  simp [h]
theorem name_key (x : Pr) (h1 : x.1.size ≤ maxLen) (h2 : x.2.size ≤ maxLen) : keyOf Tryz.prog 33 (.agg #[.string x.1, .string x.2]) = some (litN x) := by
  have hf : (Value.agg #[.string x.1, .string x.2]).formed Tryz.prog 33 = true := by
    simp [Value.formed, Tryz.underlying33, name_cells]
  unfold keyOf
  rw [Tryz.underlying33]
  simp only [name_kt, hf, Bool.and_self, if_true]
  obtain ⟨m, hm⟩ : ∃ m, Tryz.prog.types.size + 1 = m + 2 := ⟨Tryz.prog.types.size - 1, by have := many_types; omega⟩
  rw [hm]
  unfold Program.keyLits
  rw [Tryz.underlying33]
  simp [Value.cells, name_cells, str_cells, key_str _ _ h1, key_str _ _ h2, litN]
theorem litN_inj {x y : Pr} (h1 : x.1.size ≤ maxLen) (h2 : x.2.size ≤ maxLen) (h3 : y.1.size ≤ maxLen) (h4 : y.2.size ≤ maxLen) (h : litN x = litN y) : x = y := by
  have := name_law.inj (name_key x h1 h2) (h ▸ name_key y h3 h4)
  simp only [Value.agg.injEq, Array.mk.injEq, List.cons.injEq, Value.string.injEq, and_true] at this
  exact Prod.ext this.1 this.2
theorem zero_unit (w : World) : (zeroValue 156).run Tryz.prog w = .ok (.agg #[]) w := by kernel_rfl
end Go.Proofs.YtlcjepnaljfpkaaGreatDoor
namespace Go.Proofs.YtlcjepnaljfpkaaGreatDoor
open Go.RowKit Wb Go.Maps
theorem attr_info : (Tryz.prog.info? 66).map (fun i => (i.zero, i.size, i.bytes)) = some (some (.agg #[.string ⟨#[]⟩, .string ⟨#[]⟩, .string ⟨#[]⟩]), 3, 48) := by kernel_rfl
end Go.Proofs.YtlcjepnaljfpkaaGreatDoor
namespace Wb
def encT (x : Tr) : List Go.Value := [.string x.1.1, .string x.1.2, .string x.2]
end Wb
namespace Go.Proofs.YtlcjepnaljfpkaaGreatDoor
open Go.RowKit Wb
set_option maxHeartbeats 1000000 in
theorem byName_any (x y : Tr) (W : World) : Calls Tryz.prog 90 #[.agg (encT x).toArray, .agg (encT y).toArray] W fun e w' => e = .returned (.int .i64 (cmpT x y)) ∧ ∃ q os', w' = Sort.grow (W.drewN q) os' := by
  have h1 := fun v => Tryz.strings_Compare x.1.1 y.1.1 v
  have h2 := fun v => Tryz.strings_Compare x.1.2 y.1.2 v
  have hc : cmpT x y = if Lib.compareBytes x.1.1.data.toList y.1.1.data.toList ≠ 0 then Lib.compareBytes x.1.1.data.toList y.1.1.data.toList else Lib.compareBytes x.1.2.data.toList y.1.2.data.toList := rfl
  rw [hc]
  have hg : (W.alloc (.cells #[.string x.1.1, .string x.1.2, .string x.2] 66)).alloc (.cells #[.string y.1.1, .string y.1.2, .string y.2] 66) = Sort.grow (W.drewN 0) #[.cells #[.string x.1.1, .string x.1.2, .string x.2] 66, .cells #[.string y.1.1, .string y.1.2, .string y.2] 66] := by
    rw [Sort.alloc_eq_grow, Sort.alloc_eq_grow, Sort.grow_grow]
    rfl
  have HG := Lib.hid hg
  have n1 := (Below.heap_alloc (W.alloc (.cells #[.string x.1.1, .string x.1.2, .string x.2] 66)) (.cells #[.string y.1.1, .string y.1.2, .string y.2] 66) _ (blk_in (heap_alloc_new W _))).trans (heap_alloc_new W (.cells #[.string x.1.1, .string x.1.2, .string x.2] 66))
  have n2 := heap_alloc_new (W.alloc (.cells #[.string x.1.1, .string x.1.2, .string x.2] 66)) (.cells #[.string y.1.1, .string y.1.2, .string y.2] 66)
  generalize Lib.compareBytes x.1.1.data.toList y.1.1.data.toList = r1 at *
  generalize Lib.compareBytes x.1.2.data.toList y.1.2.data.toList = r2 at *
  unfold encT
  clear hc hg n1 n2
  by_cases h0 : r1 = 0
  · subst h0
    rw [if_neg (by simp)]
    go_enter Tryz.func90, Tryz.ntmps90
    go_wp2_with fail
    refine (h1 _).mono ?_
    rintro e w1 ⟨rfl, rfl⟩
    go_wp2_with fail
    refine (h2 _).mono ?_
    rintro e w1 ⟨rfl, rfl⟩
    go_wp2
    go_ret
    exact ⟨rfl, 0, _, HG.out⟩
  · rw [if_pos h0]
    have hb : (r1 == 0) = false := by simpa using h0
    go_enter Tryz.func90, Tryz.ntmps90
    go_wp2_with fail
    refine (h1 _).mono ?_
    rintro e w1 ⟨rfl, rfl⟩
    go_wp2
    go_ret
    exact ⟨rfl, 0, _, HG.out⟩
set_option maxRecDepth 100000 in
set_option maxHeartbeats 1000000 in
theorem clone_any (A : Option Addr) (l : List Tr) (c : Nat) (w : World) (h : Sl3 w A l) (hl : l.length ≤ 1000000) :
    Calls Tryz.prog 88 #[.slice A l.length c] w fun e w' => ∃ v', e = .returned v' ∧ w'.ownsRow w.heap.size 66 3 v' l.length (cells3 l) ∧ Below w.heap.size w w' := by
  cases A with
  | none =>
    obtain rfl : l = [] := by
      cases l with
      | nil => rfl
      | cons x l =>
        obtain ⟨ad, e, _⟩ := h.2 (by simp)
        cases e
    have hq : ∀ w, (binOp .eql 34 (.slice none 0 c) (.slice none 0 0)).run Tryz.prog w = .ok (.bool true) w := fun w => Lib.run_eql_slice_nil w _ _ none 0 c 0 0 Tryz.underlying34
    go_enter Tryz.func88, Tryz.ntmps88
    go_wp2
    go_ret
    exact ⟨_, rfl, World.ownsRow_nil _ _ _ _, Below.refl _ _⟩
  | some ad =>
    obtain ⟨i0, hi, hz0, hz1, hz2⟩ := info_parts attr_info
    have hq : ∀ w, (binOp .eql 34 (.slice (some ad) l.length c) (.slice none 0 0)).run Tryz.prog w = .ok (.bool false) w := fun w => Lib.run_eql_slice_nil w _ _ (some ad) l.length c 0 0 Tryz.underlying34
    have HOWN := Lib.hid (World.ownsRow_made (base := w.heap.size) (e := 66) (size := 3) w #[] 0 (Nat.le_refl _) (Nat.zero_le _) (by simp))
    have HSL := Lib.hid (Sl.alloc h (.cells #[] 66))
    have HBA := Lib.hid ((Below.refl w.heap.size w).alloc (Nat.le_refl _) (.cells #[] 66))
    have hm : 0 + l.length ≤ maxLen := by unfold maxLen; omega
    have hb : (0 + l.length) * 48 ≤ 140737488355328 := by omega
    have hs : w.heap.size ≤ (w.alloc (.cells #[] 66)).heap.size := by simp
    clear h
    go_enter Tryz.func88, Tryz.ntmps88
    go_wp2_with (at_builtin; refine wpList_append_sl _ rfl (.tmp 5) (.tmp 6) _ rfl w.heap.size 66 i0 _ 3 48 Tryz.underlying34 hi hz0 hz1 hz2 rfl (by omega) _ 0 [] rfl HOWN.out (some ad) l.length c (cells3 l) rfl HSL.out (cells3_one l) hm hb hs ?_)
    intro v5 w5 hown5 hg5 hat5
    have HF := Lib.hid hown5
    have HB := Lib.hid (HBA.out.grown hg5 hs (fun k hk => by simp [Value.ownBlock] at hk; omega))
    clear hown5 hg5 hat5
    go_wp2
    go_ret
    exact ⟨_, rfl, HF.out, HB.out⟩
set_option maxHeartbeats 1000000 in
theorem pindex_any (A : Option Addr) (l : List ByteArray) (x : ByteArray) (c : Nat) (w : World) (h : Sl w 1 A l.length (cells1 l)) (hx : x ∈ l) (hl : l.length ≤ 1000000) :
    Calls Tryz.prog 126 #[.slice A l.length c, .string x] w fun e w' => e = .returned (.int .i64 (idxB x l)) ∧ w' = w := by
  obtain ⟨ad, rfl, had, hc⟩ := h.2 (List.length_pos_of_mem hx)
  have HX := Lib.hid hx
  obtain ⟨r, hr⟩ : ∃ r, idxB x l = r := ⟨_, rfl⟩
  rw [hr]
  have HR := Lib.hid hr
  clear h hx hr
  go_enter Tryz.func126, Tryz.ntmps126
  go_wp2
  go_loop [8] (fun vi => ∃ k : Nat, k ≤ l.length ∧ vi = .int .i64 k ∧ Hid (∀ j (hj : j < l.length), j < k → l[j] ≠ x)) (fun vi => ((l.length : Int) - intOf vi).toNat)
  case atStart => exact ⟨0, by omega, rfl, Lib.hid (fun j _ h => by omega)⟩
  case round =>
    obtain ⟨k, hk, rfl, HN⟩ := hrel
    by_cases h0 : k < l.length
    · have hcell := hc k (.string l[k]) (by simp [cells1, List.getElem?_eq_getElem h0])
      by_cases he : l[k] = x
      · have hi := idxB_at h0 he HN.out
        have hrk : r = k := HR.out.symm.trans hi
        subst hrk
        have hb : (x.toList == (l[r]).toList) = true := by rw [he]; exact beq_self_eq_true _
        clear hi HN HX hc HR he
        generalize l[r] = y at *
        go_wp2
        go_ret
        exact ⟨rfl, rfl⟩
      · have hb : (x.toList == (l[k]).toList) = false := by
          have h1 : eqT x l[k] = false := by rw [eqT_dec]; exact decide_eq_false (fun e => he e.symm)
          exact h1
        have HN2 : Hid (∀ j (hj : j < l.length), j < k + 1 → l[j] ≠ x) := Lib.hid (fun j hj hjk => by
          by_cases e : j = k
          · subst e; exact he
          · exact HN.out j hj (by omega))
        clear he HN
        generalize l[k] = y at hcell hb
        go_wp2
        go_round
        case rel => exact ⟨k + 1, by omega, by go_num, HN2⟩
        case measure => simp [intOf]; omega
    · exact absurd HX.out (fun hx => by
        obtain ⟨j, hj, e⟩ := List.mem_iff_getElem.1 hx
        exact HN.out j hj (by omega) e)
set_option maxRecDepth 100000 in
set_option maxHeartbeats 1000000 in
theorem prefix_any (A : Option Addr) (l : List ByteArray) (s : ByteArray) (c : Nat) (w : World) (h : Sl w 1 A l.length (cells1 l)) (hx : needs s = true → s ∈ l) (hl : l.length ≤ 32) :
    Calls Tryz.prog 93 #[.slice A l.length c, .string s] w fun e w' => e = .returned (.string ⟨(preT l s).toArray⟩) ∧ w' = w := by
  by_cases h1 : s = sE
  · have hb : s.toList.isEmpty = true := by rw [empty_eq, h1]; exact (eqT_iff _ _).2 rfl
    have hr : (preT l s) = [] := by unfold preT; rw [if_pos h1]
    rw [hr]
    clear h hx hr h1
    go_enter Tryz.func93, Tryz.ntmps93
    go_wp2
    all_goals (go_ret)
    all_goals (exact ⟨rfl, rfl⟩)
  · have hb : s.toList.isEmpty = false := by rw [empty_eq, eqT_dec]; exact decide_eq_false h1
    have hxl : sXML.toList = [104, 116, 116, 112, 58, 47, 47, 119, 119, 119, 46, 119, 51, 46, 111, 114, 103, 47, 88, 77, 76, 47, 49, 57, 57, 56, 47, 110, 97, 109, 101, 115, 112, 97, 99, 101] := by rw [ByteArray.toList_eq]; rfl
    by_cases h2 : s = sXML
    · have hr : (preT l s) = sXmlK := by unfold preT; rw [if_neg h1, if_pos h2]
      rw [hr]
      have hb2 : (s.toList == [104, 116, 116, 112, 58, 47, 47, 119, 119, 119, 46, 119, 51, 46, 111, 114, 103, 47, 88, 77, 76, 47, 49, 57, 57, 56, 47, 110, 97, 109, 101, 115, 112, 97, 99, 101]) = true := by rw [h2, hxl]; rfl
      clear h hx hr h1 h2 hxl
      go_enter Tryz.func93, Tryz.ntmps93
      go_wp2
      go_ret
      exact ⟨rfl, rfl⟩
    · have hb2 : (s.toList == [104, 116, 116, 112, 58, 47, 47, 119, 119, 119, 46, 119, 51, 46, 111, 114, 103, 47, 88, 77, 76, 47, 49, 57, 57, 56, 47, 110, 97, 109, 101, 115, 112, 97, 99, 101]) = false := by
        have h3 : eqT s sXML = false := by rw [eqT_dec]; exact decide_eq_false h2
        unfold eqT at h3
        rw [hxl] at h3
        exact h3
      have hm := hx (by unfold needs; rw [eqT_dec, eqT_dec, decide_eq_false h1, decide_eq_false h2]; rfl)
      have hr : (preT l s) = numT (idxB s l) ++ [58] := by unfold preT; rw [if_neg h1, if_neg h2]
      have hix := pindex_any A l s c w h hm (by omega)
      have hil : idxB s l < l.length := idxB_lt hm
      have hnum := pnumbered_any (idxB s l) (by omega) w
      have hrr : (ByteArray.mk (numT (idxB s l)).toArray) ++ (ByteArray.mk #[58]) = ByteArray.mk (preT l s).toArray := by rw [hr]; exact ba_app _ [58]
      have hz : (ByteArray.mk (numT (idxB s l)).toArray).size ≤ 3 := by
        show (numT (idxB s l)).toArray.size ≤ 3
        unfold numT digT
        split <;> simp
      rw [← hrr]
      generalize (ByteArray.mk (numT (idxB s l)).toArray) = r at *
      have hz2 : ¬ 9223372036854775807 < r.size + 1 := by omega
      clear h hx hr h1 h2 hxl hrr hm
      generalize idxB s l = ix at *
      go_enter Tryz.func93, Tryz.ntmps93
      go_wp2_with fail
      refine hix.mono ?_
      rintro e w' ⟨rfl, rfl⟩
      go_wp2_with fail
      refine hnum.mono ?_
      rintro e w' ⟨rfl, rfl⟩
      go_wp2
      go_ret
      exact ⟨rfl, rfl⟩
end Go.Proofs.YtlcjepnaljfpkaaGreatDoor
namespace Go.Proofs
open Go.Shelf
def Tryz.sortF_ren : Go.Shelf.Ren := ⟨fun | 6 => 89 | 15 => 123 | 14 => 122 | 28 => 152 | 29 => 76 | 20 => 144 | 21 => 145 | 22 => 146 | 23 => 147 | 24 => 148 | 25 => 149 | 26 => 150 | 27 => 151 | 46 => 170 | 47 => 171 | 48 => 172 | 49 => 173 | 50 => 174 | 57 => 184 | n => n, fun | 22 => 34 | 24 => 66 | 25 => 132 | 3 => 3 | 39 => 63 | 0 => 0 | 53 => 122 | 55 => 85 | 4 => 4 | 46 => 182 | 45 => 181 | 50 => 186 | 5 => 5 | 9 => 9 | 66 => 199 | 70 => 203 | 76 => 213 | 77 => 161 | n => n, fun | n => n⟩
theorem Tryz.sortF : Go.Proofs.SlLaysF0.n6 Tryz.prog Tryz.sortF_ren := {
  mixed := by kernel_rfl
  f6 := ⟨Tryz.f89.name, by decide, Tryz.func89.trans (congrArg some (by kernel_rfl))⟩
  f14 := ⟨Tryz.f122.name, by decide, Tryz.func122.trans (congrArg some (by kernel_rfl))⟩
  f15 := Tryz.func123.trans (congrArg some (by kernel_rfl))
  f20 := ⟨Tryz.f144.name, by decide, Tryz.func144.trans (congrArg some (by kernel_rfl))⟩
  f21 := ⟨Tryz.f145.name, by decide, Tryz.func145.trans (congrArg some (by kernel_rfl))⟩
  f22 := ⟨Tryz.f146.name, by decide, Tryz.func146.trans (congrArg some (by kernel_rfl))⟩
  f23 := ⟨Tryz.f147.name, by decide, Tryz.func147.trans (congrArg some (by kernel_rfl))⟩
  f24 := ⟨Tryz.f148.name, by decide, Tryz.func148.trans (congrArg some (by kernel_rfl))⟩
  f25 := ⟨Tryz.f149.name, by decide, Tryz.func149.trans (congrArg some (by kernel_rfl))⟩
  f26 := ⟨Tryz.f150.name, by decide, Tryz.func150.trans (congrArg some (by kernel_rfl))⟩
  f27 := ⟨Tryz.f151.name, by decide, Tryz.func151.trans (congrArg some (by kernel_rfl))⟩
  f28 := Tryz.func152.trans (congrArg some (by kernel_rfl))
  f29 := Tryz.func76.trans (congrArg some (by kernel_rfl))
  f46 := ⟨Tryz.f170.name, by decide, Tryz.func170.trans (congrArg some (by kernel_rfl))⟩
  f47 := Tryz.func171.trans (congrArg some (by kernel_rfl))
  f48 := Tryz.func172.trans (congrArg some (by kernel_rfl))
  f49 := ⟨Tryz.f173.name, by decide, Tryz.func173.trans (congrArg some (by kernel_rfl))⟩
  f50 := ⟨Tryz.f174.name, by decide, Tryz.func174.trans (congrArg some (by kernel_rfl))⟩
  f57 := ⟨Tryz.f184.name, by decide, Tryz.func184.trans (congrArg some (by kernel_rfl))⟩
  t0 := Tryz.underlying0
  a0 := Tryz.isAgg0
  z0 := Tryz.sizeOf0
  v0 := Tryz.zeroValue0
  t3 := Tryz.underlying3
  a3 := Tryz.isAgg3
  z3 := Tryz.sizeOf3
  v3 := Tryz.zeroValue3
  t4 := Tryz.underlying4
  a4 := Tryz.isAgg4
  z4 := Tryz.sizeOf4
  v4 := Tryz.zeroValue4
  t5 := Tryz.underlying5
  a5 := Tryz.isAgg5
  z5 := Tryz.sizeOf5
  v5 := Tryz.zeroValue5
  t9 := Tryz.underlying9
  a9 := Tryz.isAgg9
  z9 := Tryz.sizeOf9
  v9 := Tryz.zeroValue9
  t22 := Tryz.underlying34
  a22 := Tryz.isAgg34
  z22 := Tryz.sizeOf34
  v22 := Tryz.zeroValue34
  t25 := Tryz.underlying132
  a25 := Tryz.isAgg132
  z25 := Tryz.sizeOf132
  v25 := Tryz.zeroValue132
  t39 := Tryz.underlying63
  a39 := Tryz.isAgg63
  z39 := Tryz.sizeOf63
  v39 := Tryz.zeroValue63
  t45 := Tryz.underlying181
  a45 := Tryz.isAgg181
  z45 := Tryz.sizeOf181
  v45 := Tryz.zeroValue181
  t46 := Tryz.underlying182
  a46 := Tryz.isAgg182
  z46 := Tryz.sizeOf182
  v46 := Tryz.zeroValue182
  t50 := Tryz.underlying186
  a50 := Tryz.isAgg186
  z50 := Tryz.sizeOf186
  v50 := Tryz.zeroValue186
  t53 := Tryz.underlying122
  a53 := Tryz.isAgg122
  z53 := Tryz.sizeOf122
  v53 := Tryz.zeroValue122
  t55 := Tryz.underlying85
  a55 := Tryz.isAgg85
  z55 := Tryz.sizeOf85
  v55 := Tryz.zeroValue85
  t66 := Tryz.underlying199
  a66 := Tryz.isAgg199
  z66 := Tryz.sizeOf199
  v66 := Tryz.zeroValue199
  t70 := Tryz.underlying203
  a70 := Tryz.isAgg203
  z70 := Tryz.sizeOf203
  v70 := Tryz.zeroValue203
  t76 := Tryz.underlying213
  a76 := Tryz.isAgg213
  z76 := Tryz.sizeOf213
  v76 := Tryz.zeroValue213
  t77 := Tryz.underlying161
  a77 := Tryz.isAgg161
  z77 := Tryz.sizeOf161
  v77 := Tryz.zeroValue161 }
def Tryz.compactF_ren : Go.Shelf.Ren := ⟨fun | 43 => 125 | n => n, fun | 22 => 106 | 23 => 9 | 3 => 3 | 4 => 4 | 0 => 0 | n => n, fun | n => n⟩
theorem Tryz.compactF : Go.Proofs.SlLaysE.n43 Tryz.prog Tryz.compactF_ren := {
  mixed := by kernel_rfl
  f43 := ⟨Tryz.f125.name, by decide, Tryz.func125.trans (congrArg some (by kernel_rfl))⟩
  t0 := Tryz.underlying0
  a0 := Tryz.isAgg0
  z0 := Tryz.sizeOf0
  v0 := Tryz.zeroValue0
  t3 := Tryz.underlying3
  a3 := Tryz.isAgg3
  z3 := Tryz.sizeOf3
  v3 := Tryz.zeroValue3
  t4 := Tryz.underlying4
  a4 := Tryz.isAgg4
  z4 := Tryz.sizeOf4
  v4 := Tryz.zeroValue4
  t22 := Tryz.underlying106
  a22 := Tryz.isAgg106
  z22 := Tryz.sizeOf106
  v22 := Tryz.zeroValue106
  a23 := Tryz.isAgg9
  z23 := Tryz.sizeOf9 }
end Go.Proofs
