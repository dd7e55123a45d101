/- QcD. -/
import Derived.Maps.OwnOps
import Derived.Maps.AppendAt
import Derived.Lib.ConvBytes
import Derived.Laws.BytesArg
import Derived.Test.YtmabhbihgenmcaaGreatDoorKb13
import Derived.Test.YtmabhbihgenmcaaGreatDoorKb14
namespace Wb
open Go Go.Maps Go.MapKept Go.ChangeMaps
theorem takes_cons {m : Nat} {L : List UInt8} {i : Nat} {c : UInt8} (h : L[i]? = some c) : takesF m (L.drop i) = if c.toNat < 48 ∨ 57 < c.toNat then [] else
    if 10 * m + (c.toNat - 48) = 0 ∨ 2147483648 < 10 * m + (c.toNat - 48) then [] else (10 * m + (c.toNat - 48)) :: takesF (10 * m + (c.toNat - 48)) (L.drop (i + 1)) := by
  obtain ⟨hi, e⟩ := List.getElem?_eq_some_iff.1 h
  rw [List.drop_eq_getElem_cons hi, e, takesF]
theorem takes_done {m : Nat} {L : List UInt8} {i : Nat} (h : L.length ≤ i) : takesF m (L.drop i) = [] := by
  rw [List.drop_eq_nil_of_le h]; rfl
end Wb
namespace Go.Proofs.YtmabhbihgenmcaaGreatDoor
open Go.RowKit Wb Go.Maps
theorem zero_i (w : World) : (zeroValue 3).run Tryz.prog w = .ok (.int .i64 0) w := by kernel_rfl
def CntU (w : World) (b n : Nat) (g : Nat → Nat) : Prop :=
  ∃ D : DataW Unit, w.ownsMap Tryz.prog 67 (plainElem Tryz.prog 3) b n D ∧ ∀ x : Nat, x < 18446744073709551616 → D.atKey (.int .u64 (x : Int)) (.lit (.int .i64 0)) = .lit (.int .i64 (g x : Int))
theorem CntU.made (w : World) : CntU (w.alloc (.map #[] 0)) w.heap.size 0 (fun _ => 0) :=
  ⟨.map [], World.ownsMap_made _ _ _ _, fun _ _ => rfl⟩
theorem CntU.mono {w : World} {b n n' : Nat} {g : Nat → Nat} (h : CntU w b n g) (hn : n ≤ n') : CntU w b n' g := by
  obtain ⟨D, h1, h3⟩ := h
  exact ⟨D, h1.mono hn, h3⟩
theorem CntU.kept {w w' : World} {b n : Nat} {g : Nat → Nat} {row : Option Nat} (h : CntU w b n g) (hg : w.grownBy w' row) (hne : some b ≠ row) : CntU w' b n g := by
  obtain ⟨D, h1, h3⟩ := h
  exact ⟨D, h1.kept hg hne, h3⟩
theorem u64_key {x : Nat} (h : x < 18446744073709551616) : keyOf Tryz.prog 67 (.int .u64 (x : Int)) = some (.int .u64 (x : Int)) :=
  Maps.keyOf_int_mk Tryz.underlying67 (by simp [Lit.wf, IntKind.min, IntKind.max, IntKind.bits, IntKind.signed]; omega)
theorem CntU.put {w : World} {b n : Nat} {g g' : Nat → Nat} {D : DataW Unit} {x : Nat} {c : Int} (hown : w.ownsMap Tryz.prog 67 (plainElem Tryz.prog 3) b n (D.put (.int .u64 (x : Int)) (.lit (.int .i64 c)))) (hD : IsMap D) 
    (hat : ∀ x : Nat, x < 18446744073709551616 → D.atKey (.int .u64 (x : Int)) (.lit (.int .i64 0)) = .lit (.int .i64 (g x : Int))) (h1 : (g' x : Int) = c) (h2 : ∀ y, y ≠ x → g' y = g y) : CntU w b n g' := by
  refine ⟨_, hown, fun y hy => ?_⟩
  by_cases e : y = x
  · subst e
    rw [atKey_put_same hD (show WideAt.IsKeyLit (Lit.int .u64 (y : Int)) from trivial), h1]
  · rw [atKey_put_other (fun h => e (by injection h; omega)), hat y hy, h2 y e]
theorem below_grown {w w' : World} (h : Below w.heap.size w w') (row : Option Nat) : w.grownBy w' row := ⟨h.os, h.tape, h.output, h.size, fun k hk _ => h.block k hk⟩
theorem CntU.lt {w : World} {b n : Nat} {g : Nat → Nat} (h : CntU w b n g) : b < w.heap.size := by
  obtain ⟨D, h1, _⟩ := h
  exact h1.lt
set_option maxRecDepth 100000 in
set_option maxHeartbeats 4000000 in
theorem take_any (b n : Nat) (g : Nat → Nat) (s : ByteArray) (w : World) (hC : CntU w b n g) (hs : s.size ≤ 1000000000) (hn : n + s.size ≤ 1000000000000) (hg : ∀ x, g x ≤ 1000000000000) :
    Calls Tryz.prog 28 #[.map (some b), .string s] w fun e w' => e = .returned (.tuple #[]) ∧ CntU w' b (n + s.size) (fun x => g x + (takesF 0 s.data.toList).count x) ∧ w.grownBy w' (some b) := by
  have hcv := Lib.run_convert_string_bytes (P := Tryz.prog) w 9 49 5 s (u := .string) Tryz.underlying9 Tryz.underlying49 Tryz.underlying5
  have hb1 := Go.Joins.below_bytesWorld w.heap.size w 5 s (Nat.le_refl _)
  have hsz : (Lib.bytesWorld w 5 s).heap.size = w.heap.size + 1 := Lib.bytesWorld_size _ _ _
  have HCL := Lib.hid (fun (i : Nat) (c : UInt8) (h : s.data.toList[i]? = some c) => (show (Lib.bytesWorld w 5 s).cell? ⟨w.heap.size, i, none⟩ = some (.int .u8 (c.toNat : Int)) from by
    have hi := (List.getElem?_eq_some_iff.1 h).1
    rw [Lib.bytesWorld_cell w 5 s i (by rw [ba_size]; exact hi), List.getD, h]
    rfl))
  have hbl := hC.lt
  have HG0 := Lib.hid (below_grown hb1 (some b))
  have HC0 := Lib.hid (hC.kept (below_grown hb1 none) (by simp))
  have HGX := Lib.hid hg
  generalize Lib.bytesWorld w 5 s = w1 at *
  generalize grownCap w s.size 0 5 = cp at *
  clear hC hg hb1
  have hml : s.data.toList.length = s.size := (ba_size s).symm
  have HML := Lib.hid hml
  clear hml
  obtain ⟨T, hT⟩ : ∃ T, takesF 0 s.data.toList = T := ⟨_, rfl⟩
  rw [hT]
  have HT := Lib.hid hT
  clear hT
  go_enter Tryz.func28, Tryz.ntmps28
  go_wp2
  go_loopw [4, 10] (fun v4 v10 wr => ∃ (i m : Nat) (acc : List Nat), i ≤ s.size ∧ m ≤ 2147483648 ∧ v4 = .int .u64 m ∧ v10 = .int .i64 i ∧ Hid (T = acc ++ takesF m (s.data.toList.drop i)) ∧ acc.length ≤ i ∧ Hid (CntU wr b (n + i) (fun x => g x + acc.count x)) ∧ Hid (w1.grownBy wr (some b))) (fun _ v10 _ => s.size - (intOf v10).toNat)
  case atStart => exact ⟨0, 0, [], by omega, by omega, rfl, rfl, Lib.hid (by rw [HT.out.symm]; rfl), by simp, Lib.hid (by simpa using HC0.out), Lib.hid (World.grownBy.refl _ _)⟩
  case round =>
    obtain ⟨i, m, acc, hi, hm, rfl, rfl, HQ, hacc, HC, HG⟩ := hrel
    by_cases h0 : i < s.size
    · obtain ⟨c, hc⟩ : ∃ c, s.data.toList[i]? = some c := ⟨s.data.toList[i]'(by rw [HML.out]; exact h0), List.getElem?_eq_getElem _⟩
      have hq := HQ.out
      rw [takes_cons hc] at hq
      have hcl : wr.cell? ⟨w.heap.size, i, none⟩ = some (.int .u8 (c.toNat : Int)) := HG.out.cell (HCL.out i c hc) (by simp; omega)
      have hc256 := c.toNat_lt
      clear hc
      have h64 : n + i ≤ 1000000000000 := by omega
      have HLE := Lib.hid (fun (e : T = acc) => (show CntU wr b (n + s.size) (fun x => g x + T.count x) from by rw [e]; exact HC.out.mono (by omega)))
      by_cases c1 : c.toNat < 48
      · rw [if_pos (.inl c1)] at hq
        have HE := Lib.hid (HLE.out (by rw [hq, List.append_nil]))
        clear hq HLE HQ
        go_wp2
        refine bodyPost_ret (results_none rfl _ _ _) rfl ?_
        exact ⟨rfl, HE.out, HG0.out.trans HG.out⟩
      by_cases c2 : 57 < c.toNat
      · rw [if_pos (.inr c2)] at hq
        have HE := Lib.hid (HLE.out (by rw [hq, List.append_nil]))
        clear hq HLE HQ
        go_wp2
        refine bodyPost_ret (results_none rfl _ _ _) rfl ?_
        exact ⟨rfl, HE.out, HG0.out.trans HG.out⟩
      rw [if_neg (show ¬ (c.toNat < 48 ∨ 57 < c.toNat) by omega)] at hq
      obtain ⟨v, hv⟩ : ∃ v : Nat, c.toNat = v + 48 := ⟨c.toNat - 48, by omega⟩
      rw [hv, Nat.add_sub_cancel] at hq
      rw [hv] at hcl
      have hv9 : v ≤ 9 := by omega
      clear c1 c2 hc256 hv
      have e1 : IntKind.u8.wrap ((v : Int) + 48 - 48) = (v : Int) := by rw [IntKind.wrap_u8]; omega
      have e2 : IntKind.u64.wrap (10 * (m : Int)) = 10 * (m : Int) := by rw [IntKind.wrap_u64]; omega
      have e3 : IntKind.u64.wrap (10 * (m : Int) + (v : Int)) = ((10 * m + v : Nat) : Int) := by rw [IntKind.wrap_u64]; omega
      have e4 : IntKind.u64.wrap (v : Int) = (v : Int) := by rw [IntKind.wrap_u64]; omega
      have e5 : IntKind.u8.wrap (v : Int) = (v : Int) := by rw [IntKind.wrap_u8]; omega
      obtain ⟨M, hM⟩ : ∃ M, 10 * m + v = M := ⟨_, rfl⟩
      rw [hM] at hq e3
      have hM2 : M ≤ 30000000000 := by omega
      clear hM
      by_cases m0 : M = 0
      · rw [if_pos (.inl m0)] at hq
        have HE := Lib.hid (HLE.out (by rw [hq, List.append_nil]))
        have f1 : ((M : Int) == 0) = true := by rw [beq_iff_eq]; omega
        clear hq HLE HQ m0
        go_wp2
        refine bodyPost_ret (results_none rfl _ _ _) rfl ?_
        exact ⟨rfl, HE.out, HG0.out.trans HG.out⟩
      have f1 : ((M : Int) == 0) = false := by rw [beq_eq_false_iff_ne]; omega
      by_cases m1 : 2147483648 < M
      · rw [if_pos (.inr m1)] at hq
        have HE := Lib.hid (HLE.out (by rw [hq, List.append_nil]))
        clear hq HLE HQ m0
        go_wp2
        refine bodyPost_ret (results_none rfl _ _ _) rfl ?_
        exact ⟨rfl, HE.out, HG0.out.trans HG.out⟩
      rw [if_neg (show ¬ (M = 0 ∨ 2147483648 < M) by omega)] at hq
      have HN : Hid (T = (acc ++ [M]) ++ takesF M (s.data.toList.drop (i + 1))) := Lib.hid (by rw [hq]; simp)
      obtain ⟨D, hown, hat⟩ := HC.out
      have HAT := Lib.hid hat
      have hkey := u64_key (x := M) (by omega)
      have hatM := hat M (by omega)
      have hgM := HGX.out M
      have hcM := List.count_le_length (a := M) (l := acc)
      clear hq HLE HQ m0 hat HC
      go_wp2_with (first
        | (at_lookup; refine wpList_lookup_own_int _ rfl _ _ 59 rfl 67 3 .i64 (Maps.int_keyed Tryz.underlying67) Tryz.underlying59 Tryz.underlying3 (zero_i _) b (n + i) D rfl hown _ _ rfl hkey ?_; intro cc hat2 hwc)
        | (at_mapUpdate; refine wpList_mapUpdate_own _ rfl _ _ _ 59 rfl 67 3 (Maps.int_keyed Tryz.underlying67) Tryz.underlying59 _ b (n + i) D rfl hown (by unfold maxLen; omega) _ _ _ rfl rfl hkey _ [] (plainElem_int Tryz.underlying3 (wrap64_wf _)) ?_; intro w2 hown2 hg2))
      go_wp2
      go_roundw
      case rel => 
        rw [hatM] at hat2
        injection hat2 with hat2
        injection hat2 with _ hat2
        have hcc : cc = ((g M + acc.count M : Nat) : Int) := hat2.symm
        have hwr : wrap64 (cc + 1) = cc + 1 := by unfold wrap64; omega
        rw [hwr] at hown2
        refine ⟨i + 1, M, acc ++ [M], by omega, by omega, rfl, by go_num, HN, by rw [List.length_append]; simp; omega, Lib.hid ?_, Lib.hid (HG.out.trans hg2)⟩
        refine CntU.put (g' := fun x => g x + (acc ++ [M]).count x) (x := M) (c := cc + 1) hown2 hown.isMap HAT.out ?_ (fun y hy => ?_)
        · rw [hcc, List.count_append, List.count_singleton_self]
          push_cast
          omega
        · show g y + (acc ++ [M]).count y = g y + acc.count y
          rw [List.count_append, show ([M] : List Nat).count y = 0 from List.count_eq_zero_of_not_mem (by simpa using hy)]
          rfl
      case measure => simp [intOf]; omega
    · have HE : Hid (T = acc) := Lib.hid (by rw [HQ.out, takes_done (by rw [HML.out]; omega), List.append_nil])
      go_wp2
      refine bodyPost_end (results_none rfl _ _ _) rfl ?_
      refine ⟨rfl, ?_, HG0.out.trans HG.out⟩
      rw [HE.out]
      exact HC.out.mono (by omega)
end Go.Proofs.YtmabhbihgenmcaaGreatDoor
