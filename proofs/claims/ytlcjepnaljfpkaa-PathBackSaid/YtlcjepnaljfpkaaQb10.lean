/- PaX PaY TrTp SoR PeA PfP PfQ. -/
import Derived.Test.YtlcjepnaljfpkaaProg
import GoSem.Core.Float
import Derived.Laws.ComplexArith
import Derived.Laws.Cover2
import Derived.Laws.Cover3
import Derived.Test.YtlcjepnaljfpkaaQb1
import Derived.Test.YtlcjepnaljfpkaaQb2
import Derived.Test.YtlcjepnaljfpkaaQb3
import Derived.Test.YtlcjepnaljfpkaaQb4
import Derived.Test.YtlcjepnaljfpkaaQb7
import Derived.Test.YtlcjepnaljfpkaaQb9
namespace Go.Proofs.Ytlcjepnaljfpkaa
open Go.RowKit Wb
set_option maxRecDepth 100000 in
set_option maxHeartbeats 4000000 in
theorem insert_grow (g n i V : Nat) (cur : Array Value) (ys : List Value) (w : World) (hg : w.heap[g]? = some (.cells cur 27 (0, 0))) (hcs : cur.size = n * 6) (hV : w.heap[V]? = some (.cells ys.toArray 27 (0, 0))) (hy : ys.length = 6) (h1 : ∀ u ∈ ys, u.oneCell' = true)
    (h2 : ∀ u ∈ cur.toList.take (n * 6), u.oneCell' = true) (hi : i < n) (hn : n ≤ 1000000) :
    Calls Try.prog 27 #[.slice (some ⟨g, 0, none⟩) n n, .int .i64 (i : Int), .slice (some ⟨V, 0, none⟩) 1 1] w (InsOut (.slice (some ⟨g, 0, none⟩) n n) n (cur.toList.take (i * 6) ++ ys ++ (cur.toList.drop (i * 6)).take ((n - i) * 6)) w) := by
  obtain ⟨j0, hj, hy0, hy1, hy2⟩ := info_parts node_info
  obtain ⟨O1, hq0, _, ha0⟩ := nds_tail g n n i (by omega) (Nat.le_refl _)
  have ea0 := ha0 (by omega)
  subst ea0
  have hq1 := nds_head g n n i (by omega) (by omega)
  have hgl := blk_in hg
  have hVl := blk_in hV
  have htk : (cur.toList.take (i * 6)).length = i * 6 := by rw [List.length_take, Array.length_toList, hcs]; omega
  have hold : (Builtin.firstCells j0.size i (.slice (some ⟨g, 0, none⟩) i n)).run Try.prog w.drew = .ok (cur.toList.take (i * 6)).toArray w.drew := by
    rw [hy1]
    exact run_firstCells_some (P := Try.prog) w.drew 6 i ⟨g, 0, none⟩ i n (cur.toList.take (i * 6)) htk (fun j u hu => by
      have hjl := (List.getElem?_eq_some_iff.1 hu).1
      rw [htk] at hjl
      rw [List.getElem?_take_of_lt (by omega)] at hu
      rw [Addr.add_lit]
      show w.cell? _ = _
      simpa [World.cell?, hg] using hu)
  have hge := grownCap_ge w (n + 1) n 27
  have hik : i + (n + 1 - i) = n + 1 := by omega
  have hap := fun (ty : TypeId) => Lib.run_append_grow_zeros (P := Try.prog) w 25 3 ty 27 j0 _ .i64 .i64 Try.underlying25 Try.underlying3 hj hy0 (some ⟨g, 0, none⟩) i n _ hold (n + 1 - i) (by omega) (by omega) (by omega) (by omega) (by rw [hy2]; omega) (growslice_fits (by omega) (by rw [hy2]; omega))
  rw [hik] at hap
  obtain ⟨G, hG⟩ : ∃ G, grownCap w (n + 1) n 27 = G := ⟨_, rfl⟩
  rw [hG] at hap hge
  have hkc : ((n + 1 - i : Nat) : Int) = (n : Int) + 1 - (i : Int) := by omega
  rw [hkc] at hap
  obtain ⟨B0, hB0⟩ : ∃ B0, (cur.toList.take (i * 6)).toArray ++ Builtin.zeroCells (Value.agg #[.int .i64 0, .string ⟨#[]⟩, .string ⟨#[]⟩, .slice none 0 0, .slice none 0 0, .string ⟨#[]⟩]).cells (n + 1 - i) ++ Builtin.zeroCells (Value.agg #[.int .i64 0, .string ⟨#[]⟩, .string ⟨#[]⟩, .slice none 0 0, .slice none 0 0, .string ⟨#[]⟩]).cells (G - (n + 1)) = B0 := ⟨_, rfl⟩
  rw [hB0] at hap
  have hzc : (Value.agg #[.int .i64 0, .string ⟨#[]⟩, .string ⟨#[]⟩, .slice none 0 0, .slice none 0 0, .string ⟨#[]⟩]).cells.size = 6 := by rfl
  have hB0s : B0.size = G * 6 := by
    rw [← hB0, Array.size_append, Array.size_append, size_zeroCells, size_zeroCells, hzc, List.size_toArray, htk]; omega
  have hB0t : B0.toList.take (i * 6) = cur.toList.take (i * 6) := by
    rw [← hB0, Array.toList_append, Array.toList_append, List.append_assoc, List.take_append_of_le_length (by rw [htk]; exact Nat.le_refl _), List.take_of_length_le (by rw [htk]; exact Nat.le_refl _)]
  clear hB0 hzc hold
  obtain ⟨hh, hhe⟩ : ∃ hh, hh = w.heap.size := ⟨_, rfl⟩
  rw [← hhe] at hap hgl hVl
  have hw1 := heap_alloc_new w.drew (.cells B0 27)
  have hk1 := fun (k : Nat) (h : k < w.heap.size) => Below.heap_alloc w.drew (.cells B0 27) k h
  have hb1 : Below w.heap.size w (w.drew.alloc (.cells B0 27)) := (Below.refl _ w).drew.alloc (Nat.le_refl _) _
  rw [show w.drew.heap.size = hh from hhe.symm] at hw1
  obtain ⟨w1, he1⟩ : ∃ w1, w.drew.alloc (.cells B0 27) = w1 := ⟨_, rfl⟩
  rw [he1] at hap hw1 hb1
  simp only [he1] at hk1
  have hV1 : w1.heap[V]? = some (.cells ys.toArray 27 (0, 0)) := (hk1 V (by omega)).trans hV
  have hg1 : w1.heap[g]? = some (.cells cur 27 (0, 0)) := (hk1 g (by omega)).trans hg
  clear hk1 he1
  obtain ⟨a2, hq2, _, ha2⟩ := nds_tail hh (n + 1) G i (by omega) (by omega)
  obtain ⟨a3, hq3, _, ha3⟩ := nds_tail hh (n + 1) G (i + 1) (by omega) (by omega)
  have ea2 := ha2 (by omega)
  have ea3 := ha3 (by omega)
  subst ea2 ea3
  rw [show ((i + 1 : Nat) : Int) = (i : Int) + 1 from by omega, show n + 1 - (i + 1) = n - i from by omega] at hq3
  -- v
  have hcp1 := fun (ty : TypeId) (dc : Nat) => run_copy_rowz (P := Try.prog) w1 25 25 ty 27 6 hh (i * 6) (n + 1 - i) dc ⟨V, 0, none⟩ 1 1 B0 _ ys Try.underlying25 node_info2 hw1 (by
    rw [hy, show Nat.min 1 (n + 1 - i) = 1 from Nat.min_eq_left (by omega)]) (fun j u hu => by rw [Addr.add_lit]; simp [World.cell?, hV1, hu]) (by rw [hy, hB0s]; omega) h1
  have hs1 := RowSet.set hw1 (B0.toList.take (i * 6) ++ ys ++ B0.toList.drop (i * 6 + ys.length))
  have hl1 : (B0.toList.take (i * 6) ++ ys ++ B0.toList.drop (i * 6 + ys.length)).length = G * 6 := by
    rw [List.length_append, List.length_append, List.length_take, List.length_drop, Array.length_toList, hB0s, hy]; omega
  have ht1 : (B0.toList.take (i * 6) ++ ys ++ B0.toList.drop (i * 6 + ys.length)).take ((i + 1) * 6) = cur.toList.take (i * 6) ++ ys := by
    rw [hB0t, List.take_append_of_le_length (by rw [List.length_append, htk, hy]; omega), List.take_of_length_le (by rw [List.length_append, htk, hy]; omega)]
  obtain ⟨b1, hb1'⟩ : ∃ b1, B0.toList.take (i * 6) ++ ys ++ B0.toList.drop (i * 6 + ys.length) = b1 := ⟨_, rfl⟩
  simp only [hb1'] at hcp1 hs1 hl1 ht1
  -- what stood behind
  obtain ⟨mid, hm⟩ : ∃ mid, (cur.toList.drop (i * 6)).take ((n - i) * 6) = mid := ⟨_, rfl⟩
  have hml : mid.length = (n - i) * 6 := by
    rw [← hm, List.length_take, List.length_drop, Array.length_toList, hcs]
    omega
  have hmo : ∀ u ∈ mid, u.oneCell' = true := by
    intro u hu
    rw [← hm] at hu
    obtain ⟨j, hj⟩ := List.getElem?_of_mem hu
    have hjl := (List.getElem?_eq_some_iff.1 hj).1
    rw [hm, hml] at hjl
    rw [List.getElem?_take_of_lt (by omega), List.getElem?_drop] at hj
    refine h2 u (List.mem_of_getElem? (i := i * 6 + j) ?_)
    rw [List.getElem?_take_of_lt (by omega)]
    exact hj
  have hgh : g ≠ hh := by omega
  have hg2 : (w1.setRow hh b1.toArray).drew.heap[g]? = some (.cells cur 27 (0, 0)) := (hs1.other g hgh).trans hg1
  have hms : ∀ j u, mid[j]? = some u → (w1.setRow hh b1.toArray).drew.cell? ((⟨g, i * 6, none⟩ : Addr).add j) = some u := by
    intro j u hu
    have hjl := (List.getElem?_eq_some_iff.1 hu).1
    rw [hml] at hjl
    rw [← hm, List.getElem?_take_of_lt (by omega), List.getElem?_drop] at hu
    rw [Addr.add_lit]
    simp only [World.cell?, hg2]
    simpa using hu
  have hrow2 : (w1.setRow hh b1.toArray).drew.heap[hh]? = some (.cells b1.toArray 27 (0, 0)) := hs1.row
  have hcp2 := fun (ty : TypeId) (dc sc : Nat) => run_copy_rowz (P := Try.prog) (w1.setRow hh b1.toArray).drew 25 25 ty 27 6 hh ((i + 1) * 6) (n - i) dc ⟨g, i * 6, none⟩ (n - i) sc b1.toArray _ mid Try.underlying25 node_info2 hrow2 (by
    rw [hml, show Nat.min (n - i) (n - i) = n - i from Nat.min_self _]) hms (by rw [hml, List.size_toArray, hl1]; omega) hmo
  have hs2 := RowSet.set hrow2 (b1.take ((i + 1) * 6) ++ mid ++ b1.drop ((i + 1) * 6 + mid.length))
  have hpre : b1.take ((i + 1) * 6) ++ mid ++ b1.drop ((i + 1) * 6 + mid.length) = (cur.toList.take (i * 6) ++ ys ++ mid) ++ b1.drop ((i + 1) * 6 + mid.length) := by rw [ht1]
  obtain ⟨b2, hb2'⟩ : ∃ b2, b1.take ((i + 1) * 6) ++ mid ++ b1.drop ((i + 1) * 6 + mid.length) = b2 := ⟨_, rfl⟩
  simp only [hb2'] at hcp2 hs2 hpre
  rw [hm]
  obtain ⟨fin, hfin⟩ : ∃ fin, cur.toList.take (i * 6) ++ ys ++ mid = fin := ⟨_, rfl⟩
  rw [hfin] at hpre ⊢
  have hs3 : RowSet hh b2 27 w1 ((w1.setRow hh b1.toArray).drew.setRow hh b2.toArray) := ⟨hs2.os.trans hs1.os, hs2.tape.trans hs1.tape, hs2.output.trans hs1.output, hs2.size.trans hs1.size, hs2.row, fun b hb => (hs2.other b hb).trans (hs1.other b hb)⟩
  have HF : Hid (InsOut (.slice (some ⟨g, 0, none⟩) n n) n fin w (.returned (.slice (some ⟨hh, 0, none⟩) (n + 1) G)) ((w1.setRow hh b1.toArray).drew.setRow hh b2.toArray)) := Lib.hid ⟨hh, G, rfl, hge, by rw [hs3.size]; exact blk_in hw1, .inr (by omega), fun z u hz => by
      have hzl := (List.getElem?_eq_some_iff.1 hz).1
      have : b2[z]? = some u := by rw [hpre, List.getElem?_append_left hzl]; exact hz
      simp [World.cell?, hs3.row, this], ⟨hs3.os.trans hb1.os, hs3.tape.trans hb1.tape, hs3.output.trans hb1.output, by rw [hs3.size]; exact hb1.size, fun b x _ => (hs3.other b (by omega)).trans (hb1.block b x)⟩⟩
  have f1 : ((i : Int) == (n : Int)) = false := by simp; omega
  have hwr : IntKind.i64.wrap ((i : Int) + 1) = (i : Int) + 1 := by rw [IntKind.wrap_i64]; omega
  clear hs3 hs2 hs1 hpre hb2' hfin ht1 hl1 hb1' hms hmo hml hm h1 h2 hy hV hV1 hcs hB0s hB0t htk hg2 hrow2 hg1 hb1 hw1 hgl hVl hgh hge hik hhe hG
  go_enter Try.func27, Try.ntmps27
  go_upto_region 10 with (at_builtin; refine wpList_app_r _ rfl _ _ 25 3 rfl (.slice (some ⟨g, 0, none⟩) i n) (.int .i64 ((n : Int) + 1 - (i : Int))) rfl rfl (hap _) ?_)
  clear hap
  go_upto_region 11 with (at_builtin; refine wpList_copy_r _ rfl _ _ 25 25 rfl (.slice (some ⟨hh, i * 6, none⟩) (n + 1 - i) (G - i)) (.slice (some ⟨V, 0, none⟩) 1 1) rfl rfl (hcp1 _ _) ?_)
  clear hcp1
  go_region_law (refine step_copy_r _ rfl _ _ 25 25 rfl (.slice (some ⟨hh, (i + 1) * 6, none⟩) (n - i) (G - (i + 1))) (.slice (some ⟨g, i * 6, none⟩) (n - i) (n - i)) (by simp [Act.eval, Act.put]) (by simp [Act.eval, Act.put]) (hcp2 _ _ _) ?_)
  all_goals (
    clear hcp2
    go_wp2
    go_ret
    exact HF.out)
end Go.Proofs.Ytlcjepnaljfpkaa
namespace Wb
open Go Go.RowKit
def insK (x : Nd) (i : Nat) (ks : List Nd) : List Nd := ks.take i ++ x :: ks.drop i
theorem insK_len (x : Nd) (i : Nat) (ks : List Nd) (h : i ≤ ks.length) : (insK x i ks).length = ks.length + 1 := by
  unfold insK
  rw [List.length_append, List.length_take, List.length_cons, List.length_drop]; omega
def insF (x : Nd) (p : Int) (e : Nd) : Option Nd := if 0 ≤ p ∧ p ≤ (e.kids.length : Int) then some (e.withKids (joinK (insK x p.toNat e.kids))) else none
end Wb
namespace Go.Proofs.Ytlcjepnaljfpkaa
open Go.RowKit Wb
theorem insert_any (K : Option Addr) (n c i V base : Nat) (xs ys : List Value) (w : World) (hown : w.ownsRow base 27 6 (.slice K n c) n xs) (hV : w.heap[V]? = some (.cells ys.toArray 27 (0, 0))) (hVg : (Value.slice K n c).ownBlock ≠ some V) (hy : ys.length = 6) (h1 : ∀ u ∈ ys, u.oneCell' = true)
    (h2 : ∀ u ∈ xs, u.oneCell' = true) (hi : i ≤ n) (hn : n ≤ 1000000) (hb : base ≤ w.heap.size) :
    Calls Try.prog 27 #[.slice K n c, .int .i64 (i : Int), .slice (some ⟨V, 0, none⟩) 1 1] w (InsOut (.slice K n c) n (xs.take (i * 6) ++ ys ++ xs.drop (i * 6)) w) := by
  have hxl := hown.1
  by_cases hin : i = n
  · subst hin
    rw [List.take_of_length_le (by omega), List.drop_of_length_le (by omega), List.append_nil]
    exact insert_end K i c V base xs ys w hown hV hy h1 hn hb
  · rcases hown.2 with ⟨x, y⟩ | ⟨g, cap, cur, x, hg0, hg, hnc, hcm, hcs, htk⟩
    · omega
    · simp only [Value.slice.injEq, true_and] at x
      obtain ⟨rfl, rfl⟩ := x
      have hne : V ≠ g := fun z => hVg (by rw [z]; rfl)
      have ht : xs.take (i * 6) = cur.toList.take (i * 6) := by rw [← htk, List.take_take, Nat.min_eq_left (by omega)]
      have hd : xs.drop (i * 6) = (cur.toList.drop (i * 6)).take ((n - i) * 6) := by
        rw [← htk, List.drop_take, show n * 6 - i * 6 = (n - i) * 6 from by omega]
      rw [ht, hd]
      have h2' : ∀ u ∈ cur.toList.take (n * 6), u.oneCell' = true := by rw [htk]; exact h2
      by_cases hc : n + 1 ≤ c
      · exact insert_shift g n c i V cur ys w hg hcs hV hne hy h1 h2' (by omega) hc hn
      · have : c = n := by omega
        subst this
        exact insert_grow g c i V cur ys w hg hcs hV hy h1 h2' (by omega) hn
theorem ins_left {e x : Nd} {av kv av2 kv2 : Value} {css : List (List Value)} {lo hi h i : Nat} {v v2 v3 v4 : World}
    (hko : kidsO 29 27 v (fun b => av.ownBlock = some b ∨ kv.ownBlock = some b) e.kids css lo hi) (hhi : hi ≤ v.heap.size) (hkv : ∀ b, kv.ownBlock = some b → lo ≤ b ∧ b < hi) (hi0 : i ≤ e.kids.length)
    (hb2 : Below v.heap.size v v2) (hx : ownT v2 x (ndC x av2 kv2) v.heap.size v2.heap.size) (hb3 : Below v2.heap.size v2 v3) (hr : RowOnly kv v3 v4)
    (hh : kv.ownBlock = some h ∨ v3.heap.size ≤ h) (hhl : h < v4.heap.size) (hrow : ∀ z u, (css.flatten.take (i * 6) ++ ndC x av2 kv2 ++ css.flatten.drop (i * 6))[z]? = some u → v4.cell? ⟨h, z, none⟩ = some u) :
    SafeM (MustI lo hi v.heap.size) v4 (fun u => SlN u (some ⟨h, 0, none⟩) (insK x i e.kids)) ∧ RowOnly kv v v4 := by
  obtain ⟨h3, h6⟩ := kidsO_len hko
  have hb := hb2.trans (hb3.mono hb2.size)
  have hro := hr.after hb
  have s2 := hb2.size
  have s3 := hb3.size
  have s4 := hr.size
  have hfl : (css.take i ++ ndC x av2 kv2 :: css.drop i).flatten = css.flatten.take (i * 6) ++ ndC x av2 kv2 ++ css.flatten.drop (i * 6) := by
    rw [List.flatten_append, List.flatten_cons, (cells_flat h6 i).1, (cells_flat h6 i).2, List.append_assoc]
  refine ⟨row_safe (cN := css.take i ++ ndC x av2 kv2 :: css.drop i) hko hhi hro ?_ (fun c hc => ?_) (fun j m c a b => ?_) ?_ hhl (by rw [hfl]; exact hrow), hro⟩
  · rw [insK_len x i _ hi0, List.length_append, List.length_take, List.length_cons, List.length_drop]; omega
  · rcases List.mem_append.1 hc with hc | hc
    · exact h6 c (List.mem_of_mem_take hc)
    · rcases List.mem_cons.1 hc with rfl | hc
      · rfl
      · exact h6 c (List.mem_of_mem_drop hc)
  · unfold insK at a
    by_cases hj : j < i
    · rw [List.getElem?_append_left (by rw [List.length_take]; omega), List.getElem?_take_of_lt hj] at a b
      exact .inl ⟨j, a, b⟩
    · rw [List.getElem?_append_right (by rw [List.length_take]; omega), List.length_take] at a b
      rw [show min i e.kids.length = i from by omega] at a
      rw [show min i css.length = i from by omega] at b
      obtain ⟨d, rfl⟩ : ∃ d, j = i + d := ⟨j - i, by omega⟩
      rw [Nat.add_sub_cancel_left] at a b
      cases d with
      | zero =>
        simp only [List.getElem?_cons_zero, Option.some.injEq] at a b
        subst a b
        refine .inr (fun w2 k1 k2 => ownC_node _ _ _ _ (ownC_keep _ _ _ _ (fun b p q => ?_) hx))
        have hne : kv.ownBlock ≠ some b := fun z => by have := hkv b z; omega
        exact (k1 b (.inr p) (by omega)).trans ((hr.block b (by omega) hne).trans (hb3.block b q))
      | succ d =>
        rw [List.getElem?_cons_succ, List.getElem?_drop] at a b
        exact .inl ⟨i + d, a, b⟩
  · rcases hh with hh | hh
    · exact .inl (hkv h hh)
    · exact .inr (by omega)
end Go.Proofs.Ytlcjepnaljfpkaa
namespace Go.Proofs.Ytlcjepnaljfpkaa
open Go.RowKit Wb
theorem txt_none {s : List UInt8} (hc : chk s = -1) (hb : badU s.length s 0 = none) : TxtOK s := by
  obtain ⟨ns, r, h1, h2, h3⟩ := form _ s (Nat.le_refl _)
  have hf := chk_form ns r h1 h3
  rw [← h2] at hf
  by_cases hr : r = []
  · subst hr
    rw [List.append_nil] at h2
    refine ⟨ns, (badU_flat ns h1 s.length 0 (by rw [← h2]; exact Nat.le_refl _)).1 ?_, h2⟩
    rw [← h2]; exact hb
  · rw [if_neg hr] at hf
    omega
end Go.Proofs.Ytlcjepnaljfpkaa
namespace Wb
open Go.Proofs.Ytlcjepnaljfpkaa
def sgB (s : ByteArray) : Bool := (chk s.data.toList == -1) && (badU s.size s.data.toList 0).isNone
theorem sgB_iff (s : ByteArray) : sgB s = true ↔ TxtB s := by
  unfold sgB TxtB
  rw [Bool.and_eq_true, beq_iff_eq, Option.isNone_iff_eq_none, Go.Lib.size_eq]
  constructor
  · rintro ⟨h1, h2⟩
    exact txt_none h1 h2
  · intro h
    refine ⟨?_, txt_bad h _ 0 (Nat.le_refl _)⟩
    obtain ⟨ns, hn, e⟩ := h
    have := chk_form ns [] (fun n hm => char_sgn n (hn n hm)) rfl
    rw [e]
    simpa using this
def nmB (n : Pr) : Bool := nameB n.2.data.toList && (sgB n.1 && !(eqT n.1 sXMLNS))
theorem nmB_iff (n : Pr) : nmB n = true ↔ nameOK n := by
  unfold nmB nameOK
  rw [Bool.and_eq_true, Bool.and_eq_true, sgB_iff, eqT_dec]
  simp
def atB (seen : List Pr) (a : Tr) : Bool := !(seen.any (fun y => eqP y a.1)) && (!(eqP a.1 (sE, sXmlns)) && (nmB a.1 && sgB a.2))
def atsB : List Pr → List Tr → Bool
  | _, [] => true
  | seen, a :: l => atB seen a && atsB (seen ++ [a.1]) l
theorem eqP_false (a b : Pr) : eqP a b = false ↔ a ≠ b := by
  rw [← Bool.not_eq_true, eqP_iff]
theorem atB_iff (seen : List Pr) (a : Tr) : atB seen a = true ↔ (∀ y ∈ seen, y ≠ a.1) ∧ nameOK a.1 ∧ a.1 ≠ (sE, sXmlns) ∧ TxtB a.2 := by
  unfold atB
  rw [Bool.and_eq_true, Bool.and_eq_true, Bool.and_eq_true, Bool.not_eq_true', Bool.not_eq_true', eqP_false, nmB_iff, sgB_iff, List.any_eq_false]
  constructor
  · rintro ⟨h1, h2, h3, h4⟩
    exact ⟨fun y hy e => h1 y hy ((eqP_iff _ _).2 e), h3, h2, h4⟩
  · rintro ⟨h1, h3, h2, h4⟩
    exact ⟨fun y hy e => h1 y hy ((eqP_iff _ _).1 e), h2, h3, h4⟩
theorem atsB_iff : ∀ (l : List Tr) (seen : List Pr), atsB seen l = true ↔ (l.map (·.1)).Pairwise (· ≠ ·) ∧ (∀ a ∈ l, ∀ y ∈ seen, y ≠ a.1) ∧ ∀ a ∈ l, nameOK a.1 ∧ a.1 ≠ (sE, sXmlns) ∧ TxtB a.2
  | [], seen => by simp [atsB]
  | a :: l, seen => by
    unfold atsB
    rw [Bool.and_eq_true, atB_iff, atsB_iff l, List.map_cons, List.pairwise_cons]
    constructor
    · rintro ⟨⟨h1, h2⟩, h3, h4, h5⟩
      refine ⟨⟨fun y hy e => ?_, h3⟩, fun b hb y hy => ?_, fun b hb => ?_⟩
      · obtain ⟨z, hz, rfl⟩ := List.mem_map.1 hy
        exact h4 z hz a.1 (by simp) e
      · rcases List.mem_cons.1 hb with rfl | hb
        · exact h1 y hy
        · exact h4 b hb y (by simp [hy])
      · rcases List.mem_cons.1 hb with rfl | hb
        · exact h2
        · exact h5 b hb
    · rintro ⟨⟨h1, h2⟩, h3, h4⟩
      refine ⟨⟨fun y hy => h3 a (by simp) y hy, h4 a (by simp)⟩, h2, fun b hb y hy => ?_, fun b hb => h4 b (by simp [hb])⟩
      rcases List.mem_append.1 hy with hy | hy
      · exact h3 b (by simp [hb]) y hy
      · rw [List.mem_singleton.1 hy]
        exact h1 b.1 (List.mem_map_of_mem hb)
def attrsB (l : List Tr) : Bool := decide (l.length ≤ 32) && atsB [] l
theorem attrsB_iff (l : List Tr) : attrsB l = true ↔ attrsOK l := by
  unfold attrsB attrsOK
  rw [Bool.and_eq_true, decide_eq_true_iff, atsB_iff]
  simp
def txB (n : Nd) : Bool := decide (n.kind = 2) && (!(eqT n.text sE) && (sgB n.text && (eqP n.name (sE, sE) && (n.attrs.isEmpty && n.kids.isEmpty))))
theorem txB_iff (n : Nd) (d : Nat) (hk : n.kind ≠ 1) : txB n = true ↔ okN d n := by
  obtain ⟨k, nm, al, ks, t⟩ := n
  simp only [Nd.kind] at hk
  have htx : txB (.mk k nm al ks t) = (decide (k = 2) && (!(eqT t sE) && (sgB t && (eqP nm (sE, sE) && (al.isEmpty && ks.isEmpty))))) := rfl
  rw [htx]
  unfold okN
  rw [Bool.and_eq_true, Bool.and_eq_true, Bool.and_eq_true, Bool.and_eq_true, Bool.and_eq_true, decide_eq_true_iff, sgB_iff, eqP_iff, eqT_dec, List.isEmpty_iff, List.isEmpty_iff]
  constructor
  · rintro ⟨h1, h2, h3, h4, h5, h6⟩
    exact .inr ⟨h1, by simpa using h2, h3, h4, h5, h6⟩
  · rintro (⟨h, _⟩ | ⟨h1, h2, h3, h4, h5, h6⟩)
    · exact absurd h hk
    · exact ⟨h1, by simpa using h2, h3, h4, h5, h6⟩
def elB (nm : Pr) (al : List Tr) (t : ByteArray) (d : Nat) : Bool := decide (d ≤ 24) && (eqT t sE && (nmB nm && attrsB al))
theorem elB_iff (nm : Pr) (al : List Tr) (t : ByteArray) (d : Nat) : elB nm al t d = true ↔ d ≤ 24 ∧ t = sE ∧ nameOK nm ∧ attrsOK al := by
  unfold elB
  rw [Bool.and_eq_true, Bool.and_eq_true, Bool.and_eq_true, decide_eq_true_iff, eqT_iff, nmB_iff, attrsB_iff]
mutual
/-- Is a node al it must be that stands so deep, where so many were met? And how many were, behind it. -/
def rgN : Nd → Nat → Nat → Bool × Nat
  | .mk k nm al ks t, d, c => if 2000 < c + 1 then (false, c + 1) else if k ≠ 1 then (txB (.mk k nm al ks t), c + 1) else if elB nm al t d = false then (false, c + 1) else rgKs ks 0 (d + 1) (c + 1)
def rgKs : List Nd → Int → Nat → Nat → Bool × Nat
  | [], _, _, c => (true, c)
  | k :: ks, a, d, c => if a = 2 ∧ k.kind = 2 then (false, c) else if (rgN k d c).1 = true then rgKs ks k.kind d (rgN k d c).2 else (false, (rgN k d c).2)
end
theorem rgN_is (n : Nd) (d c : Nat) : rgN n d c = if 2000 < c + 1 then (false, c + 1) else if n.kind ≠ 1 then (txB n, c + 1) else if elB n.name n.attrs n.text d = false then (false, c + 1) else rgKs n.kids 0 (d + 1) (c + 1) := by
  cases n; rfl
theorem rgKs_cons (k : Nd) (ks : List Nd) (a : Int) (d c : Nat) : rgKs (k :: ks) a d c = if a = 2 ∧ k.kind = 2 then (false, c) else if (rgN k d c).1 = true then rgKs ks k.kind d (rgN k d c).2 else (false, (rgN k d c).2) := by
  rw [rgKs]
theorem rg_iff (n : Nd) : ∀ d c, ((rgN n d c).1 = true ↔ okN d n ∧ c + costN n ≤ 2000) ∧ ((rgN n d c).1 = true → (rgN n d c).2 = c + costN n) := by
  induction n using Nd.induct with
  | h n ih =>
    intro d c
    have key : ∀ (ks : List Nd), (∀ k ∈ ks, ∀ d c, ((rgN k d c).1 = true ↔ okN d k ∧ c + costN k ≤ 2000) ∧ ((rgN k d c).1 = true → (rgN k d c).2 = c + costN k)) → ∀ (a : Int) (d c : Nat), c ≤ 2000 →
        ((rgKs ks a d c).1 = true ↔ okKs d a ks ∧ c + costNs ks ≤ 2000) ∧ ((rgKs ks a d c).1 = true → (rgKs ks a d c).2 = c + costNs ks) := by
      intro ks
      induction ks with
      | nil => intro _ a d c hc; simp [rgKs, okKs, costNs, hc]
      | cons k ks ihk =>
        intro hk a d c hc
        rw [rgKs_cons]
        simp only [okKs, costNs]
        by_cases h1 : a = 2 ∧ k.kind = 2
        · rw [if_pos h1]
          exact ⟨⟨fun h => (by cases h), fun h => absurd h1 h.1.1⟩, fun h => (by cases h)⟩
        · rw [if_neg h1]
          obtain ⟨g1, g2⟩ := hk k (by simp) d c
          by_cases h2 : (rgN k d c).1 = true
          · rw [if_pos h2]
            obtain ⟨o1, o2⟩ := g1.1 h2
            have e := g2 h2
            obtain ⟨q1, q2⟩ := ihk (fun x hx => hk x (by simp [hx])) k.kind d (rgN k d c).2 (by omega)
            rw [e] at q1 q2 ⊢
            refine ⟨q1.trans ⟨fun h => ⟨⟨h1, o1, h.1⟩, by omega⟩, fun h => ⟨h.1.2.2, by omega⟩⟩, fun h => by rw [q2 h]; omega⟩
          · rw [if_neg h2]
            refine ⟨⟨fun h => (by cases h), fun h => absurd (g1.2 ⟨h.1.2.1, by have := h.2; omega⟩) h2⟩, fun h => (by cases h)⟩
    rw [rgN_is, costN_is]
    have hcn := costN_is n
    by_cases h1 : 2000 < c + 1
    · rw [if_pos h1]
      exact ⟨⟨fun h => (by cases h), fun h => absurd h.2 (by omega)⟩, fun h => (by cases h)⟩
    · rw [if_neg h1]
      by_cases h2 : n.kind ≠ 1
      · rw [if_pos h2]
        have h3 := txB_iff n d h2
        have hks : okN d n → n.kids = [] := by
          obtain ⟨k, nm, al, ks, t⟩ := n
          unfold okN
          rintro (⟨h, _⟩ | ⟨_, _, _, _, _, h⟩)
          · exact absurd h h2
          · exact h
        refine ⟨⟨fun h => ?_, fun h => h3.2 h.1⟩, fun h => ?_⟩
        · have ho := h3.1 h
          refine ⟨ho, ?_⟩
          rw [hks ho]
          simp only [costNs]
          omega
        · have ho := h3.1 h
          rw [hks ho]
          simp [costNs]
      · rw [if_neg h2]
        have hk1 : n.kind = 1 := Decidable.not_not.1 h2
        have hel := elB_iff n.name n.attrs n.text d
        have hok : okN d n ↔ d ≤ 24 ∧ n.text = sE ∧ nameOK n.name ∧ attrsOK n.attrs ∧ okKs (d + 1) 0 n.kids := by
          obtain ⟨k, nm, al, ks, t⟩ := n
          simp only [Nd.kind] at hk1
          subst hk1
          show ((1 : Int) = 1 ∧ d ≤ 24 ∧ t = sE ∧ nameOK nm ∧ attrsOK al ∧ okKs (d + 1) 0 ks ∨ (1 : Int) = 2 ∧ t ≠ sE ∧ TxtB t ∧ nm = (sE, sE) ∧ al = [] ∧ ks = []) ↔ _
          constructor
          · rintro (⟨_, h⟩ | ⟨h, _⟩)
            · exact h
            · exact absurd h (by decide)
          · exact fun h => .inl ⟨rfl, h⟩
        by_cases h3 : elB n.name n.attrs n.text d = false
        · rw [if_pos h3]
          refine ⟨⟨fun h => (by cases h), fun h => ?_⟩, fun h => (by cases h)⟩
          obtain ⟨a1, a2, a3, a4, _⟩ := hok.1 h.1
          rw [hel.2 ⟨a1, a2, a3, a4⟩] at h3
          cases h3
        · rw [if_neg h3]
          have h4 : elB n.name n.attrs n.text d = true := by simpa using h3
          obtain ⟨a1, a2, a3, a4⟩ := hel.1 h4
          obtain ⟨q1, q2⟩ := key n.kids ih 0 (d + 1) (c + 1) (by omega)
          refine ⟨q1.trans ⟨fun h => ⟨hok.2 ⟨a1, a2, a3, a4, h.1⟩, by omega⟩, fun h => ⟨(hok.1 h.1).2.2.2.2, by omega⟩⟩, fun h => by rw [q2 h]; omega⟩
def rightB (n : Nd) : Bool := decide (n.kind = 1) && (rgN n 1 0).1
theorem rightB_iff (n : Nd) : rightB n = true ↔ n.kind = 1 ∧ okN 1 n ∧ costN n ≤ 2000 := by
  unfold rightB
  rw [Bool.and_eq_true, decide_eq_true_iff, (rg_iff n 1 0).1, Nat.zero_add]
end Wb
namespace Wb
mutual
/-- How many nodes a tree is, asz far asz a number. -/
def nodesR : Nd → Nat → Nat
  | .mk _ _ _ ks _, m => nodesRs ks m 1
def nodesRs : List Nd → Nat → Nat → Nat
  | [], _, k => k
  | x :: ks, m, k => if k ≤ m then nodesRs ks m (k + nodesR x (m - k)) else k
end
theorem nodesR_is (n : Nd) (m : Nat) : nodesR n m = nodesRs n.kids m 1 := by cases n; rfl
mutual
/-- How deep elements stand in one another, asz far asz a number (0: it is below 0). -/
def deepR : Nd → Nat → Nat
  | .mk k _ _ ks _, m => if k = 1 ∧ 0 < m then deepRs ks (m - 1) 0 + 1 else 0
def deepRs : List Nd → Nat → Nat → Nat
  | [], _, d => d
  | x :: ks, m, d => deepRs ks m (if d < deepR x m then deepR x m else d)
end
theorem deepR_is (n : Nd) (m : Nat) : deepR n m = if n.kind = 1 ∧ 0 < m then deepRs n.kids (m - 1) 0 + 1 else 0 := by cases n; rfl
mutual
/-- Is each node right by itself, and beside its neighbours? -/
def shapeB : Nd → Bool
  | .mk k nm al ks t => if k = 2 then !(eqT t sE) && (sgB t && (eqP nm (sE, sE) && (al.isEmpty && ks.isEmpty))) else decide (k = 1) && (eqT t sE && (nmB nm && (decide (al.length ≤ 32) && (atsB [] al && shapeKs 0 ks))))
def shapeKs : Int → List Nd → Bool
  | _, [] => true
  | a, x :: ks => shapeB x && (!(decide (a = 2) && decide (x.kind = 2)) && shapeKs x.kind ks)
end
theorem shapeB_is (n : Nd) : shapeB n = if n.kind = 2 then !(eqT n.text sE) && (sgB n.text && (eqP n.name (sE, sE) && (n.attrs.isEmpty && n.kids.isEmpty))) else decide (n.kind = 1) && (eqT n.text sE && (nmB n.name && (decide (n.attrs.length ≤ 32) && (atsB [] n.attrs && shapeKs 0 n.kids)))) := by
  cases n; rfl
end Wb
namespace Wb
open Go Go.RowKit
def zNd : Nd := .mk 0 (⟨#[]⟩, ⟨#[]⟩) [] [] ⟨#[]⟩
def atZ (n : Nd) (l : List Int) : Nd := (atP n l).getD zNd
theorem atP_lenN (B : Nat) : ∀ (l : List Int) (n e : Nd), lenN B n → atP n l = some e → lenN B e
  | [], n, e, hn, he => by cases he; exact hn
  | p :: ps, n, e, hn, he => by
    rw [atP_cons] at he
    split at he
    · cases he
    · cases hk : n.kids[p.toNat]? with
      | none => rw [hk] at he; cases he
      | some k =>
        rw [hk] at he
        exact atP_lenN B ps k e (((lenN_is B n).1 hn).2.2 k (List.mem_of_getElem? hk)) he
end Wb
namespace Go.Proofs.Ytlcjepnaljfpkaa
open Go.RowKit Wb
theorem At_z (n : Nd) (A K : Option Addr) (ca ck : Nat) (l : List Int) (PA : Option Addr) (cp : Nat) (w : World) (hV : NodeV w n A K) (hsm : smallN n) (hP : SlI w PA l) (hl : l.length ≤ 1000000) :
    Calls Try.prog 9 #[ndV n A ca K ck, .slice PA l.length cp] w fun e w' => ∃ A' ca' K' ck', e = .returned (.tuple #[ndV (atZ n l) A' ca' K' ck', .bool (atP n l).isSome]) ∧ NodeV w' (atZ n l) A' K' ∧ Below w.heap.size w w' := by
  refine (At_any n A K ca ck l PA cp w hV hsm hP hl).mono ?_
  rintro e w' ⟨hb, ho⟩
  unfold atZ
  cases he : atP n l with
  | none =>
    rw [he] at ho
    exact ⟨none, 0, none, 0, ho, ⟨Sl3.nil _ _, .inl rfl⟩, hb⟩
  | some m =>
    rw [he] at ho
    obtain ⟨A', ca', K', ck', e1, h1⟩ := ho
    exact ⟨A', ca', K', ck', e1, h1.here, hb⟩
end Go.Proofs.Ytlcjepnaljfpkaa
namespace Wb
theorem chP_at : ∀ {l : List Int} {n e : Nd} {f : Nd → Option Nd}, atP n l = some e → e.kind = 1 → chP f n l = (f e).map (setP n l)
  | [], n, e, f, h, hk => by
    cases h
    unfold chP
    rw [if_pos hk]
    cases f n <;> rfl
  | p :: ps, n, e, f, h, hk => by
    rw [atP_cons] at h
    by_cases hp : p < 0
    · rw [if_pos hp] at h; cases h
    rw [if_neg hp] at h
    rw [chP_cons, if_neg hp]
    cases hq : n.kids[p.toNat]? with
    | none => rw [hq] at h; cases h
    | some k =>
      rw [hq] at h
      simp only
      rw [chP_at (f := f) h hk]
      cases f e with
      | none => rfl
      | some e' =>
        simp only [Option.map_some]
        rw [setP_cons, hq]
theorem atP_setP : ∀ {l : List Int} {n e x : Nd}, atP n l = some e → atP (setP n l x) l = some x
  | [], n, e, x, _ => rfl
  | p :: ps, n, e, x, h => by
    rw [atP_cons] at h
    by_cases hp : p < 0
    · rw [if_pos hp] at h; cases h
    rw [if_neg hp] at h
    cases hq : n.kids[p.toNat]? with
    | none => rw [hq] at h; cases h
    | some k =>
      rw [hq] at h
      rw [setP_cons, hq]
      simp only
      rw [atP_cons, if_neg hp, Nd.kids_with, List.getElem?_set_self (List.getElem?_eq_some_iff.1 hq).1]
      exact atP_setP h
theorem Nd.with_with (n : Nd) (a b : List Nd) : (n.withKids a).withKids b = n.withKids b := rfl
theorem Nd.with_self (n : Nd) : n.withKids n.kids = n := by cases n; rfl
theorem setP_setP : ∀ {l : List Int} {n e x y : Nd}, atP n l = some e → setP (setP n l x) l y = setP n l y
  | [], n, e, x, y, _ => rfl
  | p :: ps, n, e, x, y, h => by
    rw [atP_cons] at h
    by_cases hp : p < 0
    · rw [if_pos hp] at h; cases h
    rw [if_neg hp] at h
    cases hq : n.kids[p.toNat]? with
    | none => rw [hq] at h; cases h
    | some k =>
      rw [hq] at h
      have hlt := (List.getElem?_eq_some_iff.1 hq).1
      rw [setP_cons n, setP_cons n, hq]
      simp only
      rw [setP_cons, Nd.kids_with, List.getElem?_set_self hlt]
      simp only
      rw [setP_setP h, Nd.with_with, List.set_set]
theorem setP_same : ∀ {l : List Int} {n e : Nd}, atP n l = some e → setP n l e = n
  | [], n, e, h => by cases h; rfl
  | p :: ps, n, e, h => by
    rw [atP_cons] at h
    by_cases hp : p < 0
    · rw [if_pos hp] at h; cases h
    rw [if_neg hp] at h
    cases hq : n.kids[p.toNat]? with
    | none => rw [hq] at h; cases h
    | some k =>
      rw [hq] at h
      rw [setP_cons, hq]
      simp only
      rw [setP_same h]
      obtain ⟨hlt, he⟩ := List.getElem?_eq_some_iff.1 hq
      rw [← he, List.set_getElem_self, Nd.with_self]
theorem noAdj_ins {x : Nd} (hx : x.kind = 1) : ∀ {ks : List Nd} {a : Int} (i : Nat), noAdj a ks → noAdj a (insK x i ks)
  | [], a, i, _ => by
    unfold insK
    simp only [List.take_nil, List.drop_nil, List.nil_append]
    exact ⟨fun e => by omega, trivial⟩
  | k :: ks, a, 0, h => by
    unfold insK
    simp only [List.take_zero, List.drop_zero, List.nil_append]
    exact ⟨fun e => by omega, noAdj_el h (by omega)⟩
  | k :: ks, a, i + 1, h => by
    have := noAdj_ins hx i h.2
    unfold insK at this ⊢
    simp only [List.take_succ_cons, List.drop_succ_cons, List.cons_append]
    exact ⟨h.1, this⟩
theorem insK_erase (x : Nd) (i : Nat) (ks : List Nd) (h : i ≤ ks.length) : (insK x i ks).eraseIdx i = ks := by
  unfold insK
  rw [List.eraseIdx_append_of_length_le (by rw [List.length_take]; omega), List.length_take, Nat.min_eq_left h, Nat.sub_self]
  simp
theorem insK_at (x : Nd) (i : Nat) (ks : List Nd) (h : i ≤ ks.length) : (insK x i ks)[i]? = some x := by
  unfold insK
  rw [List.getElem?_append_right (by rw [List.length_take]; omega), List.length_take, Nat.min_eq_left h, Nat.sub_self]
  rfl
theorem right_adj {n e : Nd} {l : List Int} (hn : okN 1 n) (hat : atP n l = some e) : noAdj 0 e.kids := by
  cases hks : e.kids with
  | nil => trivial
  | cons k ks =>
    have h6 := (okN_el (p := 0) (k := k) (atP_ok l 1 n e hn hat) (by rw [hks]; rfl)).2.2.2.2.2
    rw [hks] at h6
    exact okKs_adj h6
theorem ins_back {n x m : Nd} {l : List Int} {p : Int} (hn : okN 1 n) (hx : x.kind = 1) (hm : chP (insF x p) n l = some m) : atP m (l ++ [p]) = some x ∧ remP m (l ++ [p]) = some n ∧ 0 ≤ p ∧
    ∃ e, atP n l = some e ∧ p ≤ (e.kids.length : Int) ∧ m = setP n l (e.withKids (insK x p.toNat e.kids)) := by
  obtain ⟨e, e', a1, a2, a3, a4⟩ := chP_some _ _ _ hm
  have hadj := right_adj hn a1
  unfold insF at a3
  by_cases hp : 0 ≤ p ∧ p ≤ (e.kids.length : Int)
  · rw [if_pos hp, joinK_same _ 0 (noAdj_ins hx _ hadj)] at a3
    injection a3 with a3
    have hl : p.toNat ≤ e.kids.length := by omega
    have hk' : e'.kind = 1 := by rw [← a3]; exact a2
    have hks : e'.kids = insK x p.toNat e.kids := by rw [← a3, Nd.kids_with]
    have hat : atP m l = some e' := by rw [a4]; exact atP_setP a1
    refine ⟨?_, ?_, hp.1, e, a1, hp.2, by rw [a4, a3]⟩
    · rw [atP_app, hat]
      simp only
      rw [if_neg (by omega), hks, insK_at x _ _ hl]
    · rw [remP_app, chP_at hat hk']
      unfold kidF
      rw [hks, insK_len x _ _ hl, if_pos ⟨by omega, by omega⟩]
      dsimp only
      rw [insK_erase x _ _ hl, joinK_same _ 0 hadj, Option.map_some, a4, setP_setP a1, ← a3, Nd.with_with, Nd.with_self, setP_same a1]
  · rw [if_neg hp] at a3; cases a3
theorem repl_back {n x old : Nd} {l : List Int} (hn : okN 1 n) (hx : x.kind = 1) (hat : atP n l = some old) (hk : old.kind = 1) : replP n x l = some (setP n l x) ∧ replP (setP n l x) old l = some n := by
  rcases last_cases l with rfl | ⟨init, p, rfl⟩
  · cases hat
    exact ⟨rfl, rfl⟩
  · rw [atP_app] at hat
    cases he : atP n init with
    | none => rw [he] at hat; cases hat
    | some e =>
      rw [he] at hat
      simp only at hat
      by_cases hp : p < 0
      · rw [if_pos hp] at hat; cases hat
      rw [if_neg hp] at hat
      obtain ⟨hlt, hg⟩ := List.getElem?_eq_some_iff.1 hat
      obtain ⟨k1, _, _, _, _, h6⟩ := okN_el (atP_ok init 1 n e hn he) hat
      have hadj := okKs_adj h6
      have hs := setP_app init n p e x he hlt
      refine ⟨?_, ?_⟩
      · rw [replP_app, chP_at he k1]
        unfold kidF
        rw [if_pos ⟨by omega, by omega⟩, joinK_same _ 0 (noAdj_set hx _ hadj), Option.map_some, hs]
      · rw [hs, replP_app, chP_at (atP_setP he) (show (e.withKids _).kind = 1 from k1)]
        unfold kidF
        rw [Nd.kids_with, List.length_set, if_pos ⟨by omega, by omega⟩]
        dsimp only
        rw [List.set_set, joinK_same _ 0 (noAdj_set hk _ hadj), Option.map_some, setP_setP he, Nd.with_with, ← hg, List.set_getElem_self, Nd.with_self, setP_same he]
def idxA (nm : ByteArray × ByteArray) : List Tr → Int
  | [] => -1
  | a :: al => if a.1 = nm then 0 else let i := idxA nm al; if i < 0 then -1 else i + 1
def Nd.withAttrs (n : Nd) (al : List Tr) : Nd := .mk n.kind n.name al n.kids n.text
def setA (a : Tr) (e : Nd) : Option Nd := some (e.withAttrs (if idxA a.1 e.attrs < 0 then e.attrs ++ [a] else e.attrs.set (idxA a.1 e.attrs).toNat a))
def dropA (nm : ByteArray × ByteArray) (e : Nd) : Option Nd := if idxA nm e.attrs < 0 then none else some (e.withAttrs (e.attrs.eraseIdx (idxA nm e.attrs).toNat))
def getA (nm : ByteArray × ByteArray) : List Tr → Option ByteArray
  | [] => none
  | a :: al => if a.1 = nm then some a.2 else getA nm al
theorem idxA_ge (nm : ByteArray × ByteArray) : ∀ al : List Tr, -1 ≤ idxA nm al ∧ idxA nm al < (al.length : Int)
  | [] => by simp [idxA]
  | a :: al => by
    have := idxA_ge nm al
    rw [idxA, List.length_cons]
    split
    · omega
    · simp only
      split <;> omega
theorem idxA_new {nm : ByteArray × ByteArray} : ∀ {al : List Tr}, getA nm al = none ↔ idxA nm al < 0
  | [] => by simp [idxA, getA]
  | a :: al => by
    rw [idxA, getA]
    split
    · simp
    · simp only
      rw [idxA_new]
      split
      · simp_all
      · constructor
        · intro h; omega
        · intro h; omega
theorem idxA_app {a : Tr} : ∀ {al : List Tr}, getA a.1 al = none → idxA a.1 (al ++ [a]) = al.length ∧ getA a.1 (al ++ [a]) = some a.2
  | [], _ => by simp [idxA, getA]
  | b :: al, h => by
    rw [getA] at h
    by_cases hb : b.1 = a.1
    · rw [if_pos hb] at h; cases h
    rw [if_neg hb] at h
    obtain ⟨h1, h2⟩ := idxA_app h
    rw [List.cons_append, idxA, getA, if_neg hb, if_neg hb, h1]
    simp only
    rw [if_neg (by omega), List.length_cons]
    exact ⟨by omega, h2⟩
theorem attr_back {n old : Nd} {a : Tr} {l : List Int} (hat : atP n l = some old) (hk : old.kind = 1) (hnew : getA a.1 old.attrs = none) :
    chP (setA a) n l = some (setP n l (old.withAttrs (old.attrs ++ [a]))) ∧ atP (setP n l (old.withAttrs (old.attrs ++ [a]))) l = some (old.withAttrs (old.attrs ++ [a])) ∧ chP (dropA a.1) (setP n l (old.withAttrs (old.attrs ++ [a]))) l = some n ∧
    getA a.1 (old.withAttrs (old.attrs ++ [a])).attrs = some a.2 := by
  have h1 := idxA_new.1 hnew
  obtain ⟨h2, h3⟩ := idxA_app hnew
  have hat2 : atP (setP n l (old.withAttrs (old.attrs ++ [a]))) l = some (old.withAttrs (old.attrs ++ [a])) := atP_setP hat
  refine ⟨?_, hat2, ?_, h3⟩
  · rw [chP_at hat hk]
    unfold setA
    rw [if_pos h1, Option.map_some]
  · rw [chP_at hat2 (show (old.withAttrs _).kind = 1 from hk)]
    unfold dropA
    rw [show (old.withAttrs (old.attrs ++ [a])).attrs = old.attrs ++ [a] from rfl, h2, if_neg (by omega), Option.map_some, setP_setP hat]
    rw [show ((old.attrs.length : Int)).toNat = old.attrs.length from by omega, List.eraseIdx_append_of_length_le (by omega), Nat.sub_self]
    have : (old.withAttrs (old.attrs ++ [a])).withAttrs (old.attrs ++ List.eraseIdx [a] 0) = old := by
      obtain ⟨kd, nm, al, ks, t⟩ := old
      simp [Nd.withAttrs, Nd.kind, Nd.name, Nd.attrs, Nd.kids, Nd.text]
    rw [this, setP_same hat]
end Wb
namespace Wb
theorem few_lenN (n : Nd) : ∀ m B, m ≤ B → weighN n m ≤ m → lenN B n := by
  induction n using Nd.induct with
  | h n ih =>
    intro m B hm h
    obtain ⟨_, _, h1, h2⟩ := few_cost n m h
    rw [weighN_is] at h
    have key : ∀ (ks : List Nd), (∀ k ∈ ks, ∀ m B, m ≤ B → weighN k m ≤ m → lenN B k) → ∀ w, weighKs ks m w ≤ m → ∀ k ∈ ks, lenN B k := by
      intro ks
      induction ks with
      | nil => intro _ w _ k hk; cases hk
      | cons k ks ihk =>
        intro hk w h x hx
        unfold weighKs at h
        by_cases hw : w ≤ m
        · rw [if_pos hw] at h
          have h1 := weighKs_ge ks m (w + weighN k (m - w))
          rcases List.mem_cons.1 hx with rfl | hx
          · exact hk x (by simp) (m - w) B (by omega) (by omega)
          · exact ihk (fun y hy => hk y (by simp [hy])) _ h x hx
        · rw [if_neg hw] at h
          omega
    exact (lenN_is B n).2 ⟨by omega, by omega, key n.kids ih _ h⟩
theorem lenN_mono {B C : Nat} (hBC : B ≤ C) (n : Nd) : lenN B n → lenN C n := by
  induction n using Nd.induct with
  | h n ih =>
    intro h
    obtain ⟨h1, h2, h3⟩ := (lenN_is B n).1 h
    exact (lenN_is C n).2 ⟨by omega, by omega, fun k hk => ih k hk (h3 k hk)⟩
theorem atP_cost : ∀ {l : List Int} {n e : Nd}, atP n l = some e → costN e + costB e ≤ costN n + costB n
  | [], n, e, h => by cases h; exact Nat.le_refl _
  | p :: ps, n, e, h => by
    rw [atP_cons] at h
    split at h
    · cases h
    · cases hk : n.kids[p.toNat]? with
      | none => rw [hk] at h; cases h
      | some k =>
        rw [hk] at h
        have h1 := atP_cost h
        have h2 := costs_at (List.mem_of_getElem? hk)
        rw [costN_is n, costB_is n]
        omega
theorem costs_ins (x : Nd) (i : Nat) (ks : List Nd) : costNs (insK x i ks) = costNs ks + costN x ∧ costBs (insK x i ks) = costBs ks + costB x := by
  unfold insK
  have h1 := costs_app (ks.take i) (x :: ks.drop i)
  have h2 := costs_app (ks.take i) (ks.drop i)
  rw [List.take_append_drop] at h2
  simp only [costNs, costBs] at h1
  omega
theorem lenN_ins {B : Nat} {x : Nd} {i : Nat} {ks : List Nd} (hx : lenN B x) (hk : ∀ k ∈ ks, lenN B k) : ∀ k ∈ insK x i ks, lenN B k := by
  intro k h
  unfold insK at h
  rcases List.mem_append.1 h with h | h
  · exact hk k (List.mem_of_mem_take h)
  · rcases List.mem_cons.1 h with rfl | h
    · exact hx
    · exact hk k (List.mem_of_mem_drop h)
theorem ins_gn {n x e : Nd} {l : List Int} {i : Nat} (hn : lenN 30000 n) (hx : lenN 30000 x) (cn : costN n + costB n ≤ 30000) (cx : costN x + costB x ≤ 30000) (he : atP n l = some e) (hi : i ≤ e.kids.length) : GN (setP n l (e.withKids (insK x i e.kids))) := by
  have hel := atP_lenN 30000 l n e hn he
  obtain ⟨h1, h2, h3⟩ := (lenN_is _ _).1 hel
  have hce := atP_cost he
  have hci := costs_ins x i e.kids
  have hy : lenN 1000000 (e.withKids (insK x i e.kids)) := (lenN_is _ _).2 ⟨by show e.attrs.length ≤ _; omega, by rw [Nd.kids_with, insK_len x i _ hi]; omega, fun k hk => by
    rw [Nd.kids_with] at hk
    exact lenN_ins (lenN_mono (by omega) x hx) (fun y hy => lenN_mono (by omega) y (h3 y hy)) k hk⟩
  refine ⟨setP_len 1000000 l n _ (lenN_mono (by omega) n hn) hy, ?_⟩
  have h4 := setP_cost l n (e.withKids (insK x i e.kids))
  have h5 := costN_is (e.withKids (insK x i e.kids))
  have h6 := costB_is (e.withKids (insK x i e.kids))
  have h7 := costN_is e
  have h8 := costB_is e
  rw [Nd.kids_with] at h5 h6
  rw [show ownB (e.withKids (insK x i e.kids)) = ownB e from rfl] at h6
  omega
theorem repl_gn {n x : Nd} {l : List Int} (hn : lenN 30000 n) (hx : lenN 30000 x) (cn : costN n + costB n ≤ 30000) (cx : costN x + costB x ≤ 30000) : GN (setP n l x) := by
  have h4 := setP_cost l n x
  exact ⟨setP_len 1000000 l n x (lenN_mono (by omega) n hn) (lenN_mono (by omega) x hx), by omega⟩
theorem attr_small {n e : Nd} {l : List Int} {J : List Tr} (hn : lenN 30000 n) (he : atP n l = some e) (hJ : J.length ≤ 30001) : smallN (setP n l (e.withAttrs J)) := by
  obtain ⟨h1, h2, h3⟩ := (lenN_is _ _).1 (atP_lenN 30000 l n e hn he)
  exact setP_len 1000000 l n _ (lenN_mono (by omega) n hn) ((lenN_is _ _).2 ⟨by show J.length ≤ _; omega, by show e.kids.length ≤ _; omega, fun k hk => lenN_mono (by omega) k (h3 k hk)⟩)
end Wb
namespace Go.Proofs.Ytlcjepnaljfpkaa
open Go.RowKit Wb
def NdZ (o : Option Nd) (w : World) (e : Ending) (w' : World) : Prop :=
  ∃ A ca K ck, e = .returned (.tuple #[ndV (o.getD zNd) A ca K ck, .bool o.isSome]) ∧ NodeV w' (o.getD zNd) A K ∧ Below w.heap.size w w'
theorem NdOut.z {o : Option Nd} {w w' : World} {e : Ending} (h : NdOut o w e w') : NdZ o w e w' := by
  obtain ⟨hb, ho⟩ := h
  cases o with
  | none => exact ⟨none, 0, none, 0, ho, ⟨Sl3.nil _ _, .inl rfl⟩, hb⟩
  | some m =>
    obtain ⟨A', ca', K', ck', e1, h1⟩ := ho
    exact ⟨A', ca', K', ck', e1, h1.here, hb⟩
end Go.Proofs.Ytlcjepnaljfpkaa
