/- PcD PcE SpB PcF. -/
import Derived.Deep.Cut
import Derived.Test.YtlcjepnaljfpkaaQe7
import Derived.Test.YtlcjepnaljfpkaaQe9
import Derived.Test.YtlcjepnaljfpkaaQe11
namespace Wb
open Go Go.RowKit Go.Proofs.Ytlcjepnaljfpkaa
def aTx : Nd := .mk 2 (⟨#[]⟩, ⟨#[]⟩) [] [] ⟨#[120]⟩
def aTy : Nd := .mk 2 (⟨#[]⟩, ⟨#[]⟩) [] [] ⟨#[121]⟩
def aEl : Nd := .mk 1 (⟨#[]⟩, ⟨#[97]⟩) [] [] ⟨#[]⟩
def aN : Nd := .mk 1 (⟨#[]⟩, ⟨#[97]⟩) [] [aTx, aEl, aTy] ⟨#[]⟩
theorem aN_at : atP aN [3] = none := by rfl
theorem aJ : joinK [aTx, aTy] = [.mk 2 (⟨#[]⟩, ⟨#[]⟩) [] [] ⟨#[120, 121]⟩] := by
  have h := joinK_text (ks := [aTx, aTy]) (i := 0) (x := aTx) rfl rfl
  rw [show txEnd [aTx, aTy] 0 = 2 from by rfl] at h
  rw [List.drop_zero] at h
  rw [h]
  simp only [List.drop_succ_cons, List.drop_nil]
  rw [joinK]
  rfl
theorem aN_rem : remP aN [1] = some (aN.withKids [.mk 2 (⟨#[]⟩, ⟨#[]⟩) [] [] ⟨#[120, 121]⟩]) := by
  rw [show ([1] : List Int) = [] ++ [1] from rfl, remP_app]
  show (if aN.kind = 1 then kidF (fun ks i => ks.eraseIdx i) 1 aN else none) = _
  rw [if_pos (show aN.kind = 1 from rfl)]
  unfold kidF
  rw [if_pos (by decide)]
  show some (aN.withKids (joinK [aTx, aTy])) = _
  rw [aJ]
theorem aN_ins : chP (insF aEl 0) aN [] = some (aN.withKids [aEl, aTx, aEl, aTy]) := by
  show (if aN.kind = 1 then insF aEl 0 aN else none) = _
  rw [if_pos (show aN.kind = 1 from rfl)]
  unfold insF
  rw [if_pos (by decide)]
  show some (aN.withKids (joinK [aEl, aTx, aEl, aTy])) = _
  rw [joinK_same _ 0 (by simp [noAdj, aEl, aTx, aTy, Nd.kind])]
theorem aN_els : elsN aN.kids = 1 := by rfl
theorem aN_gn : GN aN := by
  refine ⟨by simp [aN, aTx, aTy, aEl, lenN, lenKs], by decide⟩
theorem aEl_gn : GN aEl := by
  refine ⟨by simp [aEl, lenN, lenKs], by decide⟩
theorem aN_ks : ∀ k ∈ aN.kids, k.kind = 2 ∨ (k.kind = 1 ∧ k.kids = []) := by
  intro k hk
  simp only [aN, Nd.kids, List.mem_cons, List.mem_nil_iff, or_false] at hk
  rcases hk with rfl | rfl | rfl
  · exact .inl rfl
  · exact .inr ⟨rfl, rfl⟩
  · exact .inl rfl
end Wb
namespace Go.Proofs.Ytlcjepnaljfpkaa
open Go.RowKit Wb
theorem Places_top (n : Nd) (A K : Option Addr) (ca ck : Nat) (w : World) (hk : n.kind = 1) (hks : ∀ k ∈ n.kids, k.kind = 2 ∨ (k.kind = 1 ∧ k.kids = [])) (hl : n.kids.length ≤ 1000) (hV : NodeV w n A K) :
    Calls Try.prog 20 #[ndV n A ca K ck] w fun e w' => ∃ L c, e = .returned (.slice L (1 + elsN n.kids) c) ∧ Below w.heap.size w w' := by
  have hb1 := (Below.refl w.heap.size w).alloc (Nat.le_refl _) (.cells #[.int .i64 n.kind, .string n.name.1, .string n.name.2, .slice A n.attrs.length ca, .slice K n.kids.length ck, .string n.text] 27)
  have HN := Lib.hid (heap_alloc_new w (.cells #[.int .i64 n.kind, .string n.name.1, .string n.name.2, .slice A n.attrs.length ca, .slice K n.kids.length ck, .string n.text] 27))
  have hpl := pl_top n A K ca ck (w.alloc (.cells #[.int .i64 n.kind, .string n.name.1, .string n.name.2, .slice A n.attrs.length ca, .slice K n.kids.length ck, .string n.text] 27)) hk hks hl (NodeV.below hV hb1)
  unfold ndV ndCells at hpl ⊢
  rw [hk] at hpl hb1 HN ⊢
  have HB := Lib.hid hb1
  clear hk hks hV hb1
  go_enter Try.func20, Try.ntmps20
  go_upto_region 1 with fail
  revert HN HB hpl
  generalize w.alloc (.cells #[.int .i64 1, .string n.name.1, .string n.name.2, .slice A n.attrs.length ca, .slice K n.kids.length ck, .string n.text] 27) = w1
  intro HN hpl HB
  obtain ⟨n0, n1, n2, n3, n4, n5⟩ := cells_of_nd HN.out
  go_wp2_with fail
  refine hpl.mono ?_
  rintro e w2 ⟨L, c, rfl, hb2⟩
  have HB2 := Lib.hid (HB.out.trans (hb2.mono HB.out.size))
  clear hb2
  go_wp2
  go_ret
  exact ⟨L, c, rfl, HB2.out⟩
theorem one_any (K : Option Addr) (m ck : Nat) (w : World) : Calls Try.prog 19 #[.slice K m ck] w fun e w' => e = .returned (.agg #[.int .i64 1, .string ⟨#[]⟩, .string ⟨#[97]⟩, .slice none 0 0, .slice K m ck, .string ⟨#[]⟩]) ∧ Below w.heap.size w w' := by
  have hb1 := (Below.refl w.heap.size w).alloc (Nat.le_refl _) (.cells #[.int .i64 0, .string ⟨#[]⟩, .string ⟨#[]⟩, .slice none 0 0, .slice none 0 0, .string ⟨#[]⟩] 27)
  have HZ := Lib.hid (heap_alloc_new w (.cells #[.int .i64 0, .string ⟨#[]⟩, .string ⟨#[]⟩, .slice none 0 0, .slice none 0 0, .string ⟨#[]⟩] 27))
  have HB := Lib.hid hb1
  clear hb1
  go_enter Try.func19, Try.ntmps19
  go_upto_region 1 with fail
  revert HZ HB
  generalize w.alloc (.cells #[.int .i64 0, .string ⟨#[]⟩, .string ⟨#[]⟩, .slice none 0 0, .slice none 0 0, .string ⟨#[]⟩] 27) = w1
  intro HZ HB
  have z0 := blk_free HZ.out 0
  have z1 := blk_free HZ.out 1
  have z2 := blk_free HZ.out 2
  have z3 := blk_free HZ.out 3
  have z4 := blk_free HZ.out 4
  have z5 := blk_free HZ.out 5
  obtain ⟨y0, y1, y2, y3, y4, y5⟩ := cells_of_nd HZ.out
  go_wp2
  refine bodyPost_ret (results_cell_row rfl _ _ w.heap.size _ _ (0, 0) _ rfl (six_blk HZ.out _ _ _ _ _ _) Try.underlying27 rfl node_info2) rfl ?_
  exact ⟨rfl, six_below HB.out (Nat.le_refl _) _ _ _ _ _ _⟩
theorem aN_lies {w : World} {kb : Nat} {T : TypeId} (h : w.heap[kb]? = some (.cells #[.int .i64 2, .string ⟨#[]⟩, .string ⟨#[]⟩, .slice none 0 0, .slice none 0 0, .string ⟨#[120]⟩, .int .i64 1, .string ⟨#[]⟩, .string ⟨#[97]⟩, .slice none 0 0, .slice none 0 0, .string ⟨#[]⟩, .int .i64 2, .string ⟨#[]⟩, .string ⟨#[]⟩, .slice none 0 0, .slice none 0 0, .string ⟨#[121]⟩] T (0, 0))) :
    NodeV w aN none (some ⟨kb, 0, none⟩) := by
  refine ⟨Sl3.nil _ _, .inr ⟨_, rfl, blk_in h, (kidsC_iff w _ _ 0).2 fun k m hm => ?_⟩⟩
  have add : ∀ z : Nat, (⟨kb, 0, none⟩ : Addr).add z = ⟨kb, z, none⟩ := fun z => by unfold Addr.add; split <;> simp_all
  have leaf : ∀ (kd : Int) (lo t : ByteArray), nodeC w (.mk kd (⟨#[]⟩, lo) [] [] t) [.int .i64 kd, .string ⟨#[]⟩, .string lo, .slice none 0 0, .slice none 0 0, .string t] := fun kd lo t => (nodeC_V w _ _).2 ⟨none, 0, none, 0, rfl, Sl3.nil _ _, .inl rfl⟩
  simp only [aN, Nd.kids] at hm
  match k, hm with
  | 0, hm =>
    simp only [List.getElem?_cons_zero, Option.some.injEq] at hm
    subst hm
    refine ⟨_, fun j u hu => ?_, leaf 2 ⟨#[]⟩ ⟨#[120]⟩⟩
    rw [add]
    match j, hu with
    | 0, hu | 1, hu | 2, hu | 3, hu | 4, hu | 5, hu => simp at hu; subst hu; simp [World.cell?, h]
  | 1, hm =>
    simp only [List.getElem?_cons_zero, List.getElem?_cons_succ, Option.some.injEq] at hm
    subst hm
    refine ⟨_, fun j u hu => ?_, leaf 1 ⟨#[97]⟩ ⟨#[]⟩⟩
    rw [add]
    match j, hu with
    | 0, hu | 1, hu | 2, hu | 3, hu | 4, hu | 5, hu => simp at hu; subst hu; simp [World.cell?, h]
  | 2, hm =>
    simp only [List.getElem?_cons_zero, List.getElem?_cons_succ, Option.some.injEq] at hm
    subst hm
    refine ⟨_, fun j u hu => ?_, leaf 2 ⟨#[]⟩ ⟨#[121]⟩⟩
    rw [add]
    match j, hu with
    | 0, hu | 1, hu | 2, hu | 3, hu | 4, hu | 5, hu => simp at hu; subst hu; simp [World.cell?, h]
end Go.Proofs.Ytlcjepnaljfpkaa
namespace Go.Proofs.Ytlcjepnaljfpkaa
open Go.RowKit Wb
set_option maxRecDepth 100000 in
set_option maxHeartbeats 8000000 in
theorem awake6 (w : World) : Calls Try.prog 5 #[] w fun e w' => e = .returned (.bool true) ∧ Below w.heap.size w w' := by
  go_enter Try.func5, Try.ntmps5
  have h1 := one_any none 0 0 w
  go_wp2_with fail
  refine h1.mono ?_
  rintro e w2 ⟨rfl, hb2⟩
  have HB2 := Lib.hid hb2
  have hk3 := heap_alloc_new w2 (.cells #[.int .i64 2, .string ⟨#[]⟩, .string ⟨#[]⟩, .slice none 0 0, .slice none 0 0, .string ⟨#[120]⟩, .int .i64 1, .string ⟨#[]⟩, .string ⟨#[97]⟩, .slice none 0 0, .slice none 0 0, .string ⟨#[]⟩, .int .i64 2, .string ⟨#[]⟩, .string ⟨#[]⟩, .slice none 0 0, .slice none 0 0, .string ⟨#[121]⟩] 27)
  have hb3 := (Below.refl w2.heap.size w2).alloc (Nat.le_refl _) (.cells #[.int .i64 2, .string ⟨#[]⟩, .string ⟨#[]⟩, .slice none 0 0, .slice none 0 0, .string ⟨#[120]⟩, .int .i64 1, .string ⟨#[]⟩, .string ⟨#[97]⟩, .slice none 0 0, .slice none 0 0, .string ⟨#[]⟩, .int .i64 2, .string ⟨#[]⟩, .string ⟨#[]⟩, .slice none 0 0, .slice none 0 0, .string ⟨#[121]⟩] 27)
  have HK3 := Lib.hid (aN_lies hk3)
  have HB3 := Lib.hid (hb2.trans (hb3.mono hb2.size))
  clear h1 hb2 hk3 hb3
  go_wp2_with fail
  refine (one_any (some ⟨w2.heap.size, 0, none⟩) 3 3 _).mono ?_
  rintro e w4 ⟨rfl, hb4⟩
  generalize w2.heap.size = kb at *
  have hN5 := heap_alloc_new w4 (.cells #[.int .i64 1, .string ⟨#[]⟩, .string ⟨#[97]⟩, .slice none 0 0, .slice (some ⟨kb, 0, none⟩) 3 3, .string ⟨#[]⟩] 27)
  have hb5 := (Below.refl w4.heap.size w4).alloc (Nat.le_refl _) (.cells #[.int .i64 1, .string ⟨#[]⟩, .string ⟨#[97]⟩, .slice none 0 0, .slice (some ⟨kb, 0, none⟩) 3 3, .string ⟨#[]⟩] 27)
  have HN5 := Lib.hid hN5
  have HV5 := Lib.hid ((HK3.out.below hb4).below hb5)
  have HB5 := Lib.hid ((HB3.out.trans (hb4.mono HB3.out.size)).trans (hb5.mono (HB3.out.trans (hb4.mono HB3.out.size)).size))
  clear hN5 hb5 hb4 HK3 HB2
  go_upto_region 2 with fail
  revert HN5 HV5 HB5
  generalize w4.alloc (.cells #[.int .i64 1, .string ⟨#[]⟩, .string ⟨#[97]⟩, .slice none 0 0, .slice (some ⟨kb, 0, none⟩) 3 3, .string ⟨#[]⟩] 27) = w5
  intro HN5 HV5 HB5
  generalize w4.heap.size = T at *
  clear HB3
  obtain ⟨m1, hm1⟩ : ∃ m, aN.withKids [.mk 2 (⟨#[]⟩, ⟨#[]⟩) [] [] ⟨#[120, 121]⟩] = m := ⟨_, rfl⟩
  obtain ⟨m2, hm2⟩ : ∃ m, aN.withKids [aEl, aTx, aEl, aTy] = m := ⟨_, rfl⟩
  have hsl1 : SlI (w5.alloc (.cells #[.int .i64 1] 3)) (some ⟨w5.heap.size, 0, none⟩) [1] := Sl.lit w5 1 [.int .i64 1] 3 1 rfl
  have hbs1 := (Below.refl w5.heap.size w5).alloc (Nat.le_refl _) (.cells #[.int .i64 1] 3)
  have hrem : Calls Try.prog 10 #[.agg #[.int .i64 1, .string ⟨#[]⟩, .string ⟨#[97]⟩, .slice none 0 0, .slice (some ⟨kb, 0, none⟩) 3 3, .string ⟨#[]⟩], .slice (some ⟨w5.heap.size, 0, none⟩) 1 1] (w5.alloc (.cells #[.int .i64 1] 3)) (NdOut (some m1) (w5.alloc (.cells #[.int .i64 1] 3))) := by
    have := Remove_any aN none (some ⟨kb, 0, none⟩) 0 3 [1] (some ⟨w5.heap.size, 0, none⟩) 1 (w5.alloc (.cells #[.int .i64 1] 3)) (HV5.out.below hbs1) aN_gn hsl1 (by simp) (by simp)
    rw [aN_rem, hm1] at this
    exact this
  obtain ⟨n0, n1, n2, n3, n4, n5⟩ := cells_of_nd HN5.out
  go_wp2_with fail
  refine hrem.mono ?_
  rintro e w7 ⟨hb7, A7, ca7, K7, ck7, rfl, hV7⟩
  unfold ndV ndCells
  have hb57 : Below w5.heap.size w5 w7 := hbs1.trans (hb7.mono hbs1.size)
  have hb8 := (Below.refl w7.heap.size w7).alloc (Nat.le_refl _) (.cells #[.int .i64 m1.kind, .string m1.name.1, .string m1.name.2, .slice A7 m1.attrs.length ca7, .slice K7 m1.kids.length ck7, .string m1.text] 27)
  have HM8 := Lib.hid (heap_alloc_new w7 (.cells #[.int .i64 m1.kind, .string m1.name.1, .string m1.name.2, .slice A7 m1.attrs.length ca7, .slice K7 m1.kids.length ck7, .string m1.text] 27))
  have HMV8 := Lib.hid (hV7.here.below hb8)
  have hb58 : Below w5.heap.size w5 _ := hb57.trans (hb8.mono hb57.size)
  have HN8 := Lib.hid (still_block HN5.out hb58)
  have HV8 := Lib.hid (HV5.out.below hb58)
  have HB8 := Lib.hid (HB5.out.trans (hb58.mono HB5.out.size))
  clear hrem hb7 hV7 hb57 hb58 hb8 hbs1 hsl1 n0 n1 n2 n3 n4 n5 HN5 HV5 HB5
  go_upto_region 3 with fail
  revert HM8 HMV8 HN8 HV8 HB8
  generalize w7.alloc (.cells #[.int .i64 m1.kind, .string m1.name.1, .string m1.name.2, .slice A7 m1.attrs.length ca7, .slice K7 m1.kids.length ck7, .string m1.text] 27) = w8
  intro HM8 HMV8 HN8 HV8 HB8
  generalize w7.heap.size = T8 at *
  have HC9 := Lib.hid (fun (v : World) (hv : Below w8.heap.size w8 v) => cells_of_nd (still_block HN8.out hv))
  go_cut [4, 5] from 19 to 24 (fun v4 v5 wx => ∃ (g4 : Nat) (A10 K10 : Option Addr) (ca10 ck10 : Nat), v4 = .pointer (some ⟨g4, 0, none⟩) ∧ v5 = .bool true ∧ Hid (wx.heap[g4]? = some (.cells #[.int .i64 m2.kind, .string m2.name.1, .string m2.name.2, .slice A10 m2.attrs.length ca10, .slice K10 m2.kids.length ck10, .string m2.text] 27 (0, 0))) ∧ Hid (Below w8.heap.size w8 wx))
  case first =>
    obtain ⟨n0, n1, n2, n3, n4, n5⟩ := HC9.out w8.drew (Below.refl _ _).drew
    have hins : ∀ v, Below w8.heap.size w8 v → Calls Try.prog 8 #[.agg #[.int .i64 1, .string ⟨#[]⟩, .string ⟨#[97]⟩, .slice none 0 0, .slice (some ⟨kb, 0, none⟩) 3 3, .string ⟨#[]⟩], .agg #[.int .i64 1, .string ⟨#[]⟩, .string ⟨#[97]⟩, .slice none 0 0, .slice none 0 0, .string ⟨#[]⟩], .int .i64 0, .slice none 0 0] v (NdOut (some m2) v) := fun v hv => by
      have := Insert_any aN aEl none (some ⟨kb, 0, none⟩) none none 0 3 0 0 0 [] none 0 v (HV8.out.below hv) ⟨Sl3.nil _ _, .inl rfl⟩ aN_gn aEl_gn (SlI.nil _ _) (by simp) (by simp)
      rw [aN_ins, hm2] at this
      exact this
    have v0 : ∀ o, (w8.alloc o).cell? ⟨T, 0, none⟩ = _ := fun o => (HC9.out (w8.alloc o) ((Below.refl _ w8).alloc (Nat.le_refl _) o)).1
    have v1 : ∀ o, (w8.alloc o).cell? ⟨T, 1, none⟩ = _ := fun o => (HC9.out (w8.alloc o) ((Below.refl _ w8).alloc (Nat.le_refl _) o)).2.1
    have v2 : ∀ o, (w8.alloc o).cell? ⟨T, 2, none⟩ = _ := fun o => (HC9.out (w8.alloc o) ((Below.refl _ w8).alloc (Nat.le_refl _) o)).2.2.1
    have v3 : ∀ o, (w8.alloc o).cell? ⟨T, 3, none⟩ = _ := fun o => (HC9.out (w8.alloc o) ((Below.refl _ w8).alloc (Nat.le_refl _) o)).2.2.2.1
    have v4 : ∀ o, (w8.alloc o).cell? ⟨T, 4, none⟩ = _ := fun o => (HC9.out (w8.alloc o) ((Below.refl _ w8).alloc (Nat.le_refl _) o)).2.2.2.2.1
    have v5 : ∀ o, (w8.alloc o).cell? ⟨T, 5, none⟩ = _ := fun o => (HC9.out (w8.alloc o) ((Below.refl _ w8).alloc (Nat.le_refl _) o)).2.2.2.2.2
    have hone := fun v => one_any none 0 0 v
    go_region_law (first
      | (go_simp
         go_at_call 19
         refine (hone w8.drew).mono ?_
         rintro e w9 ⟨rfl, hb9⟩
         have hb9' : Below w8.heap.size w8 w9 := (Below.refl _ w8).drew.trans hb9
         obtain ⟨p0, p1, p2, p3, p4, p5⟩ := HC9.out w9 hb9'
         have HB9 := Lib.hid hb9'
         obtain ⟨r0, r1, r2, r3, r4, r5⟩ := HC9.out (w9.alloc (.cells #[.int .i64 0, .string ⟨#[]⟩, .string ⟨#[]⟩, .slice none 0 0, .slice none 0 0, .string ⟨#[]⟩] 27)) (hb9'.alloc hb9'.size _)
         clear hb9 hb9')
      | (go_simp
         go_at_call 19
         refine (hone (w8.alloc (.cells #[.int .i64 0, .string ⟨#[]⟩, .string ⟨#[]⟩, .slice none 0 0, .slice none 0 0, .string ⟨#[]⟩] 27)).drew).mono ?_
         rintro e w9 ⟨rfl, hb9⟩
         have HZ := Lib.hid (still_block (w := (w8.alloc (.cells #[.int .i64 0, .string ⟨#[]⟩, .string ⟨#[]⟩, .slice none 0 0, .slice none 0 0, .string ⟨#[]⟩] 27)).drew) (heap_alloc_new w8 (.cells #[.int .i64 0, .string ⟨#[]⟩, .string ⟨#[]⟩, .slice none 0 0, .slice none 0 0, .string ⟨#[]⟩] 27)) hb9)
         have hb9' : Below w8.heap.size w8 w9 := (((Below.refl w8.heap.size w8).alloc (Nat.le_refl _) (.cells #[.int .i64 0, .string ⟨#[]⟩, .string ⟨#[]⟩, .slice none 0 0, .slice none 0 0, .string ⟨#[]⟩] 27)).drew).trans (hb9.mono (by simp))
         obtain ⟨p0, p1, p2, p3, p4, p5⟩ := HC9.out w9 hb9'
         have HB9 := Lib.hid hb9'
         clear hb9 hb9')
      | (go_simp
         go_at_call 8
         refine (hins w9 HB9.out).mono ?_
         rintro e w10 ⟨hb10, A10, ca10, K10, ck10, rfl, hV10⟩
         unfold ndV ndCells
         have HB10 := Lib.hid (HB9.out.trans (hb10.mono HB9.out.size))
         try (
           have HZA := Lib.hid (still_block HZ.out hb10)
           have z0 := blk_free HZA.out 0
           have z1 := blk_free HZA.out 1
           have z2 := blk_free HZA.out 2
           have z3 := blk_free HZA.out 3
           have z4 := blk_free HZA.out 4
           have z5 := blk_free HZA.out 5
           obtain ⟨y0, y1, y2, y3, y4, y5⟩ := cells_of_nd HZA.out)
         clear hb10 hV10)
      | (go_simp
         go_at_call 8
         refine (hins (w9.alloc (.cells #[.int .i64 0, .string ⟨#[]⟩, .string ⟨#[]⟩, .slice none 0 0, .slice none 0 0, .string ⟨#[]⟩] 27)) (HB9.out.alloc HB9.out.size _)).mono ?_
         rintro e w10 ⟨hb10, A10, ca10, K10, ck10, rfl, hV10⟩
         unfold ndV ndCells
         have HZB := Lib.hid (still_block (heap_alloc_new w9 (.cells #[.int .i64 0, .string ⟨#[]⟩, .string ⟨#[]⟩, .slice none 0 0, .slice none 0 0, .string ⟨#[]⟩] 27)) hb10)
         have HB10 := Lib.hid ((HB9.out.alloc HB9.out.size (.cells #[.int .i64 0, .string ⟨#[]⟩, .string ⟨#[]⟩, .slice none 0 0, .slice none 0 0, .string ⟨#[]⟩] 27)).trans (hb10.mono (HB9.out.alloc HB9.out.size (.cells #[.int .i64 0, .string ⟨#[]⟩, .string ⟨#[]⟩, .slice none 0 0, .slice none 0 0, .string ⟨#[]⟩] 27)).size))
         have z0 := blk_free HZB.out 0
         have z1 := blk_free HZB.out 1
         have z2 := blk_free HZB.out 2
         have z3 := blk_free HZB.out 3
         have z4 := blk_free HZB.out 4
         have z5 := blk_free HZB.out 5
         obtain ⟨y0, y1, y2, y3, y4, y5⟩ := cells_of_nd HZB.out
         clear hb10 hV10))
    all_goals
      first
        | (have HM11 : Hid (((((((w10.setCell ⟨w9.heap.size, 0, none⟩ (.int .i64 m2.kind)).setCell ⟨w9.heap.size, 1, none⟩ (.string m2.name.1)).setCell ⟨w9.heap.size, 2, none⟩ (.string m2.name.2)).setCell ⟨w9.heap.size, 3, none⟩ (.slice A10 m2.attrs.length ca10)).setCell ⟨w9.heap.size, 4, none⟩ (.slice K10 m2.kids.length ck10)).setCell ⟨w9.heap.size, 5, none⟩ (.string m2.text)).heap[w9.heap.size]? = _) := Lib.hid (six_blk HZB.out _ _ _ _ _ _)
           have HB11 := Lib.hid (six_below (g := w9.heap.size) HB10.out (by have := HB9.out.size; omega) (.int .i64 m2.kind) (.string m2.name.1) (.string m2.name.2) (.slice A10 m2.attrs.length ca10) (.slice K10 m2.kids.length ck10) (.string m2.text))
           clear HZB HB10
           revert HM11 HB11
           generalize ((((((w10.setCell ⟨w9.heap.size, 0, none⟩ (.int .i64 m2.kind)).setCell ⟨w9.heap.size, 1, none⟩ (.string m2.name.1)).setCell ⟨w9.heap.size, 2, none⟩ (.string m2.name.2)).setCell ⟨w9.heap.size, 3, none⟩ (.slice A10 m2.attrs.length ca10)).setCell ⟨w9.heap.size, 4, none⟩ (.slice K10 m2.kids.length ck10)).setCell ⟨w9.heap.size, 5, none⟩ (.string m2.text)) = w11
           intro HM11 HB11
           generalize hg4 : w9.heap.size = g4 at HM11 ⊢)
        | (have HM11 : Hid (((((((w10.setCell ⟨w8.heap.size, 0, none⟩ (.int .i64 m2.kind)).setCell ⟨w8.heap.size, 1, none⟩ (.string m2.name.1)).setCell ⟨w8.heap.size, 2, none⟩ (.string m2.name.2)).setCell ⟨w8.heap.size, 3, none⟩ (.slice A10 m2.attrs.length ca10)).setCell ⟨w8.heap.size, 4, none⟩ (.slice K10 m2.kids.length ck10)).setCell ⟨w8.heap.size, 5, none⟩ (.string m2.text)).heap[w8.heap.size]? = _) := Lib.hid (six_blk HZA.out _ _ _ _ _ _)
           have HB11 := Lib.hid (six_below (g := w8.heap.size) HB10.out (by have := HB9.out.size; omega) (.int .i64 m2.kind) (.string m2.name.1) (.string m2.name.2) (.slice A10 m2.attrs.length ca10) (.slice K10 m2.kids.length ck10) (.string m2.text))
           clear HZA HB10
           revert HM11 HB11
           generalize ((((((w10.setCell ⟨w8.heap.size, 0, none⟩ (.int .i64 m2.kind)).setCell ⟨w8.heap.size, 1, none⟩ (.string m2.name.1)).setCell ⟨w8.heap.size, 2, none⟩ (.string m2.name.2)).setCell ⟨w8.heap.size, 3, none⟩ (.slice A10 m2.attrs.length ca10)).setCell ⟨w8.heap.size, 4, none⟩ (.slice K10 m2.kids.length ck10)).setCell ⟨w8.heap.size, 5, none⟩ (.string m2.text)) = w11
           intro HM11 HB11
           generalize hg4 : w8.heap.size = g4 at HM11 ⊢)
        | (have HM11 := Lib.hid (heap_alloc_new w10 (.cells #[.int .i64 m2.kind, .string m2.name.1, .string m2.name.2, .slice A10 m2.attrs.length ca10, .slice K10 m2.kids.length ck10, .string m2.text] 27))
           have HB11 := Lib.hid (HB10.out.alloc HB10.out.size (.cells #[.int .i64 m2.kind, .string m2.name.1, .string m2.name.2, .slice A10 m2.attrs.length ca10, .slice K10 m2.kids.length ck10, .string m2.text] 27))
           clear HB10
           revert HM11 HB11
           generalize w10.alloc (.cells #[.int .i64 m2.kind, .string m2.name.1, .string m2.name.2, .slice A10 m2.attrs.length ca10, .slice K10 m2.kids.length ck10, .string m2.text] 27) = w11
           intro HM11 HB11
           generalize hg4 : w10.heap.size = g4 at HM11 ⊢)
      clear hins hone v0 v1 v2 v3 v4 v5 hg4 HC9 HN8 HV8 HMV8 HB8
      go_wp2_with fail
      go_meet
      case rel => exact ⟨g4, A10, K10, ca10, ck10, rfl, rfl, HM11, HB11⟩
  case rest =>
    obtain ⟨g4, A10, K10, ca10, ck10, rfl, rfl, HM11, HB11⟩ := hcut
    obtain ⟨w11, rfl⟩ : ∃ w11, w11 = wc := ⟨wc, rfl⟩
    clear HC9
    have hb11 := HB11.out
    have HN11 := Lib.hid (still_block HN8.out hb11)
    have HV11 := Lib.hid (HV8.out.below hb11)
    have HM1 := Lib.hid (still_block HM8.out hb11)
    have HMV1 := Lib.hid (HMV8.out.below hb11)
    have HBW := Lib.hid (HB8.out.trans (hb11.mono HB8.out.size))
    have hsl3 : SlI (w11.alloc (.cells #[.int .i64 3] 3)) (some ⟨w11.heap.size, 0, none⟩) [3] := Sl.lit w11 1 [.int .i64 3] 3 1 rfl
    have hbs3 := (Below.refl w11.heap.size w11).alloc (Nat.le_refl _) (.cells #[.int .i64 3] 3)
    have hat : Calls Try.prog 9 #[.agg #[.int .i64 1, .string ⟨#[]⟩, .string ⟨#[97]⟩, .slice none 0 0, .slice (some ⟨kb, 0, none⟩) 3 3, .string ⟨#[]⟩], .slice (some ⟨w11.heap.size, 0, none⟩) 1 1] (w11.alloc (.cells #[.int .i64 3] 3)) (NdOut none (w11.alloc (.cells #[.int .i64 3] 3))) := by
      have := At_any aN none (some ⟨kb, 0, none⟩) 0 3 [3] (some ⟨w11.heap.size, 0, none⟩) 1 (w11.alloc (.cells #[.int .i64 3] 3)) (HV11.out.below hbs3) aN_gn.1 hsl3 (by simp)
      rw [aN_at] at this
      exact this
    clear HN8 HV8 HM8 HMV8 HB8 hb11 HB11
    obtain ⟨n0, n1, n2, n3, n4, n5⟩ := cells_of_nd HN11.out
    go_wp2_with fail
    refine hat.mono ?_
    rintro e w12 ⟨hb12, rfl⟩
    have hb112 : Below w11.heap.size w11 w12 := hbs3.trans (hb12.mono hbs3.size)
    have hb13 := hb112.alloc hb112.size (.cells #[.int .i64 0, .string ⟨#[]⟩, .string ⟨#[]⟩, .slice none 0 0, .slice none 0 0, .string ⟨#[]⟩] 27)
    have HN13 := Lib.hid (still_block HN11.out hb13)
    have HV13 := Lib.hid (HV11.out.below hb13)
    have HM13 := Lib.hid (still_block HM1.out hb13)
    have HMV13 := Lib.hid (HMV1.out.below hb13)
    have HM213 := Lib.hid (still_block HM11.out hb13)
    have HB13 := Lib.hid (HBW.out.trans (hb13.mono HBW.out.size))
    clear hat hb12 hb112 hb13 hbs3 hsl3 n0 n1 n2 n3 n4 n5 HN11 HV11 HM1 HMV1 HM11 HBW
    go_upto_region 5 with fail
    revert HN13 HV13 HM13 HMV13 HM213 HB13
    generalize w12.alloc (.cells #[.int .i64 0, .string ⟨#[]⟩, .string ⟨#[]⟩, .slice none 0 0, .slice none 0 0, .string ⟨#[]⟩] 27) = w13
    intro HN13 HV13 HM13 HMV13 HM213 HB13
    have e1 : m1.kids.length = 1 := by rw [← hm1]; rfl
    have e2 : m2.kids.length = 4 := by rw [← hm2]; rfl
    have e3 : m1.kids[0]? = some (.mk 2 (⟨#[]⟩, ⟨#[]⟩) [] [] ⟨#[120, 121]⟩) := by rw [← hm1]; rfl
    rw [e1] at HM13
    rw [e2] at HM213
    obtain ⟨ad, kA, kca, kQ, kcq, rfl, hkb, k0, k1, k2, k3, k4, k5, hka, hkk⟩ := HMV13.out.2.at_ e3
    obtain ⟨kb1, ko1, kp1⟩ := ad
    have HSV : Hid (∀ v, Below w13.heap.size w13 v → v.cell? ⟨kb1, ko1 + 5, none⟩ = some (.string ⟨#[120, 121]⟩) ∧ v.cell? ⟨T, 0, none⟩ = some (.int .i64 1) ∧ v.cell? ⟨T, 1, none⟩ = some (.string ⟨#[]⟩) ∧ v.cell? ⟨T, 2, none⟩ = some (.string ⟨#[97]⟩) ∧ v.cell? ⟨T, 3, none⟩ = some (.slice none 0 0) ∧ v.cell? ⟨T, 4, none⟩ = some (.slice (some ⟨kb, 0, none⟩) 3 3) ∧ v.cell? ⟨T, 5, none⟩ = some (.string ⟨#[]⟩) ∧ v.cell? ⟨T8, 4, none⟩ = some (.slice (some ⟨kb1, ko1, kp1⟩) 1 ck7) ∧ v.cell? ⟨g4, 4, none⟩ = some (.slice K10 4 ck10)) := Lib.hid (fun v hv => by
      obtain ⟨b0, b1, b2, b3, b4, b5⟩ := cells_of_nd (still_block HN13.out hv)
      obtain ⟨d0, d1, d2, d3, d4, d5⟩ := cells_of_nd (still_block HM13.out hv)
      obtain ⟨f0, f1, f2, f3, f4, f5⟩ := cells_of_nd (still_block HM213.out hv)
      refine ⟨?_, b0, b1, b2, b3, b4, b5, d4, f4⟩
      have hq := (hv.cell (p := ⟨kb1, ko1 + 5, none⟩) hkb).trans (by simpa [Addr.add, Nd.text] using k5)
      exact hq)
    have HPL : Hid (∀ v, Below w13.heap.size w13 v → Calls Try.prog 20 #[.agg #[.int .i64 1, .string ⟨#[]⟩, .string ⟨#[97]⟩, .slice none 0 0, .slice (some ⟨kb, 0, none⟩) 3 3, .string ⟨#[]⟩]] v fun e w' => ∃ L c, e = .returned (.slice L 2 c) ∧ Below v.heap.size v w') := Lib.hid (fun v hv => by
      have hpl := Places_top aN none (some ⟨kb, 0, none⟩) 0 3 v rfl aN_ks (by decide) (HV13.out.below hv)
      rw [aN_els] at hpl
      exact hpl)
    clear HN13 HM13 HM213 HMV13 hm1 hm2 e1 e2 e3 hkb hka hkk HV13 k0 k1 k2 k3 k4 k5
    obtain ⟨k5, b0, b1, b2, b3, b4, b5, d4, f4⟩ := HSV.out _ (Below.refl _ w13)
    go_wp2_with fail
    refine (HPL.out _ (Below.refl _ w13)).mono ?_
    rintro e w14 ⟨L, c, rfl, hb14⟩
    have HB14 := Lib.hid hb14
    clear hb14
    go_wp2
    go_ret
    exact ⟨rfl, HB13.out.trans (HB14.out.mono HB13.out.size)⟩
end Go.Proofs.Ytlcjepnaljfpkaa
namespace Wb
theorem deepRs_go {m d k : Nat} {ks : List Nd} {x : Nd} (he : ks[k]? = some x) : deepRs (ks.drop k) m d = deepRs (ks.drop (k + 1)) m (if d < deepR x m then deepR x m else d) := by
  obtain ⟨hk, e⟩ := List.getElem?_eq_some_iff.1 he
  rw [List.drop_eq_getElem_cons hk, e, deepRs_cons]
end Wb
namespace Go.Proofs.Ytlcjepnaljfpkaa
open Go.RowKit Wb
set_option maxRecDepth 100000 in
set_option maxHeartbeats 4000000 in
theorem deep_any (n : Nd) : ∀ (A K : Option Addr) (ca ck m : Nat) (w : World), m ≤ 2000 → NodeV w n A K → smallN n →
    Calls Try.prog 40 #[ndV n A ca K ck, .int .i64 ((m : Int) - 1)] w fun e w' => e = .returned (.int .i64 (deepR n m)) ∧ Below w.heap.size w w' := by
  induction n using Nd.induct with
  | h n ih =>
    intro A K ca ck m w hm hV hsm
    obtain ⟨_, hlk, hl3⟩ := (smallN_is n).1 hsm
    have HNR := Lib.hid (deepR_is n m)
    obtain ⟨kd, ⟨sp, lo⟩, al, ks, t⟩ := n
    simp only [Nd.kids] at ih hlk hl3
    have IH := Lib.hid ih
    have L3 := Lib.hid hl3
    have hb1 : Below w.heap.size w (w.alloc (.cells #[.int .i64 kd, .string sp, .string lo, .slice A al.length ca, .slice K ks.length ck, .string t] 27)) := (Below.refl _ w).alloc (Nat.le_refl _) _
    have HK := Lib.hid (hV.2.below hb1)
    have HN := Lib.hid (heap_alloc_new w (.cells #[.int .i64 kd, .string sp, .string lo, .slice A al.length ca, .slice K ks.length ck, .string t] 27))
    have HB := Lib.hid hb1
    have hws := hb1.size
    clear ih hsm hl3 hb1 hV
    simp only [Nd.kids, Nd.kind] at HK HNR
    obtain ⟨r, hr⟩ : ∃ r, deepR (.mk kd (sp, lo) al ks t) m = r := ⟨_, rfl⟩
    rw [hr] at HNR ⊢
    clear hr
    unfold ndV ndCells
    simp only [Nd.kind, Nd.name, Nd.attrs, Nd.kids, Nd.text]
    go_enter Try.func40, Try.ntmps40
    go_upto_region 1 with fail
    revert HK HN HB hws
    generalize (w.alloc (.cells #[.int .i64 kd, .string sp, .string lo, .slice A al.length ca, .slice K ks.length ck, .string t] 27)) = wb
    intro HK HN HB hws
    generalize hT : w.heap.size = T at *
    have HT := Lib.hid hT
    clear hT
    have CN := Lib.hid (fun (v : World) (h : Below wb.heap.size wb v) => cells_of_nd (still_block HN.out h))
    clear HN
    obtain ⟨n0, n1, n2, n3, n4, n5⟩ := CN.out wb (Below.refl _ _)
    by_cases hk1 : kd = 1
    case neg =>
      have HD : Hid (r = 0) := Lib.hid (HNR.out.trans (if_neg (fun h => hk1 h.1)))
      have hke : (kd == 1) = false := by simpa using hk1
      go_wp2
      go_ret
      exact ⟨by rw [HD.out]; rfl, by rw [HT.out]; exact HB.out⟩
    case pos =>
    subst hk1
    by_cases hm0 : m = 0
    · have HD : Hid (r = 0) := Lib.hid (HNR.out.trans (if_neg (fun h => by omega)))
      subst hm0
      go_wp2
      go_ret
      exact ⟨by rw [HD.out]; rfl, by rw [HT.out]; exact HB.out⟩
    · obtain ⟨q, rfl⟩ : ∃ q, m = q + 1 := ⟨m - 1, by omega⟩
      have HD : Hid (r = deepRs ks q 0 + 1) := Lib.hid (HNR.out.trans (if_pos ⟨rfl, by omega⟩))
      have hmq : (((q + 1 : Nat) : Int) - 1) = (q : Int) := by omega
      rw [hmq]
      have hq0 : ¬ ((q : Int) < 0) := by omega
      clear HNR hmq hm0
      go_wp2
      go_loopw [5, 6] (fun vd vi wr => ∃ i d : Nat, i ≤ ks.length ∧ vi = .int .i64 i ∧ vd = .int .i64 d ∧ d ≤ 2000 ∧ Hid (deepRs ks q 0 = deepRs (ks.drop i) q d) ∧ Hid (Below wb.heap.size wb wr)) (fun _ vi _ => ((ks.length : Int) - intOf vi).toNat)
      case atStart => exact ⟨0, 0, by omega, rfl, rfl, by omega, Lib.hid rfl, Lib.hid (Below.refl _ _)⟩
      case round =>
        obtain ⟨i, d, hi, rfl, rfl, hd, hW, HR⟩ := hrel
        clear n0 n1 n2 n3 n4 n5
        obtain ⟨n0, n1, n2, n3, n4, n5⟩ := CN.out _ HR.out
        by_cases h4 : i < ks.length
        · obtain ⟨x, he⟩ : ∃ x, ks[i]? = some x := ⟨ks[i], List.getElem?_eq_getElem h4⟩
          obtain ⟨ad, A1, ca1, K1, ck1, rfl, had, d0, d1, d2, d3, d4, d5, hA2, hK2⟩ := (HK.out.below HR.out).at_ he
          have hgo := deepRs_go (m := q) (d := d) he
          have hmx := List.mem_of_getElem? he
          have hI := IH.out x hmx A1 K1 ca1 ck1 q _ (by omega) ⟨hA2, hK2⟩ (L3.out x hmx)
          have hb5 := deepR_most x q
          obtain ⟨z, hz⟩ : ∃ z, deepR x q = z := ⟨_, rfl⟩
          rw [hz] at hI hgo hb5
          have hz2 : z ≤ 2000 := by omega
          have hW3 := Lib.hid (hW.out.trans hgo)
          unfold ndV ndCells at hI
          clear hgo he hA2 hK2 hW hz hmx had hb5
          go_wp2_with fail
          refine hI.mono ?_
          rintro e w2 ⟨rfl, hb2⟩
          have HR3 := Lib.hid (HR.out.trans (hb2.mono HR.out.size))
          clear hI hb2 d0 d1 d2 d3 d4 d5 n0 n1 n2 n3 n4 n5
          by_cases hdz : d < z
          · have hW5 : Hid (deepRs ks q 0 = deepRs (ks.drop (i + 1)) q z) := Lib.hid (by rw [hW3.out, if_pos hdz])
            have hzi : (d : Int) < (z : Int) := by omega
            clear hW3
            go_wp2
            go_roundw
            case rel => exact ⟨i + 1, z, by omega, by go_num, rfl, hz2, hW5, HR3⟩
            case measure => simp [intOf]; omega
          · have hW5 : Hid (deepRs ks q 0 = deepRs (ks.drop (i + 1)) q d) := Lib.hid (by rw [hW3.out, if_neg hdz])
            have hzi : ¬ ((d : Int) < (z : Int)) := by omega
            clear hW3
            go_wp2
            go_roundw
            case rel => exact ⟨i + 1, d, by omega, by go_num, rfl, hd, hW5, HR3⟩
            case measure => simp [intOf]; omega
        · have hd2 : Hid (r = d + 1) := Lib.hid (by
            rw [HD.out, hW.out, List.drop_eq_nil_of_le (by omega)]; rw [deepRs])
          clear hW
          go_wp2
          go_ret
          refine ⟨?_, by rw [HT.out]; exact HB.out.trans (HR.out.mono hws)⟩
          show Ending.returned (.int .i64 ((d : Int) + 1)) = _
          rw [hd2.out]
          rfl
end Go.Proofs.Ytlcjepnaljfpkaa
namespace Go.Proofs.Ytlcjepnaljfpkaa
open Go.RowKit Wb
set_option maxRecDepth 100000 in
set_option maxHeartbeats 4000000 in
theorem deepf_any (n : Nd) (A K : Option Addr) (ca ck : Nat) (w : World) (hV : NodeV w n A K) (hs : smallN n) :
    Calls Try.prog 16 #[ndV n A ca K ck] w fun e w' => e = .returned (.int .i64 (deepR n 31)) ∧ Below w.heap.size w w' := by
  have hb1 := (Below.refl w.heap.size w).alloc (Nat.le_refl _) (.cells #[.int .i64 n.kind, .string n.name.1, .string n.name.2, .slice A n.attrs.length ca, .slice K n.kids.length ck, .string n.text] 27)
  have HN := Lib.hid (heap_alloc_new w (.cells #[.int .i64 n.kind, .string n.name.1, .string n.name.2, .slice A n.attrs.length ca, .slice K n.kids.length ck, .string n.text] 27))
  have hd := deep_any n A K ca ck 31 (w.alloc (.cells #[.int .i64 n.kind, .string n.name.1, .string n.name.2, .slice A n.attrs.length ca, .slice K n.kids.length ck, .string n.text] 27)) (by omega) (NodeV.below hV hb1) hs
  unfold ndV ndCells at hd ⊢
  have HB := Lib.hid hb1
  clear hV hb1
  obtain ⟨r, hr⟩ : ∃ r, deepR n 31 = r := ⟨_, rfl⟩
  rw [hr] at hd ⊢
  go_enter Try.func16, Try.ntmps16
  go_upto_region 1 with fail
  revert HN HB hd
  generalize w.alloc (.cells #[.int .i64 n.kind, .string n.name.1, .string n.name.2, .slice A n.attrs.length ca, .slice K n.kids.length ck, .string n.text] 27) = w1
  intro HN HB hd
  obtain ⟨n0, n1, n2, n3, n4, n5⟩ := cells_of_nd HN.out
  go_wp2_with fail
  refine hd.mono ?_
  rintro e w2 ⟨rfl, hb2⟩
  have HB2 := Lib.hid (HB.out.trans (hb2.mono HB.out.size))
  clear hb2
  go_wp2
  go_ret
  exact ⟨rfl, HB2.out⟩
theorem psame_any (A B : Option Addr) (l j : List Int) (ca cb : Nat) (w : World) (hA : SlI w A l) (hB : SlI w B j) (hl : l.length ≤ 1000000) :
    Calls Try.prog 18 #[.slice A l.length ca, .slice B j.length cb] w fun e w' => e = .returned (.bool (l == j)) ∧ Below w.heap.size w w' := by
  have HA := Lib.hid hA
  have HB := Lib.hid hB
  by_cases hln : l.length = j.length
  · obtain ⟨r, hr⟩ : ∃ r, (l == j) = r := ⟨_, rfl⟩
    rw [hr]
    have HR : Hid ((l.drop 0 == j.drop 0) = r) := Lib.hid (by simpa using hr)
    have HL := Lib.hid hln
    rw [← hln]
    clear hA hB hr hln
    go_enter Try.func18, Try.ntmps18
    go_wp2
    go_loopw [5] (fun vi wr => ∃ i : Nat, i ≤ l.length ∧ vi = .int .i64 i ∧ Hid ((l.drop i == j.drop i) = r) ∧ Hid (Below w.heap.size w wr)) (fun vi _ => ((l.length : Int) - intOf vi).toNat)
    case atStart => exact ⟨0, by omega, rfl, HR, Lib.hid (Below.refl _ _)⟩
    case round =>
      obtain ⟨i, hi, rfl, HT, HW⟩ := hrel
      by_cases h0 : i < l.length
      · obtain ⟨x, hx⟩ : ∃ x, l[i]? = some x := ⟨l[i], List.getElem?_eq_getElem h0⟩
        obtain ⟨y, hy⟩ : ∃ y, j[i]? = some y := ⟨j[i]'(by have := HL.out; omega), List.getElem?_eq_getElem (by have := HL.out; omega)⟩
        obtain ⟨ad, rfl, had, d0⟩ := (HA.out.below HW.out).at_ hx
        obtain ⟨bd, rfl, hbd, e0⟩ := (HB.out.below HW.out).at_ hy
        have ht := HT.out
        rw [List.drop_eq_getElem_cons h0, List.drop_eq_getElem_cons (l := j) (i := i) (by have := HL.out; omega), List.cons_beq_cons, (List.getElem?_eq_some_iff.1 hx).2, (List.getElem?_eq_some_iff.1 hy).2] at ht
        by_cases hxy : x = y
        · subst hxy
          have HT2 : Hid ((l.drop (i + 1) == j.drop (i + 1)) = r) := Lib.hid (by simpa using ht)
          have hi0 : (0 : Int) ≤ (i : Int) := by omega
          have hi1 : (i : Int) < (l.length : Int) := by omega
          clear ht hx hy HT had hbd HA HB HL HR
          go_wp2_with fail
          go_region
          go_wp2
          go_roundw
          case rel => exact ⟨i + 1, by omega, by go_num, HT2, Lib.hid HW.out.drew⟩
          case measure => simp [intOf]; omega
        · have HT2 : Hid (r = false) := Lib.hid (by rw [← ht]; simp [hxy])
          have hne : (x != y) = true := by simpa using hxy
          have hi0 : (0 : Int) ≤ (i : Int) := by omega
          have hi1 : (i : Int) < (l.length : Int) := by omega
          clear ht hx hy HT had hbd HA HB HL HR hxy
          go_wp2_with fail
          go_region
          go_wp2
          go_ret
          exact ⟨by have h := HT2.out; subst h; rfl, HW.out.drew⟩
      · have HT2 : Hid (r = true) := Lib.hid (by
          have ht := HT.out
          rw [List.drop_eq_nil_of_le (by omega), List.drop_eq_nil_of_le (by have := HL.out; omega)] at ht
          rw [← ht]; rfl)
        clear HT
        go_wp2
        go_ret
        exact ⟨by have h := HT2.out; subst h; rfl, HW.out⟩
  · have hr : (l == j) = false := by
      apply Bool.eq_false_iff.2
      intro h
      exact hln (by rw [beq_iff_eq.1 h])
    rw [hr]
    clear hA hB hr
    go_enter Try.func18, Try.ntmps18
    go_wp2
    go_ret
    exact ⟨rfl, Below.refl _ _⟩
end Go.Proofs.Ytlcjepnaljfpkaa
