import Derived.Test.YtjohfljkhlkjoaaGreatDoorMgSe
import Derived.Test.YtjohfljkhlkjoaaGreatDoorMgY
import Derived.Test.YtjohfljkhlkjoaaGreatDoorMgV
import Derived.Test.YtjohfljkhlkjoaaGreatDoorMgKi
import Derived.Deep.RegionHeld
import Derived.Deep.Cut
import Derived.BigRegion
namespace Wb
open Go Go.RowKit
theorem addr_at (g n : Nat) : (⟨g, 0, none⟩ : Addr).add n = ⟨g, n, none⟩ := by
  unfold Addr.add
  split
  · rename_i h; rw [h]
  · simp
theorem cell_apart {p a : Addr} (h : p.off ≠ a.off) : ∀ (w : World) (v : Value), (w.setCell p v).cell? a = w.cell? a := fun w v => World.cell?_setCell_other w p a v (fun e => h (by rw [e]))
theorem cell_far {p a : Addr} (h : p.block ≠ a.block) : ∀ (w : World) (v : Value), (w.setCell p v).cell? a = w.cell? a := fun w v => World.cell?_setCell_other w p a v (fun e => h (by rw [e]))
theorem alloc3 (w : World) (X Y Z : Obj) : Below w.heap.size w (((w.alloc X).alloc Y).alloc Z) ∧ (((w.alloc X).alloc Y).alloc Z).heap[w.heap.size]? = some X ∧ (((w.alloc X).alloc Y).alloc Z).heap[w.heap.size + 1]? = some Y ∧ (((w.alloc X).alloc Y).alloc Z).heap[w.heap.size + 2]? = some Z := by
  have hX := heap_alloc_new w X
  have hY := heap_alloc_new (w.alloc X) Y
  have hZ := heap_alloc_new ((w.alloc X).alloc Y) Z
  have s1 : (w.alloc X).heap.size = w.heap.size + 1 := by simp
  have s2 : ((w.alloc X).alloc Y).heap.size = w.heap.size + 2 := by simp
  rw [s1] at hY
  rw [s2] at hZ
  have hX2 := (Below.heap_alloc (w.alloc X) Y _ (blk_in hX)).trans hX
  exact ⟨(((Below.refl _ w).alloc (Nat.le_refl _) X).alloc (by simp) Y).alloc (by simp; omega) Z, (Below.heap_alloc ((w.alloc X).alloc Y) Z _ (blk_in hX2)).trans hX2, (Below.heap_alloc ((w.alloc X).alloc Y) Z _ (blk_in hY)).trans hY, hZ⟩
def RowA (w : World) (g : Nat) (t : TypeId) (l : List Tr) : Prop := ∃ cur : Array Value, w.heap[g]? = some (.cells cur t (0, 0)) ∧ ∀ (j : Nat) (u : Value), (cells3 l)[j]? = some u → cur[j]? = some u
theorem RowA.sl {w : World} {g : Nat} {t : TypeId} {l : List Tr} (h : RowA w g t l) : Sl3 w (some ⟨g, 0, none⟩) l := by
  obtain ⟨cur, h1, h2⟩ := h
  refine ⟨cells3_length l, fun _ => ⟨⟨g, 0, none⟩, rfl, blk_in h1, fun j u hu => ?_⟩⟩
  rw [addr_at, blk_cell h1]
  exact h2 j u hu
theorem cells3_set {l : List Tr} {i : Nat} (v : Tr) (hi : i < l.length) : cells3 (l.set i v) = (((cells3 l).set (i * 3) (.string v.1.1)).set (i * 3 + 1) (.string v.1.2)).set (i * 3 + 2) (.string v.2) := by
  induction l generalizing i with
  | nil => simp at hi
  | cons x l ih =>
    cases i with
    | zero => simp [cells3_cons]
    | succ i =>
      rw [List.set_cons_succ, cells3_cons, ih (by simpa using hi), cells3_cons, show (i + 1) * 3 = i * 3 + 1 + 1 + 1 from by omega]
      simp
theorem RowA.set {w : World} {g : Nat} {t : TypeId} {l : List Tr} (h : RowA w g t l) {i : Nat} (v : Tr) (hi : i < l.length) : RowA (((w.setCell ⟨g, i * 3, none⟩ (.string v.1.1)).setCell ⟨g, i * 3 + 1, none⟩ (.string v.1.2)).setCell ⟨g, i * 3 + 2, none⟩ (.string v.2)) g t (l.set i v) := by
  obtain ⟨cur, h1, h2⟩ := h
  refine ⟨_, blk_set (blk_set (blk_set h1 (i * 3) _) (i * 3 + 1) _) (i * 3 + 2) _, fun j u hu => ?_⟩
  have key : ∀ (xs : List Value) (c : Array Value) (p : Nat) (x : Value), (∀ (j : Nat) (u : Value), xs[j]? = some u → c[j]? = some u) → ∀ (j : Nat) (u : Value), (xs.set p x)[j]? = some u → (c.setIfInBounds p x)[j]? = some u := by
    intro xs c p x hh j u hu
    rw [List.getElem?_set] at hu
    by_cases e : p = j
    · subst e
      rw [if_pos rfl] at hu
      split at hu
      · rename_i hp
        have := hh p xs[p] (List.getElem?_eq_getElem hp)
        have hc := (Array.getElem?_eq_some_iff.1 this).1
        simp only [Option.some.injEq] at hu
        subst hu
        simp [hc]
      · cases hu
    · rw [if_neg e] at hu
      have := hh j u hu
      rw [Array.getElem?_setIfInBounds_ne e]
      exact this
  rw [cells3_set v hi] at hu
  exact key _ _ _ _ (key _ _ _ _ (key _ _ _ _ h2)) j u hu
theorem row_keep (w : World) (g i : Nat) (a b c : Value) : Keep (fun k => k = g) w (((w.setCell ⟨g, i * 3, none⟩ a).setCell ⟨g, i * 3 + 1, none⟩ b).setCell ⟨g, i * 3 + 2, none⟩ c) :=
  (((Keep.refl (fun k => k = g) w).setCell (p := ⟨g, i * 3, none⟩) rfl a).setCell (p := ⟨g, i * 3 + 1, none⟩) rfl b).setCell (p := ⟨g, i * 3 + 2, none⟩) rfl c
theorem swap_perm {l : List Tr} {i k : Nat} {x y : Tr} (hx : l[i]? = some x) (hy : l[k]? = some y) (hne : i ≠ k) : l.Perm ((l.set i y).set k x) := by
  rw [← permA_iff]
  have hi := (List.getElem?_eq_some_iff.1 hx).1
  have hk := (List.getElem?_eq_some_iff.1 hy).1
  refine perm_yes (by simp) fun z => ?_
  have cset : ∀ (l : List Tr) (i : Nat) (x y : Tr), l[i]? = some x → cntA z (l.set i y) + (if x = z then 1 else 0) = cntA z l + (if y = z then 1 else 0) := by
    intro l
    induction l with
    | nil => intro i x y h; simp at h
    | cons a l ih =>
      intro i x y h
      cases i with
      | zero =>
        simp only [List.getElem?_cons_zero, Option.some.injEq] at h
        subst h
        rw [List.set_cons_zero, cntA_cons, cntA_cons]
        omega
      | succ i =>
        rw [List.set_cons_succ, cntA_cons, cntA_cons]
        have := ih i x y (by simpa using h)
        omega
  have h1 := cset l i x y hx
  have h2 := cset (l.set i y) k y x (by rw [List.getElem?_set_ne hne]; exact hy)
  omega
theorem exch {w : World} {g : Nat} {t : TypeId} {l : List Tr} {i k : Nat} {ad : Addr} (hai : ad.add (i * 3) = ⟨g, i * 3, none⟩) (hak : ad.add (k * 3) = ⟨g, k * 3, none⟩) (h : RowA w g t l) (hi : i < l.length) (hk : k < l.length) (x y : Tr) :
    RowA ((((((w.setCell (ad.add (i * 3)) (.string y.1.1)).setCell ⟨(ad.add (i * 3)).block, (ad.add (i * 3)).off + 1, none⟩ (.string y.1.2)).setCell ⟨(ad.add (i * 3)).block, (ad.add (i * 3)).off + 2, none⟩ (.string y.2)).setCell (ad.add (k * 3)) (.string x.1.1)).setCell ⟨(ad.add (k * 3)).block, (ad.add (k * 3)).off + 1, none⟩ (.string x.1.2)).setCell ⟨(ad.add (k * 3)).block, (ad.add (k * 3)).off + 2, none⟩ (.string x.2)).drew g t ((l.set i y).set k x) ∧
    Keep (fun b => b = g) w ((((((w.setCell (ad.add (i * 3)) (.string y.1.1)).setCell ⟨(ad.add (i * 3)).block, (ad.add (i * 3)).off + 1, none⟩ (.string y.1.2)).setCell ⟨(ad.add (i * 3)).block, (ad.add (i * 3)).off + 2, none⟩ (.string y.2)).setCell (ad.add (k * 3)) (.string x.1.1)).setCell ⟨(ad.add (k * 3)).block, (ad.add (k * 3)).off + 1, none⟩ (.string x.1.2)).setCell ⟨(ad.add (k * 3)).block, (ad.add (k * 3)).off + 2, none⟩ (.string x.2)).drew := by
  rw [hai, hak]
  dsimp only
  have h1 := h.set y hi
  have k1 := row_keep w g i (.string y.1.1) (.string y.1.2) (.string y.2)
  revert h1 k1
  generalize (((w.setCell ⟨g, i * 3, none⟩ (.string y.1.1)).setCell ⟨g, i * 3 + 1, none⟩ (.string y.1.2)).setCell ⟨g, i * 3 + 2, none⟩ (.string y.2)) = w1
  intro h1 k1
  have h2 := h1.set x (i := k) (by simpa using hk)
  have k2 := row_keep w1 g k (.string x.1.1) (.string x.1.2) (.string x.2)
  revert h2 k2
  generalize (((w1.setCell ⟨g, k * 3, none⟩ (.string x.1.1)).setCell ⟨g, k * 3 + 1, none⟩ (.string x.1.2)).setCell ⟨g, k * 3 + 2, none⟩ (.string x.2)) = w2
  intro h2 k2
  exact ⟨h2, (k1.trans k2).trans (Keep.of_below _ (Below.refl _ _).drew)⟩
theorem szN_turn {a : Nd} {l : List Tr} (h : szN a) (hp : a.attrs.Perm l) : szN (.mk a.kind a.name l a.kids a.text) := by
  obtain ⟨k, nm, al, ks, t⟩ := a
  obtain ⟨h1, h2, h3, h4, h5⟩ := h
  exact ⟨h1, h2, fun x hx => h3 x (hp.mem_iff.2 hx), h4, h5⟩
theorem smallN_turn {a : Nd} {l : List Tr} (h : smallN a) (hl : l.length = a.attrs.length) : smallN (.mk a.kind a.name l a.kids a.text) := by
  obtain ⟨h1, h2, h3⟩ := (smallN_is a).1 h
  exact (smallN_is _).2 ⟨by show l.length ≤ _; omega, h2, h3⟩
end Wb
namespace Go.Proofs.YtjohfljkhlkjoaaGreatDoor
open Go.RowKit Wb
set_option maxRecDepth 100000 in
set_option maxHeartbeats 8000000 in
theorem tsame_walk (a b c : Nd) (A K B L C M : Option Addr) (ca ck cb cl cc cm : Nat) (w : World) (hG : Gv w) (hVa : NodeV w a A K) (hVb : NodeV w b B L) (hVc : NodeV w c C M) (hla : lenN 9223372036854775807 a) (hlb : lenN 9223372036854775807 b) (hlc : lenN 9223372036854775807 c) :
    Calls Tryz.prog 4 #[ndV a A ca K ck, ndV b B cb L cl, ndV c C cc M cm] w fun e w' => e = .returned (.bool true) ∧ Below w.heap.size w w' := by
  obtain ⟨hb3, hna, hnb, hnc⟩ := alloc3 w (.cells #[.int .i64 a.kind, .string a.name.1, .string a.name.2, .slice A a.attrs.length ca, .slice K a.kids.length ck, .string a.text] 37) (.cells #[.int .i64 b.kind, .string b.name.1, .string b.name.2, .slice B b.attrs.length cb, .slice L b.kids.length cl, .string b.text] 37) (.cells #[.int .i64 c.kind, .string c.name.1, .string c.name.2, .slice C c.attrs.length cc, .slice M c.kids.length cm, .string c.text] 37)
  have H1 := Lib.hid (awake4 _ (hG.next hb3))
  have HVA := Lib.hid (NodeV.below hVa hb3)
  have HVB := Lib.hid (NodeV.below hVb hb3)
  have HVC := Lib.hid (NodeV.below hVc hb3)
  have HNA := Lib.hid hna
  have HNB := Lib.hid hnb
  have HNC := Lib.hid hnc
  have HB := Lib.hid hb3
  have hws := hb3.size
  have HLA := Lib.hid hla
  have HLB := Lib.hid hlb
  have HLC := Lib.hid hlc
  clear hb3 hna hnb hnc hVa hVb hVc hG hla hlb hlc
  unfold ndV ndCells
  go_enter Tryz.func4, Tryz.ntmps4
  go_upto_region 1 with fail
  revert H1 HVA HVB HVC HNA HNB HNC HB hws
  generalize (((w.alloc (.cells #[.int .i64 a.kind, .string a.name.1, .string a.name.2, .slice A a.attrs.length ca, .slice K a.kids.length ck, .string a.text] 37)).alloc (.cells #[.int .i64 b.kind, .string b.name.1, .string b.name.2, .slice B b.attrs.length cb, .slice L b.kids.length cl, .string b.text] 37)).alloc (.cells #[.int .i64 c.kind, .string c.name.1, .string c.name.2, .slice C c.attrs.length cc, .slice M c.kids.length cm, .string c.text] 37)) = wz
  intro H1 HVA HVB HVC HNA HNB HNC HB hws
  generalize hT : w.heap.size = T at *
  have HT := Lib.hid hT
  clear hT
  have HS := Lib.hid (fun (v : World) (h : Below wz.heap.size wz v) => (show v.cell? ⟨T, 0, none⟩ = some (.int .i64 a.kind) ∧ v.cell? ⟨T, 1, none⟩ = some (.string a.name.1) ∧ v.cell? ⟨T, 2, none⟩ = some (.string a.name.2) ∧ v.cell? ⟨T, 3, none⟩ = some (.slice A a.attrs.length ca) ∧ v.cell? ⟨T, 4, none⟩ = some (.slice K a.kids.length ck) ∧ v.cell? ⟨T, 5, none⟩ = some (.string a.text) ∧ v.cell? ⟨T + 1, 0, none⟩ = some (.int .i64 b.kind) ∧ v.cell? ⟨T + 1, 1, none⟩ = some (.string b.name.1) ∧ v.cell? ⟨T + 1, 2, none⟩ = some (.string b.name.2) ∧ v.cell? ⟨T + 1, 3, none⟩ = some (.slice B b.attrs.length cb) ∧ v.cell? ⟨T + 1, 4, none⟩ = some (.slice L b.kids.length cl) ∧ v.cell? ⟨T + 1, 5, none⟩ = some (.string b.text) ∧ v.cell? ⟨T + 2, 0, none⟩ = some (.int .i64 c.kind) ∧ v.cell? ⟨T + 2, 1, none⟩ = some (.string c.name.1) ∧ v.cell? ⟨T + 2, 2, none⟩ = some (.string c.name.2) ∧ v.cell? ⟨T + 2, 3, none⟩ = some (.slice C c.attrs.length cc) ∧ v.cell? ⟨T + 2, 4, none⟩ = some (.slice M c.kids.length cm) ∧ v.cell? ⟨T + 2, 5, none⟩ = some (.string c.text) from ⟨blk_cell (still_block HNA.out h) 0, blk_cell (still_block HNA.out h) 1, blk_cell (still_block HNA.out h) 2, blk_cell (still_block HNA.out h) 3, blk_cell (still_block HNA.out h) 4, blk_cell (still_block HNA.out h) 5, blk_cell (still_block HNB.out h) 0, blk_cell (still_block HNB.out h) 1, blk_cell (still_block HNB.out h) 2, blk_cell (still_block HNB.out h) 3, blk_cell (still_block HNB.out h) 4, blk_cell (still_block HNB.out h) 5, blk_cell (still_block HNC.out h) 0, blk_cell (still_block HNC.out h) 1, blk_cell (still_block HNC.out h) 2, blk_cell (still_block HNC.out h) 3, blk_cell (still_block HNC.out h) 4, blk_cell (still_block HNC.out h) 5⟩))
  have CA := Lib.hid (fun (v : World) (h : Below wz.heap.size wz v) => cells_of_nd (still_block HNA.out h))
  have CB := Lib.hid (fun (v : World) (h : Below wz.heap.size wz v) => cells_of_nd (still_block HNB.out h))
  have CC := Lib.hid (fun (v : World) (h : Below wz.heap.size wz v) => cells_of_nd (still_block HNC.out h))
  have FA := Lib.hid (fun (v : World) (h : Below wz.heap.size wz v) => tfew_any a A K ca ck v (NodeV.below HVA.out h) HLA.out)
  have FB := Lib.hid (fun (v : World) (h : Below wz.heap.size wz v) => tfew_any b B L cb cl v (NodeV.below HVB.out h) HLB.out)
  have FC := Lib.hid (fun (v : World) (h : Below wz.heap.size wz v) => tfew_any c C M cc cm v (NodeV.below HVC.out h) HLC.out)
  unfold ndV ndCells at FA FB FC
  have h1 := H1.out
  clear HNA HNB HNC HLA HLB HLC H1
  go_wp2_with fail
  refine h1.mono ?_
  rintro e w4 ⟨rfl, hb4⟩
  have HBC := Lib.hid hb4
  clear h1 hb4
  obtain ⟨n0, n1, n2, n3, n4, n5⟩ := CA.out _ HBC.out
  by_cases hfa : weighN a 30000 ≤ 30000
  case neg =>
    have hf := FA.out _ HBC.out
    rw [decide_eq_false hfa] at hf
    go_wp2_with fail
    refine hf.mono ?_
    rintro e w5 ⟨rfl, hb5⟩
    have HBC := Lib.hid (HBC.out.trans (hb5.mono HBC.out.size))
    clear hf hb5 n0 n1 n2 n3 n4 n5
    go_wp2
    go_ret
    exact ⟨rfl, by rw [HT.out]; exact HB.out.trans (HBC.out.mono hws)⟩
  case pos =>
  have hf := FA.out _ HBC.out
  rw [decide_eq_true hfa] at hf
  go_wp2_with fail
  refine hf.mono ?_
  rintro e w5 ⟨rfl, hb5⟩
  have HBC := Lib.hid (HBC.out.trans (hb5.mono HBC.out.size))
  clear hf hb5 n0 n1 n2 n3 n4 n5
  obtain ⟨n0, n1, n2, n3, n4, n5⟩ := CB.out _ HBC.out
  by_cases hfb : weighN b 30000 ≤ 30000
  case neg =>
    have hf := FB.out _ HBC.out
    rw [decide_eq_false hfb] at hf
    go_wp2_with fail
    refine hf.mono ?_
    rintro e w6 ⟨rfl, hb6⟩
    have HBC := Lib.hid (HBC.out.trans (hb6.mono HBC.out.size))
    clear hf hb6 n0 n1 n2 n3 n4 n5
    go_wp2
    go_ret
    exact ⟨rfl, by rw [HT.out]; exact HB.out.trans (HBC.out.mono hws)⟩
  case pos =>
  have hf := FB.out _ HBC.out
  rw [decide_eq_true hfb] at hf
  go_wp2_with fail
  refine hf.mono ?_
  rintro e w6 ⟨rfl, hb6⟩
  have HBC := Lib.hid (HBC.out.trans (hb6.mono HBC.out.size))
  clear hf hb6 n0 n1 n2 n3 n4 n5
  obtain ⟨n0, n1, n2, n3, n4, n5⟩ := CC.out _ HBC.out
  by_cases hfc : weighN c 30000 ≤ 30000
  case neg =>
    have hf := FC.out _ HBC.out
    rw [decide_eq_false hfc] at hf
    go_wp2_with fail
    refine hf.mono ?_
    rintro e w7 ⟨rfl, hb7⟩
    have HBC := Lib.hid (HBC.out.trans (hb7.mono HBC.out.size))
    clear hf hb7 n0 n1 n2 n3 n4 n5
    go_wp2
    go_ret
    exact ⟨rfl, by rw [HT.out]; exact HB.out.trans (HBC.out.mono hws)⟩
  case pos =>
  have hf := FC.out _ HBC.out
  rw [decide_eq_true hfc] at hf
  go_wp2_with fail
  refine hf.mono ?_
  rintro e w7 ⟨rfl, hb7⟩
  have HBC := Lib.hid (HBC.out.trans (hb7.mono HBC.out.size))
  clear hf hb7 n0 n1 n2 n3 n4 n5 FA FB FC
  have hsa := few_small a 30000 (by omega) hfa
  have hsb := few_small b 30000 (by omega) hfb
  have hsc := few_small c 30000 (by omega) hfc
  have hza := few_sz a 30000 (by omega) hfa
  have hzb := few_sz b 30000 (by omega) hfb
  have hzc := few_sz c 30000 (by omega) hfc
  have SAB := Lib.hid (fun (v : World) (h : Below wz.heap.size wz v) => Same_any a b A K B L ca ck cb cl v hza hzb hsa hsb (NodeV.below HVA.out h) (NodeV.below HVB.out h))
  have SBC := Lib.hid (fun (v : World) (h : Below wz.heap.size wz v) => Same_any b c B L C M cb cl cc cm v hzb hzc hsb hsc (NodeV.below HVB.out h) (NodeV.below HVC.out h))
  have SAC := Lib.hid (fun (v : World) (h : Below wz.heap.size wz v) => Same_any a c A K C M ca ck cc cm v hza hzc hsa hsc (NodeV.below HVA.out h) (NodeV.below HVC.out h))
  have SBA := Lib.hid (fun (v : World) (h : Below wz.heap.size wz v) => Same_any b a B L A K cb cl ca ck v hzb hza hsb hsa (NodeV.below HVB.out h) (NodeV.below HVA.out h))
  have SAA := Lib.hid (fun (v : World) (h : Below wz.heap.size wz v) => Same_any a a A K A K ca ck ca ck v hza hza hsa hsa (NodeV.below HVA.out h) (NodeV.below HVA.out h))
  have RAB := Lib.hid (fun (v : World) (h : Below wz.heap.size wz v) => rSame_any a b A K B L ca ck cb cl v hsa hsb (NodeV.below HVA.out h) (NodeV.below HVB.out h))
  have RBC := Lib.hid (fun (v : World) (h : Below wz.heap.size wz v) => rSame_any b c B L C M cb cl cc cm v hsb hsc (NodeV.below HVB.out h) (NodeV.below HVC.out h))
  have CPA := Lib.hid (fun (v : World) (h : Below wz.heap.size wz v) => copy_any a A K ca ck v (NodeV.below HVA.out h) hsa)
  have HSA := Lib.hid hsa
  have HZA := Lib.hid hza
  rw [sameN_comm b a] at SBA
  rw [sameN_refl a] at SAA
  have tr1 : sameN a b = true → sameN b c = true → sameN a c = true := sameN_trans a b c
  have tr2 : sameN a b = true → sameN a c = true → sameN b c = true := fun h g => sameN_trans b a c (sameN_symm a b h) g
  obtain ⟨q1, g1⟩ : ∃ q, sameN a b = q := ⟨_, rfl⟩
  obtain ⟨q2, g2⟩ : ∃ q, sameN b c = q := ⟨_, rfl⟩
  obtain ⟨q3, g3⟩ : ∃ q, sameN a c = q := ⟨_, rfl⟩
  rw [g1] at SAB SBA RAB tr1 tr2
  rw [g2] at SBC RBC tr1 tr2
  rw [g3] at SAC tr1 tr2
  have TR1 := Lib.hid tr1
  have TR2 := Lib.hid tr2
  unfold ndV ndCells at SAB SBC SAC SBA SAA RAB RBC CPA
  clear hsa hsb hsc hza hzb hzc hfa hfb hfc tr1 tr2 g1 g2 g3 HVB HVC
  go_upto_region 5 with fail
  go_cut [7, 8, 9] from 13 (fun s7 s8 s9 wx => s7 = .bool q1 ∧ s8 = .bool q2 ∧ s9 = .bool q3 ∧ Hid (Below wz.heap.size wz wx))
  case first =>
    go_wp2_with fail
    (try simp only [List.append])
    refine wp_region_held_drew (S := (fun v => v.cell? ⟨T, 0, none⟩ = some (.int .i64 a.kind) ∧ v.cell? ⟨T, 1, none⟩ = some (.string a.name.1) ∧ v.cell? ⟨T, 2, none⟩ = some (.string a.name.2) ∧ v.cell? ⟨T, 3, none⟩ = some (.slice A a.attrs.length ca) ∧ v.cell? ⟨T, 4, none⟩ = some (.slice K a.kids.length ck) ∧ v.cell? ⟨T, 5, none⟩ = some (.string a.text) ∧ v.cell? ⟨T + 1, 0, none⟩ = some (.int .i64 b.kind) ∧ v.cell? ⟨T + 1, 1, none⟩ = some (.string b.name.1) ∧ v.cell? ⟨T + 1, 2, none⟩ = some (.string b.name.2) ∧ v.cell? ⟨T + 1, 3, none⟩ = some (.slice B b.attrs.length cb) ∧ v.cell? ⟨T + 1, 4, none⟩ = some (.slice L b.kids.length cl) ∧ v.cell? ⟨T + 1, 5, none⟩ = some (.string b.text) ∧ v.cell? ⟨T + 2, 0, none⟩ = some (.int .i64 c.kind) ∧ v.cell? ⟨T + 2, 1, none⟩ = some (.string c.name.1) ∧ v.cell? ⟨T + 2, 2, none⟩ = some (.string c.name.2) ∧ v.cell? ⟨T + 2, 3, none⟩ = some (.slice C c.attrs.length cc) ∧ v.cell? ⟨T + 2, 4, none⟩ = some (.slice M c.kids.length cm) ∧ v.cell? ⟨T + 2, 5, none⟩ = some (.string c.text))) (by kernel_rfl) (HS.out _ HBC.out.drew) (fun hHeld => ?_)
    refine takeW 0 ?_
    refine takeW 1 ?_
    refine takeW 3 ?_
    refine takeW 4 ?_
    (try simp only [Act.put, List.setIfInBounds_toArray, List.set_cons_zero, List.set_cons_succ])
    refine takeW 6 ?_
    refine takeW 7 ?_
    (try simp only [Act.put, List.setIfInBounds_toArray, List.set_cons_zero, List.set_cons_succ])
    refine wpAnyH_ready (rs := [2]) (by kernel_rfl) (by simp) ?_
    refine AllReadyH.cons rfl (fun K2 hK2 => ?_) AllReadyH.nil
    go_simp
    refine (SAB.out _ (by first | exact HBD.out | exact HBC.out.drew)).mono ?_
    rintro e wn ⟨rfl, hbn⟩
    have HBD : Hid (Below wz.heap.size wz wn) := Lib.hid (by first | exact HBD.out.trans (hbn.mono HBD.out.size) | exact HBC.out.drew.trans (hbn.mono HBC.out.drew.size))
    clear hbn
    refine hK2.out _ _ (HS.out _ HBD.out) (fun hHeld2 => ?_)
    (try simp only [Act.put, List.setIfInBounds_toArray, List.set_cons_zero, List.set_cons_succ])
    refine wpAnyH_ready (rs := [5]) (by kernel_rfl) (by simp) ?_
    refine AllReadyH.cons rfl (fun K2 hK2 => ?_) AllReadyH.nil
    go_simp
    refine (SBC.out _ (by first | exact HBD.out | exact HBC.out.drew)).mono ?_
    rintro e wn ⟨rfl, hbn⟩
    have HBD : Hid (Below wz.heap.size wz wn) := Lib.hid (by first | exact HBD.out.trans (hbn.mono HBD.out.size) | exact HBC.out.drew.trans (hbn.mono HBC.out.drew.size))
    clear hbn
    refine hK2.out _ _ (HS.out _ HBD.out) (fun hHeld2 => ?_)
    (try simp only [Act.put, List.setIfInBounds_toArray, List.set_cons_zero, List.set_cons_succ])
    refine wpAnyH_ready (rs := [8]) (by kernel_rfl) (by simp) ?_
    refine AllReadyH.cons rfl (fun K2 hK2 => ?_) AllReadyH.nil
    go_simp
    refine (SAC.out _ (by first | exact HBD.out | exact HBC.out.drew)).mono ?_
    rintro e wn ⟨rfl, hbn⟩
    have HBD : Hid (Below wz.heap.size wz wn) := Lib.hid (by first | exact HBD.out.trans (hbn.mono HBD.out.size) | exact HBC.out.drew.trans (hbn.mono HBC.out.drew.size))
    clear hbn
    refine hK2.out _ _ (HS.out _ HBD.out) (fun hHeld2 => ?_)
    refine takeW 9 ?_
    refine takeW 10 ?_
    (try simp only [Act.put, List.setIfInBounds_toArray, List.set_cons_zero, List.set_cons_succ])
    refine takeW 11 ?_
    (try simp only [Act.put, List.setIfInBounds_toArray, List.set_cons_zero, List.set_cons_succ])
    refine wpAnyH_done (by kernel_rfl) ?_ _
    go_wp2_with fail
    go_meet
    case rel => exact ⟨rfl, rfl, rfl, HBD⟩
  case rest =>
    obtain ⟨rfl, rfl, rfl, HBD⟩ := hcut
    have hx1 : (q1 != q1) = false := by simp
    have hx2 : (q2 != q2) = false := by simp
    clear HBC SAB SBC SAC HS
    have HBC := HBD
    clear HBD
    obtain ⟨n0, n1, n2, n3, n4, n5⟩ := CA.out _ HBC.out
    obtain ⟨m0, m1, m2, m3, m4, m5⟩ := CB.out _ HBC.out
    have hc := RAB.out _ HBC.out
    go_wp2_with fail
    refine hc.mono ?_
    rintro e wn ⟨rfl, hbn⟩
    have HBD := Lib.hid (HBC.out.trans (hbn.mono HBC.out.size))
    clear hc hbn n0 n1 n2 n3 n4 n5 m0 m1 m2 m3 m4 m5 HBC RAB
    have HBC := HBD
    clear HBD
    obtain ⟨n0, n1, n2, n3, n4, n5⟩ := CB.out _ HBC.out
    obtain ⟨m0, m1, m2, m3, m4, m5⟩ := CC.out _ HBC.out
    have hc := RBC.out _ HBC.out
    go_wp2_with fail
    refine hc.mono ?_
    rintro e wn ⟨rfl, hbn⟩
    have HBD := Lib.hid (HBC.out.trans (hbn.mono HBC.out.size))
    clear hc hbn n0 n1 n2 n3 n4 n5 m0 m1 m2 m3 m4 m5 HBC RBC
    have HBC := HBD
    clear HBD
    obtain ⟨n0, n1, n2, n3, n4, n5⟩ := CB.out _ HBC.out
    obtain ⟨m0, m1, m2, m3, m4, m5⟩ := CA.out _ HBC.out
    have hc := SBA.out _ HBC.out
    go_wp2_with fail
    refine hc.mono ?_
    rintro e wn ⟨rfl, hbn⟩
    have HBD := Lib.hid (HBC.out.trans (hbn.mono HBC.out.size))
    clear hc hbn n0 n1 n2 n3 n4 n5 m0 m1 m2 m3 m4 m5 HBC SBA
    have HBC := HBD
    clear HBD
    obtain ⟨n0, n1, n2, n3, n4, n5⟩ := CA.out _ HBC.out
    obtain ⟨m0, m1, m2, m3, m4, m5⟩ := CA.out _ HBC.out
    have hc := SAA.out _ HBC.out
    go_wp2_with fail
    refine hc.mono ?_
    rintro e wn ⟨rfl, hbn⟩
    have HBD := Lib.hid (HBC.out.trans (hbn.mono HBC.out.size))
    clear hc hbn n0 n1 n2 n3 n4 n5 m0 m1 m2 m3 m4 m5 HBC SAA
    have HBC := HBD
    clear HBD
    obtain ⟨n0, n1, n2, n3, n4, n5⟩ := CA.out _ HBC.out
    have hc := CPA.out _ HBC.out
    go_wp2_with fail
    refine hc.mono ?_
    rintro e w11 ⟨hb11, A2, c2, kv, rfl, hcp⟩
    obtain ⟨Kv, cv, hkv, hsk⟩ := hcp.kids.sl (S' := fun k => a.attrs ≠ [] ∧ ∃ ad, A2 = some ad ∧ ad.block = k) (fun k hs => .inr (.inr hs.2)) (fun k hv hs => by
      obtain ⟨h0, ad, e1, e2⟩ := hs
      exact hcp.apart h0 ad e1 (by rw [hv, e2]))
    subst hkv
    have hats := hcp.ats
    have hfree := hcp.free
    have hgs := HBC.out.size
    have HBD := Lib.hid (HBC.out.trans (hb11.mono HBC.out.size))
    have HROW : Hid (a.attrs ≠ [] → ∃ g : Nat, A2 = some ⟨g, 0, none⟩ ∧ wz.heap.size ≤ g ∧ g < w11.heap.size ∧ RowA w11 g 42 a.attrs) := Lib.hid (fun h0 => by
      obtain ⟨ad, e1, e2, e3⟩ := hats.2 (List.length_pos_iff.2 h0)
      obtain ⟨g, cur, f1, f2, f3⟩ := hfree h0 ad e1
      subst f1
      refine ⟨g, e1, by omega, blk_in f3, cur, f3, fun j u hu => ?_⟩
      have := e3 j u hu
      rw [addr_at, blk_cell f3] at this
      exact this)
    have hbt : Below w11.heap.size w11 (w11.alloc (.cells #[.int .i64 a.kind, .string a.name.1, .string a.name.2, .slice A2 a.attrs.length c2, .slice Kv a.kids.length cv, .string a.text] 37)) := (Below.refl _ w11).alloc (Nat.le_refl _) _
    have HTB := Lib.hid (heap_alloc_new w11 (.cells #[.int .i64 a.kind, .string a.name.1, .string a.name.2, .slice A2 a.attrs.length c2, .slice Kv a.kids.length cv, .string a.text] 37))
    have HSK := Lib.hid (hsk.keep (Keep.of_below _ hbt) (fun _ _ h => h))
    have HBE := Lib.hid (HBD.out.trans (hbt.mono HBD.out.size))
    have HROW : Hid (a.attrs ≠ [] → ∃ g : Nat, A2 = some ⟨g, 0, none⟩ ∧ wz.heap.size ≤ g ∧ g < w11.heap.size ∧ RowA (w11.alloc (.cells #[.int .i64 a.kind, .string a.name.1, .string a.name.2, .slice A2 a.attrs.length c2, .slice Kv a.kids.length cv, .string a.text] 37)) g 42 a.attrs) := Lib.hid (fun h0 => by
      obtain ⟨g, e1, e2, e3, cur, f3, f4⟩ := HROW.out h0
      exact ⟨g, e1, e2, e3, cur, still_block f3 hbt, f4⟩)
    have hlen := ((smallN_is a).1 HSA.out).1
    unfold cpC
    clear hc hb11 hcp hsk hats hfree hgs hbt HBC HBD n0 n1 n2 n3 n4 n5 CPA
    go_upto_region 9 with fail
    revert HTB HSK HBE HROW
    generalize (w11.alloc (.cells #[.int .i64 a.kind, .string a.name.1, .string a.name.2, .slice A2 a.attrs.length c2, .slice Kv a.kids.length cv, .string a.text] 37)) = wt
    intro HTB HSK HBE HROW
    generalize w11.heap.size = TB at *
    have t3 := blk_cell HTB.out 3
    simp only [List.getElem?_toArray, List.getElem?_cons_zero, List.getElem?_cons_succ] at t3
    have hwr : Go.IntKind.i64.wrap ((a.attrs.length : Int) - 1) = (a.attrs.length : Int) - 1 := by
      simp [Go.IntKind.wrap, Go.IntKind.bits, Go.IntKind.signed]
      omega
    have hl0 : (0 : Int) ≤ (a.attrs.length : Int) := by omega
    have hl1 : (a.attrs.length : Int) ≤ 1000000 := by omega
    go_region
    go_wp2
    go_loopw [11, 12] (fun vi vk wr => ∃ (i : Nat) (k : Int) (l : List Tr), vi = .int .i64 i ∧ vk = .int .i64 k ∧ k = (a.attrs.length : Int) - 1 - i ∧ 2 * i ≤ a.attrs.length + 1 ∧ l.length = a.attrs.length ∧ Hid (a.attrs.Perm l) ∧ Hid (a.attrs ≠ [] → ∃ g : Nat, A2 = some ⟨g, 0, none⟩ ∧ wz.heap.size ≤ g ∧ g < TB ∧ RowA wr g 42 l) ∧ Hid (Keep (fun k => a.attrs ≠ [] ∧ ∃ ad, A2 = some ad ∧ ad.block = k) wt wr)) (fun vi _ _ => ((a.attrs.length : Int) - intOf vi).toNat)
    case atStart => exact ⟨0, _, a.attrs, rfl, by go_num, by omega, by omega, rfl, Lib.hid (List.Perm.refl _), HROW, Lib.hid ((Keep.refl _ wt).trans (Keep.of_below _ (Below.refl _ wt).drew))⟩
    case round =>
      obtain ⟨i, k, l, rfl, rfl, hk, hi2, hll, HP, HR, HK⟩ := hrel
      by_cases h0 : 2 * i + 1 < a.attrs.length
      · have hane : a.attrs ≠ [] := fun e => by rw [e] at h0; simp at h0
        obtain ⟨g, rfl, hg1, hg2, hrow⟩ := HR.out hane
        obtain ⟨kn, rfl⟩ : ∃ kn : Nat, k = kn := ⟨k.toNat, by omega⟩
        obtain ⟨⟨⟨x1, x2⟩, x3⟩, hx⟩ : ∃ x, l[i]? = some x := ⟨l[i]'(by omega), List.getElem?_eq_getElem (by omega)⟩
        obtain ⟨⟨⟨y1, y2⟩, y3⟩, hy⟩ : ∃ y, l[kn]? = some y := ⟨l[kn]'(by omega), List.getElem?_eq_getElem (by omega)⟩
        obtain ⟨ad, e1, _, c1, c2', c3⟩ := hrow.sl.at_ hx
        obtain ⟨ad2, e2, _, d1, d2, d3⟩ := hrow.sl.at_ hy
        obtain rfl : ad2 = ad := Option.some.inj (e2.symm.trans e1)
        simp only at c1 c2' c3 d1 d2 d3
        have had : ad2 = ⟨g, 0, none⟩ := (Option.some.inj e1).symm
        have ai : ad2.add (i * 3) = ⟨g, i * 3, none⟩ := by rw [had, addr_at]
        have ak : ad2.add (kn * 3) = ⟨g, kn * 3, none⟩ := by rw [had, addr_at]
        obtain ⟨cur, hcur, hcells⟩ := hrow
        have hne : TB ≠ g := by omega
        have hTr := (HK.out.block TB (blk_in HTB.out) (by rintro ⟨_, ad, e3, e4⟩; simp only [Option.some.injEq] at e3; rw [← e3] at e4; exact hne e4.symm)).trans HTB.out
        have t3r := blk_cell hTr 3
        simp only [List.getElem?_toArray, List.getElem?_cons_zero, List.getElem?_cons_succ] at t3r
        rw [e1] at t3r
        have f1 : wr.frozen? (ad2.add (i * 3)) = false := by rw [ai]; exact blk_free hcur _
        have f2 : wr.frozen? ⟨(ad2.add (i * 3)).block, (ad2.add (i * 3)).off + 1, none⟩ = false := by rw [ai]; exact blk_free hcur _
        have f3 : wr.frozen? ⟨(ad2.add (i * 3)).block, (ad2.add (i * 3)).off + 2, none⟩ = false := by rw [ai]; exact blk_free hcur _
        have f4 : wr.frozen? (ad2.add (kn * 3)) = false := by rw [ak]; exact blk_free hcur _
        have f5 : wr.frozen? ⟨(ad2.add (kn * 3)).block, (ad2.add (kn * 3)).off + 1, none⟩ = false := by rw [ak]; exact blk_free hcur _
        have f6 : wr.frozen? ⟨(ad2.add (kn * 3)).block, (ad2.add (kn * 3)).off + 2, none⟩ = false := by rw [ak]; exact blk_free hcur _
        have hi0 : (0 : Int) ≤ (i : Int) := by omega
        have hi1 : (i : Int) < (a.attrs.length : Int) := by omega
        have hk0 : (0 : Int) ≤ (kn : Int) := by omega
        have hk1 : (kn : Int) < (a.attrs.length : Int) := by omega
        have hik : (i : Int) < (kn : Int) := by omega
        have HROWr : Hid (RowA wr g 42 l) := Lib.hid ⟨cur, hcur, hcells⟩
        have oi : (ad2.add (i * 3)).off = i * 3 := by rw [ai]
        have ok : (ad2.add (kn * 3)).off = kn * 3 := by rw [ak]
        have hikn : i < kn := by omega
        have s1 := cell_apart (p := (ad2.add (i * 3))) (a := ⟨(ad2.add (i * 3)).block, (ad2.add (i * 3)).off + 1, none⟩) (show (ad2.add (i * 3)).off ≠ (ad2.add (i * 3)).off + 1 by omega)
        have s2 := cell_apart (p := (ad2.add (i * 3))) (a := ⟨(ad2.add (i * 3)).block, (ad2.add (i * 3)).off + 2, none⟩) (show (ad2.add (i * 3)).off ≠ (ad2.add (i * 3)).off + 2 by omega)
        have s3 := cell_apart (p := (ad2.add (i * 3))) (a := (ad2.add (kn * 3))) (show (ad2.add (i * 3)).off ≠ (ad2.add (kn * 3)).off by omega)
        have s4 := cell_apart (p := (ad2.add (i * 3))) (a := ⟨(ad2.add (kn * 3)).block, (ad2.add (kn * 3)).off + 1, none⟩) (show (ad2.add (i * 3)).off ≠ (ad2.add (kn * 3)).off + 1 by omega)
        have s5 := cell_apart (p := (ad2.add (i * 3))) (a := ⟨(ad2.add (kn * 3)).block, (ad2.add (kn * 3)).off + 2, none⟩) (show (ad2.add (i * 3)).off ≠ (ad2.add (kn * 3)).off + 2 by omega)
        have s6 := cell_apart (p := ⟨(ad2.add (i * 3)).block, (ad2.add (i * 3)).off + 1, none⟩) (a := (ad2.add (i * 3))) (show (ad2.add (i * 3)).off + 1 ≠ (ad2.add (i * 3)).off by omega)
        have s7 := cell_apart (p := ⟨(ad2.add (i * 3)).block, (ad2.add (i * 3)).off + 1, none⟩) (a := ⟨(ad2.add (i * 3)).block, (ad2.add (i * 3)).off + 2, none⟩) (show (ad2.add (i * 3)).off + 1 ≠ (ad2.add (i * 3)).off + 2 by omega)
        have s8 := cell_apart (p := ⟨(ad2.add (i * 3)).block, (ad2.add (i * 3)).off + 1, none⟩) (a := (ad2.add (kn * 3))) (show (ad2.add (i * 3)).off + 1 ≠ (ad2.add (kn * 3)).off by omega)
        have s9 := cell_apart (p := ⟨(ad2.add (i * 3)).block, (ad2.add (i * 3)).off + 1, none⟩) (a := ⟨(ad2.add (kn * 3)).block, (ad2.add (kn * 3)).off + 1, none⟩) (show (ad2.add (i * 3)).off + 1 ≠ (ad2.add (kn * 3)).off + 1 by omega)
        have s10 := cell_apart (p := ⟨(ad2.add (i * 3)).block, (ad2.add (i * 3)).off + 1, none⟩) (a := ⟨(ad2.add (kn * 3)).block, (ad2.add (kn * 3)).off + 2, none⟩) (show (ad2.add (i * 3)).off + 1 ≠ (ad2.add (kn * 3)).off + 2 by omega)
        have s11 := cell_apart (p := ⟨(ad2.add (i * 3)).block, (ad2.add (i * 3)).off + 2, none⟩) (a := (ad2.add (i * 3))) (show (ad2.add (i * 3)).off + 2 ≠ (ad2.add (i * 3)).off by omega)
        have s12 := cell_apart (p := ⟨(ad2.add (i * 3)).block, (ad2.add (i * 3)).off + 2, none⟩) (a := ⟨(ad2.add (i * 3)).block, (ad2.add (i * 3)).off + 1, none⟩) (show (ad2.add (i * 3)).off + 2 ≠ (ad2.add (i * 3)).off + 1 by omega)
        have s13 := cell_apart (p := ⟨(ad2.add (i * 3)).block, (ad2.add (i * 3)).off + 2, none⟩) (a := (ad2.add (kn * 3))) (show (ad2.add (i * 3)).off + 2 ≠ (ad2.add (kn * 3)).off by omega)
        have s14 := cell_apart (p := ⟨(ad2.add (i * 3)).block, (ad2.add (i * 3)).off + 2, none⟩) (a := ⟨(ad2.add (kn * 3)).block, (ad2.add (kn * 3)).off + 1, none⟩) (show (ad2.add (i * 3)).off + 2 ≠ (ad2.add (kn * 3)).off + 1 by omega)
        have s15 := cell_apart (p := ⟨(ad2.add (i * 3)).block, (ad2.add (i * 3)).off + 2, none⟩) (a := ⟨(ad2.add (kn * 3)).block, (ad2.add (kn * 3)).off + 2, none⟩) (show (ad2.add (i * 3)).off + 2 ≠ (ad2.add (kn * 3)).off + 2 by omega)
        have s16 := cell_apart (p := (ad2.add (kn * 3))) (a := (ad2.add (i * 3))) (show (ad2.add (kn * 3)).off ≠ (ad2.add (i * 3)).off by omega)
        have s17 := cell_apart (p := (ad2.add (kn * 3))) (a := ⟨(ad2.add (i * 3)).block, (ad2.add (i * 3)).off + 1, none⟩) (show (ad2.add (kn * 3)).off ≠ (ad2.add (i * 3)).off + 1 by omega)
        have s18 := cell_apart (p := (ad2.add (kn * 3))) (a := ⟨(ad2.add (i * 3)).block, (ad2.add (i * 3)).off + 2, none⟩) (show (ad2.add (kn * 3)).off ≠ (ad2.add (i * 3)).off + 2 by omega)
        have s19 := cell_apart (p := (ad2.add (kn * 3))) (a := ⟨(ad2.add (kn * 3)).block, (ad2.add (kn * 3)).off + 1, none⟩) (show (ad2.add (kn * 3)).off ≠ (ad2.add (kn * 3)).off + 1 by omega)
        have s20 := cell_apart (p := (ad2.add (kn * 3))) (a := ⟨(ad2.add (kn * 3)).block, (ad2.add (kn * 3)).off + 2, none⟩) (show (ad2.add (kn * 3)).off ≠ (ad2.add (kn * 3)).off + 2 by omega)
        have s21 := cell_apart (p := ⟨(ad2.add (kn * 3)).block, (ad2.add (kn * 3)).off + 1, none⟩) (a := (ad2.add (i * 3))) (show (ad2.add (kn * 3)).off + 1 ≠ (ad2.add (i * 3)).off by omega)
        have s22 := cell_apart (p := ⟨(ad2.add (kn * 3)).block, (ad2.add (kn * 3)).off + 1, none⟩) (a := ⟨(ad2.add (i * 3)).block, (ad2.add (i * 3)).off + 1, none⟩) (show (ad2.add (kn * 3)).off + 1 ≠ (ad2.add (i * 3)).off + 1 by omega)
        have s23 := cell_apart (p := ⟨(ad2.add (kn * 3)).block, (ad2.add (kn * 3)).off + 1, none⟩) (a := ⟨(ad2.add (i * 3)).block, (ad2.add (i * 3)).off + 2, none⟩) (show (ad2.add (kn * 3)).off + 1 ≠ (ad2.add (i * 3)).off + 2 by omega)
        have s24 := cell_apart (p := ⟨(ad2.add (kn * 3)).block, (ad2.add (kn * 3)).off + 1, none⟩) (a := (ad2.add (kn * 3))) (show (ad2.add (kn * 3)).off + 1 ≠ (ad2.add (kn * 3)).off by omega)
        have s25 := cell_apart (p := ⟨(ad2.add (kn * 3)).block, (ad2.add (kn * 3)).off + 1, none⟩) (a := ⟨(ad2.add (kn * 3)).block, (ad2.add (kn * 3)).off + 2, none⟩) (show (ad2.add (kn * 3)).off + 1 ≠ (ad2.add (kn * 3)).off + 2 by omega)
        have s26 := cell_apart (p := ⟨(ad2.add (kn * 3)).block, (ad2.add (kn * 3)).off + 2, none⟩) (a := (ad2.add (i * 3))) (show (ad2.add (kn * 3)).off + 2 ≠ (ad2.add (i * 3)).off by omega)
        have s27 := cell_apart (p := ⟨(ad2.add (kn * 3)).block, (ad2.add (kn * 3)).off + 2, none⟩) (a := ⟨(ad2.add (i * 3)).block, (ad2.add (i * 3)).off + 1, none⟩) (show (ad2.add (kn * 3)).off + 2 ≠ (ad2.add (i * 3)).off + 1 by omega)
        have s28 := cell_apart (p := ⟨(ad2.add (kn * 3)).block, (ad2.add (kn * 3)).off + 2, none⟩) (a := ⟨(ad2.add (i * 3)).block, (ad2.add (i * 3)).off + 2, none⟩) (show (ad2.add (kn * 3)).off + 2 ≠ (ad2.add (i * 3)).off + 2 by omega)
        have s29 := cell_apart (p := ⟨(ad2.add (kn * 3)).block, (ad2.add (kn * 3)).off + 2, none⟩) (a := (ad2.add (kn * 3))) (show (ad2.add (kn * 3)).off + 2 ≠ (ad2.add (kn * 3)).off by omega)
        have s30 := cell_apart (p := ⟨(ad2.add (kn * 3)).block, (ad2.add (kn * 3)).off + 2, none⟩) (a := ⟨(ad2.add (kn * 3)).block, (ad2.add (kn * 3)).off + 1, none⟩) (show (ad2.add (kn * 3)).off + 2 ≠ (ad2.add (kn * 3)).off + 1 by omega)
        clear oi ok hikn
        have bi : (ad2.add (i * 3)).block ≠ TB := by rw [ai]; exact hne.symm
        have bk : (ad2.add (kn * 3)).block ≠ TB := by rw [ak]; exact hne.symm
        have r1 := cell_far (p := (ad2.add (i * 3))) (a := ⟨TB, 3, none⟩) bi
        have r2 := cell_far (p := ⟨(ad2.add (i * 3)).block, (ad2.add (i * 3)).off + 1, none⟩) (a := ⟨TB, 3, none⟩) bi
        have r3 := cell_far (p := ⟨(ad2.add (i * 3)).block, (ad2.add (i * 3)).off + 2, none⟩) (a := ⟨TB, 3, none⟩) bi
        have r4 := cell_far (p := (ad2.add (kn * 3))) (a := ⟨TB, 3, none⟩) bk
        have r5 := cell_far (p := ⟨(ad2.add (kn * 3)).block, (ad2.add (kn * 3)).off + 1, none⟩) (a := ⟨TB, 3, none⟩) bk
        have r6 := cell_far (p := ⟨(ad2.add (kn * 3)).block, (ad2.add (kn * 3)).off + 2, none⟩) (a := ⟨TB, 3, none⟩) bk
        clear bi bk
        have AI := Lib.hid ai
        have AK := Lib.hid ak
        have HX := Lib.hid hx
        have HY := Lib.hid hy
        have HK0 := Lib.hid hk
        clear hk hcur hcells hTr e1 e2 had ai ak hx hy HR HROW t3
        go_wp2_with fail
        go_region
        obtain ⟨he1, he2⟩ := exch AI.out AK.out HROWr.out (by omega) (by omega) ((x1, x2), x3) ((y1, y2), y3)
        have HE1 := Lib.hid he1
        have HE2 := Lib.hid (HK.out.trans (he2.mono (fun k _ (e : k = g) => (⟨hane, _, rfl, e.symm⟩ : a.attrs ≠ [] ∧ ∃ ad, some (⟨g, 0, none⟩ : Addr) = some ad ∧ ad.block = k))))
        have HPP := Lib.hid (HP.out.trans (swap_perm HX.out HY.out (by omega)))
        have HK1 : Hid ((kn : Int) - 1 = (a.attrs.length : Int) - 1 - ((i + 1 : Nat) : Int)) := Lib.hid (by have := HK0.out; omega)
        clear he1 he2 HROWr AI AK HX HY HP HK HK0 c1 c2' c3 d1 d2 d3 t3r f1 f2 f3 f4 f5 f6 s1 s2 s3 s4 s5 s6 s7 s8 s9 s10 s11 s12 s13 s14 s15 s16 s17 s18 s19 s20 s21 s22 s23 s24 s25 s26 s27 s28 s29 s30 r1 r2 r3 r4 r5 r6
        go_wp2
        go_roundw
        case rel => exact ⟨i + 1, (kn : Int) - 1, (l.set i ((y1, y2), y3)).set kn ((x1, x2), x3), by go_num, by go_num, HK1.out, by omega, by simp [hll], HPP, Lib.hid (fun _ => ⟨g, rfl, hg1, hg2, HE1.out⟩), HE2⟩
        case measure => simp [intOf]; omega
      · have hbr : Below wz.heap.size wt wr := HK.out.below (fun k hs => by
          obtain ⟨h, ad, e1, e2⟩ := hs
          obtain ⟨g, e3, h1, _⟩ := HR.out h
          rw [e3] at e1
          simp only [Option.some.injEq] at e1
          subst e1
          rw [← e2]
          exact h1) HBE.out.size
        have HBR := Lib.hid (HBE.out.trans hbr)
        have hTr := (HK.out.block TB (blk_in HTB.out) (by
          rintro ⟨h, ad, e1, e2⟩
          obtain ⟨g, e3, _, h2, _⟩ := HR.out h
          rw [e3] at e1
          simp only [Option.some.injEq] at e1
          subst e1
          simp only at e2
          omega)).trans HTB.out
        have hsl : Sl3 wr A2 l := by
          by_cases hal : a.attrs = []
          · have : l = [] := List.eq_nil_of_length_eq_zero (by rw [hll, hal]; rfl)
            rw [this]; exact Sl3.nil _ _
          · obtain ⟨g, e3, _, _, hrow⟩ := HR.out hal
            rw [e3]; exact hrow.sl
        have hsn : SlN wr Kv a.kids := HSK.out wr HK.out
        have hsm := Same_any a (.mk a.kind a.name l a.kids a.text) A K A2 Kv ca ck c2 cv wr HZA.out (szN_turn HZA.out HP.out) HSA.out (smallN_turn HSA.out hll) (NodeV.below HVA.out HBR.out) ⟨hsl, hsn⟩
        rw [sameN_turn a l HP.out] at hsm
        unfold ndV ndCells at hsm
        simp only [Nd.kind, Nd.name, Nd.attrs, Nd.kids, Nd.text] at hsm
        rw [hll] at hsm
        obtain ⟨m0, m1, m2, m3, m4, m5⟩ := cells_of_nd hTr
        obtain ⟨n0, n1, n2, n3, n4, n5⟩ := CA.out _ HBR.out
        have hki : ¬ (i : Int) < k := by omega
        clear hbr hTr hsl hsn HK HR HP HSK HTB t3 hk
        go_wp2_with fail
        refine hsm.mono ?_
        rintro e wf ⟨rfl, hbf⟩
        have HBF := Lib.hid (HB.out.trans ((HBR.out.trans (hbf.mono HBR.out.size)).mono hws))
        clear hsm hbf m0 m1 m2 m3 m4 m5 n0 n1 n2 n3 n4 n5
        have tr1 := TR1.out
        have tr2 := TR2.out
        cases q1 <;> cases q2 <;> cases q3
        all_goals first
          | (exact absurd (tr1 rfl rfl) (by decide))
          | (exact absurd (tr2 rfl rfl) (by decide))
          | (clear tr1 tr2
             go_wp2
             go_ret
             exact ⟨rfl, by rw [HT.out]; exact HBF.out⟩)
end Go.Proofs.YtjohfljkhlkjoaaGreatDoor
