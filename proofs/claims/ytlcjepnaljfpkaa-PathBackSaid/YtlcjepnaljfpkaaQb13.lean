/- PcC PcD PcE. -/
import Derived.Deep.Cut
import Derived.Test.YtlcjepnaljfpkaaQb12
namespace Go.Proofs.Ytlcjepnaljfpkaa
open Go.RowKit Wb
theorem int_info : (Try.prog.info? 3).map (fun i => (i.zero, i.size, i.bytes)) = some (some (.int .i64 0), 1, 8) := by kernel_rfl
theorem ints_info : (Try.prog.info? 30).map (fun i => (i.zero, i.size, i.bytes)) = some (some (.slice none 0 0), 1, 24) := by kernel_rfl
theorem iclone_any (A : Option Addr) (l : List Int) (c : Nat) (w : World) (h : SlI w A l) (hl : l.length ≤ 1000000) :
    Calls Try.prog 55 #[.slice A l.length c] w fun e w' => ∃ A' n' c', e = .returned (.slice A' n' c') ∧ Below w.heap.size w w' := by
  cases A with
  | none =>
    obtain rfl : l = [] := by
      cases l with
      | nil => rfl
      | cons x l =>
        obtain ⟨ad, e, _⟩ := h.2 (by simp)
        cases e
    have hq : ∀ w, (binOp .eql 30 (.slice none 0 c) (.slice none 0 0)).run Try.prog w = .ok (.bool true) w := fun w => Lib.run_eql_slice_nil w _ _ none 0 c 0 0 Try.underlying30
    go_enter Try.func55, Try.ntmps55
    go_wp2
    go_ret
    exact ⟨_, _, _, rfl, Below.refl _ _⟩
  | some ad =>
    obtain ⟨i0, hi, hz0, hz1, hz2⟩ := info_parts int_info
    have hq : ∀ w, (binOp .eql 30 (.slice (some ad) l.length c) (.slice none 0 0)).run Try.prog w = .ok (.bool false) w := fun w => Lib.run_eql_slice_nil w _ _ (some ad) l.length c 0 0 Try.underlying30
    have HOWN := Lib.hid (World.ownsRow_made (base := w.heap.size) (e := 3) (size := 1) w #[] 0 (Nat.le_refl _) (Nat.zero_le _) (by simp))
    have HSL := Lib.hid (Sl.alloc h (.cells #[] 3))
    have HBA := Lib.hid ((Below.refl w.heap.size w).alloc (Nat.le_refl _) (.cells #[] 3))
    have hm : 0 + l.length ≤ maxLen := by unfold maxLen; omega
    have hb : (0 + l.length) * 8 ≤ 140737488355328 := by omega
    have hs : w.heap.size ≤ (w.alloc (.cells #[] 3)).heap.size := by simp
    clear h
    go_enter Try.func55, Try.ntmps55
    go_wp2_with (at_builtin; refine wpList_append_sl _ rfl (.tmp 5) (.tmp 6) _ rfl w.heap.size 3 i0 _ 1 8 Try.underlying30 hi hz0 hz1 hz2 rfl (by omega) _ 0 [] rfl HOWN.out (some ad) l.length c (cellsI l) rfl HSL.out (cellsI_one l) hm hb hs ?_)
    intro v5 w5 hown5 hg5 hat5
    obtain ⟨A5, c5, rfl⟩ := own_shape hown5
    have HB := Lib.hid (HBA.out.grown hg5 hs (fun k hk => by simp [Value.ownBlock] at hk; omega))
    clear hown5 hg5 hat5
    go_wp2
    go_ret
    exact ⟨_, _, _, rfl, HB.out⟩
theorem pl_text (lv pv : Value) (k : Nd) (A K : Option Addr) (ca ck : Nat) (w : World) (hk : k.kind = 2) :
    Calls Try.prog 42 #[lv, ndV k A ca K ck, pv] w fun e w' => e = .returned lv ∧ Below w.heap.size w w' := by
  unfold ndV ndCells
  rw [hk]
  have HB := Lib.hid ((Below.refl w.heap.size w).alloc (Nat.le_refl _) (.cells #[.int .i64 2, .string k.name.1, .string k.name.2, .slice A k.attrs.length ca, .slice K k.kids.length ck, .string k.text] 27))
  clear hk
  go_enter Try.func42, Try.ntmps42
  go_wp2
  go_ret
  exact ⟨rfl, HB.out⟩
set_option maxRecDepth 100000 in
set_option maxHeartbeats 4000000 in
theorem pl_leaf (lv : Value) (m : Nat) (xs : List Value) (P : Option Addr) (pl : List Int) (pc base : Nat) (k : Nd) (A K : Option Addr) (ca ck : Nat) (w : World) (hk : k.kind = 1) (hks : k.kids = []) (hown : w.ownsRow base 30 1 lv m xs) (hb : base ≤ w.heap.size) (hm : m ≤ 1000000) (hP : SlI w P pl) (hl : pl.length ≤ 1000000) :
    Calls Try.prog 42 #[lv, ndV k A ca K ck, .slice P pl.length pc] w fun e w' => ∃ v' xs', e = .returned v' ∧ w'.ownsRow base 30 1 v' (m + 1) xs' ∧ Below base w w' := by
  obtain ⟨i0, hi, hz0, hz1, hz2⟩ := info_parts ints_info
  unfold ndV ndCells
  rw [hk, hks, List.length_nil]
  obtain ⟨LA, lc, rfl⟩ := own_shape hown
  have hb1 := (Below.refl w.heap.size w).alloc (Nat.le_refl _) (.cells #[.int .i64 1, .string k.name.1, .string k.name.2, .slice A k.attrs.length ca, .slice K 0 ck, .string k.text] 27)
  have HN := Lib.hid (heap_alloc_new w (.cells #[.int .i64 1, .string k.name.1, .string k.name.2, .slice A k.attrs.length ca, .slice K 0 ck, .string k.text] 27))
  have HO := Lib.hid (own_below hown hb1)
  have HP := Lib.hid (hP.below hb1)
  have HB := Lib.hid hb1
  clear hk hks hown hP hb1
  go_enter Try.func42, Try.ntmps42
  go_upto_region 1 with fail
  revert HN HO HP HB
  generalize w.alloc (.cells #[.int .i64 1, .string k.name.1, .string k.name.2, .slice A k.attrs.length ca, .slice K 0 ck, .string k.text] 27) = w1
  intro HN HO HP HB
  obtain ⟨n0, n1, n2, n3, n4, n5⟩ := cells_of_nd HN.out
  have hcl := iclone_any P pl pc w1 HP.out hl
  have hs1 := HB.out.size
  go_wp2_with fail
  refine hcl.mono ?_
  rintro e w2 ⟨A2, n2', c2, rfl, hb2⟩
  have HN2 := Lib.hid (still_block HN.out hb2)
  have HB2 := Lib.hid (HB.out.trans (hb2.mono HB.out.size))
  have HO2 := Lib.hid ((own_below HO.out hb2).alloc (.cells #[.slice A2 n2' c2] 30))
  have HLIT := Lib.hid (Sl.lit w2 1 [.slice A2 n2' c2] 30 1 rfl)
  have HONE := Lib.hid (show ∀ u ∈ [Value.slice A2 n2' c2], u.oneCell' = true from fun u hu => by rw [List.mem_singleton.1 hu]; rfl)
  have hs2 := hb2.size
  clear hcl hb2 n0 n1 n2 n3 n4 n5
  go_upto_region 5 with (
    at_builtin
    refine wpList_append_sl _ rfl _ _ _ rfl base 30 i0 _ 1 24 Try.underlying50 hi hz0 hz1 hz2 rfl (by omega) _ m xs rfl HO2.out (some ⟨w2.heap.size, 0, none⟩) 1 1 [.slice A2 n2' c2] rfl HLIT.out HONE.out (by simp only [maxLen]; omega) (by omega) (by simp; omega) ?_
    intro v5 w5 hown5 hg5 hat5)
  have hb5 : Below base w w5 := ((HB2.out.alloc (by omega) _).mono hb).grown hg5 (by simp; omega) (fun b hb => (own_in HO2.out hb).1)
  have HN5 := Lib.hid (grown_block ((Below.heap_alloc w2 (.cells #[.slice A2 n2' c2] 30) _ (blk_in HN2.out)).trans HN2.out) hg5 (fun z => own_blk_ne HO2.out ((Below.heap_alloc w2 (.cells #[.slice A2 n2' c2] 30) _ (blk_in HN2.out)).trans HN2.out) (by decide) z.symm))
  obtain ⟨n0, n1, n2, n3, n4, n5⟩ := cells_of_nd HN5.out
  obtain ⟨LA5, lc5, rfl⟩ := own_shape hown5
  have HF := Lib.hid hown5
  have HG := Lib.hid hb5
  clear hown5 hg5 hat5 hb5
  go_wp2
  go_loopw [0, 24] (fun vl vi wr => vl = .slice LA5 (m + 1) lc5 ∧ vi = .int .i64 0 ∧ Hid (wr = w5)) (fun _ _ _ => 0)
  case atStart => exact ⟨rfl, rfl, Lib.hid rfl⟩
  case round =>
    obtain ⟨rfl, rfl, HW⟩ := hrel
    have hw := HW.out
    subst hw
    go_wp2
    go_ret
    first
      | exact ⟨⟨_, HF.out⟩, HG.out⟩
      | exact ⟨_, rfl, ⟨_, HF.out⟩, HG.out⟩
def elsN : List Nd → Nat
  | [] => 0
  | k :: ks => (if k.kind = 1 then 1 else 0) + elsN ks
theorem elsN_take {ks : List Nd} {i : Nat} {x : Nd} (h : ks[i]? = some x) : elsN (ks.take (i + 1)) = elsN (ks.take i) + if x.kind = 1 then 1 else 0 := by
  have app : ∀ a b : List Nd, elsN (a ++ b) = elsN a + elsN b := fun a b => by
    induction a with
    | nil => simp [elsN]
    | cons k a ih => rw [List.cons_append, elsN, ih, elsN]; omega
  rw [List.take_add_one, h]
  show elsN (ks.take i ++ [x]) = _
  rw [app]
  simp [elsN]
theorem elsN_le : ∀ ks : List Nd, elsN ks ≤ ks.length
  | [] => by simp [elsN]
  | k :: ks => by
    rw [elsN, List.length_cons]
    have := elsN_le ks
    split <;> omega
set_option maxRecDepth 100000 in
set_option maxHeartbeats 4000000 in
theorem pl_top (n : Nd) (A K : Option Addr) (ca ck : Nat) (w : World) (hk : n.kind = 1) (hks : ∀ k ∈ n.kids, k.kind = 2 ∨ (k.kind = 1 ∧ k.kids = [])) (hl : n.kids.length ≤ 1000) (hV : NodeV w n A K) :
    Calls Try.prog 42 #[.slice none 0 0, ndV n A ca K ck, .slice none 0 0] w fun e w' => ∃ L c, e = .returned (.slice L (1 + elsN n.kids) c) ∧ Below w.heap.size w w' := by
  obtain ⟨i0, hi, hz0, hz1, hz2⟩ := info_parts ints_info
  obtain ⟨j0, hj, hy0, hy1, hy2⟩ := info_parts int_info
  unfold ndV ndCells
  rw [hk]
  have hb1 := (Below.refl w.heap.size w).alloc (Nat.le_refl _) (.cells #[.int .i64 1, .string n.name.1, .string n.name.2, .slice A n.attrs.length ca, .slice K n.kids.length ck, .string n.text] 27)
  have HN := Lib.hid (heap_alloc_new w (.cells #[.int .i64 1, .string n.name.1, .string n.name.2, .slice A n.attrs.length ca, .slice K n.kids.length ck, .string n.text] 27))
  have HB := Lib.hid hb1
  have HV := Lib.hid hV
  have HKS := Lib.hid hks
  clear hk hb1 hV hks
  go_enter Try.func42, Try.ntmps42
  go_upto_region 1 with fail
  revert HN HB
  generalize w.alloc (.cells #[.int .i64 1, .string n.name.1, .string n.name.2, .slice A n.attrs.length ca, .slice K n.kids.length ck, .string n.text] 27) = w1
  intro HN HB
  obtain ⟨n0, n1, n2, n3, n4, n5⟩ := cells_of_nd HN.out
  have hcl := iclone_any none [] 0 w1 (SlI.nil _ _) (by simp)
  rw [List.length_nil] at hcl
  have hs1 := HB.out.size
  go_wp2_with fail
  refine hcl.mono ?_
  rintro e w2 ⟨A2, n2', c2, rfl, hb2⟩
  have HN2 := Lib.hid (still_block HN.out hb2)
  have HB2 := Lib.hid (HB.out.trans (hb2.mono HB.out.size))
  have HLIT := Lib.hid (Sl.lit w2 1 [.slice A2 n2' c2] 30 1 rfl)
  have HONE := Lib.hid (show ∀ u ∈ [Value.slice A2 n2' c2], u.oneCell' = true from fun u hu => by rw [List.mem_singleton.1 hu]; rfl)
  have hs2 := hb2.size
  clear hcl hb2 n0 n1 n2 n3 n4 n5
  go_upto_region 5 with (
    at_builtin
    refine wpList_append_sl _ rfl _ _ _ rfl w.heap.size 30 i0 _ 1 24 Try.underlying50 hi hz0 hz1 hz2 rfl (by omega) _ 0 [] rfl (World.ownsRow_nil _ _ _ _) (some ⟨w2.heap.size, 0, none⟩) 1 1 [.slice A2 n2' c2] rfl HLIT.out HONE.out (by simp only [maxLen]; omega) (by omega) (by simp; omega) ?_
    intro v5 w5 hown5 hg5 hat5)
  have hb5 : Below w.heap.size w w5 := (HB2.out.alloc (by omega) _).grown hg5 (by simp; omega) (fun b hb => by cases hb)
  have HN5 := Lib.hid (grown_block ((Below.heap_alloc w2 (.cells #[.slice A2 n2' c2] 30) _ (blk_in HN2.out)).trans HN2.out) hg5 (fun z => Option.some_ne_none _ z))
  obtain ⟨n0, n1, n2, n3, n4, n5⟩ := cells_of_nd HN5.out
  have HF := Lib.hid hown5
  have HG := Lib.hid hb5
  have hws := hb5.size
  clear hown5 hg5 hat5 hb5
  go_wp2
  go_loopw [0, 24] (fun vl vi wr => ∃ (i : Nat) (xs : List Value), i ≤ n.kids.length ∧ vi = .int .i64 i ∧ Hid (wr.ownsRow w.heap.size 30 1 vl (1 + elsN (n.kids.take i)) xs) ∧ Hid (Below w.heap.size w wr)) (fun _ vi _ => ((n.kids.length : Int) - intOf vi).toNat)
  case atStart => exact ⟨0, _, by omega, rfl, Lib.hid (by rw [List.take_zero, show 1 + elsN [] = 0 + 1 from rfl]; exact HF.out), HG⟩
  case round =>
    obtain ⟨i, xs, hil, rfl, HO, HBr⟩ := hrel
    by_cases h0 : i < n.kids.length
    · obtain ⟨x, he⟩ : ∃ x, n.kids[i]? = some x := ⟨n.kids[i], List.getElem?_eq_getElem h0⟩
      obtain ⟨ad, A1, ca1, K1, ck1, rfl, had, d0, d1, d2, d3, d4, d5, hA1, hK1⟩ := (HV.out.2.below HBr.out).at_ he
      have htk := elsN_take he
      have hle := elsN_le (n.kids.take i)
      rw [List.length_take] at hle
      have hkind := HKS.out x (List.mem_of_getElem? he)
      obtain ⟨LA, lc, rfl⟩ := own_shape HO.out
      have hba : Below wr.heap.size wr (wr.alloc (.cells #[.int .i64 x.kind, .string x.name.1, .string x.name.2, .slice A1 x.attrs.length ca1, .slice K1 x.kids.length ck1, .string x.text] 27)) := (Below.refl _ wr).alloc (Nat.le_refl _) _
      have HNk := Lib.hid (heap_alloc_new wr (.cells #[.int .i64 x.kind, .string x.name.1, .string x.name.2, .slice A1 x.attrs.length ca1, .slice K1 x.kids.length ck1, .string x.text] 27))
      have HOk := Lib.hid (own_below HO.out hba)
      have HBk := Lib.hid (HBr.out.trans (hba.mono HBr.out.size))
      have HTK := Lib.hid htk
      clear htk hA1 hK1 he hba
      go_upto_region 8 with fail
      clear d0 d1 d2 d3 d4 d5 had
      revert HNk HOk HBk
      generalize wr.alloc (.cells #[.int .i64 x.kind, .string x.name.1, .string x.name.2, .slice A1 x.attrs.length ca1, .slice K1 x.kids.length ck1, .string x.text] 27) = wk
      intro HNk HOk HBk
      generalize wr.heap.size = T at *
      have hsk := HBk.out.size
      obtain ⟨t0, t1, t2, t3, t4, t5⟩ := cells_of_nd HNk.out
      have hNl : ∀ o, (wk.alloc o).heap[T]? = _ := fun o => (Below.heap_alloc wk o _ (blk_in HNk.out)).trans HNk.out
      have s0 : ∀ o, (wk.alloc o).cell? ⟨T, 0, none⟩ = _ := fun o => (cells_of_nd (hNl o)).1
      have s1 : ∀ o, (wk.alloc o).cell? ⟨T, 1, none⟩ = _ := fun o => (cells_of_nd (hNl o)).2.1
      have s2 : ∀ o, (wk.alloc o).cell? ⟨T, 2, none⟩ = _ := fun o => (cells_of_nd (hNl o)).2.2.1
      have s3 : ∀ o, (wk.alloc o).cell? ⟨T, 3, none⟩ = _ := fun o => (cells_of_nd (hNl o)).2.2.2.1
      have s4 : ∀ o, (wk.alloc o).cell? ⟨T, 4, none⟩ = _ := fun o => (cells_of_nd (hNl o)).2.2.2.2.1
      have s5 : ∀ o, (wk.alloc o).cell? ⟨T, 5, none⟩ = _ := fun o => (cells_of_nd (hNl o)).2.2.2.2.2
      have HLI := Lib.hid (show Sl (wk.alloc (.cells #[.int .i64 (i : Int)] 3)).drew 1 (some ⟨wk.heap.size, 0, none⟩) 1 [.int .i64 (i : Int)] from (Sl.lit wk 1 [.int .i64 (i : Int)] 3 1 rfl).drew)
      have HLO := Lib.hid (show ∀ u ∈ [Value.int .i64 (i : Int)], u.oneCell' = true from fun u hu => by rw [List.mem_singleton.1 hu]; rfl)
      rcases hkind with hk2 | ⟨hk1, hk0⟩
      · have hpt := fun (v : World) (pv : Value) => pl_text (.slice LA (1 + elsN (n.kids.take i)) lc) pv x A1 K1 ca1 ck1 v hk2
        unfold ndV ndCells at hpt
        rw [hk2] at hpt
        have htk := HTK.out
        rw [if_neg (by omega), Nat.add_zero] at htk
        have HT2 := Lib.hid htk
        clear htk
        go_region_law (first
          | (refine step_append_sl _ rfl (.tmp 31) (.tmp 33) _ rfl w.heap.size 3 j0 _ 1 8 Try.underlying30 hj hy0 hy1 hy2 rfl (by omega) _ 0 [] rfl (World.ownsRow_nil _ _ _ _) (some ⟨wk.heap.size, 0, none⟩) 1 1 [.int .i64 (i : Int)] rfl HLI.out HLO.out (by simp only [maxLen]; omega) (by omega) (by simp; omega) ?_
             intro v6 w6 hown6 hg6 hat6
             obtain ⟨A6, c6, rfl⟩ := own_shape hown6
             have hN6 := grown_block (w := (wk.alloc (.cells #[.int .i64 (i : Int)] 3)).drew) (hNl _) hg6 (fun z => Option.some_ne_none _ z)
             obtain ⟨p0, p1, p2, p3, p4, p5⟩ := cells_of_nd hN6
             have hb6 : Below wk.heap.size wk w6 := (((Below.refl wk.heap.size wk).alloc (Nat.le_refl _) (.cells #[.int .i64 (i : Int)] 3)).drew).grown hg6 (by simp) (fun b hb => by cases hb)
             have HB6 := Lib.hid hb6
             have HP6 : Hid (SlI w6 A6 [(i : Int)]) := Lib.hid (SlI.of_own (l := [(i : Int)]) (by simpa [cellsI] using hown6))
             clear hown6 hg6 hat6 hb6)
          | (go_simp
             go_at_call 42
             refine (hpt _ _).mono ?_
             rintro e w7 ⟨rfl, hb7⟩
             have HO7 : Hid (w7.ownsRow w.heap.size 30 1 (.slice LA (1 + elsN (n.kids.take i)) lc) (1 + elsN (n.kids.take (i + 1))) xs) := Lib.hid (by rw [HT2.out]; exact own_below (own_below HOk.out HB6.out) hb7)
             have HB7 := Lib.hid ((HBk.out.trans (HB6.out.mono HBk.out.size)).trans (hb7.mono (Nat.le_trans HBk.out.size HB6.out.size)))
             clear hb7))
        all_goals (
          clear hpt
          go_wp2
          go_roundw
          case rel => exact ⟨i + 1, _, by omega, by go_num, HO7, HB7⟩
          case measure => simp [intOf]; omega)
      · have hpl := fun (v : World) (A6 : Option Addr) (c6 : Nat) (ho : v.ownsRow w.heap.size 30 1 (.slice LA (1 + elsN (n.kids.take i)) lc) (1 + elsN (n.kids.take i)) xs) (hs : w.heap.size ≤ v.heap.size) (hp : SlI v A6 [(i : Int)]) =>
          pl_leaf (.slice LA (1 + elsN (n.kids.take i)) lc) (1 + elsN (n.kids.take i)) xs A6 [(i : Int)] c6 w.heap.size x A1 K1 ca1 ck1 v hk1 hk0 ho hs (by omega) hp (by simp)
        unfold ndV ndCells at hpl
        rw [hk1, hk0, List.length_nil] at hpl
        have htk := HTK.out
        rw [if_pos hk1] at htk
        have HT2 := Lib.hid htk
        clear htk
        go_region_law (first
          | (refine step_append_sl _ rfl (.tmp 31) (.tmp 33) _ rfl w.heap.size 3 j0 _ 1 8 Try.underlying30 hj hy0 hy1 hy2 rfl (by omega) _ 0 [] rfl (World.ownsRow_nil _ _ _ _) (some ⟨wk.heap.size, 0, none⟩) 1 1 [.int .i64 (i : Int)] rfl HLI.out HLO.out (by simp only [maxLen]; omega) (by omega) (by simp; omega) ?_
             intro v6 w6 hown6 hg6 hat6
             obtain ⟨A6, c6, rfl⟩ := own_shape hown6
             have hN6 := grown_block (w := (wk.alloc (.cells #[.int .i64 (i : Int)] 3)).drew) (hNl _) hg6 (fun z => Option.some_ne_none _ z)
             obtain ⟨p0, p1, p2, p3, p4, p5⟩ := cells_of_nd hN6
             have hb6 : Below wk.heap.size wk w6 := (((Below.refl wk.heap.size wk).alloc (Nat.le_refl _) (.cells #[.int .i64 (i : Int)] 3)).drew).grown hg6 (by simp) (fun b hb => by cases hb)
             have HB6 := Lib.hid hb6
             have HP6 : Hid (SlI w6 A6 [(i : Int)]) := Lib.hid (SlI.of_own (l := [(i : Int)]) (by simpa [cellsI] using hown6))
             clear hown6 hg6 hat6 hb6)
          | (go_simp
             go_at_call 42
             refine (hpl _ _ _ (own_below HOk.out HB6.out) (Nat.le_trans HBk.out.size HB6.out.size) HP6.out).mono ?_
             rintro e w7 ⟨v7, xs7, rfl, ho7, hb7⟩
             have HO7 : Hid (w7.ownsRow w.heap.size 30 1 v7 (1 + elsN (n.kids.take (i + 1))) xs7) := Lib.hid (by rw [HT2.out, ← Nat.add_assoc]; exact ho7)
             have HB7 := Lib.hid ((HBk.out.trans (HB6.out.mono HBk.out.size)).trans hb7)
             clear hb7 ho7))
        all_goals (
          clear hpl
          go_wp2
          go_roundw
          case rel => exact ⟨i + 1, _, by omega, by go_num, HO7, HB7⟩
          case measure => simp [intOf]; omega)
    · have : i = n.kids.length := by omega
      subst this
      have ho := HO.out
      rw [List.take_length] at ho
      obtain ⟨L, c, rfl⟩ := own_shape ho
      clear ho
      go_wp2
      go_ret
      exact ⟨L, c, rfl, HBr.out⟩
end Go.Proofs.Ytlcjepnaljfpkaa
namespace Wb
open Go Go.RowKit Go.Proofs.Ytlcjepnaljfpkaa
def aTx : Nd := .mk 2 (⟨#[]⟩, ⟨#[]⟩) [] [] ⟨#[120]⟩
def aTy : Nd := .mk 2 (⟨#[]⟩, ⟨#[]⟩) [] [] ⟨#[121]⟩
def aEl : Nd := .mk 1 (⟨#[]⟩, ⟨#[97]⟩) [] [] ⟨#[]⟩
def aN : Nd := .mk 1 (⟨#[]⟩, ⟨#[97]⟩) [] [aTx, aEl, aTy] ⟨#[]⟩
theorem aN_at : atP aN [3] = none := by rfl
theorem aJ : joinK [aTx, aTy] = [.mk 2 (⟨#[]⟩, ⟨#[]⟩) [] [] ⟨#[120, 121]⟩] := by
  have h := joinK_text (ks := [aTx, aTy]) (i := 0) (x := aTx) rfl rfl
  rw [show txEnd [aTx, aTy] 0 = 2 from by rfl] at h
  rw [List.drop_zero] at h
  rw [h]
  simp only [List.drop_succ_cons, List.drop_nil]
  rw [joinK]
  rfl
theorem aN_rem : remP aN [1] = some (aN.withKids [.mk 2 (⟨#[]⟩, ⟨#[]⟩) [] [] ⟨#[120, 121]⟩]) := by
  rw [show ([1] : List Int) = [] ++ [1] from rfl, remP_app]
  show (if aN.kind = 1 then kidF (fun ks i => ks.eraseIdx i) 1 aN else none) = _
  rw [if_pos (show aN.kind = 1 from rfl)]
  unfold kidF
  rw [if_pos (by decide)]
  show some (aN.withKids (joinK [aTx, aTy])) = _
  rw [aJ]
theorem aN_ins : chP (insF aEl 0) aN [] = some (aN.withKids [aEl, aTx, aEl, aTy]) := by
  show (if aN.kind = 1 then insF aEl 0 aN else none) = _
  rw [if_pos (show aN.kind = 1 from rfl)]
  unfold insF
  rw [if_pos (by decide)]
  show some (aN.withKids (joinK [aEl, aTx, aEl, aTy])) = _
  rw [joinK_same _ 0 (by simp [noAdj, aEl, aTx, aTy, Nd.kind])]
theorem aN_els : elsN aN.kids = 1 := by rfl
theorem aN_gn : GN aN := by
  refine ⟨by simp [aN, aTx, aTy, aEl, lenN, lenKs], by decide⟩
theorem aEl_gn : GN aEl := by
  refine ⟨by simp [aEl, lenN, lenKs], by decide⟩
theorem aN_ks : ∀ k ∈ aN.kids, k.kind = 2 ∨ (k.kind = 1 ∧ k.kids = []) := by
  intro k hk
  simp only [aN, Nd.kids, List.mem_cons, List.mem_nil_iff, or_false] at hk
  rcases hk with rfl | rfl | rfl
  · exact .inl rfl
  · exact .inr ⟨rfl, rfl⟩
  · exact .inl rfl
end Wb
namespace Go.Proofs.Ytlcjepnaljfpkaa
open Go.RowKit Wb
theorem Places_top (n : Nd) (A K : Option Addr) (ca ck : Nat) (w : World) (hk : n.kind = 1) (hks : ∀ k ∈ n.kids, k.kind = 2 ∨ (k.kind = 1 ∧ k.kids = [])) (hl : n.kids.length ≤ 1000) (hV : NodeV w n A K) :
    Calls Try.prog 20 #[ndV n A ca K ck] w fun e w' => ∃ L c, e = .returned (.slice L (1 + elsN n.kids) c) ∧ Below w.heap.size w w' := by
  have hb1 := (Below.refl w.heap.size w).alloc (Nat.le_refl _) (.cells #[.int .i64 n.kind, .string n.name.1, .string n.name.2, .slice A n.attrs.length ca, .slice K n.kids.length ck, .string n.text] 27)
  have HN := Lib.hid (heap_alloc_new w (.cells #[.int .i64 n.kind, .string n.name.1, .string n.name.2, .slice A n.attrs.length ca, .slice K n.kids.length ck, .string n.text] 27))
  have hpl := pl_top n A K ca ck (w.alloc (.cells #[.int .i64 n.kind, .string n.name.1, .string n.name.2, .slice A n.attrs.length ca, .slice K n.kids.length ck, .string n.text] 27)) hk hks hl (NodeV.below hV hb1)
  unfold ndV ndCells at hpl ⊢
  rw [hk] at hpl hb1 HN ⊢
  have HB := Lib.hid hb1
  clear hk hks hV hb1
  go_enter Try.func20, Try.ntmps20
  go_upto_region 1 with fail
  revert HN HB hpl
  generalize w.alloc (.cells #[.int .i64 1, .string n.name.1, .string n.name.2, .slice A n.attrs.length ca, .slice K n.kids.length ck, .string n.text] 27) = w1
  intro HN hpl HB
  obtain ⟨n0, n1, n2, n3, n4, n5⟩ := cells_of_nd HN.out
  go_wp2_with fail
  refine hpl.mono ?_
  rintro e w2 ⟨L, c, rfl, hb2⟩
  have HB2 := Lib.hid (HB.out.trans (hb2.mono HB.out.size))
  clear hb2
  go_wp2
  go_ret
  exact ⟨L, c, rfl, HB2.out⟩
theorem one_any (K : Option Addr) (m ck : Nat) (w : World) : Calls Try.prog 19 #[.slice K m ck] w fun e w' => e = .returned (.agg #[.int .i64 1, .string ⟨#[]⟩, .string ⟨#[97]⟩, .slice none 0 0, .slice K m ck, .string ⟨#[]⟩]) ∧ Below w.heap.size w w' := by
  have hb1 := (Below.refl w.heap.size w).alloc (Nat.le_refl _) (.cells #[.int .i64 0, .string ⟨#[]⟩, .string ⟨#[]⟩, .slice none 0 0, .slice none 0 0, .string ⟨#[]⟩] 27)
  have HZ := Lib.hid (heap_alloc_new w (.cells #[.int .i64 0, .string ⟨#[]⟩, .string ⟨#[]⟩, .slice none 0 0, .slice none 0 0, .string ⟨#[]⟩] 27))
  have HB := Lib.hid hb1
  clear hb1
  go_enter Try.func19, Try.ntmps19
  go_upto_region 1 with fail
  revert HZ HB
  generalize w.alloc (.cells #[.int .i64 0, .string ⟨#[]⟩, .string ⟨#[]⟩, .slice none 0 0, .slice none 0 0, .string ⟨#[]⟩] 27) = w1
  intro HZ HB
  have z0 := blk_free HZ.out 0
  have z1 := blk_free HZ.out 1
  have z2 := blk_free HZ.out 2
  have z3 := blk_free HZ.out 3
  have z4 := blk_free HZ.out 4
  have z5 := blk_free HZ.out 5
  obtain ⟨y0, y1, y2, y3, y4, y5⟩ := cells_of_nd HZ.out
  go_wp2
  refine bodyPost_ret (results_cell_row rfl _ _ w.heap.size _ _ (0, 0) _ rfl (six_blk HZ.out _ _ _ _ _ _) Try.underlying27 rfl node_info2) rfl ?_
  exact ⟨rfl, six_below HB.out (Nat.le_refl _) _ _ _ _ _ _⟩
theorem aN_lies {w : World} {kb : Nat} {T : TypeId} (h : w.heap[kb]? = some (.cells #[.int .i64 2, .string ⟨#[]⟩, .string ⟨#[]⟩, .slice none 0 0, .slice none 0 0, .string ⟨#[120]⟩, .int .i64 1, .string ⟨#[]⟩, .string ⟨#[97]⟩, .slice none 0 0, .slice none 0 0, .string ⟨#[]⟩, .int .i64 2, .string ⟨#[]⟩, .string ⟨#[]⟩, .slice none 0 0, .slice none 0 0, .string ⟨#[121]⟩] T (0, 0))) :
    NodeV w aN none (some ⟨kb, 0, none⟩) := by
  refine ⟨Sl3.nil _ _, .inr ⟨_, rfl, blk_in h, (kidsC_iff w _ _ 0).2 fun k m hm => ?_⟩⟩
  have add : ∀ z : Nat, (⟨kb, 0, none⟩ : Addr).add z = ⟨kb, z, none⟩ := fun z => by unfold Addr.add; split <;> simp_all
  have leaf : ∀ (kd : Int) (lo t : ByteArray), nodeC w (.mk kd (⟨#[]⟩, lo) [] [] t) [.int .i64 kd, .string ⟨#[]⟩, .string lo, .slice none 0 0, .slice none 0 0, .string t] := fun kd lo t => (nodeC_V w _ _).2 ⟨none, 0, none, 0, rfl, Sl3.nil _ _, .inl rfl⟩
  simp only [aN, Nd.kids] at hm
  match k, hm with
  | 0, hm =>
    simp only [List.getElem?_cons_zero, Option.some.injEq] at hm
    subst hm
    refine ⟨_, fun j u hu => ?_, leaf 2 ⟨#[]⟩ ⟨#[120]⟩⟩
    rw [add]
    match j, hu with
    | 0, hu | 1, hu | 2, hu | 3, hu | 4, hu | 5, hu => simp at hu; subst hu; simp [World.cell?, h]
  | 1, hm =>
    simp only [List.getElem?_cons_zero, List.getElem?_cons_succ, Option.some.injEq] at hm
    subst hm
    refine ⟨_, fun j u hu => ?_, leaf 1 ⟨#[97]⟩ ⟨#[]⟩⟩
    rw [add]
    match j, hu with
    | 0, hu | 1, hu | 2, hu | 3, hu | 4, hu | 5, hu => simp at hu; subst hu; simp [World.cell?, h]
  | 2, hm =>
    simp only [List.getElem?_cons_zero, List.getElem?_cons_succ, Option.some.injEq] at hm
    subst hm
    refine ⟨_, fun j u hu => ?_, leaf 2 ⟨#[]⟩ ⟨#[121]⟩⟩
    rw [add]
    match j, hu with
    | 0, hu | 1, hu | 2, hu | 3, hu | 4, hu | 5, hu => simp at hu; subst hu; simp [World.cell?, h]
end Go.Proofs.Ytlcjepnaljfpkaa
namespace Go.Proofs.Ytlcjepnaljfpkaa
open Go.RowKit Wb
set_option maxRecDepth 100000 in
set_option maxHeartbeats 8000000 in
theorem awake6 (w : World) : Calls Try.prog 5 #[] w fun e w' => e = .returned (.bool true) ∧ Below w.heap.size w w' := by
  go_enter Try.func5, Try.ntmps5
  have h1 := one_any none 0 0 w
  go_wp2_with fail
  refine h1.mono ?_
  rintro e w2 ⟨rfl, hb2⟩
  have HB2 := Lib.hid hb2
  have hk3 := heap_alloc_new w2 (.cells #[.int .i64 2, .string ⟨#[]⟩, .string ⟨#[]⟩, .slice none 0 0, .slice none 0 0, .string ⟨#[120]⟩, .int .i64 1, .string ⟨#[]⟩, .string ⟨#[97]⟩, .slice none 0 0, .slice none 0 0, .string ⟨#[]⟩, .int .i64 2, .string ⟨#[]⟩, .string ⟨#[]⟩, .slice none 0 0, .slice none 0 0, .string ⟨#[121]⟩] 27)
  have hb3 := (Below.refl w2.heap.size w2).alloc (Nat.le_refl _) (.cells #[.int .i64 2, .string ⟨#[]⟩, .string ⟨#[]⟩, .slice none 0 0, .slice none 0 0, .string ⟨#[120]⟩, .int .i64 1, .string ⟨#[]⟩, .string ⟨#[97]⟩, .slice none 0 0, .slice none 0 0, .string ⟨#[]⟩, .int .i64 2, .string ⟨#[]⟩, .string ⟨#[]⟩, .slice none 0 0, .slice none 0 0, .string ⟨#[121]⟩] 27)
  have HK3 := Lib.hid (aN_lies hk3)
  have HB3 := Lib.hid (hb2.trans (hb3.mono hb2.size))
  clear h1 hb2 hk3 hb3
  go_wp2_with fail
  refine (one_any (some ⟨w2.heap.size, 0, none⟩) 3 3 _).mono ?_
  rintro e w4 ⟨rfl, hb4⟩
  generalize w2.heap.size = kb at *
  have hN5 := heap_alloc_new w4 (.cells #[.int .i64 1, .string ⟨#[]⟩, .string ⟨#[97]⟩, .slice none 0 0, .slice (some ⟨kb, 0, none⟩) 3 3, .string ⟨#[]⟩] 27)
  have hb5 := (Below.refl w4.heap.size w4).alloc (Nat.le_refl _) (.cells #[.int .i64 1, .string ⟨#[]⟩, .string ⟨#[97]⟩, .slice none 0 0, .slice (some ⟨kb, 0, none⟩) 3 3, .string ⟨#[]⟩] 27)
  have HN5 := Lib.hid hN5
  have HV5 := Lib.hid ((HK3.out.below hb4).below hb5)
  have HB5 := Lib.hid ((HB3.out.trans (hb4.mono HB3.out.size)).trans (hb5.mono (HB3.out.trans (hb4.mono HB3.out.size)).size))
  clear hN5 hb5 hb4 HK3 HB2
  go_upto_region 2 with fail
  revert HN5 HV5 HB5
  generalize w4.alloc (.cells #[.int .i64 1, .string ⟨#[]⟩, .string ⟨#[97]⟩, .slice none 0 0, .slice (some ⟨kb, 0, none⟩) 3 3, .string ⟨#[]⟩] 27) = w5
  intro HN5 HV5 HB5
  generalize w4.heap.size = T at *
  clear HB3
  obtain ⟨m1, hm1⟩ : ∃ m, aN.withKids [.mk 2 (⟨#[]⟩, ⟨#[]⟩) [] [] ⟨#[120, 121]⟩] = m := ⟨_, rfl⟩
  obtain ⟨m2, hm2⟩ : ∃ m, aN.withKids [aEl, aTx, aEl, aTy] = m := ⟨_, rfl⟩
  have hsl1 : SlI (w5.alloc (.cells #[.int .i64 1] 3)) (some ⟨w5.heap.size, 0, none⟩) [1] := Sl.lit w5 1 [.int .i64 1] 3 1 rfl
  have hbs1 := (Below.refl w5.heap.size w5).alloc (Nat.le_refl _) (.cells #[.int .i64 1] 3)
  have hrem : Calls Try.prog 10 #[.agg #[.int .i64 1, .string ⟨#[]⟩, .string ⟨#[97]⟩, .slice none 0 0, .slice (some ⟨kb, 0, none⟩) 3 3, .string ⟨#[]⟩], .slice (some ⟨w5.heap.size, 0, none⟩) 1 1] (w5.alloc (.cells #[.int .i64 1] 3)) (NdOut (some m1) (w5.alloc (.cells #[.int .i64 1] 3))) := by
    have := Remove_any aN none (some ⟨kb, 0, none⟩) 0 3 [1] (some ⟨w5.heap.size, 0, none⟩) 1 (w5.alloc (.cells #[.int .i64 1] 3)) (HV5.out.below hbs1) aN_gn hsl1 (by simp) (by simp)
    rw [aN_rem, hm1] at this
    exact this
  obtain ⟨n0, n1, n2, n3, n4, n5⟩ := cells_of_nd HN5.out
  go_wp2_with fail
  refine hrem.mono ?_
  rintro e w7 ⟨hb7, A7, ca7, K7, ck7, rfl, hV7⟩
  unfold ndV ndCells
  have hb57 : Below w5.heap.size w5 w7 := hbs1.trans (hb7.mono hbs1.size)
  have hb8 := (Below.refl w7.heap.size w7).alloc (Nat.le_refl _) (.cells #[.int .i64 m1.kind, .string m1.name.1, .string m1.name.2, .slice A7 m1.attrs.length ca7, .slice K7 m1.kids.length ck7, .string m1.text] 27)
  have HM8 := Lib.hid (heap_alloc_new w7 (.cells #[.int .i64 m1.kind, .string m1.name.1, .string m1.name.2, .slice A7 m1.attrs.length ca7, .slice K7 m1.kids.length ck7, .string m1.text] 27))
  have HMV8 := Lib.hid (hV7.here.below hb8)
  have hb58 : Below w5.heap.size w5 _ := hb57.trans (hb8.mono hb57.size)
  have HN8 := Lib.hid (still_block HN5.out hb58)
  have HV8 := Lib.hid (HV5.out.below hb58)
  have HB8 := Lib.hid (HB5.out.trans (hb58.mono HB5.out.size))
  clear hrem hb7 hV7 hb57 hb58 hb8 hbs1 hsl1 n0 n1 n2 n3 n4 n5 HN5 HV5 HB5
  go_upto_region 3 with fail
  revert HM8 HMV8 HN8 HV8 HB8
  generalize w7.alloc (.cells #[.int .i64 m1.kind, .string m1.name.1, .string m1.name.2, .slice A7 m1.attrs.length ca7, .slice K7 m1.kids.length ck7, .string m1.text] 27) = w8
  intro HM8 HMV8 HN8 HV8 HB8
  generalize w7.heap.size = T8 at *
  have HC9 := Lib.hid (fun (v : World) (hv : Below w8.heap.size w8 v) => cells_of_nd (still_block HN8.out hv))
  go_cut [4, 5] from 19 to 24 (fun v4 v5 wx => ∃ (g4 : Nat) (A10 K10 : Option Addr) (ca10 ck10 : Nat), v4 = .pointer (some ⟨g4, 0, none⟩) ∧ v5 = .bool true ∧ Hid (wx.heap[g4]? = some (.cells #[.int .i64 m2.kind, .string m2.name.1, .string m2.name.2, .slice A10 m2.attrs.length ca10, .slice K10 m2.kids.length ck10, .string m2.text] 27 (0, 0))) ∧ Hid (Below w8.heap.size w8 wx))
  case first =>
    obtain ⟨n0, n1, n2, n3, n4, n5⟩ := HC9.out w8.drew (Below.refl _ _).drew
    have hins : ∀ v, Below w8.heap.size w8 v → Calls Try.prog 8 #[.agg #[.int .i64 1, .string ⟨#[]⟩, .string ⟨#[97]⟩, .slice none 0 0, .slice (some ⟨kb, 0, none⟩) 3 3, .string ⟨#[]⟩], .agg #[.int .i64 1, .string ⟨#[]⟩, .string ⟨#[97]⟩, .slice none 0 0, .slice none 0 0, .string ⟨#[]⟩], .int .i64 0, .slice none 0 0] v (NdOut (some m2) v) := fun v hv => by
      have := Insert_any aN aEl none (some ⟨kb, 0, none⟩) none none 0 3 0 0 0 [] none 0 v (HV8.out.below hv) ⟨Sl3.nil _ _, .inl rfl⟩ aN_gn aEl_gn (SlI.nil _ _) (by simp) (by simp)
      rw [aN_ins, hm2] at this
      exact this
    have v0 : ∀ o, (w8.alloc o).cell? ⟨T, 0, none⟩ = _ := fun o => (HC9.out (w8.alloc o) ((Below.refl _ w8).alloc (Nat.le_refl _) o)).1
    have v1 : ∀ o, (w8.alloc o).cell? ⟨T, 1, none⟩ = _ := fun o => (HC9.out (w8.alloc o) ((Below.refl _ w8).alloc (Nat.le_refl _) o)).2.1
    have v2 : ∀ o, (w8.alloc o).cell? ⟨T, 2, none⟩ = _ := fun o => (HC9.out (w8.alloc o) ((Below.refl _ w8).alloc (Nat.le_refl _) o)).2.2.1
    have v3 : ∀ o, (w8.alloc o).cell? ⟨T, 3, none⟩ = _ := fun o => (HC9.out (w8.alloc o) ((Below.refl _ w8).alloc (Nat.le_refl _) o)).2.2.2.1
    have v4 : ∀ o, (w8.alloc o).cell? ⟨T, 4, none⟩ = _ := fun o => (HC9.out (w8.alloc o) ((Below.refl _ w8).alloc (Nat.le_refl _) o)).2.2.2.2.1
    have v5 : ∀ o, (w8.alloc o).cell? ⟨T, 5, none⟩ = _ := fun o => (HC9.out (w8.alloc o) ((Below.refl _ w8).alloc (Nat.le_refl _) o)).2.2.2.2.2
    have hone := fun v => one_any none 0 0 v
    go_region_law (first
      | (go_simp
         go_at_call 19
         refine (hone w8.drew).mono ?_
         rintro e w9 ⟨rfl, hb9⟩
         have hb9' : Below w8.heap.size w8 w9 := (Below.refl _ w8).drew.trans hb9
         obtain ⟨p0, p1, p2, p3, p4, p5⟩ := HC9.out w9 hb9'
         have HB9 := Lib.hid hb9'
         obtain ⟨r0, r1, r2, r3, r4, r5⟩ := HC9.out (w9.alloc (.cells #[.int .i64 0, .string ⟨#[]⟩, .string ⟨#[]⟩, .slice none 0 0, .slice none 0 0, .string ⟨#[]⟩] 27)) (hb9'.alloc hb9'.size _)
         clear hb9 hb9')
      | (go_simp
         go_at_call 19
         refine (hone (w8.alloc (.cells #[.int .i64 0, .string ⟨#[]⟩, .string ⟨#[]⟩, .slice none 0 0, .slice none 0 0, .string ⟨#[]⟩] 27)).drew).mono ?_
         rintro e w9 ⟨rfl, hb9⟩
         have HZ := Lib.hid (still_block (w := (w8.alloc (.cells #[.int .i64 0, .string ⟨#[]⟩, .string ⟨#[]⟩, .slice none 0 0, .slice none 0 0, .string ⟨#[]⟩] 27)).drew) (heap_alloc_new w8 (.cells #[.int .i64 0, .string ⟨#[]⟩, .string ⟨#[]⟩, .slice none 0 0, .slice none 0 0, .string ⟨#[]⟩] 27)) hb9)
         have hb9' : Below w8.heap.size w8 w9 := (((Below.refl w8.heap.size w8).alloc (Nat.le_refl _) (.cells #[.int .i64 0, .string ⟨#[]⟩, .string ⟨#[]⟩, .slice none 0 0, .slice none 0 0, .string ⟨#[]⟩] 27)).drew).trans (hb9.mono (by simp))
         obtain ⟨p0, p1, p2, p3, p4, p5⟩ := HC9.out w9 hb9'
         have HB9 := Lib.hid hb9'
         clear hb9 hb9')
      | (go_simp
         go_at_call 8
         refine (hins w9 HB9.out).mono ?_
         rintro e w10 ⟨hb10, A10, ca10, K10, ck10, rfl, hV10⟩
         unfold ndV ndCells
         have HB10 := Lib.hid (HB9.out.trans (hb10.mono HB9.out.size))
         try (
           have HZA := Lib.hid (still_block HZ.out hb10)
           have z0 := blk_free HZA.out 0
           have z1 := blk_free HZA.out 1
           have z2 := blk_free HZA.out 2
           have z3 := blk_free HZA.out 3
           have z4 := blk_free HZA.out 4
           have z5 := blk_free HZA.out 5
           obtain ⟨y0, y1, y2, y3, y4, y5⟩ := cells_of_nd HZA.out)
         clear hb10 hV10)
      | (go_simp
         go_at_call 8
         refine (hins (w9.alloc (.cells #[.int .i64 0, .string ⟨#[]⟩, .string ⟨#[]⟩, .slice none 0 0, .slice none 0 0, .string ⟨#[]⟩] 27)) (HB9.out.alloc HB9.out.size _)).mono ?_
         rintro e w10 ⟨hb10, A10, ca10, K10, ck10, rfl, hV10⟩
         unfold ndV ndCells
         have HZB := Lib.hid (still_block (heap_alloc_new w9 (.cells #[.int .i64 0, .string ⟨#[]⟩, .string ⟨#[]⟩, .slice none 0 0, .slice none 0 0, .string ⟨#[]⟩] 27)) hb10)
         have HB10 := Lib.hid ((HB9.out.alloc HB9.out.size (.cells #[.int .i64 0, .string ⟨#[]⟩, .string ⟨#[]⟩, .slice none 0 0, .slice none 0 0, .string ⟨#[]⟩] 27)).trans (hb10.mono (HB9.out.alloc HB9.out.size (.cells #[.int .i64 0, .string ⟨#[]⟩, .string ⟨#[]⟩, .slice none 0 0, .slice none 0 0, .string ⟨#[]⟩] 27)).size))
         have z0 := blk_free HZB.out 0
         have z1 := blk_free HZB.out 1
         have z2 := blk_free HZB.out 2
         have z3 := blk_free HZB.out 3
         have z4 := blk_free HZB.out 4
         have z5 := blk_free HZB.out 5
         obtain ⟨y0, y1, y2, y3, y4, y5⟩ := cells_of_nd HZB.out
         clear hb10 hV10))
    all_goals
      first
        | (have HM11 : Hid (((((((w10.setCell ⟨w9.heap.size, 0, none⟩ (.int .i64 m2.kind)).setCell ⟨w9.heap.size, 1, none⟩ (.string m2.name.1)).setCell ⟨w9.heap.size, 2, none⟩ (.string m2.name.2)).setCell ⟨w9.heap.size, 3, none⟩ (.slice A10 m2.attrs.length ca10)).setCell ⟨w9.heap.size, 4, none⟩ (.slice K10 m2.kids.length ck10)).setCell ⟨w9.heap.size, 5, none⟩ (.string m2.text)).heap[w9.heap.size]? = _) := Lib.hid (six_blk HZB.out _ _ _ _ _ _)
           have HB11 := Lib.hid (six_below (g := w9.heap.size) HB10.out (by have := HB9.out.size; omega) (.int .i64 m2.kind) (.string m2.name.1) (.string m2.name.2) (.slice A10 m2.attrs.length ca10) (.slice K10 m2.kids.length ck10) (.string m2.text))
           clear HZB HB10
           revert HM11 HB11
           generalize ((((((w10.setCell ⟨w9.heap.size, 0, none⟩ (.int .i64 m2.kind)).setCell ⟨w9.heap.size, 1, none⟩ (.string m2.name.1)).setCell ⟨w9.heap.size, 2, none⟩ (.string m2.name.2)).setCell ⟨w9.heap.size, 3, none⟩ (.slice A10 m2.attrs.length ca10)).setCell ⟨w9.heap.size, 4, none⟩ (.slice K10 m2.kids.length ck10)).setCell ⟨w9.heap.size, 5, none⟩ (.string m2.text)) = w11
           intro HM11 HB11
           generalize hg4 : w9.heap.size = g4 at HM11 ⊢)
        | (have HM11 : Hid (((((((w10.setCell ⟨w8.heap.size, 0, none⟩ (.int .i64 m2.kind)).setCell ⟨w8.heap.size, 1, none⟩ (.string m2.name.1)).setCell ⟨w8.heap.size, 2, none⟩ (.string m2.name.2)).setCell ⟨w8.heap.size, 3, none⟩ (.slice A10 m2.attrs.length ca10)).setCell ⟨w8.heap.size, 4, none⟩ (.slice K10 m2.kids.length ck10)).setCell ⟨w8.heap.size, 5, none⟩ (.string m2.text)).heap[w8.heap.size]? = _) := Lib.hid (six_blk HZA.out _ _ _ _ _ _)
           have HB11 := Lib.hid (six_below (g := w8.heap.size) HB10.out (by have := HB9.out.size; omega) (.int .i64 m2.kind) (.string m2.name.1) (.string m2.name.2) (.slice A10 m2.attrs.length ca10) (.slice K10 m2.kids.length ck10) (.string m2.text))
           clear HZA HB10
           revert HM11 HB11
           generalize ((((((w10.setCell ⟨w8.heap.size, 0, none⟩ (.int .i64 m2.kind)).setCell ⟨w8.heap.size, 1, none⟩ (.string m2.name.1)).setCell ⟨w8.heap.size, 2, none⟩ (.string m2.name.2)).setCell ⟨w8.heap.size, 3, none⟩ (.slice A10 m2.attrs.length ca10)).setCell ⟨w8.heap.size, 4, none⟩ (.slice K10 m2.kids.length ck10)).setCell ⟨w8.heap.size, 5, none⟩ (.string m2.text)) = w11
           intro HM11 HB11
           generalize hg4 : w8.heap.size = g4 at HM11 ⊢)
        | (have HM11 := Lib.hid (heap_alloc_new w10 (.cells #[.int .i64 m2.kind, .string m2.name.1, .string m2.name.2, .slice A10 m2.attrs.length ca10, .slice K10 m2.kids.length ck10, .string m2.text] 27))
           have HB11 := Lib.hid (HB10.out.alloc HB10.out.size (.cells #[.int .i64 m2.kind, .string m2.name.1, .string m2.name.2, .slice A10 m2.attrs.length ca10, .slice K10 m2.kids.length ck10, .string m2.text] 27))
           clear HB10
           revert HM11 HB11
           generalize w10.alloc (.cells #[.int .i64 m2.kind, .string m2.name.1, .string m2.name.2, .slice A10 m2.attrs.length ca10, .slice K10 m2.kids.length ck10, .string m2.text] 27) = w11
           intro HM11 HB11
           generalize hg4 : w10.heap.size = g4 at HM11 ⊢)
      clear hins hone v0 v1 v2 v3 v4 v5 hg4 HC9 HN8 HV8 HMV8 HB8
      go_wp2_with fail
      go_meet
      case rel => exact ⟨g4, A10, K10, ca10, ck10, rfl, rfl, HM11, HB11⟩
  case rest =>
    obtain ⟨g4, A10, K10, ca10, ck10, rfl, rfl, HM11, HB11⟩ := hcut
    obtain ⟨w11, rfl⟩ : ∃ w11, w11 = wc := ⟨wc, rfl⟩
    clear HC9
    have hb11 := HB11.out
    have HN11 := Lib.hid (still_block HN8.out hb11)
    have HV11 := Lib.hid (HV8.out.below hb11)
    have HM1 := Lib.hid (still_block HM8.out hb11)
    have HMV1 := Lib.hid (HMV8.out.below hb11)
    have HBW := Lib.hid (HB8.out.trans (hb11.mono HB8.out.size))
    have hsl3 : SlI (w11.alloc (.cells #[.int .i64 3] 3)) (some ⟨w11.heap.size, 0, none⟩) [3] := Sl.lit w11 1 [.int .i64 3] 3 1 rfl
    have hbs3 := (Below.refl w11.heap.size w11).alloc (Nat.le_refl _) (.cells #[.int .i64 3] 3)
    have hat : Calls Try.prog 9 #[.agg #[.int .i64 1, .string ⟨#[]⟩, .string ⟨#[97]⟩, .slice none 0 0, .slice (some ⟨kb, 0, none⟩) 3 3, .string ⟨#[]⟩], .slice (some ⟨w11.heap.size, 0, none⟩) 1 1] (w11.alloc (.cells #[.int .i64 3] 3)) (NdOut none (w11.alloc (.cells #[.int .i64 3] 3))) := by
      have := At_any aN none (some ⟨kb, 0, none⟩) 0 3 [3] (some ⟨w11.heap.size, 0, none⟩) 1 (w11.alloc (.cells #[.int .i64 3] 3)) (HV11.out.below hbs3) aN_gn.1 hsl3 (by simp)
      rw [aN_at] at this
      exact this
    clear HN8 HV8 HM8 HMV8 HB8 hb11 HB11
    obtain ⟨n0, n1, n2, n3, n4, n5⟩ := cells_of_nd HN11.out
    go_wp2_with fail
    refine hat.mono ?_
    rintro e w12 ⟨hb12, rfl⟩
    have hb112 : Below w11.heap.size w11 w12 := hbs3.trans (hb12.mono hbs3.size)
    have hb13 := hb112.alloc hb112.size (.cells #[.int .i64 0, .string ⟨#[]⟩, .string ⟨#[]⟩, .slice none 0 0, .slice none 0 0, .string ⟨#[]⟩] 27)
    have HN13 := Lib.hid (still_block HN11.out hb13)
    have HV13 := Lib.hid (HV11.out.below hb13)
    have HM13 := Lib.hid (still_block HM1.out hb13)
    have HMV13 := Lib.hid (HMV1.out.below hb13)
    have HM213 := Lib.hid (still_block HM11.out hb13)
    have HB13 := Lib.hid (HBW.out.trans (hb13.mono HBW.out.size))
    clear hat hb12 hb112 hb13 hbs3 hsl3 n0 n1 n2 n3 n4 n5 HN11 HV11 HM1 HMV1 HM11 HBW
    go_upto_region 5 with fail
    revert HN13 HV13 HM13 HMV13 HM213 HB13
    generalize w12.alloc (.cells #[.int .i64 0, .string ⟨#[]⟩, .string ⟨#[]⟩, .slice none 0 0, .slice none 0 0, .string ⟨#[]⟩] 27) = w13
    intro HN13 HV13 HM13 HMV13 HM213 HB13
    have e1 : m1.kids.length = 1 := by rw [← hm1]; rfl
    have e2 : m2.kids.length = 4 := by rw [← hm2]; rfl
    have e3 : m1.kids[0]? = some (.mk 2 (⟨#[]⟩, ⟨#[]⟩) [] [] ⟨#[120, 121]⟩) := by rw [← hm1]; rfl
    rw [e1] at HM13
    rw [e2] at HM213
    obtain ⟨ad, kA, kca, kQ, kcq, rfl, hkb, k0, k1, k2, k3, k4, k5, hka, hkk⟩ := HMV13.out.2.at_ e3
    obtain ⟨kb1, ko1, kp1⟩ := ad
    have HSV : Hid (∀ v, Below w13.heap.size w13 v → v.cell? ⟨kb1, ko1 + 5, none⟩ = some (.string ⟨#[120, 121]⟩) ∧ v.cell? ⟨T, 0, none⟩ = some (.int .i64 1) ∧ v.cell? ⟨T, 1, none⟩ = some (.string ⟨#[]⟩) ∧ v.cell? ⟨T, 2, none⟩ = some (.string ⟨#[97]⟩) ∧ v.cell? ⟨T, 3, none⟩ = some (.slice none 0 0) ∧ v.cell? ⟨T, 4, none⟩ = some (.slice (some ⟨kb, 0, none⟩) 3 3) ∧ v.cell? ⟨T, 5, none⟩ = some (.string ⟨#[]⟩) ∧ v.cell? ⟨T8, 4, none⟩ = some (.slice (some ⟨kb1, ko1, kp1⟩) 1 ck7) ∧ v.cell? ⟨g4, 4, none⟩ = some (.slice K10 4 ck10)) := Lib.hid (fun v hv => by
      obtain ⟨b0, b1, b2, b3, b4, b5⟩ := cells_of_nd (still_block HN13.out hv)
      obtain ⟨d0, d1, d2, d3, d4, d5⟩ := cells_of_nd (still_block HM13.out hv)
      obtain ⟨f0, f1, f2, f3, f4, f5⟩ := cells_of_nd (still_block HM213.out hv)
      refine ⟨?_, b0, b1, b2, b3, b4, b5, d4, f4⟩
      have hq := (hv.cell (p := ⟨kb1, ko1 + 5, none⟩) hkb).trans (by simpa [Addr.add, Nd.text] using k5)
      exact hq)
    have HPL : Hid (∀ v, Below w13.heap.size w13 v → Calls Try.prog 20 #[.agg #[.int .i64 1, .string ⟨#[]⟩, .string ⟨#[97]⟩, .slice none 0 0, .slice (some ⟨kb, 0, none⟩) 3 3, .string ⟨#[]⟩]] v fun e w' => ∃ L c, e = .returned (.slice L 2 c) ∧ Below v.heap.size v w') := Lib.hid (fun v hv => by
      have hpl := Places_top aN none (some ⟨kb, 0, none⟩) 0 3 v rfl aN_ks (by decide) (HV13.out.below hv)
      rw [aN_els] at hpl
      exact hpl)
    clear HN13 HM13 HM213 HMV13 hm1 hm2 e1 e2 e3 hkb hka hkk HV13 k0 k1 k2 k3 k4 k5
    obtain ⟨k5, b0, b1, b2, b3, b4, b5, d4, f4⟩ := HSV.out _ (Below.refl _ w13)
    go_wp2_with fail
    refine (HPL.out _ (Below.refl _ w13)).mono ?_
    rintro e w14 ⟨L, c, rfl, hb14⟩
    have HB14 := Lib.hid hb14
    clear hb14
    go_wp2
    go_ret
    exact ⟨rfl, HB13.out.trans (HB14.out.mono HB13.out.size)⟩
end Go.Proofs.Ytlcjepnaljfpkaa
