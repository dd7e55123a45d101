/- TrSa TrTa. -/
import Derived.Deep.RegionLaw
import Derived.Lib.Replace
import Derived.Lib.CountLaws
import Derived.Lib.IndexLaws
import Derived.Lib.IndexBytes
import Derived.Lib.ConvBytes
import Derived.Lib.AtoiErrMem
import Derived.Laws.Strings3
import Derived.Laws.Closers25
import Derived.Laws.Closers25b
import Derived.BigCall
import Derived.BigGuard
import Derived.Recover
import Derived.Laws.Pointers
import Derived.Deep.RegionHeld2
import Derived.Deep.DeepCutAuto
import Derived.Scope
import Derived.ScopeJumps
import Derived.WalkMore
import Derived.Deep.LoopGhost
import Derived.Lib.Fold
import Derived.Laws.RangeAny
import Derived.Laws.BitsAllLaws
import Derived.Shelf.GgClosure.StringsTrimFunc
import Derived.Lib.OthersKept
import Derived.Test.YtlcjepnaljfpkaaGreatDoorRows
import Derived.Deep.QuietTactic
import Derived.BigQuiet
import Derived.KernelRfl
import Derived.Laws.StructEq
import Derived.Laws.Tables
import Derived.Test.YtlcjepnaljfpkaaGreatDoorQp1
import Derived.Test.YtlcjepnaljfpkaaGreatDoorQp3
import Derived.Test.YtlcjepnaljfpkaaGreatDoorQp6
import Derived.Test.YtlcjepnaljfpkaaGreatDoorQp7
import Derived.Test.YtlcjepnaljfpkaaGreatDoorQp8
import Derived.Test.YtlcjepnaljfpkaaGreatDoorQp10
import Derived.Test.YtlcjepnaljfpkaaGreatDoorQp17
import Derived.Test.YtlcjepnaljfpkaaGreatDoorQp19
import Derived.Test.YtlcjepnaljfpkaaGreatDoorQp20
import Derived.Test.YtlcjepnaljfpkaaGreatDoorQp22
import Derived.Test.YtlcjepnaljfpkaaGreatDoorQp25
import Derived.Test.YtlcjepnaljfpkaaGreatDoorQp26
import Derived.Test.YtlcjepnaljfpkaaGreatDoorQp27
import Derived.Test.YtlcjepnaljfpkaaGreatDoorQp30
namespace Go.Proofs.YtlcjepnaljfpkaaGreatDoor
open Go.RowKit Wb
def parseX (s : ByteArray) : Except (Int × Int) Nd :=
  match tokensU s.data.toList with
  | .error (p, c) => .error (p, c)
  | .ok ts => treeX s.size (ts.map tkv)
theorem six_blk {w : World} {g : Nat} {t : TypeId} {z0 z1 z2 z3 z4 z5 : Value} (h : w.heap[g]? = some (.cells #[z0, z1, z2, z3, z4, z5] t (0, 0))) (c0 c1 c2 c3 c4 c5 : Value) :
    ((((((w.setCell ⟨g, 0, none⟩ c0).setCell ⟨g, 1, none⟩ c1).setCell ⟨g, 2, none⟩ c2).setCell ⟨g, 3, none⟩ c3).setCell ⟨g, 4, none⟩ c4).setCell ⟨g, 5, none⟩ c5).heap[g]? = some (.cells #[c0, c1, c2, c3, c4, c5] t (0, 0)) := by
  have := blk_set (blk_set (blk_set (blk_set (blk_set (blk_set h 0 c0) 1 c1) 2 c2) 3 c3) 4 c4) 5 c5
  simpa using this
theorem six_below {B : Nat} {a w : World} {g : Nat} (h : Below B a w) (hg : B ≤ g) (c0 c1 c2 c3 c4 c5 : Value) :
    Below B a ((((((w.setCell ⟨g, 0, none⟩ c0).setCell ⟨g, 1, none⟩ c1).setCell ⟨g, 2, none⟩ c2).setCell ⟨g, 3, none⟩ c3).setCell ⟨g, 4, none⟩ c4).setCell ⟨g, 5, none⟩ c5) := by
  have st : ∀ (v : World) (i : Nat) (c : Value), Below B a v → Below B a (v.setCell ⟨g, i, none⟩ c) := fun v i c hv => hv.setCell (p := ⟨g, i, none⟩) hg c
  exact st _ _ _ (st _ _ _ (st _ _ _ (st _ _ _ (st _ _ _ (st _ _ _ h)))))
theorem six_keep (w : World) (g : Nat) (c0 c1 c2 c3 c4 c5 : Value) :
    Keep (fun k => k = g) w ((((((w.setCell ⟨g, 0, none⟩ c0).setCell ⟨g, 1, none⟩ c1).setCell ⟨g, 2, none⟩ c2).setCell ⟨g, 3, none⟩ c3).setCell ⟨g, 4, none⟩ c4).setCell ⟨g, 5, none⟩ c5) := by
  have st : ∀ (v : World) (i : Nat) (c : Value), Keep (fun k => k = g) w v → Keep (fun k => k = g) w (v.setCell ⟨g, i, none⟩ c) := fun v i c hv => hv.setCell (p := ⟨g, i, none⟩) rfl c
  exact st _ _ _ (st _ _ _ (st _ _ _ (st _ _ _ (st _ _ _ (st _ _ _ (Keep.refl _ w))))))
theorem node_info2 : (Tryz.prog.info? 37).map (·.size) = some 6 := by kernel_rfl
end Go.Proofs.YtlcjepnaljfpkaaGreatDoor
namespace Go.Proofs.YtlcjepnaljfpkaaGreatDoor
open Go.RowKit Wb Go.Lib
theorem txt_bad {s : List UInt8} (h : TxtOK s) (f k : Nat) (hf : s.length ≤ f) : badU f s k = none := by
  obtain ⟨ns, hn, rfl⟩ := h
  exact (badU_flat ns (fun n hm => char_sgn n (hn n hm)) f k hf).2 hn
set_option maxRecDepth 100000 in
set_option maxHeartbeats 1000000 in
theorem signs_ok (s : ByteArray) (w : World) (hs : s.size ≤ 1000000000) (hT : TxtB s) :
    Calls Tryz.prog 120 #[.string s] w fun e w' => e = .returned (.bool true) ∧ Below w.heap.size w w' := by
  have hck := check_any s w hs
  have hc : chk s.data.toList = -1 := by
    obtain ⟨ns, hn, e⟩ := hT
    have := chk_form ns [] (fun n hm => char_sgn n (hn n hm)) rfl
    rw [e]
    simpa using this
  rw [hc] at hck
  have HBAD := Lib.hid (txt_bad hT s.size 0 (by rw [← Lib.size_eq]; exact Nat.le_refl _))
  clear hc hT
  go_enter Tryz.func120, Tryz.ntmps120
  go_wp2_with fail
  refine hck.mono ?_
  rintro e w1 ⟨rfl, hb⟩
  have hit : (w1.iter s 0).heap[w1.heap.size]? = some (.stringIter s 0) := World.iter_heap w1 s 0
  have hb1 : Below w.heap.size w (w1.iter s 0) := hb.alloc hb.size _
  have hkb : w.heap.size ≤ w1.heap.size := hb.size
  have HIT := Lib.hid hit
  have HB1 := Lib.hid hb1
  clear hck hit hb1 hb
  go_wp2
  go_loopg [] s.size (fun g wx => ∃ pos : Nat, s.size ≤ pos + g ∧ wx.heap[w1.heap.size]? = some (.stringIter s pos) ∧ Below w.heap.size w wx ∧ Hid (badU g (s.data.toList.drop pos) pos = none))
  case atStart => exact ⟨0, by omega, HIT.out, HB1.out, HBAD⟩
  case round =>
    obtain ⟨pos, hpg, hk, hbw, HI⟩ := hrel
    have HBW := Lib.hid hbw
    by_cases hp : pos < s.size
    · obtain ⟨g, rfl⟩ : ∃ g, gk = g + 1 := ⟨gk - 1, by omega⟩
      have hne : s.data.toList.drop pos ≠ [] := by
        intro e
        have := congrArg List.length e
        rw [List.length_drop, ← Lib.size_eq] at this
        simp at this
        omega
      have hnx := fun (ty : TypeId) => run_next_any_at (P := Tryz.prog) wr w1.heap.size s pos ty hk hp
      rw [decode_U s pos hp] at hnx
      have hi := HI.out
      rw [show badU (g + 1) (s.data.toList.drop pos) pos = if s.data.toList.drop pos = [] then none else if charB (decU (s.data.toList.drop pos)).1 = true then badU g ((s.data.toList.drop pos).drop (decU (s.data.toList.drop pos)).2) (pos + (decU (s.data.toList.drop pos)).2) else some pos from rfl, if_neg hne, List.drop_drop] at hi
      have hdp := decU_pos (s.data.toList.drop pos)
      generalize hR : (decU (s.data.toList.drop pos)).1 = R at *
      generalize hW : (decU (s.data.toList.drop pos)).2 = W at *
      have HI3 := Lib.hid (iterAt_heap wr w1.heap.size s pos (pos + W) hk)
      have HB3 := Lib.hid (below_iterAt HBW.out hkb s (pos + W))
      cases hcb : charB (R : Int) with
      | true =>
        rw [if_pos hcb] at hi
        have HI2 := Lib.hid hi
        clear hi hk hbw hR hW hne HI hp
        go_wp2_with fail
        refine (char_any (R : Int) _).mono ?_
        rintro e w3 ⟨rfl, hb3⟩
        rw [hcb]
        have HB4 := Lib.hid (HB3.out.trans (hb3.mono HB3.out.size))
        have HI4 := Lib.hid ((hb3.block _ (Array.getElem?_eq_some_iff.1 HI3.out).1).trans HI3.out)
        clear hnx hb3
        go_wp2
        go_roundg g
        case measure => omega
        case rel => exact ⟨pos + W, by omega, HI4.out, HB4.out, HI2⟩
      | false =>
        rw [if_neg (by rw [hcb]; decide)] at hi
        cases hi
    · have hnx := fun (ty : TypeId) => run_next_end_at (P := Tryz.prog) wr w1.heap.size s pos ty hk hp
      clear hk hbw
      go_wp2
      go_ret
      exact ⟨rfl, HBW.out⟩
theorem rname_ok (n : Pr) (w : World) (h : nameOK n) (h1 : n.1.size ≤ 1000000000) (h2 : n.2.size ≤ 1000000000) :
    Calls Tryz.prog 85 #[.agg #[.string n.1, .string n.2]] w fun e w' => e = .returned (.bool true) ∧ Below w.heap.size w w' := by
  obtain ⟨sp, lo⟩ := n
  obtain ⟨hn, ht, hx⟩ := h
  simp only at hn ht hx h1 h2 ⊢
  have hnm := name_any lo (w.alloc (.cells #[.string sp, .string lo] 33)) h2
  rw [hn] at hnm
  have HS := Lib.hid (fun (w2 : World) => signs_ok sp w2 h1 ht)
  have hx' : (sp.toList == sXMLNS.toList) = false := by
    have : ¬ eqT sp sXMLNS = true := fun e => hx ((eqT_iff _ _).1 e)
    simpa [eqT] using this
  have hxl : sXMLNS.toList = [104, 116, 116, 112, 58, 47, 47, 119, 119, 119, 46, 119, 51, 46, 111, 114, 103, 47, 50, 48, 48, 48, 47, 120, 109, 108, 110, 115, 47] := by
    rw [ByteArray.toList_eq]; rfl
  rw [hxl] at hx'
  have hblk := heap_alloc_new w (.cells #[.string sp, .string lo] 33)
  have HB := Lib.hid hblk
  clear hn ht hx hblk hxl
  go_enter Tryz.func85, Tryz.ntmps85
  go_wp2_with fail
  refine hnm.mono ?_
  rintro e w2 ⟨rfl, hb2⟩
  have hB2 := still_block HB.out hb2
  have c0 := blk_cell hB2 0
  simp only [List.getElem?_toArray, List.getElem?_cons_zero] at c0
  have HB2 := Lib.hid hB2
  have HW2 := Lib.hid (((Below.refl _ w).alloc (Nat.le_refl _) (.cells #[.string sp, .string lo] 33)).trans (hb2.mono (by simp)))
  clear hB2 hb2 hnm
  go_wp2_with fail
  refine (HS.out _).mono ?_
  rintro e w3 ⟨rfl, hb3⟩
  have hB3 := still_block HB2.out hb3
  have c0' := blk_cell hB3 0
  simp only [List.getElem?_toArray, List.getElem?_cons_zero] at c0'
  have HW3 := Lib.hid (HW2.out.trans (hb3.mono HW2.out.size))
  clear hB3 hb3 c0
  go_wp2
  go_ret
  exact ⟨rfl, HW3.out⟩
theorem arr_info : (Tryz.prog.info? 153).map (·.size) = some 2 := by kernel_rfl
theorem key_any (a b : ByteArray) (w : World) : Calls Tryz.prog 121 #[.agg #[.string a, .string b]] w fun e w' => e = .returned (.agg #[.string a, .string b]) ∧ Below w.heap.size w w' := by
  have hb : ((w.alloc (.cells #[.string a, .string b] 33)).alloc (.cells #[.string a, .string b] 153)).heap[w.heap.size + 1]? = some (.cells #[.string a, .string b] 153 (0, 0)) := by
    have := heap_alloc_new (w.alloc (.cells #[.string a, .string b] 33)) (.cells #[.string a, .string b] 153)
    simpa using this
  have HB := Lib.hid hb
  clear hb
  go_enter Tryz.func121, Tryz.ntmps121
  go_wp2
  refine bodyPost_ret (results_cell_row rfl _ _ (w.heap.size + 1) _ _ (0, 0) _ rfl HB.out Tryz.underlying153 rfl arr_info) rfl ?_
  exact ⟨rfl, ((Below.refl _ w).alloc (Nat.le_refl _) _).alloc (by simp) _⟩
set_option maxRecDepth 100000 in
theorem eq_arr (a b c d : ByteArray) (w : World) : (Op.equalIn 10000 153 (.agg #[.string a, .string b]) (.agg #[.string c, .string d])).run Tryz.prog w = .ok (a.toList == c.toList && b.toList == d.toList) w := by
  have u3 := Tryz.underlying9
  have a3 := Tryz.isAgg9
  have z3 := Tryz.sizeOf9
  rw [show (10000 : Nat) = 9999 + 1 from rfl, Op.equalIn]
  simp only [Sem.run_bind, run_underlying Tryz.underlying153, Result.andThen_ok]
  simp only [Std.Legacy.Range.forIn_eq_forIn_range', Std.Legacy.Range.size, Nat.sub_zero, Nat.add_sub_cancel, Nat.div_one, List.range'_succ, List.range'_zero, List.forIn_cons, List.forIn_nil]
  go_simp
  by_cases h1 : a.toList = c.toList <;> by_cases h2 : b.toList = d.toList <;> simp [h1, h2]
set_option maxRecDepth 100000 in
theorem rtext_ok (n : Nd) (A K : Option Addr) (ca ck : Nat) (w : World) {d : Nat} (h : okN d n) (hk : n.kind ≠ 1) (hz : n.text.size ≤ 1000000000) :
    Calls Tryz.prog 84 #[ndV n A ca K ck] w fun e w' => e = .returned (.bool true) ∧ Below w.heap.size w w' := by
  obtain ⟨k, nm, al, ks, t⟩ := n
  unfold okN at h
  rcases h with ⟨rfl, _⟩ | ⟨rfl, ht0, ht, rfl, rfl, rfl⟩
  · exact absurd rfl hk
  · simp only [Nd.text] at hz
    unfold ndV ndCells
    simp only [Nd.kind, Nd.name, Nd.attrs, Nd.kids, Nd.text, List.length_nil]
    have he : t.toList.isEmpty = false := by
      have : ¬ t.toList = [] := fun e => ht0 (by
        rw [ByteArray.toList_eq] at e
        exact ByteArray.ext (Array.ext' (by simpa [sE] using e)))
      simpa using this
    have hblk := heap_alloc_new w (.cells #[.int .i64 2, .string sE, .string sE, .slice A 0 ca, .slice K 0 ck, .string t] 37)
    have HB := Lib.hid hblk
    have hsg := signs_ok t (w.alloc (.cells #[.int .i64 2, .string sE, .string sE, .slice A 0 ca, .slice K 0 ck, .string t] 37)) hz ht
    have HBW := Lib.hid ((Below.refl _ w).alloc (Nat.le_refl _) (.cells #[.int .i64 2, .string sE, .string sE, .slice A 0 ca, .slice K 0 ck, .string t] 37))
    have HKY := Lib.hid (fun w2 => key_any sE sE w2)
    have heq := fun w2 => eq_arr sE sE ⟨#[]⟩ ⟨#[]⟩ w2
    rw [show (sE.toList == (⟨#[]⟩ : ByteArray).toList && sE.toList == (⟨#[]⟩ : ByteArray).toList) = true from by simp [sE]] at heq
    clear hblk ht ht0 hk
    go_enter Tryz.func84, Tryz.ntmps84
    go_wp2_with fail
    refine hsg.mono ?_
    rintro e w2 ⟨rfl, hb2⟩
    have hB2 := still_block HB.out hb2
    have c1 := blk_cell hB2 1
    have c2 := blk_cell hB2 2
    simp only [List.getElem?_toArray, List.getElem?_cons_zero, List.getElem?_cons_succ] at c1 c2
    have HB2 := Lib.hid hB2
    have HW2 := Lib.hid (HBW.out.trans (hb2.mono (by simp)))
    clear hB2 hb2 hsg
    go_wp2_with fail
    refine (HKY.out _).mono ?_
    rintro e w3 ⟨rfl, hb3⟩
    have hB3 := still_block HB2.out hb3
    have c3 := blk_cell hB3 3
    have c4 := blk_cell hB3 4
    simp only [List.getElem?_toArray, List.getElem?_cons_zero, List.getElem?_cons_succ] at c3 c4
    have HW3 := Lib.hid (HW2.out.trans (hb3.mono HW2.out.size))
    clear hB3 hb3 c1 c2
    go_wp2
    go_ret
    exact ⟨rfl, HW3.out⟩
end Go.Proofs.YtlcjepnaljfpkaaGreatDoor
