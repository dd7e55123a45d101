/- PrL TrTd. -/
import Derived.Test.YtlcjepnaljfpkaaGreatDoorQp37
import Derived.Test.YtlcjepnaljfpkaaGreatDoorQp39
import Derived.Test.YtlcjepnaljfpkaaGreatDoorQp45
namespace Go.Proofs.YtlcjepnaljfpkaaGreatDoor
open Go.RowKit Wb
set_option maxRecDepth 100000 in
set_option maxHeartbeats 4000000 in
theorem Print_ok (n : Nd) (A K : Option Addr) (ca ck : Nat) (w : World) (hok : okN 1 n) (hk : n.kind = 1) (hsz : szN n) (hcost : costN n ≤ 2000) (hsm : smallN n) (hV : NodeV w n A K) :
    Calls Tryz.prog 14 #[ndV n A ca K ck] w fun e w' => e = .returned (.tuple #[.string ⟨(printX n).1.toArray⟩, .int .i64 (printX n).2]) ∧ Below w.heap.size w w' := by
  have hb1 : Below w.heap.size w (w.alloc (.cells (ndCells n.kind n.name A n.attrs.length ca K n.kids.length ck n.text).toArray 37)) := (Below.refl _ w).alloc (Nat.le_refl _) _
  have hN := heap_alloc_new w (.cells (ndCells n.kind n.name A n.attrs.length ca K n.kids.length ck n.text).toArray 37)
  have hr := Right_ok n A K ca ck (w.alloc (.cells (ndCells n.kind n.name A n.attrs.length ca K n.kids.length ck n.text).toArray 37)) hok hk hsz hcost (NodeV.below hV hb1)
  have HE := Lib.hid (fun (v : World) (hB : Below w.heap.size w v) => element_any w v.heap.size v.heap.size 32768 (by decide) hB.size n 1 A K ca ck sE [] (v.alloc (.cells #[.pointer none, .slice none 0 0, .int .i64 ((32768 : Nat) : Int), .bool false] 73)) hok hk hsz hsm hV (hB.alloc hB.size _) (page_new 32768 v))
  have hPX : printX n = if 32768 < (nodeT n sE).length then ([], 3) else (nodeT n sE, 0) := rfl
  obtain ⟨r1, r2, hR⟩ : ∃ r1 r2, (if 32768 < (nodeT n sE).length then (([], 3) : List UInt8 × Int) else (nodeT n sE, 0)) = (r1, r2) := ⟨_, _, rfl⟩
  rw [hPX, hR]
  rw [List.nil_append] at HE
  generalize nodeT n sE = tx at *
  have HR := Lib.hid hR
  clear hR
  simp only
  have HN := Lib.hid hN
  have HB := Lib.hid hb1
  clear hN hb1 hok hsz hcost hsm hV hPX
  unfold ndV ndCells at *
  rw [hk] at *
  have n0 := blk_cell HN.out 0
  have n1 := blk_cell HN.out 1
  have n2 := blk_cell HN.out 2
  have n3 := blk_cell HN.out 3
  have n4 := blk_cell HN.out 4
  have n5 := blk_cell HN.out 5
  simp only [List.getElem?_toArray, List.getElem?_cons_zero, List.getElem?_cons_succ] at n0 n1 n2 n3 n4 n5
  go_enter Tryz.func14, Tryz.ntmps14
  go_wp2_with fail
  refine hr.mono ?_
  rintro e w1 ⟨rfl, hb1⟩
  have HB1 := Lib.hid (HB.out.trans (hb1.mono HB.out.size))
  have HN1 := Lib.hid (still_block HN.out hb1)
  have he := HE.out w1 HB1.out
  have HN2 := Lib.hid ((Below.heap_alloc w1 (.cells #[.pointer none, .slice none 0 0, .int .i64 ((32768 : Nat) : Int), .bool false] 73) _ (blk_in HN1.out)).trans HN1.out)
  have HB2 := Lib.hid (HB1.out.alloc HB1.out.size (.cells #[.pointer none, .slice none 0 0, .int .i64 ((32768 : Nat) : Int), .bool false] 73))
  have hsz2 : w1.heap.size < (w1.alloc (.cells #[.pointer none, .slice none 0 0, .int .i64 ((32768 : Nat) : Int), .bool false] 73)).heap.size := by simp
  have hws := HB1.out.size
  clear hr hb1 n0 n1 n2 n3 n4 n5 HN HB HE HN1
  go_upto_region 4 with fail
  revert he HN2 HB2 hsz2
  generalize (w1.alloc (.cells #[.pointer none, .slice none 0 0, .int .i64 ((32768 : Nat) : Int), .bool false] 73)) = w2
  intro he HN2 HB2 hsz2
  generalize w1.heap.size = P at *
  have n0 := blk_cell HN2.out 0
  have n1 := blk_cell HN2.out 1
  have n2 := blk_cell HN2.out 2
  have n3 := blk_cell HN2.out 3
  have n4 := blk_cell HN2.out 4
  have n5 := blk_cell HN2.out 5
  simp only [List.getElem?_toArray, List.getElem?_cons_zero, List.getElem?_cons_succ] at n0 n1 n2 n3 n4 n5
  go_wp2_with fail
  refine he.mono ?_
  rintro e w3 ⟨rfl, hp3, hk3⟩
  have HB3 := Lib.hid (HB2.out.trans ((hk3.below (Nat.le_of_lt hsz2)).mono hws))
  clear he hk3 n0 n1 n2 n3 n4 n5 HN2
  rcases hp3 with ⟨h1, hp⟩ | ⟨h1, bs, h2, hp⟩
  · obtain ⟨c2, c3, f3⟩ := hp.cells
    have hs := page_string hp
    have hn : ¬ 32768 < tx.length := by omega
    have hR := HR.out.symm.trans (if_neg hn)
    obtain ⟨rfl, rfl⟩ := Prod.mk.inj hR
    clear hp h1 hn hR HR
    go_wp2_with fail
    refine hs.mono ?_
    rintro e w4 ⟨rfl, hb4⟩
    have HB4 := Lib.hid (HB3.out.trans (hb4.mono hws))
    clear hs hb4
    go_wp2
    go_ret2
    exact ⟨rfl, HB4.out⟩
  · obtain ⟨c2, c3, f3⟩ := hp.cells
    have hR := HR.out.symm.trans (if_pos h1)
    obtain ⟨rfl, rfl⟩ := Prod.mk.inj hR
    clear hp h1 h2 hR HR
    go_wp2
    go_ret2
    exact ⟨rfl, HB3.out⟩
theorem Right_not (k : Int) (hk : k ≠ 1) (a b c : ByteArray) (A K : Option Addr) (la ca lk ck : Nat) (w : World) :
    Calls Tryz.prog 29 #[.agg #[.int .i64 k, .string a, .string b, .slice A la ca, .slice K lk ck, .string c]] w fun e w' => e = .returned (.bool false) ∧ Below w.heap.size w w' := by
  have hb : (k == 1) = false := by simpa using hk
  go_enter Tryz.func29, Tryz.ntmps29
  go_wp2
  go_ret
  exact ⟨rfl, ((Below.refl _ w).alloc (Nat.le_refl _) _).alloc (by simp) _⟩
set_option maxRecDepth 100000 in
theorem Print_not (k : Int) (hk : k ≠ 1) (a b c : ByteArray) (A K : Option Addr) (la ca lk ck : Nat) (w : World) :
    Calls Tryz.prog 14 #[.agg #[.int .i64 k, .string a, .string b, .slice A la ca, .slice K lk ck, .string c]] w fun e w' => e = .returned (.tuple #[.string ⟨#[]⟩, .int .i64 4]) ∧ Below w.heap.size w w' := by
  have hr := Right_not k hk a b c A K la ca lk ck (w.alloc (.cells #[.int .i64 k, .string a, .string b, .slice A la ca, .slice K lk ck, .string c] 37))
  have HB := Lib.hid ((Below.refl w.heap.size w).alloc (Nat.le_refl _) (.cells #[.int .i64 k, .string a, .string b, .slice A la ca, .slice K lk ck, .string c] 37))
  have hsz : w.heap.size ≤ (w.alloc (.cells #[.int .i64 k, .string a, .string b, .slice A la ca, .slice K lk ck, .string c] 37)).heap.size := by simp
  clear hk
  go_enter Tryz.func14, Tryz.ntmps14
  go_wp2_with fail
  refine hr.mono ?_
  rintro e w1 ⟨rfl, hb1⟩
  have HB1 := Lib.hid (HB.out.trans (hb1.mono hsz))
  clear hr hb1
  go_wp2
  go_ret2
  exact ⟨rfl, HB1.out⟩
def docP : ByteArray := ⟨#[60, 97, 32, 120, 109, 108, 110, 115, 61, 34, 117, 114, 110, 58, 120, 34, 32, 120, 109, 108, 110, 115, 58, 110, 49, 61, 34, 117, 114, 110, 58, 121, 34, 32, 110, 49, 58, 98, 61, 34, 49, 34, 47, 62]⟩
def treeP : Nd := .mk 1 (⟨#[117, 114, 110, 58, 120]⟩, ⟨#[97]⟩) [((⟨#[117, 114, 110, 58, 121]⟩, ⟨#[98]⟩), ⟨#[49]⟩)] [] sE
theorem parseP : parseX docP = .ok treeP := by kernel_rfl
theorem okP : okN 1 treeP ∧ costN treeP ≤ 2000 := ⟨(parse_right parseP).1, (parse_right parseP).2.2.1⟩
theorem szP : szN treeP := by
  unfold treeP
  simp only [szN, szKs]
  exact ⟨by decide, by decide, fun a ha => by simp only [List.mem_singleton] at ha; subst ha; exact ⟨by decide, by decide, by decide⟩, by decide, trivial⟩
theorem smP : smallN treeP := by
  unfold treeP
  simp [lenN, lenKs]
theorem printP : printX treeP = (docP.data.toList, 0) := by kernel_rfl
end Go.Proofs.YtlcjepnaljfpkaaGreatDoor
namespace Go.Proofs.YtlcjepnaljfpkaaGreatDoor
open Go.RowKit Wb Go.Lib
set_option maxRecDepth 100000 in
set_option maxHeartbeats 1000000 in
theorem signs_b (s : ByteArray) (w : World) (hs : s.size ≤ 1000000000) :
    Calls Tryz.prog 120 #[.string s] w fun e w' => e = .returned (.bool (sgB s)) ∧ Below w.heap.size w w' := by
  have hck := check_any s w hs
  by_cases hc : chk s.data.toList = -1
  · obtain ⟨R, hR⟩ : ∃ R, badU s.size s.data.toList 0 = R := ⟨_, rfl⟩
    have hb : sgB s = R.isNone := by unfold sgB; rw [hc, hR]; rfl
    rw [hb]
    rw [hc] at hck
    have HBAD := Lib.hid hR
    clear hc hb hR
    go_enter Tryz.func120, Tryz.ntmps120
    go_wp2_with fail
    refine hck.mono ?_
    rintro e w1 ⟨rfl, hb⟩
    have hit : (w1.iter s 0).heap[w1.heap.size]? = some (.stringIter s 0) := World.iter_heap w1 s 0
    have hb1 : Below w.heap.size w (w1.iter s 0) := hb.alloc hb.size _
    have hkb : w.heap.size ≤ w1.heap.size := hb.size
    have HIT := Lib.hid hit
    have HB1 := Lib.hid hb1
    clear hck hit hb1 hb
    go_wp2
    go_loopg [] s.size (fun g wx => ∃ pos : Nat, s.size ≤ pos + g ∧ wx.heap[w1.heap.size]? = some (.stringIter s pos) ∧ Below w.heap.size w wx ∧ Hid (badU g (s.data.toList.drop pos) pos = R))
    case atStart => exact ⟨0, by omega, HIT.out, HB1.out, HBAD⟩
    case round =>
      obtain ⟨pos, hpg, hk, hbw, HI⟩ := hrel
      have HBW := Lib.hid hbw
      by_cases hp : pos < s.size
      · obtain ⟨g, rfl⟩ : ∃ g, gk = g + 1 := ⟨gk - 1, by omega⟩
        have hne : s.data.toList.drop pos ≠ [] := by
          intro e
          have := congrArg List.length e
          rw [List.length_drop, ← Lib.size_eq] at this
          simp at this
          omega
        have hnx := fun (ty : TypeId) => run_next_any_at (P := Tryz.prog) wr w1.heap.size s pos ty hk hp
        rw [decode_U s pos hp] at hnx
        have hi := HI.out
        rw [show badU (g + 1) (s.data.toList.drop pos) pos = if s.data.toList.drop pos = [] then none else if charB (decU (s.data.toList.drop pos)).1 = true then badU g ((s.data.toList.drop pos).drop (decU (s.data.toList.drop pos)).2) (pos + (decU (s.data.toList.drop pos)).2) else some pos from rfl, if_neg hne, List.drop_drop] at hi
        have hdp := decU_pos (s.data.toList.drop pos)
        generalize hRR : (decU (s.data.toList.drop pos)).1 = RR at *
        generalize hW : (decU (s.data.toList.drop pos)).2 = W at *
        have HI3 := Lib.hid (iterAt_heap wr w1.heap.size s pos (pos + W) hk)
        have HB3 := Lib.hid (below_iterAt HBW.out hkb s (pos + W))
        cases hcb : charB (RR : Int) with
        | true =>
          rw [if_pos hcb] at hi
          have HI2 := Lib.hid hi
          clear hi hk hbw hRR hW hne HI hp
          go_wp2_with fail
          refine (char_any (RR : Int) _).mono ?_
          rintro e w3 ⟨rfl, hb3⟩
          rw [hcb]
          have HB4 := Lib.hid (HB3.out.trans (hb3.mono HB3.out.size))
          have HI4 := Lib.hid ((hb3.block _ (Array.getElem?_eq_some_iff.1 HI3.out).1).trans HI3.out)
          clear hnx hb3
          go_wp2
          go_roundg g
          case measure => omega
          case rel => exact ⟨pos + W, by omega, HI4.out, HB4.out, HI2⟩
        | false =>
          rw [if_neg (by rw [hcb]; decide)] at hi
          have HRF : Hid (R.isNone = false) := Lib.hid (by rw [← hi]; rfl)
          clear hi hk hbw hRR hW hne HI hp
          go_wp2_with fail
          refine (char_any (RR : Int) _).mono ?_
          rintro e w3 ⟨rfl, hb3⟩
          rw [hcb]
          have HB4 := Lib.hid (HB3.out.trans (hb3.mono HB3.out.size))
          clear hnx hb3
          go_wp2
          go_ret
          exact ⟨by rw [HRF.out]; rfl, HB4.out⟩
      · have hnx := fun (ty : TypeId) => run_next_end_at (P := Tryz.prog) wr w1.heap.size s pos ty hk hp
        have hdr : s.data.toList.drop pos = [] := List.drop_eq_nil_of_le (by rw [← Lib.size_eq]; omega)
        have HRT : Hid (R.isNone = true) := Lib.hid (by
          rw [← HI.out, hdr]
          cases gk <;> rfl)
        clear hk hbw hdr
        go_wp2
        go_ret
        exact ⟨by rw [HRT.out]; rfl, HBW.out⟩
  · have hb : sgB s = false := by
      unfold sgB
      rw [show (chk s.data.toList == -1) = false from by simpa using hc]
      rfl
    have h0 : (0 : Int) ≤ chk s.data.toList := by
      rcases chk_bd s.data.toList with h | h
      · exact absurd h hc
      · exact h.1
    rw [hb]
    clear hb hc
    generalize chk s.data.toList = ck at *
    go_enter Tryz.func120, Tryz.ntmps120
    go_wp2_with fail
    refine hck.mono ?_
    rintro e w1 ⟨rfl, hb⟩
    clear hck
    go_wp2
    go_ret
    exact ⟨rfl, hb⟩
theorem rname_b (n : Pr) (w : World) (h1 : n.1.size ≤ 1000000000) (h2 : n.2.size ≤ 1000000000) :
    Calls Tryz.prog 85 #[.agg #[.string n.1, .string n.2]] w fun e w' => e = .returned (.bool (nmB n)) ∧ Below w.heap.size w w' := by
  obtain ⟨sp, lo⟩ := n
  simp only at h1 h2 ⊢
  have hnb : nmB (sp, lo) = (nameB lo.data.toList && (sgB sp && !(eqT sp sXMLNS))) := rfl
  have hnm := name_any lo (w.alloc (.cells #[.string sp, .string lo] 33)) h2
  have HS := Lib.hid (fun (w2 : World) => signs_b sp w2 h1)
  have hxl : sXMLNS.toList = [104, 116, 116, 112, 58, 47, 47, 119, 119, 119, 46, 119, 51, 46, 111, 114, 103, 47, 50, 48, 48, 48, 47, 120, 109, 108, 110, 115, 47] := by
    rw [ByteArray.toList_eq]; rfl
  have hx' : (sp.toList == [104, 116, 116, 112, 58, 47, 47, 119, 119, 119, 46, 119, 51, 46, 111, 114, 103, 47, 50, 48, 48, 48, 47, 120, 109, 108, 110, 115, 47]) = eqT sp sXMLNS := by unfold eqT; rw [hxl]
  have hblk := heap_alloc_new w (.cells #[.string sp, .string lo] 33)
  have HB := Lib.hid hblk
  rw [hnb]
  clear hblk hxl hnb
  generalize nameB lo.data.toList = b1 at *
  generalize sgB sp = b2 at *
  generalize eqT sp sXMLNS = b3 at *
  go_enter Tryz.func85, Tryz.ntmps85
  go_wp2_with fail
  refine hnm.mono ?_
  rintro e w2 ⟨rfl, hb2⟩
  have hB2 := still_block HB.out hb2
  have c0 := blk_cell hB2 0
  simp only [List.getElem?_toArray, List.getElem?_cons_zero] at c0
  have HB2 := Lib.hid hB2
  have HW2 := Lib.hid (((Below.refl _ w).alloc (Nat.le_refl _) (.cells #[.string sp, .string lo] 33)).trans (hb2.mono (by simp)))
  clear hB2 hb2 hnm
  cases b1
  · go_wp2
    go_ret
    exact ⟨rfl, HW2.out⟩
  · go_wp2_with fail
    refine (HS.out _).mono ?_
    rintro e w3 ⟨rfl, hb3⟩
    have hB3 := still_block HB2.out hb3
    have c0' := blk_cell hB3 0
    simp only [List.getElem?_toArray, List.getElem?_cons_zero] at c0'
    have HW3 := Lib.hid (HW2.out.trans (hb3.mono HW2.out.size))
    clear hB3 hb3 c0
    cases b2
    · go_wp2
      go_ret
      exact ⟨rfl, HW3.out⟩
    · cases b3
      · go_wp2
        go_ret
        exact ⟨rfl, HW3.out⟩
      · go_wp2
        go_ret
        exact ⟨rfl, HW3.out⟩
set_option maxRecDepth 100000 in
set_option maxHeartbeats 2000000 in
theorem rtext_b (n : Nd) (A K : Option Addr) (ca ck : Nat) (w : World) (hz : n.text.size ≤ 1000000000) (hla : n.attrs.length ≤ 1000000) (hlk : n.kids.length ≤ 1000000) :
    Calls Tryz.prog 84 #[ndV n A ca K ck] w fun e w' => e = .returned (.bool (txB n)) ∧ Below w.heap.size w w' := by
  obtain ⟨k, ⟨sp, lo⟩, al, ks, t⟩ := n
  simp only [Nd.text, Nd.attrs, Nd.kids] at hz hla hlk
  have htx : txB (.mk k (sp, lo) al ks t) = (decide (k = 2) && (!(eqT t sE) && (sgB t && (eqP (sp, lo) (sE, sE) && (al.isEmpty && ks.isEmpty))))) := rfl
  rw [htx]
  unfold ndV ndCells
  simp only [Nd.kind, Nd.name, Nd.attrs, Nd.kids, Nd.text]
  have hblk := heap_alloc_new w (.cells #[.int .i64 k, .string sp, .string lo, .slice A al.length ca, .slice K ks.length ck, .string t] 37)
  have HB := Lib.hid hblk
  have hsg := signs_b t (w.alloc (.cells #[.int .i64 k, .string sp, .string lo, .slice A al.length ca, .slice K ks.length ck, .string t] 37)) hz
  have HBW := Lib.hid ((Below.refl _ w).alloc (Nat.le_refl _) (.cells #[.int .i64 k, .string sp, .string lo, .slice A al.length ca, .slice K ks.length ck, .string t] 37))
  have HKY := Lib.hid (fun w2 => key_any sp lo w2)
  have heq := fun w2 => eq_arr sp lo ⟨#[]⟩ ⟨#[]⟩ w2
  have hpe : (sp.toList == (⟨#[]⟩ : ByteArray).toList && lo.toList == (⟨#[]⟩ : ByteArray).toList) = eqP (sp, lo) (sE, sE) := rfl
  rw [hpe] at heq
  have het : t.toList.isEmpty = eqT t sE := empty_eq t
  have hale : al.isEmpty = decide (al.length = 0) := by cases al <;> simp
  have hkse : ks.isEmpty = decide (ks.length = 0) := by cases ks <;> simp
  rw [hale, hkse]
  clear hblk htx hpe hale hkse
  generalize eqP (sp, lo) (sE, sE) = b4 at *
  generalize eqT t sE = b2 at *
  generalize sgB t = b3 at *
  generalize al.length = la at *
  generalize ks.length = lk at *
  by_cases hk2 : k = 2
  · subst hk2
    rw [show decide ((2 : Int) = 2) = true from rfl, Bool.true_and]
    cases b2
    · go_enter Tryz.func84, Tryz.ntmps84
      go_wp2_with fail
      refine hsg.mono ?_
      rintro e w2 ⟨rfl, hb2⟩
      have hB2 := still_block HB.out hb2
      have c1 := blk_cell hB2 1
      have c2 := blk_cell hB2 2
      simp only [List.getElem?_toArray, List.getElem?_cons_zero, List.getElem?_cons_succ] at c1 c2
      have HB2 := Lib.hid hB2
      have HW2 := Lib.hid (HBW.out.trans (hb2.mono (by simp)))
      clear hB2 hb2 hsg
      cases b3
      · go_wp2
        go_ret
        exact ⟨rfl, HW2.out⟩
      · go_wp2_with fail
        refine (HKY.out _).mono ?_
        rintro e w3 ⟨rfl, hb3⟩
        have hB3 := still_block HB2.out hb3
        have c3 := blk_cell hB3 3
        have c4 := blk_cell hB3 4
        simp only [List.getElem?_toArray, List.getElem?_cons_zero, List.getElem?_cons_succ] at c3 c4
        have HW3 := Lib.hid (HW2.out.trans (hb3.mono HW2.out.size))
        clear hB3 hb3 c1 c2
        cases b4
        · go_wp2
          go_ret
          exact ⟨rfl, HW3.out⟩
        · by_cases ha0 : la = 0
          · subst ha0
            by_cases hk0 : lk = 0
            · subst hk0
              go_wp2
              go_ret
              exact ⟨rfl, HW3.out⟩
            · have hkf : ((lk : Int) == 0) = false := by simp; omega
              go_wp2
              go_ret
              exact ⟨by simp, HW3.out⟩
          · have haf : ((la : Int) == 0) = false := by simp; omega
            go_wp2
            go_ret
            exact ⟨by simp [ha0], HW3.out⟩
    · go_enter Tryz.func84, Tryz.ntmps84
      go_wp2
      go_ret
      exact ⟨rfl, HBW.out⟩
  · have hkf : (k == 2) = false := by simpa using hk2
    rw [decide_eq_false hk2, Bool.false_and]
    go_enter Tryz.func84, Tryz.ntmps84
    go_wp2
    go_ret
    exact ⟨rfl, HBW.out⟩
end Go.Proofs.YtlcjepnaljfpkaaGreatDoor
