import Derived.Test.YtjohfljkhlkjoaaGreatDoorMgS
import Derived.Test.YtjohfljkhlkjoaaGreatDoorTrS
import Derived.Maps.OwnOps
import Derived.WideKeyEntry
import Derived.Deep.RegionWith
import Derived.Deep.Cut
import Derived.Test.YtjohfljkhlkjoaaGreatDoorMgY
namespace Wb
theorem cntA_take {l : List Tr} {k : Nat} {y : Tr} (h : l[k]? = some y) (x : Tr) : cntA x (l.take (k + 1)) = cntA x (l.take k) + if y = x then 1 else 0 := by
  rw [List.take_add_one, h]
  unfold cntA
  rw [List.countP_append]
  simp
theorem cntA_le {l : List Tr} (k : Nat) (x : Tr) : cntA x (l.take k) ≤ cntA x l := by
  unfold cntA
  conv => rhs; rw [← List.take_append_drop k l]
  rw [List.countP_append]
  omega
end Wb
namespace Wb
open Go Go.Maps Go.MapKept Go.ChangeMaps Go.WideElems Go.WideMaps
theorem own_entry {H : Type} {P : Program} {w : World} {t k e : TypeId} {q : IntKind} {b n : Nat} {D : DataW H} {key : Value} {kl : Lit} (KL : KeyLaw P k) (K : Keyed P k) (ht : P.underlying t = some (.map k e)) (he : P.underlying e = some (.int q))
    (hz : ∀ u : World, (zeroValue e).run P u = .ok (.int q 0) u) (h : w.ownsMap P k (plainElem P e) b n D) (hn : n < maxLen) (hkey : keyOf P k key = some kl) :
    ∃ (c : Int) (v0 : Value) (st : Nat) (w1 : World), D.atKey kl (.lit (.int q 0)) = .lit (.int q c) ∧ (Lit.int q c).wf = true ∧ (Instr.lookup t (.map (some b)) key false).run P w = .ok (.int q c) w ∧
      (Instr.mapEntry t (.map (some b)) key).run P w = .ok (.tuple #[v0, goInt st]) w1 ∧ w.grownBy w1 (some b) ∧ (Instr.lookup t (.map (some b)) key false).run P w1 = .ok (.int q c) w1 ∧
      ∀ (val : Value) (d : DataW H), plainElem P e val = some (d, []) → ∃ w2, (Instr.entryStore t (.map (some b)) (goInt st) val).run P w1 = .ok () w2 ∧ w2.ownsMap P k (plainElem P e) b (n + 1) (D.put kl d) ∧ w.grownBy w2 (some b) := by
  have hw0 : (Lit.int q 0).wf = true := by cases q <;> decide
  obtain ⟨c, hl1, hat, hwc⟩ := h.lookup_int K ht he (hz w) hkey
  have hall := h
  obtain ⟨es, clock, hb, F, hs, rfl⟩ := h
  obtain ⟨v0, st, es1, clock1, hrun, _, hst⟩ := entry_then_store KL ht hz hb F hkey
  have hg1 : w.grownBy (setBlock w b (.map es1 clock1)) (some b) := ⟨rfl, rfl, rfl, by simp [setBlock], fun i _ hi => heap_setBlock_other hb _ (fun e => hi (by rw [e]))⟩
  have hlook : (Instr.lookup t (.map (some b)) key false).run P (setBlock w b (.map es1 clock1)) = .ok (.int q c) (setBlock w b (.map es1 clock1)) := by
    rcases KL.find w hkey es.toList F.keys with ⟨h1, h2⟩ | ⟨j, e0, h1, h2, h3⟩
    · have hr2 : (Instr.mapEntry t (.map (some b)) key).run P w = .ok (.tuple #[.int q 0, goInt clock]) (setBlock w b (.map (es.push ⟨key, .int q 0, clock⟩) (clock + 1))) := by
        simp [Instr.mapEntry, run_underlying ht, MapKept.run_getObj_map hb, KL.check w false hkey, h1, hz, MapKept.run_setObj_map _ hb, Result.andThen, setBlock]
      have hup : (Instr.mapUpdate t (.map (some b)) key (.int q 0)).run P w = .ok () (setBlock w b (.map (es.push ⟨key, .int q 0, clock⟩) (clock + 1))) := by
        simp [Instr.mapUpdate, run_underlying ht, MapKept.run_getObj_map hb, KL.check w false hkey, h1, MapKept.run_setObj_map _ hb, Result.andThen, setBlock]
      rw [hr2] at hrun
      simp only [Result.ok.injEq] at hrun
      rw [← hrun.2]
      obtain ⟨w', hu, hown', _⟩ := hall.update K ht hn hkey (plainElem_int he hw0)
      rw [hup] at hu
      simp only [Result.ok.injEq, true_and] at hu
      rw [hu]
      obtain ⟨c', hl', hat', _⟩ := hown'.lookup_int K ht he (hz w') hkey
      rw [atKey_put_same ⟨_, rfl⟩ (K.key hkey)] at hat'
      rcases Maps.fit_look false K ht (hz w) hb F hkey with ⟨_, _, ha⟩ | ⟨e0, y, hm, hk, _⟩
      · rw [ha] at hat
        simp only [DataW.lit.injEq, Lit.int.injEq, true_and] at hat hat'
        rw [hl', ← hat, ← hat']
      · exact absurd hk (h2 e0 hm)
    · have hj : es[j]? = some e0 := by simpa using h2
      have hsame : es.modify j (fun e => { e with key := key }) = es := by
        apply Array.ext'
        rw [Array.toList_modify, modify_eq_set _ _ _ _ h2]
        have : ({ e0 with key := key } : MapEntry) = e0 := by rw [← h3]
        rw [this]
        exact set_self _ _ _ h2
      have hr2 : (Instr.mapEntry t (.map (some b)) key).run P w = .ok (.tuple #[e0.val, goInt e0.born]) (setBlock w b (.map es clock)) := by
        simp [Instr.mapEntry, run_underlying ht, MapKept.run_getObj_map hb, KL.check w false hkey, h1, hj, h3, KL.stays w hkey, hsame, MapKept.run_setObj_map _ hb, Result.andThen, setBlock]
      rw [hr2] at hrun
      simp only [Result.ok.injEq] at hrun
      rw [← hrun.2]
      have hown' : (setBlock w b (.map es clock)).ownsMap P k (plainElem P e) b n (.map ((es.toList.map (rg P k (plainElem (H := H) P e))).foldr DataW.insert [])) := ⟨es, clock, heap_setBlock_same hb _, F, hs, rfl⟩
      obtain ⟨c', hl', hat', _⟩ := hown'.lookup_int K ht he (hz _) hkey
      rw [hat] at hat'
      simp only [DataW.lit.injEq, Lit.int.injEq, true_and] at hat'
      rw [hl', ← hat']
  refine ⟨c, v0, st, _, hat, hwc, hl1, hrun, hg1, hlook, fun val d hv => ?_⟩
  obtain ⟨es', clock', hs1, hs2⟩ := hst (setBlock w b (.map es1 clock1)) val (heap_setBlock_same hb _)
  obtain ⟨w', hu, hown', hg'⟩ := hall.update K ht hn hkey hv
  rw [hs2] at hu
  simp only [Result.ok.injEq, true_and] at hu
  subst hu
  refine ⟨_, hs1, ?_, ?_⟩
  · have e : setBlock (setBlock w b (.map es1 clock1)) b (.map es' clock') = setBlock w b (.map es' clock') := by simp [setBlock]
    rw [e]; exact hown'
  · have e : setBlock (setBlock w b (.map es1 clock1)) b (.map es' clock') = setBlock w b (.map es' clock') := by simp [setBlock]
    rw [e]; exact hg'
end Wb
namespace Go.Proofs.YtjohfljkhlkjoaaGreatDoor
open Go.RowKit Wb Go.Maps
theorem tri_info : (Tryz.prog.info? 25).map (·.size) = some 3 := by kernel_rfl
theorem whole_any (a b c : ByteArray) (w : World) : Calls Tryz.prog 67 #[.agg #[.string a, .string b, .string c]] w fun e w' => e = .returned (.agg #[.string a, .string b, .string c]) ∧ Below w.heap.size w w' := by
  have hb : ((w.alloc (.cells #[.string a, .string b, .string c] 42)).alloc (.cells #[.string a, .string b, .string c] 25)).heap[w.heap.size + 1]? = some (.cells #[.string a, .string b, .string c] 25 (0, 0)) := by
    have := heap_alloc_new (w.alloc (.cells #[.string a, .string b, .string c] 42)) (.cells #[.string a, .string b, .string c] 25)
    simpa using this
  have HB := Lib.hid hb
  clear hb
  go_enter Tryz.func67, Tryz.ntmps67
  go_wp2
  refine bodyPost_ret (results_cell_row rfl _ _ (w.heap.size + 1) _ _ (0, 0) _ rfl HB.out Tryz.underlying25 rfl tri_info) rfl ?_
  exact ⟨rfl, ((Below.refl _ w).alloc (Nat.le_refl _) _).alloc (by simp) _⟩
theorem tri_row : (25 : TypeId) < Tryz.prog.types.size := of_decide_eq_true (by kernel_rfl)
theorem tri_wide : (match Tryz.prog.underlying 25 with | some (.array _ _) | some (.struct _) => true | _ => false) = true := by kernel_rfl
set_option maxRecDepth 1000000 in
theorem tri_law : Keyed Tryz.prog 25 := Keyed.of_law (deep_law_laid laidOut (m := 3) (by omega) tri_row (by kernel_rfl) tri_wide)
set_option maxRecDepth 1000000 in
theorem tri_klaw : Go.WideMaps.KeyLaw Tryz.prog 25 := deep_law_laid laidOut (m := 3) (by omega) tri_row (by kernel_rfl) tri_wide
theorem tri_kt : Tryz.prog.keyType 25 = true := by kernel_rfl
theorem tri_cells : Tryz.prog.cellsOf 25 = 3 := by kernel_rfl
def litT (x : Tr) : Lit := .string (keyBytes [.string x.1.1.data.toList, .string x.1.2.data.toList, .string x.2.data.toList])
def TrSz (x : Tr) : Prop := x.1.1.size ≤ maxLen ∧ x.1.2.size ≤ maxLen ∧ x.2.size ≤ maxLen
theorem tri_key (x : Tr) (h : TrSz x) : keyOf Tryz.prog 25 (.agg #[.string x.1.1, .string x.1.2, .string x.2]) = some (litT x) := by
  obtain ⟨h1, h2, h3⟩ := h
  have hf : (Value.agg #[.string x.1.1, .string x.1.2, .string x.2]).formed Tryz.prog 25 = true := by
    simp [Value.formed, Tryz.underlying25, tri_cells]
  unfold keyOf
  rw [Tryz.underlying25]
  simp only [tri_kt, hf, Bool.and_self, if_true]
  obtain ⟨m, hm⟩ : ∃ m, Tryz.prog.types.size + 1 = m + 2 := ⟨Tryz.prog.types.size - 1, by have := many_types; omega⟩
  rw [hm]
  unfold Program.keyLits
  rw [Tryz.underlying25]
  simp [Value.cells, tri_cells, str_cells, key_str _ _ h1, key_str _ _ h2, key_str _ _ h3, litT, show List.range 3 = [0, 1, 2] from rfl]
theorem litT_inj {x y : Tr} (hx : TrSz x) (hy : TrSz y) (h : litT x = litT y) : x = y := by
  have := tri_law.inj (tri_key x hx) (h ▸ tri_key y hy)
  simp only [Value.agg.injEq, Array.mk.injEq, List.cons.injEq, Value.string.injEq, and_true] at this
  exact Prod.ext (Prod.ext this.1 this.2.1) this.2.2
theorem zero_int (w : World) : (zeroValue 3).run Tryz.prog w = .ok (.int .i64 0) w := by kernel_rfl
def CntM (w : World) (b n : Nat) (g : Tr → Nat) : Prop :=
  ∃ D : DataW Unit, w.ownsMap Tryz.prog 25 (plainElem Tryz.prog 3) b n D ∧ ∀ x : Tr, TrSz x → D.atKey (litT x) (.lit (.int .i64 0)) = .lit (.int .i64 (g x : Int))
theorem CntM.made (w : World) : CntM (w.alloc (.map #[] 0)) w.heap.size 0 (fun _ => 0) :=
  ⟨.map [], World.ownsMap_made _ _ _ _, fun _ _ => rfl⟩
theorem cmap_below {w w2 : World} {b n : Nat} {D : DataW Unit} (h : w.ownsMap Tryz.prog 25 (plainElem Tryz.prog 3) b n D) (hb : Below w.heap.size w w2) : w2.ownsMap Tryz.prog 25 (plainElem Tryz.prog 3) b n D := by
  obtain ⟨es, clock, h1, h2⟩ := h
  exact ⟨es, clock, still_block h1 hb, h2⟩
theorem CntM.below {w w2 : World} {b n : Nat} {g : Tr → Nat} (h : CntM w b n g) (hb : Below w.heap.size w w2) : CntM w2 b n g := by
  obtain ⟨D, h1, h3⟩ := h
  exact ⟨D, cmap_below h1 hb, h3⟩
theorem CntM.mono {w : World} {b n n' : Nat} {g : Tr → Nat} (h : CntM w b n g) (hn : n ≤ n') : CntM w b n' g := by
  obtain ⟨D, h1, h3⟩ := h
  exact ⟨D, h1.mono hn, h3⟩
theorem CntM.put {w : World} {b n : Nat} {g g' : Tr → Nat} {D : DataW Unit} {x : Tr} {c : Int} (hown : w.ownsMap Tryz.prog 25 (plainElem Tryz.prog 3) b n (D.put (litT x) (.lit (.int .i64 c)))) (hD : IsMap D) (hx : TrSz x)
    (hat : ∀ x : Tr, TrSz x → D.atKey (litT x) (.lit (.int .i64 0)) = .lit (.int .i64 (g x : Int))) (h1 : (g' x : Int) = c) (h2 : ∀ y, y ≠ x → g' y = g y) : CntM w b n g' := by
  refine ⟨_, hown, fun y hy => ?_⟩
  by_cases e : y = x
  · subst e
    rw [atKey_put_same hD (show WideAt.IsKeyLit (litT y) from trivial), h1]
  · rw [atKey_put_other (fun h => e (litT_inj hy hx h)), hat y hy, h2 y e]
end Go.Proofs.YtjohfljkhlkjoaaGreatDoor

namespace Wb
theorem perm_no {l m : List Tr} {k : Nat} {y : Tr} (h : m[k]? = some y) (h0 : cntA y l - cntA y (m.take k) = 0) : permA l m = false := by
  have h1 := cntA_take h y
  rw [if_pos rfl] at h1
  have h2 := cntA_le (l := m) (k + 1) y
  unfold permA
  rw [Bool.and_eq_false_iff]
  right
  rw [List.all_eq_false]
  exact ⟨y, List.mem_of_getElem? h, by simp; omega⟩
theorem perm_yes {l m : List Tr} (hl : l.length = m.length) (h : ∀ x, cntA x m ≤ cntA x l) : permA l m = true := by
  unfold permA
  rw [decide_eq_true hl, Bool.true_and, List.all_eq_true]
  exact fun x _ => decide_eq_true (h x)
theorem wrap_add1 {a : Int} (h0 : 0 ≤ a) (h1 : a ≤ 1000000) : Go.IntKind.i64.wrap (a + 1) = a + 1 := by
  simp [Go.IntKind.wrap, Go.IntKind.bits, Go.IntKind.signed]
  omega
theorem wrap_sub1 {a : Int} (h0 : 0 ≤ a) (h1 : a ≤ 1000000) : Go.IntKind.i64.wrap (a - 1) = a - 1 := by
  simp [Go.IntKind.wrap, Go.IntKind.bits, Go.IntKind.signed]
  omega
theorem cntA_len (l : List Tr) (x : Tr) : cntA x l ≤ l.length := List.countP_le_length
end Wb
namespace Go.Proofs.YtjohfljkhlkjoaaGreatDoor
open Go.RowKit Wb Go.Maps
set_option maxRecDepth 100000 in
set_option maxHeartbeats 4000000 in
theorem sattrs_any (A B : Option Addr) (l m : List Tr) (ca cb : Nat) (w : World) (hl : l.length ≤ 1000000) (_hm : m.length ≤ 1000000) (hzl : AtsSz l) (hzm : AtsSz m) (hA : Sl3 w A l) (hB : Sl3 w B m) :
    Calls Tryz.prog 41 #[.slice A l.length ca, .slice B m.length cb] w fun e w' => e = .returned (.bool (permA l m)) ∧ Below w.heap.size w w' := by
  by_cases hlen : l.length = m.length
  · have hmm := @run_makeMap Tryz.prog
    rw [← hlen]
    have HM := Lib.hid hzm
    have HL := Lib.hid hzl
    have HLEN := Lib.hid hlen
    clear hzl hzm hlen
    go_enter Tryz.func41, Tryz.ntmps41
    go_wp2
    go_loopw [18] (fun vi wr => ∃ k : Nat, k ≤ l.length ∧ vi = .int .i64 k ∧ Hid (CntM wr w.heap.size k (fun x => cntA x (l.take k))) ∧ Hid (Below w.heap.size w wr)) (fun vi _ => ((l.length : Int) - intOf vi).toNat)
    case atStart => exact ⟨0, by omega, rfl, Lib.hid (CntM.made w), Lib.hid ((Below.refl _ _).alloc (Nat.le_refl _) _)⟩
    case round =>
      obtain ⟨k, hk, rfl, HC, HB⟩ := hrel
      by_cases h0 : k < l.length
      · obtain ⟨⟨⟨a1, a2⟩, a3⟩, he⟩ : ∃ x, l[k]? = some x := ⟨l[k], List.getElem?_eq_getElem h0⟩
        obtain ⟨ad, rfl, had, c1, c2, c3⟩ := (hA.below HB.out).at_ he
        simp only at c1 c2 c3
        obtain ⟨z1, z2, z3⟩ := HL.out _ (List.mem_of_getElem? he)
        simp only at z1 z2 z3
        have hz : TrSz ((a1, a2), a3) := ⟨by show a1.size ≤ _; simp only [maxLen]; omega, by show a2.size ≤ _; simp only [maxLen]; omega, by show a3.size ≤ _; simp only [maxLen]; omega⟩
        have HZ := Lib.hid hz
        have HT := Lib.hid (fun x => cntA_take he x)
        have hcl := cntA_len (l.take k) ((a1, a2), a3)
        rw [List.length_take] at hcl
        obtain ⟨cn, hcn⟩ : ∃ cn, cntA ((a1, a2), a3) (l.take k) = cn := ⟨_, rfl⟩
        rw [hcn] at hcl
        have HCN := Lib.hid hcn
        have hcb0 : (0 : Int) ≤ (cn : Int) := by omega
        have hcb1 : (cn : Int) + 1 ≤ 1000001 := by omega
        clear z1 z2 z3 hz hcn had he
        go_upto_region 7 with fail
        have hN := heap_alloc_new wr (.cells #[.string a1, .string a2, .string a3] 42)
        have hbz : Below wr.heap.size wr (wr.alloc (.cells #[.string a1, .string a2, .string a3] 42)) := (Below.refl _ wr).alloc (Nat.le_refl _) _
        have HCZ := Lib.hid (HC.out.below hbz)
        have HBZ := Lib.hid (HB.out.alloc HB.out.size (.cells #[.string a1, .string a2, .string a3] 42))
        clear hbz c1 c2 c3 HC HB
        revert hN HCZ HBZ
        generalize (wr.alloc (.cells #[.string a1, .string a2, .string a3] 42)) = wz
        intro hN HCZ HBZ
        have n0 := blk_cell hN 0
        have n1 := blk_cell hN 1
        have n2 := blk_cell hN 2
        simp only [List.getElem?_toArray, List.getElem?_cons_zero, List.getElem?_cons_succ] at n0 n1 n2
        clear hN
        go_region_with (
          go_at_call 67
          refine (whole_any a1 a2 a3 _).mono ?_
          rintro e w2 ⟨rfl, hb2⟩
          have hb2' : Below wz.heap.size wz w2 := of_drew hb2
          obtain ⟨D, hown, hat⟩ := HCZ.out.below hb2'
          obtain ⟨c, v0, st, w3, hatc, hwf, hlk, hme, hg3, hlk3, hst⟩ := own_entry tri_klaw tri_law Tryz.underlying115 Tryz.underlying3 zero_int hown (by simp only [maxLen]; omega) (tri_key ((a1, a2), a3) HZ.out)
          have hcc : c = (cn : Int) := by
            have := (hat ((a1, a2), a3) HZ.out).symm.trans hatc
            simp only [DataW.lit.injEq, Lit.int.injEq, true_and] at this
            rw [← this, HCN.out]
          rw [hcc] at hlk hlk3
          obtain ⟨w4, hes, hown4, hg4⟩ := hst (.int .i64 ((cn : Int) + 1)) _ (plainElem_int Tryz.underlying3 (WalkArith.wf_i64 (by omega)))
          rw [← wrap_add1 (a := (cn : Int)) (by omega) (by omega)] at hes
          simp only [goInt] at hes
          have HIM := Lib.hid hown.isMap
          have HAT := Lib.hid hat
          have HO4 := Lib.hid hown4
          have HG4 := Lib.hid hg4
          have HB2 := Lib.hid hb2'
          clear hb2 hb2' hown hat hatc hwf hst hown4 hg4 hg3 hcc)
        all_goals (
          have HC4 : Hid (CntM w4 w.heap.size (k + 1) (fun x => cntA x (l.take (k + 1)))) := Lib.hid (CntM.put HO4.out HIM.out HZ.out HAT.out (by rw [HT.out, HCN.out, if_pos rfl]; simp) (fun y hy => by rw [HT.out, if_neg (fun e => hy e.symm)]; rfl))
          have HB4 : Hid (Below w.heap.size w w4) := Lib.hid ((HBZ.out.trans (HB2.out.mono HBZ.out.size)).grown HG4.out (Nat.le_trans HBZ.out.size HB2.out.size) (fun j hj => by cases hj; exact Nat.le_refl _))
          clear hlk hme hlk3 hes n0 n1 n2 HO4 HG4 HB2 HIM HAT HCZ HBZ
          go_wp2
          go_roundw
          case rel => exact ⟨k + 1, by omega, by go_num, HC4, HB4⟩
          case measure => simp [intOf]; omega)
      · have : k = l.length := by omega
        subst this
        rw [List.take_length] at HC
        clear h0
        go_wp2
        go_loopw [32] (fun vi wr2 => ∃ k : Nat, k ≤ l.length ∧ vi = .int .i64 k ∧ Hid (∀ x, cntA x (m.take k) ≤ cntA x l) ∧ Hid (CntM wr2 w.heap.size (l.length + k) (fun x => cntA x l - cntA x (m.take k))) ∧ Hid (Below w.heap.size w wr2)) (fun vi _ => ((l.length : Int) - intOf vi).toNat)
        case atStart => exact ⟨0, by omega, rfl, Lib.hid (fun x => by simp [cntA]), Lib.hid (by simpa [cntA] using HC.out), HB⟩
        case round =>
          obtain ⟨k, hk, rfl, HLE, HC, HB⟩ := hrel
          by_cases h0 : k < l.length
          · obtain ⟨⟨⟨a1, a2⟩, a3⟩, he⟩ : ∃ x, m[k]? = some x := ⟨m[k]'(by have := HLEN.out; omega), List.getElem?_eq_getElem (by have := HLEN.out; omega)⟩
            obtain ⟨ad, rfl, had, c1, c2, c3⟩ := (hB.below HB.out).at_ he
            simp only at c1 c2 c3
            obtain ⟨z1, z2, z3⟩ := HM.out _ (List.mem_of_getElem? he)
            simp only at z1 z2 z3
            have hz : TrSz ((a1, a2), a3) := ⟨by show a1.size ≤ _; simp only [maxLen]; omega, by show a2.size ≤ _; simp only [maxLen]; omega, by show a3.size ≤ _; simp only [maxLen]; omega⟩
            have HZ := Lib.hid hz
            have HT := Lib.hid (fun x => cntA_take he x)
            have HNO := Lib.hid (fun h => perm_no (l := l) he h)
            have hcl := cntA_len l ((a1, a2), a3)
            obtain ⟨cn, hcn⟩ : ∃ cn, cntA ((a1, a2), a3) l - cntA ((a1, a2), a3) (m.take k) = cn := ⟨_, rfl⟩
            have hcl2 : cn ≤ l.length := by omega
            rw [hcn] at HNO
            have HCN := Lib.hid hcn
            have hN := heap_alloc_new wr (.cells #[.string a1, .string a2, .string a3] 42)
            have hbz : Below wr.heap.size wr (wr.alloc (.cells #[.string a1, .string a2, .string a3] 42)) := (Below.refl _ wr).alloc (Nat.le_refl _) _
            have HCZ := Lib.hid (HC.out.below hbz)
            have HBZ := Lib.hid (HB.out.alloc HB.out.size (.cells #[.string a1, .string a2, .string a3] 42))
            clear z1 z2 z3 hz hcn had he hbz HC HB hcl
            have HN := Lib.hid hN
            clear hN
            go_upto_region 12 with fail
            revert HN HCZ HBZ
            generalize (wr.alloc (.cells #[.string a1, .string a2, .string a3] 42)) = wz
            intro HCZ HBZ HN
            have n0 := blk_cell HN.out 0
            have n1 := blk_cell HN.out 1
            have n2 := blk_cell HN.out 2
            simp only [List.getElem?_toArray, List.getElem?_cons_zero, List.getElem?_cons_succ] at n0 n1 n2
            clear c1 c2 c3
            go_wp2_with fail
            refine (whole_any a1 a2 a3 _).mono ?_
            rintro e w5 ⟨rfl, hb5⟩
            have HC5 := Lib.hid (HCZ.out.below hb5)
            have HB5 := Lib.hid (HBZ.out.trans (hb5.mono HBZ.out.size))
            have hN5 := still_block HN.out hb5
            clear n0 n1 n2 hb5 HCZ HBZ HN
            obtain ⟨D, hown, hat⟩ := HC5.out
            obtain ⟨c, hlk, hatc, _⟩ := hown.lookup_int tri_law Tryz.underlying115 Tryz.underlying3 (zero_int _) (tri_key ((a1, a2), a3) HZ.out)
            have hcc : c = (cn : Int) := by
              have := (hat ((a1, a2), a3) HZ.out).symm.trans hatc
              simp only [DataW.lit.injEq, Lit.int.injEq, true_and] at this
              rw [← this, HCN.out]
            rw [hcc] at hlk
            clear hown hat hatc hcc
            have n0 := blk_cell hN5 0
            have n1 := blk_cell hN5 1
            have n2 := blk_cell hN5 2
            simp only [List.getElem?_toArray, List.getElem?_cons_zero, List.getElem?_cons_succ] at n0 n1 n2
            clear hN5
            by_cases hc0 : cn = 0
            · have HF := Lib.hid (HNO.out hc0)
              subst hc0
              go_wp2
              go_ret
              exact ⟨by rw [HF.out]; rfl, HB5.out⟩
            · have hce : ((cn : Int) == 0) = false := by simp; omega
              have hcb0 : (1 : Int) ≤ (cn : Int) := by omega
              have hcb1 : (cn : Int) ≤ 1000000 := by omega
              go_upto_region 14 with fail
              clear hlk
              go_region_with (
                go_at_call 67
                refine (whole_any a1 a2 a3 _).mono ?_
                rintro e w2 ⟨rfl, hb2⟩
                have hb2' : Below w5.heap.size w5 w2 := of_drew hb2
                obtain ⟨D, hown, hat⟩ := HC5.out.below hb2'
                obtain ⟨c, v0, st, w3, hatc, hwf, hlk, hme, hg3, hlk3, hst⟩ := own_entry tri_klaw tri_law Tryz.underlying115 Tryz.underlying3 zero_int hown (by simp only [maxLen]; omega) (tri_key ((a1, a2), a3) HZ.out)
                have hcc : c = (cn : Int) := by
                  have := (hat ((a1, a2), a3) HZ.out).symm.trans hatc
                  simp only [DataW.lit.injEq, Lit.int.injEq, true_and] at this
                  rw [← this, HCN.out]
                rw [hcc] at hlk hlk3
                obtain ⟨w4, hes, hown4, hg4⟩ := hst (.int .i64 ((cn : Int) - 1)) _ (plainElem_int Tryz.underlying3 (WalkArith.wf_i64 (by omega)))
                rw [← wrap_sub1 (a := (cn : Int)) (by omega) (by omega)] at hes
                simp only [goInt] at hes
                have HIM := Lib.hid hown.isMap
                have HAT := Lib.hid hat
                have HO4 := Lib.hid hown4
                have HG4 := Lib.hid hg4
                have HB2 := Lib.hid hb2'
                clear hb2 hb2' hown hat hatc hwf hst hown4 hg4 hg3 hcc)
              all_goals (
                have HC4 : Hid (CntM w4 w.heap.size (l.length + (k + 1)) (fun x => cntA x l - cntA x (m.take (k + 1)))) := Lib.hid (CntM.put HO4.out HIM.out HZ.out HAT.out (by rw [HT.out, if_pos rfl]; have := HCN.out; omega) (fun y hy => by rw [HT.out, if_neg (fun e => hy e.symm)]; rfl))
                have HB4 : Hid (Below w.heap.size w w4) := Lib.hid ((HB5.out.trans (HB2.out.mono HB5.out.size)).grown HG4.out (Nat.le_trans HB5.out.size HB2.out.size) (fun j hj => by cases hj; exact Nat.le_refl _))
                have HLE4 : Hid (∀ x, cntA x (m.take (k + 1)) ≤ cntA x l) := Lib.hid (fun x => by
                  rw [HT.out]
                  by_cases e : ((a1, a2), a3) = x
                  · rw [if_pos e, ← e]; have := HCN.out; omega
                  · rw [if_neg e]; exact HLE.out x)
                clear hlk hme hlk3 hes n0 n1 n2 HO4 HG4 HB2 HIM HAT HC5 HB5
                go_wp2
                go_roundw
                case rel => exact ⟨k + 1, by omega, by go_num, HLE4, HC4, HB4⟩
                case measure => simp [intOf]; omega)
          · have hk' : k = l.length := by omega
            subst hk'
            have HY : Hid (permA l m = true) := Lib.hid (perm_yes HLEN.out (fun x => by have := HLE.out x; rwa [HLEN.out, List.take_length] at this))
            go_wp2
            go_ret
            exact ⟨by rw [HY.out]; rfl, HB.out⟩
  · have hp : permA l m = false := by unfold permA; rw [decide_eq_false hlen]; rfl
    rw [hp]
    have hne : ((l.length : Int) == (m.length : Int)) = false := by simp; omega
    clear hzl hzm hp hlen
    go_enter Tryz.func41, Tryz.ntmps41
    go_wp2
    go_ret
    exact ⟨rfl, Below.refl _ _⟩
end Go.Proofs.YtjohfljkhlkjoaaGreatDoor

namespace Wb
theorem sameKs_len {a b : List Nd} (h : a.length ≠ b.length) : sameKs a b = false := by
  cases hs : sameKs a b with
  | false => rfl
  | true => exact absurd ((sameKs_iff a b).1 hs).1 h
theorem sameKs_drop {a b : List Nd} {i : Nat} {x y : Nd} (hx : a[i]? = some x) (hy : b[i]? = some y) : sameKs (a.drop i) (b.drop i) = (sameN x y && sameKs (a.drop (i + 1)) (b.drop (i + 1))) := by
  obtain ⟨h1, e1⟩ := List.getElem?_eq_some_iff.1 hx
  obtain ⟨h2, e2⟩ := List.getElem?_eq_some_iff.1 hy
  rw [List.drop_eq_getElem_cons h1, List.drop_eq_getElem_cons h2, e1, e2]
  rfl
end Wb
namespace Go.Proofs.YtjohfljkhlkjoaaGreatDoor
open Go.RowKit Wb
def SameOf (x : Nd) : Prop := ∀ (y : Nd) (A K B L : Option Addr) (ca ck cb cl : Nat) (w : World), szN x → szN y → smallN x → smallN y → NodeV w x A K → NodeV w y B L →
  Calls Tryz.prog 15 #[ndV x A ca K ck, ndV y B cb L cl] w fun e w' => e = .returned (.bool (sameN x y)) ∧ Below w.heap.size w w'
set_option maxRecDepth 100000 in
set_option maxHeartbeats 4000000 in
theorem eqfn_any (ks js : List Nd) (IH : ∀ x ∈ ks, SameOf x) (K J : Option Addr) (ck cj : Nat) (w : World) (hk1 : ks.length ≤ 1000000) (_hj1 : js.length ≤ 1000000) (hzk : ∀ x ∈ ks, szN x) (hzj : ∀ x ∈ js, szN x) (hsk : ∀ x ∈ ks, smallN x) (hsj : ∀ x ∈ js, smallN x) (hK : SlN w K ks) (hJ : SlN w J js) :
    Calls Tryz.prog 42 #[.slice K ks.length ck, .slice J js.length cj, .func (.func 15) #[] #[]] w fun e w' => e = .returned (.bool (sameKs ks js)) ∧ Below w.heap.size w w' := by
  by_cases hlen : ks.length = js.length
  · obtain ⟨R, hR⟩ : ∃ R, sameKs ks js = R := ⟨_, rfl⟩
    rw [hR, ← hlen]
    have HR := Lib.hid hR
    have HLEN := Lib.hid hlen
    have HI := Lib.hid IH
    have HZK := Lib.hid hzk
    have HZJ := Lib.hid hzj
    have HSK := Lib.hid hsk
    have HSJ := Lib.hid hsj
    clear hR hlen IH hzk hzj hsk hsj
    go_enter Tryz.func42, Tryz.ntmps42
    go_wp2
    go_loopw [17] (fun vi wr => ∃ i : Nat, i ≤ ks.length ∧ vi = .int .i64 i ∧ Hid (sameKs (ks.drop i) (js.drop i) = R) ∧ Hid (Below w.heap.size w wr)) (fun vi _ => ((ks.length : Int) - intOf vi).toNat)
    case atStart => exact ⟨0, by omega, rfl, Lib.hid (by simpa using HR.out), Lib.hid (Below.refl _ _)⟩
    case round =>
      obtain ⟨i, hi, rfl, HS, HB⟩ := hrel
      by_cases h0 : i < ks.length
      · obtain ⟨x, hx⟩ : ∃ x, ks[i]? = some x := ⟨ks[i], List.getElem?_eq_getElem h0⟩
        obtain ⟨y, hy⟩ : ∃ y, js[i]? = some y := ⟨js[i]'(by have := HLEN.out; omega), List.getElem?_eq_getElem (by have := HLEN.out; omega)⟩
        obtain ⟨ad, A1, ca1, K1, ck1, rfl, had, d0, d1, d2, d3, d4, d5, hA1, hK1⟩ := (hK.below HB.out).at_ hx
        obtain ⟨ae, B1, cb1, L1, cl1, rfl, hae, e0, e1, e2, e3, e4, e5, hB1, hL1⟩ := (hJ.below HB.out).at_ hy
        have hst := HS.out
        rw [sameKs_drop hx hy] at hst
        have HST := Lib.hid hst
        have hmx := List.mem_of_getElem? hx
        have hmy := List.mem_of_getElem? hy
        have hcall := fun (v : World) (hv1 : NodeV v x A1 K1) (hv2 : NodeV v y B1 L1) => HI.out x hmx y A1 K1 B1 L1 ca1 ck1 cb1 cl1 v (HZK.out x hmx) (HZJ.out y hmy) (HSK.out x hmx) (HSJ.out y hmy) hv1 hv2
        have HCALL := Lib.hid hcall
        have hb1 : Below wr.heap.size wr (wr.alloc (.cells (ndCells x.kind x.name A1 x.attrs.length ca1 K1 x.kids.length ck1 x.text).toArray 37)) := (Below.refl _ wr).alloc (Nat.le_refl _) _
        have hb2 : Below wr.heap.size wr ((wr.alloc (.cells (ndCells x.kind x.name A1 x.attrs.length ca1 K1 x.kids.length ck1 x.text).toArray 37)).alloc (.cells (ndCells y.kind y.name B1 y.attrs.length cb1 L1 y.kids.length cl1 y.text).toArray 37)) := hb1.alloc (by simp) _
        have hM := heap_alloc_new (wr.alloc (.cells (ndCells x.kind x.name A1 x.attrs.length ca1 K1 x.kids.length ck1 x.text).toArray 37)) (.cells (ndCells y.kind y.name B1 y.attrs.length cb1 L1 y.kids.length cl1 y.text).toArray 37)
        have hN := (Below.heap_alloc (wr.alloc (.cells (ndCells x.kind x.name A1 x.attrs.length ca1 K1 x.kids.length ck1 x.text).toArray 37)) (.cells (ndCells y.kind y.name B1 y.attrs.length cb1 L1 y.kids.length cl1 y.text).toArray 37) _ (blk_in (heap_alloc_new wr _))).trans (heap_alloc_new wr (.cells (ndCells x.kind x.name A1 x.attrs.length ca1 K1 x.kids.length ck1 x.text).toArray 37))
        have hs1 : (wr.alloc (.cells (ndCells x.kind x.name A1 x.attrs.length ca1 K1 x.kids.length ck1 x.text).toArray 37)).heap.size = wr.heap.size + 1 := by simp
        rw [hs1] at hM
        have hV1 : NodeV _ x A1 K1 := NodeV.below ⟨hA1, hK1⟩ hb2
        have hV2 : NodeV _ y B1 L1 := NodeV.below ⟨hB1, hL1⟩ hb2
        have HN := Lib.hid hN
        have HM := Lib.hid hM
        have HV1 := Lib.hid hV1
        have HV2 := Lib.hid hV2
        have HBZ := Lib.hid (HB.out.trans (hb2.mono HB.out.size))
        have hws : w.heap.size ≤ ((wr.alloc (.cells (ndCells x.kind x.name A1 x.attrs.length ca1 K1 x.kids.length ck1 x.text).toArray 37)).alloc (.cells (ndCells y.kind y.name B1 y.attrs.length cb1 L1 y.kids.length cl1 y.text).toArray 37)).heap.size := Nat.le_trans HB.out.size hb2.size
        have hby : (ae.add (i * 6)).block < wr.heap.size := by rw [add_block]; exact hae
        unfold ndCells at *
        have hbq : Below wr.heap.size wr (wr.alloc (.cells #[.int .i64 x.kind, .string x.name.1, .string x.name.2, .slice A1 x.attrs.length ca1, .slice K1 x.kids.length ck1, .string x.text] 37)) := hb1
        have f0 := (hbq.cell (p := ae.add (i * 6)) hby).trans e0
        have f1 := (hbq.cell (p := ⟨(ae.add (i * 6)).block, (ae.add (i * 6)).off + 1, none⟩) hby).trans e1
        have f2 := (hbq.cell (p := ⟨(ae.add (i * 6)).block, (ae.add (i * 6)).off + 2, none⟩) hby).trans e2
        have f3 := (hbq.cell (p := ⟨(ae.add (i * 6)).block, (ae.add (i * 6)).off + 3, none⟩) hby).trans e3
        have f4 := (hbq.cell (p := ⟨(ae.add (i * 6)).block, (ae.add (i * 6)).off + 4, none⟩) hby).trans e4
        have f5 := (hbq.cell (p := ⟨(ae.add (i * 6)).block, (ae.add (i * 6)).off + 5, none⟩) hby).trans e5
        clear hx hy had hae hA1 hK1 hB1 hL1 hst hmx hmy hcall hb1 hb2 hM hN hs1 hV1 hV2 HS HB hby hbq e0 e1 e2 e3 e4 e5
        go_upto_region 7 with fail
        clear d0 d1 d2 d3 d4 d5 f0 f1 f2 f3 f4 f5
        revert HN HM HV1 HV2 HBZ hws
        generalize ((wr.alloc (.cells [Value.int .i64 x.kind, .string x.name.1, .string x.name.2, .slice A1 x.attrs.length ca1, .slice K1 x.kids.length ck1, .string x.text].toArray 37)).alloc (.cells [Value.int .i64 y.kind, .string y.name.1, .string y.name.2, .slice B1 y.attrs.length cb1, .slice L1 y.kids.length cl1, .string y.text].toArray 37)) = wz
        intro HN HM HV1 HV2 HBZ hws
        generalize wr.heap.size = T at *
        have n0 := blk_cell HN.out 0
        have n1 := blk_cell HN.out 1
        have n2 := blk_cell HN.out 2
        have n3 := blk_cell HN.out 3
        have n4 := blk_cell HN.out 4
        have n5 := blk_cell HN.out 5
        have m0 := blk_cell HM.out 0
        have m1 := blk_cell HM.out 1
        have m2 := blk_cell HM.out 2
        have m3 := blk_cell HM.out 3
        have m4 := blk_cell HM.out 4
        have m5 := blk_cell HM.out 5
        simp only [List.getElem?_toArray, List.getElem?_cons_zero, List.getElem?_cons_succ] at n0 n1 n2 n3 n4 n5 m0 m1 m2 m3 m4 m5
        have hc := HCALL.out wz HV1.out HV2.out
        unfold ndV ndCells at hc
        clear HCALL HN HM HV1 HV2
        generalize sameN x y = b at *
        go_wp2_with fail
        refine hc.mono ?_
        rintro e w3 ⟨rfl, hb3⟩
        have HB3 := Lib.hid (HBZ.out.trans (hb3.mono hws))
        clear hc hb3 n0 n1 n2 n3 n4 n5 m0 m1 m2 m3 m4 m5
        cases b with
        | true =>
          go_wp2
          go_roundw
          case rel => exact ⟨i + 1, by omega, by go_num, Lib.hid (by rw [← HST.out, Bool.true_and]), HB3⟩
          case measure => simp [intOf]; omega
        | false =>
          go_wp2
          go_ret
          exact ⟨by rw [← HST.out]; rfl, HB3.out⟩
      · have hd : R = true := by
          rw [← HS.out, List.drop_eq_nil_of_le (by omega), List.drop_eq_nil_of_le (by have := HLEN.out; omega)]
          rfl
        subst hd
        clear HS
        go_wp2
        go_ret
        exact ⟨rfl, HB.out⟩
  · rw [sameKs_len hlen]
    have hne : ((ks.length : Int) == (js.length : Int)) = false := by simp; omega
    clear IH hzk hzj hsk hsj hlen
    go_enter Tryz.func42, Tryz.ntmps42
    go_wp2
    go_ret
    exact ⟨rfl, Below.refl _ _⟩
end Go.Proofs.YtjohfljkhlkjoaaGreatDoor

