/- QcA QcG GvP. -/
import Derived.Lib.ItoaMem
import Derived.Lib.AppendIntMem
import Derived.Shelf.Strconv.Itoa2
import Derived.BigCall
import Derived.Shelf.Vars
import Derived.Lib.LaidU8
import Derived.Lib.LaidTab
import Derived.MakeChecks
import Derived.WideShapes
import Derived.WalkKit
import Derived.ProofKit
import Derived.OpenShut
import Derived.ShutString
import Derived.Lay
import Derived.LaidMore
import Derived.Stop.Joined
import Derived.SevenTiedAt
import Derived.Carry
import Derived.Test.YtmabhbihgenmcaaGreatDoorRows
import Derived.Test.YtmabhbihgenmcaaGreatDoorKc10
import Derived.Test.YtmabhbihgenmcaaGreatDoorKc11
import Derived.Test.YtmabhbihgenmcaaGreatDoorKc12
namespace Wb
open Go Go.RowKit Go.Deep Go.ChangeShapes Go.WideShapes
abbrev PtV := (Option Addr × Nat) × (List Pr × ByteArray)
def ptOf (x : PtV) : Pt := (x.2.1.map ofPr, x.2.2.data.toList)
def ptsOf (L : List PtV) : List Pt := L.map ptOf
def cellsP (L : List PtV) : List Value := L.flatMap fun x => [.slice x.1.1 x.2.1.length x.1.2, .string x.2.2]
theorem cellsP_nil : cellsP [] = [] := rfl
theorem cellsP_cons (p : PtV) (l : List PtV) : cellsP (p :: l) = .slice p.1.1 p.2.1.length p.1.2 :: .string p.2.2 :: cellsP l := rfl
theorem cellsP_append (a b : List PtV) : cellsP (a ++ b) = cellsP a ++ cellsP b := by simp [cellsP]
theorem cellsP_length (l : List PtV) : (cellsP l).length = l.length * 2 := by
  induction l with
  | nil => rfl
  | cons p l ih => rw [cellsP_cons]; simp [ih]; omega
theorem cellsP_at : ∀ (l : List PtV) (k : Nat) (x : PtV), l[k]? = some x → (cellsP l)[k * 2]? = some (.slice x.1.1 x.2.1.length x.1.2) ∧ (cellsP l)[k * 2 + 1]? = some (.string x.2.2)
  | [], k, x, h => by simp at h
  | p :: l, 0, x, h => by simp at h; subst h; simp [cellsP_cons]
  | p :: l, k + 1, x, h => by
    have := cellsP_at l k x (by simpa using h)
    rw [cellsP_cons, show (k + 1) * 2 = k * 2 + 1 + 1 from by omega]
    simpa using this
theorem cellsP_one (l : List PtV) : ∀ u ∈ cellsP l, u.oneCell' = true := by
  intro u hu
  simp only [cellsP, List.mem_flatMap] at hu
  obtain ⟨p, _, hp⟩ := hu
  simp at hp
  rcases hp with rfl | rfl <;> rfl
def SlP (w : World) (A : Option Addr) (L : List PtV) : Prop := Sl w 2 A L.length (cellsP L) ∧ ∀ x ∈ L, Sl2 w x.1.1 x.2.1
theorem SlP.nil (w : World) (A : Option Addr) : SlP w A [] := ⟨Sl.nil w 2 A, fun x hx => by cases hx⟩
theorem SlP.below {w w' : World} {A : Option Addr} {L : List PtV} (h : SlP w A L) (hb : Below w.heap.size w w') : SlP w' A L := ⟨h.1.below hb, fun x hx => (h.2 x hx).below hb⟩
theorem SlP.at_ {w : World} {A : Option Addr} {L : List PtV} (h : SlP w A L) {k : Nat} {x : PtV} (hx : L[k]? = some x) :
    ∃ ad, A = some ad ∧ ad.block < w.heap.size ∧ w.cell? (ad.add (k * 2)) = some (.slice x.1.1 x.2.1.length x.1.2) ∧ w.cell? ⟨(ad.add (k * 2)).block, (ad.add (k * 2)).off + 1, none⟩ = some (.string x.2.2) ∧ Sl2 w x.1.1 x.2.1 := by
  have hk : k < L.length := (List.getElem?_eq_some_iff.1 hx).1
  obtain ⟨ad, e, hb, hc⟩ := h.1.2 (by omega)
  obtain ⟨h1, h2⟩ := cellsP_at L k x hx
  refine ⟨ad, e, hb, hc _ _ h1, ?_, h.2 x (List.mem_of_getElem? hx)⟩
  rw [← hc _ _ h2, add_succ _ _ 1 (by omega)]
section
variable {H : Type} {enc : TypeId × Value → H} {P : Program} {W : World} {base : Nat} {spare : Nat → Bool} {held : Bool}
theorem slP_of_trod {t e tF : TypeId} {f0 f1 g0 g1 : Field} {A : Option Addr} {len cap : Nat} {d : DataW H} {p : List MemPlace} (ht : P.underlying t = some (.slice e)) (he : P.underlying e = some (.struct #[f0, f1]))
    (ce : P.cellsOf e = 2) (o0 : f0.offset = 0) (o1 : f1.offset = 1) (c0 : P.cellsOf f0.type = 1) (c1 : P.cellsOf f1.type = 1) (s0 : P.underlying f0.type = some (.slice tF)) (s1 : P.underlying f1.type = some .string)
    (hf : P.underlying tF = some (.struct #[g0, g1])) (cf : P.cellsOf tF = 2) (p0 : g0.offset = 0) (p1 : g1.offset = 1) (d0 : P.cellsOf g0.type = 1) (d1 : P.cellsOf g1.type = 1) (t0 : P.underlying g0.type = some .string) (t1 : P.underlying g1.type = some .string)
    (h : DataW.Trod enc P W base spare held t (.slice A len cap) d p) : ∃ L : List PtV, len = L.length ∧ SlP W A L := by
  obtain ⟨fuel, hf0⟩ := h
  rcases open_slice_pairs ht he ce o0 o1 c0 c1 hf0 with ⟨hcs, _⟩ | ⟨a, ln, cp, m, n, V0, V1, D0, D1, P0, P1, hcs, _, hlc, _, hm, _, hi⟩
  · simp [Value.cells] at hcs
    obtain ⟨rfl, rfl, rfl⟩ := hcs
    exact ⟨[], rfl, SlP.nil _ _⟩
  · simp [Value.cells] at hcs
    obtain ⟨rfl, rfl, rfl⟩ := hcs
    have hlm : len ≤ m := by rw [hm]; split <;> omega
    have hs : ∀ i, i < len → ∃ x : PtV, W.cell? (a.add (i * 2)) = some (.slice x.1.1 x.2.1.length x.1.2) ∧ W.cell? (a.add (i * 2 + 1)) = some (.string x.2.2) ∧ Sl2 W x.1.1 x.2.1 := by
      intro i hil
      obtain ⟨h1, h2, h3, h4⟩ := hi i (by omega)
      obtain ⟨y, hy, _⟩ := DataW.trod_string s1 h4
      simp only [List.cons.injEq, and_true] at hy
      have hv : ∃ B ln2 cp2, V0 i = .slice B ln2 cp2 := by
        rcases DataW.trod_slice s0 h3 with ⟨hcs, _⟩ | ⟨a2, len2, cap2, _, _, _, _, hcs, _⟩
        · simp only [List.cons.injEq, and_true] at hcs
          exact ⟨_, _, _, hcs⟩
        · simp only [List.cons.injEq, and_true] at hcs
          exact ⟨_, _, _, hcs⟩
      obtain ⟨B, ln2, cp2, hv⟩ := hv
      rw [hv] at h3
      obtain ⟨l, rfl, hl⟩ := sl2_of_trod (A := B) (len := ln2) (cap := cp2) s0 hf cf p0 p1 d0 d1 t0 t1 ⟨n, h3⟩
      exact ⟨((B, cp2), (l, y)), by rw [h1, hv], by rw [h2, hy], hl⟩
    let g : Nat → PtV := fun i => if h : i < len then Classical.choose (hs i h) else ((none, 0), ([], ⟨#[]⟩))
    have hg : ∀ i, i < len → W.cell? (a.add (i * 2)) = some (.slice (g i).1.1 (g i).2.1.length (g i).1.2) ∧ W.cell? (a.add (i * 2 + 1)) = some (.string (g i).2.2) ∧ Sl2 W (g i).1.1 (g i).2.1 := by
      intro i h
      simp only [g, h, dif_pos]
      exact Classical.choose_spec (hs i h)
    refine ⟨(List.range len).map g, by simp, ⟨cellsP_length _, fun hn => ?_⟩, fun x hx => ?_⟩
    · simp only [List.length_map, List.length_range] at hn
      have hb : a.block < W.heap.size := by
        have := World.block_lt_of_cell? W _ (hg 0 hn).1
        rw [add_block] at this
        exact this
      refine ⟨a, rfl, hb, fun j u hu => ?_⟩
      have hj : j < len * 2 := by
        have := (List.getElem?_eq_some_iff.1 hu).1
        rw [cellsP_length] at this
        simpa using this
      have hx : ((List.range len).map g)[j / 2]? = some (g (j / 2)) := by
        rw [List.getElem?_map, List.getElem?_range (by omega)]; rfl
      obtain ⟨g1, g2⟩ := cellsP_at _ _ _ hx
      obtain ⟨h1, h2, _⟩ := hg (j / 2) (by omega)
      rcases (by omega : j = j / 2 * 2 ∨ j = j / 2 * 2 + 1) with e | e
      · rw [e] at hu ⊢
        rw [g1] at hu
        rw [h1, hu]
      · rw [e] at hu ⊢
        rw [g2] at hu
        rw [h2, hu]
    · obtain ⟨i, hi, rfl⟩ := List.mem_map.1 hx
      exact (hg i (List.mem_range.1 hi)).2.2
end
end Wb
namespace Wb
open Go
theorem dec_digs : ∀ n, 1 ≤ n → Lib.decDigits n = digs n := by
  intro n
  induction n using Nat.strongRecOn with
  | _ n ih =>
    intro h
    by_cases h10 : n < 10
    · rw [Lib.decDigits, dif_pos h10, digs, dif_neg (show ¬ n = 0 by omega), show n / 10 = 0 from by omega, show n % 10 = n from by omega, show digs 0 = [] from by rw [digs, dif_pos rfl]]
      rfl
    · rw [Lib.decDigits, dif_neg h10, ih (n / 10) (by omega) (by omega)]
      conv => rhs; rw [digs, dif_neg (show ¬ n = 0 by omega)]
end Wb
namespace Go.Proofs.YtmabhbihgenmcaaGreatDoor
open Go.RowKit Wb Go.Sort Go.Lib
def GvP (w : World) : Prop := GvF w ∧ Lib.TabIs Tryz.prog w "internal/strconv.uint64pow10" .u64 Lib.pow10Tab
theorem GvP.next {w w' : World} (h : GvP w) (hb : Below w.heap.size w w') : GvP w' :=
  ⟨h.1.next hb, Go.Joins.tab_stays (g := 0) (by kernel_rfl) h.2 hb (Nat.le_refl _)⟩
set_option maxHeartbeats 4000000 in
set_option maxRecDepth 100000 in
theorem fmtin_any (u : Nat) (w : World) (hu0 : 1 ≤ u) (hu64 : u < 18446744073709551616) (hG : GvP w) :
    Calls Tryz.prog 52 #[.int .u64 u, .int .i64 10] w fun e w' => e = .returned (.string ⟨(digs u).toArray⟩) ∧ Below w.heap.size w w' := by
  rw [← dec_digs u hu0]
  by_cases hs : u < 100
  · have h1 := fun (v : World) => Tryz.internal_strconv_small u hs v
    have iu : (u : Int) < 100 := by omega
    go_enter Tryz.func52, Tryz.ntmps52
    go_wp2_with fail
    refine (h1 _).mono ?_
    rintro e w' ⟨rfl, rfl⟩
    clear h1
    go_wp2
    go_ret
    exact ⟨rfl, Below.refl _ _⟩
  · have hnd20 : Lib.nDigits u ≤ 20 := by have := Lib.numDigits_eq u hu0 hu64; split at this <;> omega
    have hal : Tryz.prog.arrayLen 114 = 24 := by kernel_rfl
    have hel : Tryz.prog.elem 114 = 5 := by kernel_rfl
    have hsl : ∀ W, (Instr.sliceAt 114 (.pointer (some ⟨w.heap.size, 0, none⟩)) none (some (.int .i64 (Lib.nDigits u : Int))) none).run Tryz.prog W = .ok (.slice (some ⟨w.heap.size, 0, none⟩) (Lib.nDigits u) 24) W := fun W => by
      rw [run_sliceAt_array_h W 114 ⟨w.heap.size, 0, none⟩ (by rw [hel]; rfl) .i64 (Lib.nDigits u : Int) (by omega) (by rw [hal]; omega)]
      go_simp
    have hH0 := Lib.holds_zero0 w 114 (Lib.nDigits u) (by omega)
    have hfmt := Tryz.internal_strconv_formatBase10 w.heap.size 0 24 u (Array.replicate (Lib.nDigits u) 0) (w.alloc (.cells Lib.zeros24 114)) hH0 (by rw [Array.size_replicate]; exact Lib.lt_pow_nDigits u) hu64 (by rw [Array.size_replicate]; omega)
    rw [Array.size_replicate] at hfmt
    have hnum := Tryz.internal_strconv_numDigits u hu0 hu64 (w.alloc (.cells Lib.zeros24 114)) (Lib.tabIs_alloc hG.2 _)
    have HH0 := Lib.hid hH0
    have iu : ¬ (u : Int) < 100 := by omega
    clear hH0 hal
    go_enter Tryz.func52, Tryz.ntmps52
    go_wp2_with fail
    refine hnum.mono ?_
    rintro e w' ⟨rfl, rfl⟩
    clear hnum
    go_wp2_with fail
    refine hfmt.mono ?_
    rintro e w' ⟨rfl, k, v', dk, rfl, hF⟩
    have hcv : (convert 49 9 (.slice (some ⟨w.heap.size, 0, none⟩) (Lib.nDigits u) 24)).run Tryz.prog ((putRow (fun (b : UInt8) => Value.int .u8 (b.toNat : Int)) (w.alloc (.cells Lib.zeros24 114)) w.heap.size 0 dk).drewN k) = .ok (.string ⟨(Lib.decDigits u).toArray⟩) ((putRow (fun (b : UInt8) => Value.int .u8 (b.toNat : Int)) (w.alloc (.cells Lib.zeros24 114)) w.heap.size 0 dk).drewN k) := by
      have h := run_convert_bytes_back (P := Tryz.prog) ((putRow (fun (b : UInt8) => Value.int .u8 (b.toNat : Int)) (w.alloc (.cells Lib.zeros24 114)) w.heap.size 0 dk).drewN k) 49 9 5 ⟨w.heap.size, 0, none⟩ 24 (Lib.decDigits u) Tryz.underlying49 Tryz.underlying5 Tryz.underlying9 (fun j hj => by
        rw [Lib.row_is_numeral hF j hj, Lib.add_plain, World.cell?_drewN]
        exact cell?_putRow (fun (b : UInt8) => Value.int .u8 (b.toNat : Int)) _ w.heap.size 0 _ dk HH0.out (by rw [hF.size, Array.size_replicate]) j (by rw [hF.size]; rw [Lib.decDigits_length] at hj; exact hj))
      rw [Lib.decDigits_length] at h
      exact h
    obtain ⟨os, eo⟩ := Lib.fin_at w (.cells Lib.zeros24 114) dk k 0
    have hb : Below w.heap.size w ((putRow (fun (b : UInt8) => Value.int .u8 (b.toNat : Int)) (w.alloc (.cells Lib.zeros24 114)) w.heap.size 0 dk).drewN k) := by rw [eo]; exact Lib.below_grow _ w (Nat.le_refl _) k os
    generalize (putRow (fun (b : UInt8) => Value.int .u8 (b.toNat : Int)) (w.alloc (.cells Lib.zeros24 114)) w.heap.size 0 dk).drewN k = w2 at *
    have HB := Lib.hid hb
    clear eo hF hfmt hb
    go_wp2
    go_ret
    exact ⟨rfl, HB.out⟩
theorem fmtu_any (u : Nat) (w : World) (hu0 : 1 ≤ u) (hu64 : u < 18446744073709551616) (hG : GvP w) :
    Calls Tryz.prog 30 #[.int .u64 u, .int .i64 10] w fun e w' => e = .returned (.string ⟨(digs u).toArray⟩) ∧ Below w.heap.size w w' := by
  have h1 := fmtin_any u w hu0 hu64 hG
  go_enter Tryz.func30, Tryz.ntmps30
  go_wp2_with fail
  refine h1.mono ?_
  rintro e w1 ⟨rfl, hb⟩
  have HB := Lib.hid hb
  clear hb h1
  go_wp2
  go_ret
  exact ⟨rfl, HB.out⟩
end Go.Proofs.YtmabhbihgenmcaaGreatDoor
namespace Go.Proofs.YtmabhbihgenmcaaGreatDoor
open Go.ChangeShapes Go.WideShapes Go.ChangeAt Go.RowKit Wb
set_option linter.unusedVariables false
theorem space_data : (Rows.laid_strings_asciiSpace : DataW Unit) = Lib.tabData .u8 Lib.asciiSpaceTab := by kernel_rfl
set_option maxRecDepth 1000000 in
theorem gvf_of {W : World} {L : List (String × DataW Unit)} (hmem : ("strings.asciiSpace", Rows.laid_strings_asciiSpace) ∈ L) (hL : laidMetH Tryz.prog L W) (hp : laidMetH Tryz.prog L W = laidMet Tryz.prog L W) (hsh : W.ShapedOpen Tryz.prog) : GvF W := by
  rw [hp] at hL
  have r1 : Lib.VarReads Tryz.prog W "strings.asciiSpace" Rows.laid_strings_asciiSpace := Lib.laidMet.reads hL hmem
  have hml := cell_of_shapedOpen_int (P := Tryz.prog) (g := 1) (t := 3) (zero := #[.int .i64 0]) hsh (of_decide_eq_true (by kernel_rfl)) (by kernel_rfl) rfl (by kernel_rfl) (by kernel_rfl) Tryz.underlying3
  obtain ⟨g1, t1, cs1, f1, p1, hg1, ht1, hv1, hd1⟩ := r1
  obtain rfl := Option.some.inj ((show Tryz.prog.globalNamed "strings.asciiSpace" = some 2 by kernel_rfl).symm.trans hg1)
  obtain rfl := Option.some.inj ((show (Tryz.prog.globals[2]?).map (·.type) = some 141 by kernel_rfl).symm.trans ht1)
  rw [space_data] at hd1
  have hc1 := Lib.cells_of_tab (n := 256) Tryz.underlying141 Tryz.underlying5 (by kernel_rfl) (by kernel_rfl) hd1
  refine ⟨hml, ?_⟩
  unfold Lib.TabIs
  rw [hv1, ← hc1]
theorem pow_data : (Rows.laid_internal_strconv_uint64pow10 : DataW Unit) = Lib.tabData .u64 Lib.pow10Tab := by kernel_rfl
set_option maxRecDepth 1000000 in
theorem gvp_of {W : World} {L : List (String × DataW Unit)} (hmem : ("strings.asciiSpace", Rows.laid_strings_asciiSpace) ∈ L) (hmem2 : ("internal/strconv.uint64pow10", Rows.laid_internal_strconv_uint64pow10) ∈ L) (hL : laidMetH Tryz.prog L W) (hp : laidMetH Tryz.prog L W = laidMet Tryz.prog L W) (hsh : W.ShapedOpen Tryz.prog) : GvP W := by
  refine ⟨gvf_of hmem hL hp hsh, ?_⟩
  rw [hp] at hL
  have r1 : Lib.VarReads Tryz.prog W "internal/strconv.uint64pow10" Rows.laid_internal_strconv_uint64pow10 := Lib.laidMet.reads hL hmem2
  obtain ⟨g1, t1, cs1, f1, p1, hg1, ht1, hv1, hd1⟩ := r1
  obtain rfl := Option.some.inj ((show Tryz.prog.globalNamed "internal/strconv.uint64pow10" = some 0 by kernel_rfl).symm.trans hg1)
  obtain rfl := Option.some.inj ((show (Tryz.prog.globals[0]?).map (·.type) = some 131 by kernel_rfl).symm.trans ht1)
  rw [pow_data] at hd1
  have hc1 := Lib.cells_of_tab (n := 20) Tryz.underlying131 Tryz.underlying67 (by kernel_rfl) (by kernel_rfl) hd1
  unfold Lib.TabIs
  rw [hv1, ← hc1]
theorem handed {H : Type} {enc : TypeId × Value → H} {a : Assume} {C : Checked} {os : Os} {f : FuncId} {fn : Func} {s : ChangeSpec} {conds : List PathCond} {apart fresh handsOn again : Bool} {X : World → Array Value → Prop}
    (hX : ∀ (w w' : World) (args : Array Value), w.heap = w'.heap → X w args → X w' args)
    (own : ownKnob C.prog.godebug = none) (started : os.Started) (noInit : C.prog.inits.idxOf? f = none) (hfn : C.prog.funcs[f]? = some fn)
    (witness : ∃ (w : World) (tape : Tape) (i : Input), w.os = os ∧ (w.forCall tape i).Shaped C.prog ∧ i.vars = [] ∧ Input.okWide C.prog (w.forCall tape i) .any w.heap.size f i ∧
      ((s.pre enc C.prog fn conds apart (w.forCall tape i).memory i.args ∧ X (w.forCall tape i).memory i.args) ∧ sizedMet enc C.prog fn (OpenSpec.ofChange s) apart (w.forCall tape i).memory i.args) ∧ a.holds C.prog (lone (Frame.enter C.prog f i.args .normal) [] (w.forCall tape i)))
    (contract : ∀ (W : World) (base : Nat) (args : Array Value) (ds gs : List (DataW H)) (before : List MemPlace),
      (∀ (j : Nat) t v, fn.params[j]? = some t → args[j]? = some v → Value.okWide C.prog W .any base t v) →
      DataW.Whole enc C.prog fn.params.toList s.vars apart W args.toList ds gs before → X W args → W.ShapedOpen C.prog →
      Calls C.prog f args W fun e W' => ∃ v, e = .returned v ∧ s.post enc C.prog fn apart fresh handsOn again W args v W') :
    ReturnsInHanded a C os f .any (fun w args => (s.pre enc C.prog fn conds apart w args ∧ X w args) ∧ sizedMet enc C.prog fn (OpenSpec.ofChange s) apart w args) (s.post enc C.prog fn apart fresh handsOn again) := by
  refine returnsInHanded_of_calls own started noInit witness ?_
  intro w tape i _ hsh _ hok hpre hholds
  obtain ⟨_, _, _, fn', hfn', _, _, _, _, hval⟩ := hok
  have e : fn' = fn := Option.some.inj (hfn'.symm.trans hfn)
  subst e
  obtain ⟨⟨⟨ds, gs, before, hw, hc⟩, hx⟩, hz⟩ := hpre
  have hw' := DataW.Whole.of_heap (w' := w.forCall tape i) (by rfl) hw
  refine (contract (w.forCall tape i) w.heap.size i.args ds gs before hval hw' (hX _ _ _ (by rfl) hx) hsh).mono fun e W' ⟨v, he, hp⟩ => ?_
  subst he
  exact ChangeSpec.post_blind hp
end Go.Proofs.YtmabhbihgenmcaaGreatDoor
