/- FeQ Open GvF FdY FgA Take. -/
import Derived.Deep.RegionWith
import Derived.Deep.SlicePairs
import Derived.Carry
import Derived.Laws.StructEq
import Derived.Shelf.Vars
import Derived.Lib.LaidU8
import Derived.Lib.LaidTab
import Derived.MakeChecks
import Derived.WideShapes
import Derived.WalkKit
import Derived.ProofKit
import Derived.OpenShut
import Derived.ShutString
import Derived.Lay
import Derived.LaidMore
import Derived.Stop.Joined
import Derived.SevenTiedAt
import Derived.Test.YtblongcnmpdihaaDoorRows
import Derived.Lib.Replace
import Derived.Lib.CountLaws
import Derived.Lib.IndexLaws
import Derived.Lib.IndexBytes
import Derived.Deep.RegionHeld2
import Derived.Test.YtblongcnmpdihaaDoorCd1
import Derived.Test.YtblongcnmpdihaaDoorCd2
import Derived.Test.YtblongcnmpdihaaDoorCd4
import Derived.Test.YtblongcnmpdihaaDoorCd14
namespace Wb
open Go
def tot7 (l : List Pr) : Nat := (l.map fun x => x.1.size + x.2.size).sum
theorem tot7_step {l : List Pr} {k : Nat} {x : Pr} (h : l[k]? = some x) : tot7 (l.take (k + 1)) = tot7 (l.take k) + (x.1.size + x.2.size) := by
  rw [List.take_add_one, h]
  unfold tot7
  rw [List.map_append, List.sum_append]
  simp
theorem tot7_mem {l : List Pr} {x : Pr} (h : x ∈ l) : x.1.size + x.2.size ≤ tot7 l := by
  unfold tot7
  induction l with
  | nil => cases h
  | cons a l ih =>
    rw [List.map_cons, List.sum_cons]
    rcases List.mem_cons.1 h with rfl | h
    · omega
    · have := ih h; omega
def FewPost7 (l : List Pr) (w : World) (e : Ending) (w' : World) : Prop :=
  RowKit.Below w.heap.size w w' ∧ ∃ b, e = .returned (.bool b) ∧ (b = true → l.length + tot7 l < 5000)
def cidB : ByteArray := ⟨#[67, 111, 110, 116, 101, 110, 116, 45, 73, 68]⟩
def abB : ByteArray := ⟨#[60, 97, 64, 98, 62]⟩
def cidL : List UInt8 := [67, 111, 110, 116, 101, 110, 116, 45, 73, 68, 58, 32, 60, 97, 64, 98, 62, 13, 10, 13, 10]
theorem aw_print : printX [(cidB, abB)] = .ok cidL := by kernel_rfl
theorem aw_parse : parseL 100 0 (cidL ++ [120]) = .ok ([([67, 111, 110, 116, 101, 110, 116, 45, 73, 68], [60, 97, 64, 98, 62])], [120]) := by kernel_rfl
theorem aw_type : parseT [84, 101, 120, 116, 47, 88, 77, 76, 59, 32, 97, 61, 34, 98, 92, 34, 99, 34] = .ok ([116, 101, 120, 116, 47, 120, 109, 108], [([97], [98, 34, 99])]) := by kernel_rfl
theorem aw_tok1 : tokenF [97, 46, 98] = true := by kernel_rfl
theorem aw_tok2 : tokenF [97, 47, 98] = false := by kernel_rfl
theorem mkB_eqs (l m : List UInt8) : ((mkB l).toList == m) = (l == m) := by rw [Lib.toList_data]; rfl
end Wb
namespace Go.Proofs.YtblongcnmpdihaaDoor
open Go.RowKit Wb
set_option maxHeartbeats 2000000 in
set_option maxRecDepth 100000 in
theorem few7_any (A : Option Addr) (l : List Pr) (c : Nat) (w : World) (hA : Sl2 w A l) :
    Calls Tryd.prog 8 #[.slice A l.length c] w (FewPost7 l w) := by
  by_cases hlen : (l.length : Int) ≤ 5000
  · go_enter Tryd.func8, Tryd.ntmps8
    go_wp2
    go_loopw [3, 4] (fun n i wr => ∃ (k N : Nat), k ≤ l.length ∧ n = .int .i64 N ∧ i = .int .i64 k ∧ N ≤ 15000 ∧ Hid (N < 5000 → l.length + tot7 (l.take k) = N) ∧ Below w.heap.size w wr) (fun _ i _ => ((l.length : Int) - intOf i).toNat)
    case atStart => exact ⟨0, l.length, by omega, by rw [show min (l.length : Int) 5000 = (l.length : Int) from by omega], rfl, by omega, Lib.hid (fun _ => by simp [tot7]), Below.refl _ _⟩
    case round =>
      obtain ⟨k, N, hk, rfl, rfl, hN, HT, hb⟩ := hrel
      by_cases h1 : (N : Int) < 5000
      · by_cases h0 : (k : Int) < l.length
        · obtain ⟨⟨x1, x2⟩, he⟩ : ∃ x, l[k]? = some x := ⟨l[k], List.getElem?_eq_getElem (by omega)⟩
          obtain ⟨ad, rfl, _, c1, c2⟩ := (hA.below hb).at_ he
          have HE := Lib.hid he
          clear he
          by_cases m1 : (x1.size : Int) ≤ 5000
          · by_cases m2 : (x2.size : Int) ≤ 5000
            · go_wp2
              go_region
              go_wp2
              go_roundw
              case rel => exact ⟨k + 1, N + x1.size + x2.size, by omega, by go_num, by go_num, by omega, Lib.hid (fun _ => by rw [tot7_step HE.out, ← HT.out (by omega)]; simp only; omega), hb.drew⟩
              case measure => simp [intOf]; omega
            · go_wp2
              go_region
              go_wp2
              go_roundw
              case rel => exact ⟨k + 1, N + x1.size + 5000, by omega, by go_num, by go_num, by omega, Lib.hid (fun h => absurd h (by omega)), hb.drew⟩
              case measure => simp [intOf]; omega
          · by_cases m2 : (x2.size : Int) ≤ 5000
            · go_wp2
              go_region
              go_wp2
              go_roundw
              case rel => exact ⟨k + 1, N + 5000 + x2.size, by omega, by go_num, by go_num, by omega, Lib.hid (fun h => absurd h (by omega)), hb.drew⟩
              case measure => simp [intOf]; omega
            · go_wp2
              go_region
              go_wp2
              go_roundw
              case rel => exact ⟨k + 1, N + 5000 + 5000, by omega, by go_num, by go_num, by omega, Lib.hid (fun h => absurd h (by omega)), hb.drew⟩
              case measure => simp [intOf]; omega
        · have hd : decide ((N : Int) < 5000) = true := decide_eq_true h1
          go_wp2
          go_ret
          refine ⟨hb, _, rfl, fun _ => ?_⟩
          have := HT.out (by omega)
          rw [List.take_of_length_le (by omega)] at this
          omega
      · go_wp2
        all_goals
          go_ret
          exact ⟨hb, _, rfl, fun h => absurd h (by simp)⟩
  · go_enter Tryd.func8, Tryd.ntmps8
    go_wp2
    go_loopw [3, 4] (fun n i wr => n = .int .i64 5000 ∧ i = .int .i64 0 ∧ wr = w) (fun _ _ _ => 0)
    case atStart => exact ⟨by rw [show min (l.length : Int) 5000 = 5000 from by omega], rfl, rfl⟩
    case round =>
      obtain ⟨rfl, rfl, rfl⟩ := hrel
      go_wp2
      all_goals
        go_ret
        exact ⟨Below.refl _ _, _, rfl, fun h => absurd h (by simp)⟩
set_option maxRecDepth 100000 in
set_option maxHeartbeats 8000000 in
theorem awake7 (w : World) (hG : GvF w) : Calls Tryd.prog 7 #[] w fun e w' => e = .returned (.bool true) ∧ Below w.heap.size w w' := by
  have hb0 := (Below.refl w.heap.size w).alloc (Nat.le_refl _) (.cells #[.string cidB, .string abB] 48)
  have hA : Sl2 (w.alloc (.cells #[.string cidB, .string abB] 48)) (some ⟨w.heap.size, 0, none⟩) [(cidB, abB)] := Sl.lit w 2 [.string cidB, .string abB] 48 1 rfl
  have h1 := print_any (some ⟨w.heap.size, 0, none⟩) [(cidB, abB)] 1 (w.alloc (.cells #[.string cidB, .string abB] 48)) hA (by simp) (by
    intro x hx
    rw [List.mem_singleton.1 hx]
    exact ⟨by decide, by decide⟩) (hG.next hb0)
  rw [aw_print] at h1
  have h1 : Calls Tryd.prog 9 #[.slice (some ⟨w.heap.size, 0, none⟩) 1 1] (w.alloc (.cells #[.string cidB, .string abB] 48)) fun e w' => e = .returned (.tuple #[.string (mkB cidL), .int .i64 0]) ∧ Below (w.alloc (.cells #[.string cidB, .string abB] 48)).heap.size (w.alloc (.cells #[.string cidB, .string abB] 48)) w' := h1
  have happ : mkB cidL ++ (⟨#[120]⟩ : ByteArray) = mkB (cidL ++ [120]) := mkB_app cidL [120]
  have h2 := fun v (hg : GvF v) => parse_any (mkB cidL ++ (⟨#[120]⟩ : ByteArray)) 100 v (by rw [happ]; decide) (by rw [happ]; decide) hg
  rw [happ, mkB_list, aw_parse] at h2
  rw [← happ] at h2
  have h3 := fun v => parseType_any ⟨#[84, 101, 120, 116, 47, 88, 77, 76, 59, 32, 97, 61, 34, 98, 92, 34, 99, 34]⟩ v (by decide)
  rw [show (⟨#[84, 101, 120, 116, 47, 88, 77, 76, 59, 32, 97, 61, 34, 98, 92, 34, 99, 34]⟩ : ByteArray).data.toList = [84, 101, 120, 116, 47, 88, 77, 76, 59, 32, 97, 61, 34, 98, 92, 34, 99, 34] from rfl, aw_type] at h3
  have h4 := fun v => token_any ⟨#[97, 46, 98]⟩ v (by decide)
  have h5 := fun v => token_any ⟨#[97, 47, 98]⟩ v (by decide)
  rw [show (⟨#[97, 46, 98]⟩ : ByteArray).data.toList = [97, 46, 98] from rfl, aw_tok1] at h4
  rw [show (⟨#[97, 47, 98]⟩ : ByteArray).data.toList = [97, 47, 98] from rfl, aw_tok2] at h5
  have g1 : ¬ 9223372036854775807 < (mkB cidL).size + (⟨#[120]⟩ : ByteArray).size := by decide
  have q1 : ((mkB cidL).toList == [67, 111, 110, 116, 101, 110, 116, 45, 73, 68, 58, 32, 60, 97, 64, 98, 62, 13, 10, 13, 10]) = true := by rw [mkB_eqs]; decide
  have q2 : ((mkB [120]).toList == [120]) = true := by rw [mkB_eqs]; decide
  have q3 : ((mkB [116, 101, 120, 116, 47, 120, 109, 108]).toList == [116, 101, 120, 116, 47, 120, 109, 108]) = true := by rw [mkB_eqs]; decide
  have q4 : ((mkB [98, 34, 99]).toList == [98, 34, 99]) = true := by rw [mkB_eqs]; decide
  have h2 : ∀ v, GvF v → Calls Tryd.prog 15 #[.string (mkB cidL ++ (⟨#[120]⟩ : ByteArray))] v fun e w' => (∃ A c, e = .returned (.tuple #[.slice A 1 c, .string (mkB [120]), .int .i64 0])) ∧ Below v.heap.size v w' := fun v hg => (h2 v hg).mono fun e w' h => ⟨by obtain ⟨⟨A, c, h, _⟩, _⟩ := h; exact ⟨A, c, h⟩, h.2⟩
  have h3 : ∀ v, Calls Tryd.prog 19 #[.string ⟨#[84, 101, 120, 116, 47, 88, 77, 76, 59, 32, 97, 61, 34, 98, 92, 34, 99, 34]⟩] v fun e w' => (∃ A c, e = .returned (.tuple #[.string (mkB [116, 101, 120, 116, 47, 120, 109, 108]), .slice A 1 c, .int .i64 0]) ∧ Sl2 w' A [(mkB [97], mkB [98, 34, 99])]) ∧ Below v.heap.size v w' := h3
  have HG := Lib.hid hG
  have HB0 := Lib.hid hb0
  clear happ hA hb0 hG
  unfold cidB abB at h1 HB0
  generalize mkB cidL = s1 at *
  generalize mkB [120] = s2 at *
  generalize mkB [116, 101, 120, 116, 47, 120, 109, 108] = s3 at *
  generalize mkB [98, 34, 99] = s4 at *
  go_enter Tryd.func7, Tryd.ntmps7
  go_wp2_with fail
  refine h1.mono ?_
  rintro e w1 ⟨rfl, hb⟩
  have HB1 := Lib.hid (HB0.out.trans (hb.mono HB0.out.size))
  have k2 := h2 w1 (HG.out.next HB1.out)
  clear hb h1 h2
  go_wp2_with fail
  refine k2.mono ?_
  rintro e w2 ⟨⟨A, c, rfl⟩, hb⟩
  have HB2 := Lib.hid (HB1.out.trans (hb.mono HB1.out.size))
  clear hb k2
  go_wp2_with fail
  refine (h3 w2).mono ?_
  rintro e w3 ⟨⟨B, d, rfl, hS⟩, hb⟩
  have HB3 := Lib.hid (HB2.out.trans (hb.mono HB2.out.size))
  obtain ⟨ad, rfl, _, c0, c1⟩ := hS.at_ (k := 0) rfl
  rw [Nat.zero_mul, Addr.add_zero'] at c0 c1
  clear hb h3 hS
  go_wp2_with fail
  refine (h4 w3).mono ?_
  rintro e w4 ⟨rfl, hb⟩
  have HB4 := Lib.hid (HB3.out.trans (hb.mono HB3.out.size))
  clear hb h4
  go_wp2_with fail
  refine (h5 w4).mono ?_
  rintro e w5 ⟨rfl, hb⟩
  have HB5 := Lib.hid (HB4.out.trans (hb.mono HB4.out.size))
  clear hb h5
  go_wp2
  go_ret
  exact ⟨rfl, HB5.out⟩
end Go.Proofs.YtblongcnmpdihaaDoor
namespace Wb
open Go Go.RowKit Go.Deep Go.ChangeShapes Go.WideShapes
def strOf : Value → ByteArray
  | .string s => s
  | _ => ⟨#[]⟩
section
variable {H : Type} {enc : TypeId × Value → H} {P : Program} {W : World} {base : Nat} {spare : Nat → Bool} {held : Bool}
theorem sl2_of_trod {t e : TypeId} {f0 f1 : Field} {A : Option Addr} {len cap : Nat} {d : DataW H} {p : List MemPlace} (ht : P.underlying t = some (.slice e)) (he : P.underlying e = some (.struct #[f0, f1]))
    (ce : P.cellsOf e = 2) (o0 : f0.offset = 0) (o1 : f1.offset = 1) (c0 : P.cellsOf f0.type = 1) (c1 : P.cellsOf f1.type = 1) (s0 : P.underlying f0.type = some .string) (s1 : P.underlying f1.type = some .string)
    (h : DataW.Trod enc P W base spare held t (.slice A len cap) d p) : ∃ l : List Pr, len = l.length ∧ Sl2 W A l := by
  obtain ⟨fuel, hf⟩ := h
  rcases open_slice_pairs ht he ce o0 o1 c0 c1 hf with ⟨hcs, _⟩ | ⟨a, ln, cp, m, n, V0, V1, D0, D1, P0, P1, hcs, _, hlc, _, hm, _, hi⟩
  · simp [Value.cells] at hcs
    obtain ⟨rfl, rfl, rfl⟩ := hcs
    exact ⟨[], rfl, Sl2.nil _ _⟩
  · simp [Value.cells] at hcs
    obtain ⟨rfl, rfl, rfl⟩ := hcs
    have hlm : len ≤ m := by rw [hm]; split <;> omega
    have hs : ∀ i, i < len → W.cell? (a.add (i * 2)) = some (.string (strOf (V0 i))) ∧ W.cell? (a.add (i * 2 + 1)) = some (.string (strOf (V1 i))) := by
      intro i hil
      obtain ⟨h1, h2, h3, h4⟩ := hi i (by omega)
      obtain ⟨x, hx, _⟩ := DataW.trod_string s0 h3
      obtain ⟨y, hy, _⟩ := DataW.trod_string s1 h4
      simp only [List.cons.injEq, and_true] at hx hy
      rw [h1, h2, hx, hy]
      exact ⟨rfl, rfl⟩
    refine ⟨(List.range len).map fun i => (strOf (V0 i), strOf (V1 i)), by simp, cells2_length _, fun hn => ?_⟩
    simp only [List.length_map, List.length_range] at hn
    have hb : a.block < W.heap.size := by
      have := World.block_lt_of_cell? W _ (hs 0 hn).1
      rw [add_block] at this
      exact this
    refine ⟨a, rfl, hb, fun j u hu => ?_⟩
    have hj : j < len * 2 := by
      have := (List.getElem?_eq_some_iff.1 hu).1
      rw [cells2_length] at this
      simpa using this
    have hx : ((List.range len).map fun i => (strOf (V0 i), strOf (V1 i)))[j / 2]? = some (strOf (V0 (j / 2)), strOf (V1 (j / 2))) := by
      rw [List.getElem?_map, List.getElem?_range (by omega)]; rfl
    obtain ⟨g1, g2⟩ := cells2_at _ _ _ hx
    obtain ⟨h1, h2⟩ := hs (j / 2) (by omega)
    rcases (by omega : j = j / 2 * 2 ∨ j = j / 2 * 2 + 1) with e | e
    · rw [e] at hu ⊢
      rw [g1] at hu
      rw [h1, hu]
    · rw [e] at hu ⊢
      rw [g2] at hu
      rw [h2, hu]
end
end Wb
namespace Go.Proofs.YtblongcnmpdihaaDoor
open Go.ChangeShapes Go.WideShapes Go.ChangeAt Go.RowKit Wb
set_option linter.unusedVariables false
theorem space_data : (Rows.laid_strings_asciiSpace : DataW Unit) = Lib.tabData .u8 Lib.asciiSpaceTab := by kernel_rfl
set_option maxRecDepth 1000000 in
theorem gvf_of {W : World} {L : List (String × DataW Unit)} (hmem : ("strings.asciiSpace", Rows.laid_strings_asciiSpace) ∈ L) (hL : laidMetH Tryd.prog L W) (hp : laidMetH Tryd.prog L W = laidMet Tryd.prog L W) (hsh : W.ShapedOpen Tryd.prog) : GvF W := by
  rw [hp] at hL
  have r1 : Lib.VarReads Tryd.prog W "strings.asciiSpace" Rows.laid_strings_asciiSpace := Lib.laidMet.reads hL hmem
  have hml := cell_of_shapedOpen_int (P := Tryd.prog) (g := 2) (t := 3) (zero := #[.int .i64 0]) hsh (of_decide_eq_true (by kernel_rfl)) (by kernel_rfl) rfl (by kernel_rfl) (by kernel_rfl) Tryd.underlying3
  obtain ⟨g1, t1, cs1, f1, p1, hg1, ht1, hv1, hd1⟩ := r1
  obtain rfl := Option.some.inj ((show Tryd.prog.globalNamed "strings.asciiSpace" = some 0 by kernel_rfl).symm.trans hg1)
  obtain rfl := Option.some.inj ((show (Tryd.prog.globals[0]?).map (·.type) = some 112 by kernel_rfl).symm.trans ht1)
  rw [space_data] at hd1
  have hc1 := Lib.cells_of_tab (n := 256) Tryd.underlying112 Tryd.underlying5 (by kernel_rfl) (by kernel_rfl) hd1
  refine ⟨hml, ?_⟩
  unfold Lib.TabIs
  rw [hv1, ← hc1]
theorem handed {H : Type} {enc : TypeId × Value → H} {a : Assume} {C : Checked} {os : Os} {f : FuncId} {fn : Func} {s : ChangeSpec} {conds : List PathCond} {apart fresh handsOn again : Bool} {X : World → Array Value → Prop}
    (hX : ∀ (w w' : World) (args : Array Value), w.heap = w'.heap → X w args → X w' args)
    (own : ownKnob C.prog.godebug = none) (started : os.Started) (noInit : C.prog.inits.idxOf? f = none) (hfn : C.prog.funcs[f]? = some fn)
    (witness : ∃ (w : World) (tape : Tape) (i : Input), w.os = os ∧ (w.forCall tape i).Shaped C.prog ∧ i.vars = [] ∧ Input.okWide C.prog (w.forCall tape i) .any w.heap.size f i ∧
      ((s.pre enc C.prog fn conds apart (w.forCall tape i).memory i.args ∧ X (w.forCall tape i).memory i.args) ∧ sizedMet enc C.prog fn (OpenSpec.ofChange s) apart (w.forCall tape i).memory i.args) ∧ a.holds C.prog (lone (Frame.enter C.prog f i.args .normal) [] (w.forCall tape i)))
    (contract : ∀ (W : World) (base : Nat) (args : Array Value) (ds gs : List (DataW H)) (before : List MemPlace),
      (∀ (j : Nat) t v, fn.params[j]? = some t → args[j]? = some v → Value.okWide C.prog W .any base t v) →
      DataW.Whole enc C.prog fn.params.toList s.vars apart W args.toList ds gs before → X W args → W.ShapedOpen C.prog →
      Calls C.prog f args W fun e W' => ∃ v, e = .returned v ∧ s.post enc C.prog fn apart fresh handsOn again W args v W') :
    ReturnsInHanded a C os f .any (fun w args => (s.pre enc C.prog fn conds apart w args ∧ X w args) ∧ sizedMet enc C.prog fn (OpenSpec.ofChange s) apart w args) (s.post enc C.prog fn apart fresh handsOn again) := by
  refine returnsInHanded_of_calls own started noInit witness ?_
  intro w tape i _ hsh _ hok hpre hholds
  obtain ⟨_, _, _, fn', hfn', _, _, _, _, hval⟩ := hok
  have e : fn' = fn := Option.some.inj (hfn'.symm.trans hfn)
  subst e
  obtain ⟨⟨⟨ds, gs, before, hw, hc⟩, hx⟩, hz⟩ := hpre
  have hw' := DataW.Whole.of_heap (w' := w.forCall tape i) (by rfl) hw
  refine (contract (w.forCall tape i) w.heap.size i.args ds gs before hval hw' (hX _ _ _ (by rfl) hx) hsh).mono fun e W' ⟨v, he, hp⟩ => ?_
  subst he
  exact ChangeSpec.post_blind hp
end Go.Proofs.YtblongcnmpdihaaDoor
namespace Wb
open Go
theorem rpl_nil {o n : List UInt8} (ho : o ≠ []) (hn : o ≠ n) : Lib.replaceAll [] o n = [] := by
  have hi : Lib.index [] o = -1 := by
    unfold Lib.index
    cases o with
    | nil => exact absurd rfl ho
    | cons c l => rfl
  unfold Lib.replaceAll Lib.replace Lib.replaceNum
  rw [if_neg (by simpa using hn), if_pos (.inl (by omega)), Lib.count_miss hi]
  rfl
def idxG {α : Type} (p : α → Bool) : List α → Int
  | [] => -1
  | a :: l => if p a = true then 0 else if idxG p l < 0 then -1 else idxG p l + 1
theorem idxG_ge {α : Type} (p : α → Bool) : ∀ l, -1 ≤ idxG p l
  | [] => by simp [idxG]
  | a :: l => by
    have := idxG_ge p l
    unfold idxG
    split
    · omega
    · split <;> omega
theorem idxG_any {α : Type} (p : α → Bool) : ∀ l, decide (0 ≤ idxG p l) = l.any p
  | [] => rfl
  | a :: l => by
    have ih := idxG_any p l
    have := idxG_ge p l
    unfold idxG
    rw [List.any_cons]
    cases h : p a
    · rw [if_neg (by simp), Bool.false_or, ← ih]
      by_cases hn : idxG p l < 0
      · rw [if_pos hn, decide_eq_false (by omega), decide_eq_false (by omega)]
      · rw [if_neg hn, decide_eq_true (by omega), decide_eq_true (by omega)]
    · rw [if_pos rfl]; rfl
theorem idxG_drop {α : Type} {p : α → Bool} {l : List α} {i : Nat} {a : α} (h : l[i]? = some a) : idxG p (l.drop i) = if p a = true then 0 else if idxG p (l.drop (i + 1)) < 0 then -1 else idxG p (l.drop (i + 1)) + 1 := by
  obtain ⟨hi, e⟩ := List.getElem?_eq_some_iff.1 h
  rw [List.drop_eq_getElem_cons hi, e]
  rfl
theorem idxG_find {α : Type} (p : α → Bool) : ∀ l : List α, (idxG p l = -1 ∧ l.find? p = none) ∨ ∃ (i : Nat) (x : α), idxG p l = i ∧ l[i]? = some x ∧ l.find? p = some x
  | [] => .inl ⟨rfl, rfl⟩
  | a :: l => by
    rw [idxG, List.find?_cons]
    cases h : p a
    · rw [if_neg (by simp)]
      rcases idxG_find p l with ⟨h1, h2⟩ | ⟨i, x, h1, h2, h3⟩
      · exact .inl ⟨by rw [h1]; rfl, h2⟩
      · exact .inr ⟨i + 1, x, by rw [h1, if_neg (by omega)]; rfl, h2, h3⟩
    · exact .inr ⟨0, a, by simp, rfl, rfl⟩
theorem getF_find (l : List (List UInt8 × List UInt8)) (n : List UInt8) : getF l n = (l.find? fun p => decide (lowF p.1 = lowF n)).map Prod.snd := by
  induction l with
  | nil => rfl
  | cons a l ih =>
    rw [getF, List.find?_cons]
    by_cases h : lowF a.1 = lowF n
    · rw [if_pos h, decide_eq_true h]; rfl
    · rw [if_neg h, decide_eq_false h, ih]
end Wb
namespace Go.Proofs.YtblongcnmpdihaaDoor
open Go.RowKit Wb
def TellsP (fid : FuncId) (caps : Array Value) (p : Pr → Bool) (l : List Pr) (W : World) : Prop :=
  (∀ args w, (callFunc fid args).run Tryd.prog w = .ok (.enter fid args) w) ∧
  ∀ (x : Pr) (v : World), x ∈ l → Below W.heap.size W v → Calls Tryd.prog fid (#[.agg #[.string x.1, .string x.2]] ++ caps) v fun e v' => e = .returned (.bool (p x)) ∧ Below v.heap.size v v'
set_option maxRecDepth 100000 in
set_option maxHeartbeats 2000000 in
theorem idxFl_any (p : Pr → Bool) (fid : FuncId) (caps : Array Value) (A : Option Addr) (l : List Pr) (c : Nat) (w : World) (hA : Sl2 w A l) (hl : l.length ≤ 1000000001) (hT : TellsP fid caps p l w) :
    Calls Tryd.prog 29 #[.slice A l.length c, .func (.func fid) #[] caps] w fun e w' => e = .returned (.int .i64 (idxG p l)) ∧ Below w.heap.size w w' := by
  have hE := hT.1
  have HT2 := Lib.hid hT.2
  obtain ⟨R, hR⟩ : ∃ R, idxG p l = R := ⟨_, rfl⟩
  rw [hR]
  have HR := Lib.hid hR
  have HA := Lib.hid hA
  clear hR hA hT
  go_enter Tryd.func29, Tryd.ntmps29
  go_wp2
  go_loopw [8] (fun vi wr => ∃ i : Nat, i ≤ l.length ∧ vi = .int .i64 i ∧ Hid (R = if idxG p (l.drop i) < 0 then -1 else idxG p (l.drop i) + i) ∧ Hid (Below w.heap.size w wr)) (fun vi _ => ((l.length : Int) - intOf vi).toNat)
  case atStart => exact ⟨0, by omega, rfl, Lib.hid (by
    rw [List.drop_zero, HR.out]
    have := idxG_ge p l
    rw [HR.out] at this
    split <;> omega), Lib.hid (Below.refl _ _)⟩
  case round =>
    obtain ⟨i, hi, rfl, HQ, HB⟩ := hrel
    by_cases h0 : i < l.length
    · obtain ⟨⟨x1, x2⟩, ha⟩ : ∃ a, l[i]? = some a := ⟨l[i], List.getElem?_eq_getElem h0⟩
      obtain ⟨ad, rfl, had, d0, d1⟩ := (HA.out.below HB.out).at_ ha
      have hc := HT2.out (x1, x2) wr (List.mem_of_getElem? ha) HB.out
      cases hq : p (x1, x2)
      · rw [hq] at hc
        have HST : Hid (R = if (if idxG p (l.drop (i + 1)) < 0 then -1 else idxG p (l.drop (i + 1)) + 1) < 0 then -1 else (if idxG p (l.drop (i + 1)) < 0 then -1 else idxG p (l.drop (i + 1)) + 1) + i) := Lib.hid (by
          have hx0 : idxG p (l.drop i) = if idxG p (l.drop (i + 1)) < 0 then -1 else idxG p (l.drop (i + 1)) + 1 := by rw [idxG_drop ha, if_neg (by rw [hq]; simp)]
          rw [HQ.out, hx0])
        clear hq ha
        go_wp2_with (go_at_fn fid; refine hc.mono ?_; rintro e w3 ⟨rfl, hb3⟩)
        have HB3 := Lib.hid (HB.out.trans (hb3.mono HB.out.size))
        clear hb3 hc
        go_wp2
        go_roundw
        case rel => exact ⟨i + 1, by omega, by go_num, Lib.hid (by
          rw [HST.out]
          have := idxG_ge p (l.drop (i + 1))
          by_cases hn : idxG p (l.drop (i + 1)) < 0
          · rw [if_pos hn, if_pos hn]; rfl
          · rw [if_neg hn, if_neg hn, if_neg (by omega)]; omega), HB3⟩
        case measure => simp [intOf]; omega
      · rw [hq] at hc
        have HST : Hid (R = i) := Lib.hid (by
          have hx0 : idxG p (l.drop i) = 0 := by rw [idxG_drop ha, if_pos hq]
          rw [HQ.out, hx0]
          simp)
        clear hq ha
        go_wp2_with (go_at_fn fid; refine hc.mono ?_; rintro e w3 ⟨rfl, hb3⟩)
        have HB3 := Lib.hid (HB.out.trans (hb3.mono HB.out.size))
        clear hb3 hc
        go_wp2
        go_ret
        exact ⟨by rw [HST.out]; rfl, HB3.out⟩
    · have HT : Hid (R = -1) := Lib.hid (by rw [HQ.out, List.drop_eq_nil_of_le (by omega)]; rfl)
      go_wp2
      go_ret
      exact ⟨by rw [HT.out]; rfl, HB.out⟩
end Go.Proofs.YtblongcnmpdihaaDoor
namespace Wb
open Go Go.RowKit
theorem op_at {ops : Array Oper} {i : Nat} {oi : Oper} {rest : List Oper} (h : ops.toList.drop i = oi :: rest) : ops[i]? = some oi := by
  have h2 : (ops.toList.drop i)[0]? = some oi := by rw [h]; rfl
  rw [List.getElem?_drop] at h2
  simpa using h2
theorem takeW {P : Program} {md : Region.Mode} {ops : Array Oper} {Q : Exit → Act → World → Prop} {S : World → Prop} {oi : Oper} {rest : List Oper} {v : Value} {fuel : Nat} {listed : Array Bool} {a : Act} {w : World} (i : Nat)
    (h : wpAnyH P md ops Q S fuel (listed.setIfInBounds i true) (a.put oi.dst v) w) (hi : ops.toList.drop i = oi :: rest := by rfl)
    (hy : ∀ w, S w → (execOp a.eval oi).run P w = .ok (.value v) w := by (intro w' hSw; (try dsimp only at hSw); go_simp; (try with_reducible rfl)))
    (hs : Region.noSelect ops = true := by kernel_rfl) (hf : Region.free md ops listed i = true := by kernel_rfl) (hr : (Region.ready md ops listed).contains i = true := by kernel_rfl)
    (hQ : ∀ c a w, Q (.panic c) (a.put oi.dst v) w → Q (.panic c) a w := by exact fun _ _ _ h => h) (hw : Region.wanted oi (yielded ops a.tmps) = true := by rfl) (hS : S w := by assumption) : wpAnyH P md ops Q S (fuel + 1) listed a w :=
  wpAnyH_take (op_at hi) hs hf hr hQ (.inl ⟨hw, hy⟩) hS h
end Wb
