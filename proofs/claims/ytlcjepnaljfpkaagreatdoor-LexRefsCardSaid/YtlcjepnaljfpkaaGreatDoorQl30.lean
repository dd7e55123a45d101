/- LdE Gv LxRefs LxF. -/
import Derived.KernelRfl
import Derived.Test.YtlcjepnaljfpkaaGreatDoorRows
import Derived.Shelf.Vars
import Derived.Lib.LaidU8
import Derived.Lib.LaidTab
import Derived.MakeChecks
import Derived.WideShapes
import Derived.WalkKit
import Derived.ProofKit
import Derived.OpenShut
import Derived.ShutString
import Derived.Lay
import Derived.LaidMore
import Derived.Stop.Joined
import Derived.SevenTiedAt
import Derived.Lib.ItoaNum
import Derived.Test.YtlcjepnaljfpkaaGreatDoorQl2
import Derived.Test.YtlcjepnaljfpkaaGreatDoorQl11
import Derived.Test.YtlcjepnaljfpkaaGreatDoorQl29
namespace Wb
theorem awake1 : tokensU [60, 97, 32, 98, 61, 39, 49, 39, 62, 120, 38, 108, 116, 59, 60, 47, 97, 62] = .ok [(0, (1, [97], [([98], [49])], [])), (9, (4, [], [], [120, 60])), (14, (2, [97], [], []))] := by kernel_rfl
theorem awake2 : tokensU [60, 97, 32, 98, 62] = .error (4, 4) := by kernel_rfl
end Wb
namespace Go.Proofs.YtlcjepnaljfpkaaGreatDoor
open Go.RowKit Wb
set_option maxRecDepth 100000 in
set_option maxHeartbeats 2000000 in
theorem awake_any (w : World) (hG : Gv w) : Calls Tryz.prog 5 #[] w fun e w' => e = .returned (.bool true) ∧ Below w.heap.size w w' := by
  have h1 := Tokens_any ⟨#[60, 97, 32, 98, 61, 39, 49, 39, 62, 120, 38, 108, 116, 59, 60, 47, 97, 62]⟩ w hG (by decide)
  have H2 := Lib.hid fun w2 (hg : Gv w2) => Tokens_any ⟨#[60, 97, 32, 98, 62]⟩ w2 hg (by decide)
  change Calls _ _ _ _ (fun e w' => TksOut (tokensU [60, 97, 32, 98, 61, 39, 49, 39, 62, 120, 38, 108, 116, 59, 60, 47, 97, 62]) e w' ∧ _) at h1
  rw [awake1] at h1
  go_enter Tryz.func5, Tryz.ntmps5
  go_wp2_with fail
  refine h1.mono ?_
  rintro e w1 ⟨⟨A, c, rfl, hT⟩, hb1⟩
  have hG1 := hG.next hb1
  have h2 := H2.out w1 hG1
  change Calls _ _ _ _ (fun e w' => TksOut (tokensU [60, 97, 32, 98, 62]) e w' ∧ _) at h2
  rw [awake2] at h2
  have HT := Lib.hid hT
  have HB := Lib.hid hb1
  clear h1 H2 hT hb1
  go_wp2_with fail
  refine h2.mono ?_
  rintro e w2 ⟨rfl, hb2⟩
  have hT := HT.out.below hb2
  have HB2 := Lib.hid (HB.out.trans (hb2.mono HB.out.size))
  obtain ⟨ad, B0, d0, rfl, _, p0, p1, p2, p3, p4, hS0⟩ := hT.at_ (k := 0) (t := tv (0, (1, [97], [([98], [49])], []))) rfl
  obtain ⟨ad1, B1, d1, e1, _, a0, a1, a2, a3, a4, hS1⟩ := hT.at_ (k := 1) (t := tv (9, (4, [], [], [120, 60]))) rfl
  obtain ⟨ad2, B2, d2, e2, _, b0, b1, b2, b3, b4, hS2⟩ := hT.at_ (k := 2) (t := tv (14, (2, [97], [], []))) rfl
  injection e1 with e1
  injection e2 with e2
  subst e1 e2
  obtain ⟨ae, rfl, _, c1, c2⟩ := Sl2.at_ hS0 (k := 0) (x := (⟨#[98]⟩, ⟨#[49]⟩)) rfl
  have l1 : (tv (0, (1, [97], [([98], [49])], []))).attrs.length = 1 := rfl
  clear h2 HT HB hb2 hT hS0 hS1 hS2 hG1
  simp only [tv] at p2 p3 a1 a4 b1
  rw [show (prs [([98], [49])]).length = 1 from rfl] at p3
  simp [Addr.add] at p2 p3 a1 a4 b1 c2
  clear p0 p1 p4 a0 a2 a3 b0 b2 b3 b4 c1 l1
  go_wp2
  go_ret
  exact ⟨rfl, HB2.out⟩
end Go.Proofs.YtlcjepnaljfpkaaGreatDoor
namespace Go.Proofs.YtlcjepnaljfpkaaGreatDoor
open Go.ChangeShapes Go.WideShapes Go.ChangeAt Go.RowKit Wb
set_option linter.unusedVariables false
theorem fold_data : (Rows.laid_unicode_asciiFold : DataW Unit) = Lib.tabData .u16 foldZ := by kernel_rfl
set_option maxRecDepth 1000000 in
theorem gv_of {W : World} (hL : laidMetH Tryz.prog Rows.lexRefsRow.laid W) (hsh : W.ShapedOpen Tryz.prog) : Gv W := by
  rw [MakeChecks.laidMetH_plain _ _ _ (by kernel_rfl)] at hL
  have r1 : Lib.VarReads Tryz.prog W "unicode.asciiFold" Rows.laid_unicode_asciiFold := Lib.laidMet.reads hL (by simp [Rows.lexRefsRow])
  have r2 : Lib.VarReads Tryz.prog W "strconv.ErrRange" Rows.laid_strconv_ErrRange := Lib.laidMet.reads hL (by simp [Rows.lexRefsRow])
  have r3 : Lib.VarReads Tryz.prog W "strconv.ErrSyntax" Rows.laid_strconv_ErrSyntax := Lib.laidMet.reads hL (by simp [Rows.lexRefsRow])
  have hml := cell_of_shapedOpen_int (P := Tryz.prog) (g := 6) (t := 3) (zero := #[.int .i64 0]) hsh (of_decide_eq_true (by kernel_rfl)) (by kernel_rfl) rfl (by kernel_rfl) (by kernel_rfl) Tryz.underlying3
  obtain ⟨g1, t1, cs1, f1, p1, hg1, ht1, hv1, hd1⟩ := r1
  obtain rfl := Option.some.inj ((show Tryz.prog.globalNamed "unicode.asciiFold" = some 1 by kernel_rfl).symm.trans hg1)
  obtain rfl := Option.some.inj ((show (Tryz.prog.globals[1]?).map (·.type) = some 166 by kernel_rfl).symm.trans ht1)
  rw [fold_data] at hd1
  have hc1 := Lib.cells_of_tab (n := 128) Tryz.underlying166 Tryz.underlying165 (by kernel_rfl) (by kernel_rfl) hd1
  have iface : ∀ (cs : Array Value) (f : Nat) (nm : String) (x : DataW Unit) (p : List MemPlace), DataW.trod (fun _ => ()) Tryz.prog W 0 (fun _ => true) false f 92 cs.toList = some (.iface nm x, p) → ∃ v, cs[0]? = some v ∧ (v = .nilIface ∨ ∃ t p, v = .iface t p) := by
    intro cs f nm x p h
    cases f with
    | zero => simp [DataW.trod] at h
    | succ f =>
      rw [← Array.getElem?_toList]
      generalize cs.toList = l at h
      simp only [DataW.trod, Tryz.underlying92] at h
      split at h
      all_goals first
        | (cases ‹some (TypeDesc.interface _) = some _›; done)
        | (cases h; done)
        | exact ⟨_, rfl, .inl rfl⟩
        | exact ⟨_, rfl, .inr ⟨_, _, rfl⟩⟩
  obtain ⟨g2, t2, cs2, f2, p2, hg2, ht2, hv2, hd2⟩ := r2
  obtain rfl := Option.some.inj ((show Tryz.prog.globalNamed "strconv.ErrRange" = some 10 by kernel_rfl).symm.trans hg2)
  obtain rfl := Option.some.inj ((show (Tryz.prog.globals[10]?).map (·.type) = some 92 by kernel_rfl).symm.trans ht2)
  obtain ⟨v2, hc2, hi2⟩ := iface cs2 f2 _ _ _ hd2
  obtain ⟨g3, t3, cs3, f3, p3, hg3, ht3, hv3, hd3⟩ := r3
  obtain rfl := Option.some.inj ((show Tryz.prog.globalNamed "strconv.ErrSyntax" = some 9 by kernel_rfl).symm.trans hg3)
  obtain rfl := Option.some.inj ((show (Tryz.prog.globals[9]?).map (·.type) = some 92 by kernel_rfl).symm.trans ht3)
  obtain ⟨v3, hc3, hi3⟩ := iface cs3 f3 _ _ _ hd3
  have k2 := (World.var?_cell hg2 hv2 0).trans hc2
  have k3 := (World.var?_cell hg3 hv3 0).trans hc3
  refine ⟨?_, hml, ⟨v3, k3, hi3⟩, ⟨v2, k2, hi2⟩, ?_⟩
  · rcases Nat.lt_or_ge 10 W.heap.size with h | h
    · exact h
    · simp [World.cell?, Array.getElem?_eq_none h] at k2
  · intro i hi
    rw [World.var?_cell hg1 hv1 i, ← Array.getElem?_toList, hc1]
    have hl : foldZ.length = 128 := by kernel_rfl
    rw [List.getElem?_map, List.getElem?_eq_getElem (by omega), List.getD, List.getElem?_eq_getElem (by omega)]
    rfl
theorem handed {H : Type} {enc : TypeId × Value → H} {a : Assume} {C : Checked} {os : Os} {f : FuncId} {fn : Func} {s : ChangeSpec} {conds : List PathCond} {apart fresh handsOn again : Bool} {X : World → Array Value → Prop}
    (hX : ∀ (w w' : World) (args : Array Value), w.heap = w'.heap → X w args → X w' args)
    (own : ownKnob C.prog.godebug = none) (started : os.Started) (noInit : C.prog.inits.idxOf? f = none) (hfn : C.prog.funcs[f]? = some fn)
    (witness : ∃ (w : World) (tape : Tape) (i : Input), w.os = os ∧ (w.forCall tape i).Shaped C.prog ∧ i.vars = [] ∧ Input.okWide C.prog (w.forCall tape i) .any w.heap.size f i ∧
      ((s.pre enc C.prog fn conds apart (w.forCall tape i).memory i.args ∧ X (w.forCall tape i).memory i.args) ∧ sizedMet enc C.prog fn (OpenSpec.ofChange s) apart (w.forCall tape i).memory i.args) ∧ a.holds C.prog (lone (Frame.enter C.prog f i.args .normal) [] (w.forCall tape i)))
    (contract : ∀ (W : World) (base : Nat) (args : Array Value) (ds gs : List (DataW H)) (before : List MemPlace),
      (∀ (j : Nat) t v, fn.params[j]? = some t → args[j]? = some v → Value.okWide C.prog W .any base t v) →
      DataW.Whole enc C.prog fn.params.toList s.vars apart W args.toList ds gs before → X W args → W.ShapedOpen C.prog →
      Calls C.prog f args W fun e W' => ∃ v, e = .returned v ∧ s.post enc C.prog fn apart fresh handsOn again W args v W') :
    ReturnsInHanded a C os f .any (fun w args => (s.pre enc C.prog fn conds apart w args ∧ X w args) ∧ sizedMet enc C.prog fn (OpenSpec.ofChange s) apart w args) (s.post enc C.prog fn apart fresh handsOn again) := by
  refine returnsInHanded_of_calls own started noInit witness ?_
  intro w tape i _ hsh _ hok hpre hholds
  obtain ⟨_, _, _, fn', hfn', _, _, _, _, hval⟩ := hok
  have e : fn' = fn := Option.some.inj (hfn'.symm.trans hfn)
  subst e
  obtain ⟨⟨⟨ds, gs, before, hw, hc⟩, hx⟩, hz⟩ := hpre
  have hw' := DataW.Whole.of_heap (w' := w.forCall tape i) (by rfl) hw
  refine (contract (w.forCall tape i) w.heap.size i.args ds gs before hval hw' (hX _ _ _ (by rfl) hx) hsh).mono fun e W' ⟨v, he, hp⟩ => ?_
  subst he
  exact ChangeSpec.post_blind hp
end Go.Proofs.YtlcjepnaljfpkaaGreatDoor
namespace Wb
open Go
theorem digL_app (base : Int) (m : List UInt8) : ∀ (l : List UInt8) (a : Int), digL base a (l ++ m) = match digL base a l with | some n => digL base n m | none => none
  | [], a => rfl
  | c :: l, a => by
    have e : ∀ l : List UInt8, digL base a (c :: l) = if base ≤ digV c.toNat then none else digL base (a * base + digV c.toNat) l := fun _ => rfl
    rw [List.cons_append, e, e]
    by_cases h : base ≤ digV c.toNat
    · rw [if_pos h, if_pos h]
    · rw [if_neg h, if_neg h]
      exact digL_app base m l _
theorem digL_zeros (base : Int) (hb : 0 < base) (l : List UInt8) : ∀ z : Nat, digL base 0 (List.replicate z 48 ++ l) = digL base 0 l
  | 0 => rfl
  | z + 1 => by
    rw [List.replicate_succ, List.cons_append]
    conv => lhs; unfold digL
    have hd : digV ((48 : UInt8).toNat : Int) = 0 := by decide
    rw [hd, if_neg (by omega), Int.zero_mul, Int.zero_add]
    exact digL_zeros base hb l z
def hexDig (d : Nat) : UInt8 := if d < 10 then UInt8.ofNat (48 + d) else UInt8.ofNat (87 + d)
def hexDigits (u : Nat) : List UInt8 := if _h : u < 16 then [hexDig u] else hexDigits (u / 16) ++ [hexDig (u % 16)]
termination_by u
decreasing_by omega
theorem decV : ∀ d : Fin 10, digV ((UInt8.ofNat (48 + d.val)).toNat : Int) = d.val := by decide +kernel
theorem hexV : ∀ d : Fin 16, digV ((hexDig d.val).toNat : Int) = d.val := by decide +kernel
theorem decN59 : ∀ d : Fin 10, UInt8.ofNat (48 + d.val) ≠ 59 ∧ UInt8.ofNat (48 + d.val) ≠ 120 := by decide +kernel
theorem hexN59 : ∀ d : Fin 16, hexDig d.val ≠ 59 := by decide +kernel
theorem dec_one {base a : Int} {c : UInt8} {d : Nat} (hc : digV c.toNat = d) (hd : (d : Int) < base) : digL base a [c] = some (a * base + d) := by
  unfold digL
  rw [hc, if_neg (by omega)]
  rfl
theorem dec_tells (u : Nat) : digL 10 0 (Lib.decDigits u) = some (u : Int) := by
  induction u using Nat.strongRecOn with
  | ind u ih =>
    rw [Lib.decDigits]
    by_cases h : u < 10
    · rw [dif_pos h, dec_one (decV ⟨u, h⟩) (by show (u : Int) < 10; omega)]
      simp
    · rw [dif_neg h, digL_app, ih (u / 10) (by omega)]
      simp only
      rw [dec_one (decV ⟨u % 10, by omega⟩) (by show ((u % 10 : Nat) : Int) < 10; omega)]
      simp only [Option.some.injEq]
      omega
theorem hex_tells (u : Nat) : digL 16 0 (hexDigits u) = some (u : Int) := by
  induction u using Nat.strongRecOn with
  | ind u ih =>
    rw [hexDigits]
    by_cases h : u < 16
    · rw [dif_pos h, dec_one (hexV ⟨u, h⟩) (by show (u : Int) < 16; omega)]
      simp
    · rw [dif_neg h, digL_app, ih (u / 16) (by omega)]
      simp only
      rw [dec_one (hexV ⟨u % 16, by omega⟩) (by show ((u % 16 : Nat) : Int) < 16; omega)]
      simp only [Option.some.injEq]
      omega
theorem dec_bytes (u : Nat) : ∀ b ∈ Lib.decDigits u, b ≠ 59 ∧ b ≠ 120 := by
  induction u using Nat.strongRecOn with
  | ind u ih =>
    rw [Lib.decDigits]
    by_cases h : u < 10
    · rw [dif_pos h]
      intro b hb
      rw [List.mem_singleton] at hb
      rw [hb]
      exact decN59 ⟨u, h⟩
    · rw [dif_neg h]
      intro b hb
      rcases List.mem_append.1 hb with hb | hb
      · exact ih (u / 10) (by omega) b hb
      · rw [List.mem_singleton] at hb
        rw [hb]
        exact decN59 ⟨u % 10, by omega⟩
theorem hex_bytes (u : Nat) : ∀ b ∈ hexDigits u, b ≠ 59 := by
  induction u using Nat.strongRecOn with
  | ind u ih =>
    rw [hexDigits]
    by_cases h : u < 16
    · rw [dif_pos h]
      intro b hb
      rw [List.mem_singleton] at hb
      rw [hb]
      exact hexN59 ⟨u, h⟩
    · rw [dif_neg h]
      intro b hb
      rcases List.mem_append.1 hb with hb | hb
      · exact ih (u / 16) (by omega) b hb
      · rw [List.mem_singleton] at hb
        rw [hb]
        exact hexN59 ⟨u % 16, by omega⟩
theorem dec_ne (u : Nat) : Lib.decDigits u ≠ [] := by
  rw [Lib.decDigits]
  split <;> simp
theorem hex_ne (u : Nat) : hexDigits u ≠ [] := by
  rw [hexDigits]
  split <;> simp
theorem semi_end : ∀ (l : List UInt8), (∀ b ∈ l, b ≠ 59) → semi (l ++ [59]) = some (l, [])
  | [], _ => rfl
  | c :: l, h => by
    rw [List.cons_append]
    unfold semi
    rw [if_neg (h c (by simp)), semi_end l (fun b hb => h b (by simp [hb]))]
theorem ref_one (attr : Bool) (t : List UInt8) (n : Nat) (h35 : t.take 1 = [35]) (ht : ∀ b ∈ t, b ≠ 59) (hn : refN t = some (n : Int)) (f : Nat) :
    unL attr (f + 2) (38 :: (t ++ [59])) 0 = if charB n then .ok (enc n) else .error 0 := by
  have hv : refV t = if charB n then some (enc n) else none := by
    have ne : ∀ s : List UInt8, s.take 1 ≠ [35] → t ≠ s := fun s hs e => hs (by rw [← e]; exact h35)
    unfold refV
    rw [if_neg (ne sLt (by decide)), if_neg (ne sGt (by decide)), if_neg (ne sAmp (by decide)), if_neg (ne sQuot (by decide)), if_neg (ne sApos (by decide)), hn]
  conv => lhs; unfold unL
  rw [if_pos rfl, semi_end t ht]
  simp only [hv]
  by_cases hc : charB n = true
  · rw [if_pos hc, if_pos hc]
    simp only [unL, Except.map, List.append_nil]
  · rw [if_neg hc, if_neg hc]
theorem ref_dec (attr : Bool) (z n f : Nat) : unL attr (f + 2) (38 :: ((35 :: (List.replicate z 48 ++ Lib.decDigits n)) ++ [59])) 0 = if charB n then .ok (enc n) else .error 0 := by
  have hb : ∀ b ∈ List.replicate z (48 : UInt8) ++ Lib.decDigits n, b ≠ 59 ∧ b ≠ 120 := by
    intro b hb
    rcases List.mem_append.1 hb with hb | hb
    · rw [(List.mem_replicate.1 hb).2]; decide
    · exact dec_bytes n b hb
  have hne : List.replicate z (48 : UInt8) ++ Lib.decDigits n ≠ [] := by simp [dec_ne]
  refine ref_one attr _ n rfl (fun b hb' => ?_) ?_ f
  · rcases List.mem_cons.1 hb' with rfl | hb'
    · decide
    · exact (hb b hb').1
  · unfold refN
    have h2 : ¬ (35 :: (List.replicate z (48 : UInt8) ++ Lib.decDigits n)).take 2 = [35, 120] := by
      intro e
      cases hl : List.replicate z (48 : UInt8) ++ Lib.decDigits n with
      | nil => exact hne hl
      | cons c l =>
        rw [hl] at e hb
        simp at e
        exact (hb c (by simp)).2 e
    rw [if_neg h2, if_pos (show (35 :: (List.replicate z (48 : UInt8) ++ Lib.decDigits n)).take 1 = [35] from rfl)]
    unfold numL
    rw [show (35 :: (List.replicate z (48 : UInt8) ++ Lib.decDigits n)).drop 1 = List.replicate z 48 ++ Lib.decDigits n from rfl, if_neg hne, digL_zeros 10 (by omega), dec_tells]
theorem ref_hex (attr : Bool) (z n f : Nat) : unL attr (f + 2) (38 :: ((35 :: 120 :: (List.replicate z 48 ++ hexDigits n)) ++ [59])) 0 = if charB n then .ok (enc n) else .error 0 := by
  have hne : List.replicate z (48 : UInt8) ++ hexDigits n ≠ [] := by simp [hex_ne]
  refine ref_one attr _ n rfl (fun b hb' => ?_) ?_ f
  · rcases List.mem_cons.1 hb' with rfl | hb'
    · decide
    · rcases List.mem_cons.1 hb' with rfl | hb'
      · decide
      · rcases List.mem_append.1 hb' with hb' | hb'
        · rw [(List.mem_replicate.1 hb').2]; decide
        · exact hex_bytes n b hb'
  · unfold refN
    rw [if_pos (show (35 :: 120 :: (List.replicate z (48 : UInt8) ++ hexDigits n)).take 2 = [35, 120] from rfl)]
    unfold numL
    rw [show (35 :: 120 :: (List.replicate z (48 : UInt8) ++ hexDigits n)).drop 2 = List.replicate z 48 ++ hexDigits n from rfl, if_neg hne, digL_zeros 16 (by omega), hex_tells]
end Wb
namespace Go.Proofs.YtlcjepnaljfpkaaGreatDoor
open Go.RowKit Wb
theorem byte_info : (Tryz.prog.info? 5).map (fun i => (i.zero, i.size, i.bytes)) = some (some (.int .u8 0), 1, 1) := by kernel_rfl
theorem b8_toNat (b : UInt8) : b8 (b.toNat : Int) = b := by unfold b8; simp
theorem map_nil (o : Except Nat (List UInt8)) : o = o.map ([] ++ ·) := by cases o <;> rfl
theorem run_text_none (w : World) : (convert 69 9 (.slice none 0 0)).run Tryz.prog w = .ok (.string ⟨#[]⟩) w := by
  rw [run_convert_bytes_string w _ _ _ _ 0 0 Tryz.underlying69 Tryz.underlying5 Tryz.underlying9]
  unfold Conv.bytesToString
  simp [Sem.run_pure]
  rfl
theorem run_text_empty (w : World) (g c : Nat) : (convert 69 9 (.slice (some ⟨g, 0, none⟩) 0 c)).run Tryz.prog w = .ok (.string ⟨#[]⟩) w := by
  rw [run_text w g 0 c [] rfl (by simp)]
  rfl
end Go.Proofs.YtlcjepnaljfpkaaGreatDoor
