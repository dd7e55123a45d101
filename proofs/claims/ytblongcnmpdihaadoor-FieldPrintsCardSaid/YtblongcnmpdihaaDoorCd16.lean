/- FgC FgD FgE. -/
import Derived.Deep.RegionLaw
import Derived.Deep.Cut
import Derived.Test.YtblongcnmpdihaaDoorCd15
namespace Wb
theorem low_eqB (a b : ByteArray) : decide (lowB a = lowB b) = decide (lowF a.data.toList = lowF b.data.toList) := by
  have e : lowB a = lowB b ↔ lowF a.data.toList = lowF b.data.toList := by
    constructor
    · intro h
      have := congrArg (fun x : ByteArray => x.data.toList) h
      simpa [lowB] using this
    · intro h
      unfold lowB
      rw [h]
  by_cases h : lowB a = lowB b
  · rw [decide_eq_true h, decide_eq_true (e.1 h)]
  · rw [decide_eq_false h, decide_eq_false (fun x => h (e.2 x))]
theorem find_low (l : List Pr) (nm : ByteArray) : getF (l.map ofPr) nm.data.toList = (l.find? fun x => decide (lowB x.1 = lowB nm)).map fun x => x.2.data.toList := by
  rw [getF_find, List.find?_map]
  have : ((fun p : List UInt8 × List UInt8 => decide (lowF p.1 = lowF nm.data.toList)) ∘ ofPr) = fun x : Pr => decide (lowB x.1 = lowB nm) := by
    funext x
    rw [low_eqB]
    rfl
  rw [this]
  cases l.find? fun x => decide (lowB x.1 = lowB nm) <;> rfl
end Wb
namespace Go.Proofs.YtblongcnmpdihaaDoor
open Go.RowKit Wb
def GotOut (o : Option (List UInt8)) (e : Ending) : Prop :=
  match o with
  | some s => e = .returned (.tuple #[.string (mkB s), .bool true])
  | none => e = .returned (.tuple #[.string ⟨#[]⟩, .bool false])
set_option maxRecDepth 100000 in
set_option maxHeartbeats 4000000 in
theorem fget_tells (l : List Pr) (nm : ByteArray) (b : Nat) (W : World) (hz : ∀ x ∈ l, x.1.size ≤ 900000000) (hb : b < W.heap.size) (hc : W.cell? ⟨b, 0, none⟩ = some (.string nm)) :
    TellsP 30 #[.pointer (some ⟨b, 0, none⟩)] (fun x => decide (lowB x.1 = nm)) l W := ⟨enters_of Tryd.func30 (by kernel_rfl) rfl, fun x v hx hv => by
  have hb0 := (Below.refl v.heap.size v).alloc (Nat.le_refl _) (.cells #[.string x.1, .string x.2] 48)
  have hXX := heap_alloc_new v (.cells #[.string x.1, .string x.2] 48)
  have hsz : (v.alloc (.cells #[.string x.1, .string x.2] 48)).heap.size = v.heap.size + 1 := by simp
  have h1 := fun u => small_any x.1 u (by have := hz x hx; omega)
  show Calls Tryd.prog 30 #[.agg #[.string x.1, .string x.2], .pointer (some ⟨b, 0, none⟩)] v _
  have HB := Lib.hid hb0
  have hcv := (hv.cell (p := ⟨b, 0, none⟩) hb).trans hc
  have hbv : b < v.heap.size := by have := hv.size; omega
  simp only
  generalize hze : v.alloc (.cells #[.string x.1, .string x.2] 48) = wz at *
  have HZE := Lib.hid hze
  have HSV := Lib.hid (fun (u : World) (h : Below wz.heap.size wz u) => (show u.cell? ⟨v.heap.size, 0, none⟩ = some (.string x.1) ∧ u.cell? ⟨b, 0, none⟩ = some (.string nm) from
    ⟨blk_cell ((h.block _ (by omega)).trans hXX) 0, (h.cell (p := ⟨b, 0, none⟩) (by show b < _; omega)).trans ((hb0.cell (p := ⟨b, 0, none⟩) hbv).trans hcv)⟩))
  obtain ⟨q, hq⟩ : ∃ q, decide (lowB x.1 = nm) = q := ⟨_, rfl⟩
  have hqc : (lowB x.1 = nm ∧ q = true) ∨ (lowB x.1 ≠ nm ∧ q = false) := by
    by_cases h : lowB x.1 = nm
    · exact .inl ⟨h, by rw [← hq, decide_eq_true h]⟩
    · exact .inr ⟨h, by rw [← hq, decide_eq_false h]⟩
  have hbe : ∀ x y : ByteArray, x ≠ y → (x.toList == y.toList) = false := fun x y h => by
    rw [beq_eq_false_iff_ne]
    intro e
    rw [Lib.toList_data, Lib.toList_data] at e
    exact h (by cases x; cases y; simp only at e; rw [Array.toList_inj.1 e])
  rw [hq]
  have H1 := Lib.hid h1
  have HZ0 : Hid (v.heap.size ≤ wz.heap.size) := Lib.hid (by omega)
  clear hb0 hx hze hXX h1 hc hcv hz hv hsz
  generalize lowB x.1 = lo at *
  rcases hqc with ⟨rfl, rfl⟩ | ⟨hne, rfl⟩
  case' inl => have hne := (beq_self_eq_true lo.toList)
  case' inr => replace hne := hbe _ _ hne
  all_goals clear hbe
  all_goals
    go_enter Tryd.func30, Tryd.ntmps30
    go_wp2_with fail
    rw [HZE.out]
    (try simp only [List.append])
    refine wp_region_held_drew (S := (fun u => u.cell? ⟨v.heap.size, 0, none⟩ = some (.string x.1) ∧ u.cell? ⟨b, 0, none⟩ = some (.string _))) (by kernel_rfl) (HSV.out _ (Below.refl _ wz).drew) (fun hHeld => ?_)
    refine takeW 0 ?_
    refine takeW 1 ?_
    refine takeW 3 ?_
    (try simp only [Act.put, List.setIfInBounds_toArray, List.set_cons_zero, List.set_cons_succ])
    refine wpAnyH_ready (rs := [2]) (by kernel_rfl) (by simp) ?_
    refine AllReadyH.cons rfl (fun K2 hK2 => ?_) AllReadyH.nil
    go_simp
    refine (H1.out _).mono ?_
    rintro e w6 ⟨rfl, hb6⟩
    have HB6 : Hid (Below wz.heap.size wz w6) := Lib.hid ((Below.refl _ wz).drew.trans hb6)
    clear hb6
    refine hK2.out _ _ (HSV.out _ HB6.out) (fun hHeld2 => ?_)
    refine takeW 4 ?_
    (try simp only [Act.put, List.setIfInBounds_toArray, List.set_cons_zero, List.set_cons_succ])
    refine takeW 5 ?_
    (try simp only [Act.put, List.setIfInBounds_toArray, List.set_cons_zero, List.set_cons_succ])
    refine wpAnyH_done (by kernel_rfl) ?_ _
    go_wp2
    go_ret
    refine ⟨?_, HB.out.trans (HB6.out.mono HZ0.out)⟩
    first
    | rfl
    | (rw [hne]; rfl)
    | simp [hne]⟩
set_option maxRecDepth 100000 in
set_option maxHeartbeats 4000000 in
theorem getOf_any (A : Option Addr) (l : List Pr) (c : Nat) (nm : ByteArray) (w : World) (hA : Sl2 w A l) (hl : l.length ≤ 100000) (hn : nm.size ≤ 900000000) (hz : ∀ x ∈ l, x.1.size ≤ 900000000) :
    Calls Tryd.prog 11 #[.slice A l.length c, .string nm] w fun e w' => GotOut (getF (l.map ofPr) nm.data.toList) e ∧ Below w.heap.size w w' := by
  have h1 := fun u => small_any nm u (by omega)
  rw [find_low]
  have h2 := fun (b : Nat) (u : World) (hA2 : Sl2 u A l) (hb : b < u.heap.size) (hc : u.cell? ⟨b, 0, none⟩ = some (.string (lowB nm))) => idxFl_any _ _ _ A l c u hA2 (by omega) (fget_tells l (lowB nm) b u hz hb hc)
  have hfi := idxG_find (fun x : Pr => decide (lowB x.1 = lowB nm)) l
  have hb0 := (Below.refl w.heap.size w).alloc (Nat.le_refl _) (.cells #[.string nm] 9)
  generalize idxG (fun x : Pr => decide (lowB x.1 = lowB nm)) l = n at *
  generalize (l.find? fun x => decide (lowB x.1 = lowB nm)) = o at *
  generalize lowB nm = lo at *
  have HA := Lib.hid hA
  have HB := Lib.hid hb0
  clear hb0 hA
  go_enter Tryd.func11, Tryd.ntmps11
  go_wp2_with fail
  refine (h1 _).mono ?_
  rintro e w1 ⟨rfl, hb⟩
  have hX := heap_alloc_new w (.cells #[.string nm] 9)
  have hsz : (w.alloc (.cells #[.string nm] 9)).heap.size = w.heap.size + 1 := by simp
  have hX1 := (hb.block w.heap.size (by omega)).trans hX
  have hcl : w1.cell? ⟨w.heap.size, 0, none⟩ = some (.string nm) := blk_cell hX1 0
  have hfr := blk_free hX1 0
  have hX2 := blk_set hX1 0 (.string lo)
  have hk2 : Below w.heap.size w (w1.setCell ⟨w.heap.size, 0, none⟩ (.string lo)) := (HB.out.trans (hb.mono HB.out.size)).setCell (p := ⟨w.heap.size, 0, none⟩) (Nat.le_refl _) _
  have hs2 : w.heap.size < (w1.setCell ⟨w.heap.size, 0, none⟩ (.string lo)).heap.size := by
    have h0 := hb.size
    have h1 : w1.heap.size ≤ (w1.setCell ⟨w.heap.size, 0, none⟩ (.string lo)).heap.size := by simp [World.setCell]
    omega
  generalize hze : w1.setCell ⟨w.heap.size, 0, none⟩ (.string lo) = w2 at *
  have k2 := h2 w.heap.size w2 (HA.out.below hk2) hs2 (by simpa using blk_cell hX2 0)
  have HZE := Lib.hid hze
  have HK2 := Lib.hid hk2
  clear hze hk2 hb hX hX1 hX2 h1 h2
  rcases hfi with ⟨rfl, rfl⟩ | ⟨i, x, rfl, hx, rfl⟩
  · go_wp2_with fail
    rw [HZE.out]
    refine k2.mono ?_
    rintro e w3 ⟨rfl, hb⟩
    have HB3 := Lib.hid (HK2.out.trans (hb.mono HK2.out.size))
    clear hb k2
    go_wp2
    go_ret2
    exact ⟨rfl, HB3.out⟩
  · go_wp2_with fail
    rw [HZE.out]
    refine k2.mono ?_
    rintro e w3 ⟨rfl, hb⟩
    have HB3 := Lib.hid (HK2.out.trans (hb.mono HK2.out.size))
    obtain ⟨x1, x2⟩ := x
    have hil := (List.getElem?_eq_some_iff.1 hx).1
    obtain ⟨ad, rfl, had, d0, d1⟩ := (HA.out.below HB3.out).at_ hx
    clear hb k2 hx
    go_wp2
    go_ret2
    exact ⟨rfl, HB3.out⟩
end Go.Proofs.YtblongcnmpdihaaDoor
namespace Go.Proofs.YtblongcnmpdihaaDoor
open Go.RowKit Wb
theorem run_textF {w : World} {g n c : Nat} (l : List UInt8) (hn : n = l.length) (h : ∀ (j : Nat) (v : Value), (cellsB l)[j]? = some v → w.cell? ⟨g, j, none⟩ = some v) :
    (convert 52 9 (.slice (some ⟨g, 0, none⟩) n c)).run Tryd.prog w = .ok (.string (mkB l)) w := by
  rw [run_convert_bytes_string w _ _ _ _ n c Tryd.underlying52 Tryd.underlying5 Tryd.underlying9]
  have hl := run_loadCells_list (P := Tryd.prog) (w := w) ⟨g, 0, none⟩ ((l.map fun c => (c.toNat : Int)).map (Value.int .u8)) (by
    intro j v hj
    have := h j v (by rw [List.map_map] at hj; exact hj)
    unfold Addr.add
    split <;> simp_all)
  rw [List.length_map, List.length_map, ← hn] at hl
  rw [run_bytesToString w _ n c _ hl, push_ints, List.map_map]
  have e : ((fun n : Int => UInt8.ofNat n.toNat) ∘ fun c : UInt8 => (c.toNat : Int)) = id := by
    funext c
    simp
  rw [e]
  simp [mkB]
theorem run_textN (w : World) : (convert 52 9 (.slice none 0 0)).run Tryd.prog w = .ok (.string (mkB [])) w := by
  rw [run_convert_bytes_string w _ _ _ _ 0 0 Tryd.underlying52 Tryd.underlying5 Tryd.underlying9]
  unfold Conv.bytesToString
  simp [Sem.run_pure]
  rfl
theorem run_textO {w : World} {base n : Nat} {e : TypeId} {v : Value} (l : List UInt8) (h : w.ownsRow base e 1 v n (cellsB l)) :
    (convert 52 9 v).run Tryd.prog w = .ok (.string (mkB l)) w := by
  have hn : n = l.length := by have := h.1; rw [cellsB_length] at this; omega
  by_cases hl : l = []
  · subst hl
    rcases h.2 with ⟨rfl, _⟩ | ⟨g, cap, cur, rfl, _⟩
    · rw [List.length_nil] at hn; subst hn; exact run_textN w
    · exact run_textF [] hn (by simp [cellsB])
  · obtain ⟨g, cap, rfl, _, _⟩ := h.form (by cases l with
      | nil => exact absurd rfl hl
      | cons a r => rw [hn]; simp)
    refine run_textF l hn fun j u hu => ?_
    have := h.cells (g := g) rfl j u hu
    rw [Addr.add_lit, Nat.zero_add] at this
    exact this
theorem qy_byte : (Tryd.prog.info? 5).map (fun i => (i.zero, i.size, i.bytes)) = some (some (.int .u8 0), 1, 1) := by kernel_rfl
set_option maxHeartbeats 4000000 in
set_option maxRecDepth 100000 in
theorem rlower_any (s : ByteArray) (w : World) (hs : s.size ≤ 1000000) :
    Calls Tryd.prog 20 #[.string s] w fun e w' => e = .returned (.string (lowB s)) ∧ Below w.heap.size w w' := by
  obtain ⟨i0, hi, hz0, hz1, hz2⟩ := info_parts qy_byte
  go_enter Tryd.func20, Tryd.ntmps20
  go_wp2
  go_loopw [3, 4, 5] (fun v3 v4 v5 wr => ∃ (k : Nat) (out : List UInt8), k ≤ s.size ∧ v4 = .int .i64 k ∧ out.length = k ∧ wr.ownsRow w.heap.size 5 1 v3 out.length (cellsB out) ∧ Hid (lowF s.data.toList = out ++ lowF (s.data.toList.drop k)) ∧ Below w.heap.size w wr) (fun _ v4 _ _ => ((s.size : Int) - intOf v4).toNat)
  case atStart => exact ⟨0, [], by omega, rfl, rfl, World.ownsRow_nil _ _ _ _, Lib.hid (by simp), Below.refl _ _⟩
  case round =>
    obtain ⟨k, out, hk, rfl, hol, hown, HU, hb⟩ := hrel
    by_cases hlt : k < s.size
    · have hdr : lowF (s.data.toList.drop k) = lowC s[k] :: lowF (s.data.toList.drop (k + 1)) := by
        have : k < s.data.toList.length := by rw [← ba_size]; exact hlt
        rw [List.drop_eq_getElem_cons this]
        rfl
      have HS := Lib.hid (HU.out.trans (by rw [hdr, ← List.singleton_append, ← List.append_assoc]))
      clear HU hdr
      have hbB : Below w.heap.size w wr := hb
      by_cases h1 : 65 ≤ s[k].toNat
      · by_cases h2 : s[k].toNat ≤ 90
        · have k1 : IntKind.u8.wrap ((s[k].toNat : Int) + 32) = ((lowC s[k]).toNat : Int) := by rw [low_up _ ⟨h1, h2⟩, IntKind.wrap_u8]; omega
          generalize lowC s[k] = lc at *
          go_upto_region 8 with fail
          go_wp2_with (at_builtin; apply Classical.byContradiction; intro hNG)
          refine hNG ?_
          refine wpList_append_sl _ rfl (.tmp 23) (.tmp 25) _ rfl w.heap.size 5 i0 _ 1 1 Tryd.underlying52 hi hz0 hz1 hz2 rfl (by omega) _ out.length (cellsB out) rfl (hown.alloc _) (some ⟨wr.heap.size, 0, none⟩) 1 1 [.int .u8 ((lc : UInt8).toNat : Int)] rfl (Sl.lit wr 1 [.int .u8 ((lc : UInt8).toNat : Int)] _ 1 rfl) (cellsB_one [lc]) (by simp only [maxLen]; omega) (by omega) (hb.alloc hb.size _).size ?_
          intro v4 w4 hown4 hg4 hat4
          have hb4 : Below w.heap.size w w4 := (hb.alloc hb.size _).grown hg4 (hb.alloc hb.size _).size (fun g hg => (hown.lt g hg).1)
          clear hg4 hat4 hown
          go_wp2
          go_roundw
          case rel => exact ⟨k + 1, out ++ [lc], by omega, by go_num, by rw [List.length_append, hol]; rfl, by rw [List.length_append]; simpa [cellsB] using hown4, HS, hb4⟩
          case measure => simp [intOf]; omega
        · have k1 : lowC s[k] = s[k] := by unfold lowC; rw [if_neg (by omega)]
          rw [k1] at HS
          go_upto_region 8 with fail
          go_wp2_with (at_builtin; apply Classical.byContradiction; intro hNG)
          refine hNG ?_
          refine wpList_append_sl _ rfl (.tmp 23) (.tmp 25) _ rfl w.heap.size 5 i0 _ 1 1 Tryd.underlying52 hi hz0 hz1 hz2 rfl (by omega) _ out.length (cellsB out) rfl (hown.alloc _) (some ⟨wr.heap.size, 0, none⟩) 1 1 [.int .u8 ((s[k] : UInt8).toNat : Int)] rfl (Sl.lit wr 1 [.int .u8 ((s[k] : UInt8).toNat : Int)] _ 1 rfl) (cellsB_one [s[k]]) (by simp only [maxLen]; omega) (by omega) (hb.alloc hb.size _).size ?_
          intro v4 w4 hown4 hg4 hat4
          have hb4 : Below w.heap.size w w4 := (hb.alloc hb.size _).grown hg4 (hb.alloc hb.size _).size (fun g hg => (hown.lt g hg).1)
          clear hg4 hat4 hown
          go_wp2
          go_roundw
          case rel => exact ⟨k + 1, out ++ [s[k]], by omega, by go_num, by rw [List.length_append, hol]; rfl, by rw [List.length_append]; simpa [cellsB] using hown4, HS, hb4⟩
          case measure => simp [intOf]; omega
      · have k1 : lowC s[k] = s[k] := by unfold lowC; rw [if_neg (by omega)]
        rw [k1] at HS
        go_upto_region 8 with fail
        go_wp2_with (at_builtin; apply Classical.byContradiction; intro hNG)
        refine hNG ?_
        refine wpList_append_sl _ rfl (.tmp 23) (.tmp 25) _ rfl w.heap.size 5 i0 _ 1 1 Tryd.underlying52 hi hz0 hz1 hz2 rfl (by omega) _ out.length (cellsB out) rfl (hown.alloc _) (some ⟨wr.heap.size, 0, none⟩) 1 1 [.int .u8 ((s[k] : UInt8).toNat : Int)] rfl (Sl.lit wr 1 [.int .u8 ((s[k] : UInt8).toNat : Int)] _ 1 rfl) (cellsB_one [s[k]]) (by simp only [maxLen]; omega) (by omega) (hb.alloc hb.size _).size ?_
        intro v4 w4 hown4 hg4 hat4
        have hb4 : Below w.heap.size w w4 := (hb.alloc hb.size _).grown hg4 (hb.alloc hb.size _).size (fun g hg => (hown.lt g hg).1)
        clear hg4 hat4 hown
        go_wp2
        go_roundw
        case rel => exact ⟨k + 1, out ++ [s[k]], by omega, by go_num, by rw [List.length_append, hol]; rfl, by rw [List.length_append]; simpa [cellsB] using hown4, HS, hb4⟩
        case measure => simp [intOf]; omega
    · have HE : mkB out = lowB s := by
        have h := HU.out
        rw [List.drop_eq_nil_of_le (by rw [← ba_size]; omega)] at h
        unfold lowB
        rw [h]
        simp [lowF, mkB]
      have hconv := run_textO out hown
      rw [HE] at hconv
      go_wp2
      go_ret
      exact ⟨rfl, hb⟩
end Go.Proofs.YtblongcnmpdihaaDoor
namespace Wb
open Go
theorem lowB_iff (a b : ByteArray) : lowB a = lowB b ↔ lowF a.data.toList = lowF b.data.toList := by
  have h := low_eqB a b
  constructor
  · intro e
    rw [decide_eq_true e] at h
    exact of_decide_eq_true h.symm
  · intro e
    rw [decide_eq_true e] at h
    exact of_decide_eq_true h
end Wb
namespace Go.Proofs.YtblongcnmpdihaaDoor
open Go.RowKit Wb
end Go.Proofs.YtblongcnmpdihaaDoor
