/- FgA QcE QcF. -/
import Derived.Shelf.Strings.SlTrimAscii
import Derived.Test.YtmabhbihgenmcaaGreatDoorKc11
import Derived.Test.YtmabhbihgenmcaaGreatDoorKc14
namespace Go.Proofs.YtmabhbihgenmcaaGreatDoor
open Go.RowKit Wb
def TellsP (fid : FuncId) (caps : Array Value) (p : Pr → Bool) (l : List Pr) (W : World) : Prop :=
  (∀ args w, (callFunc fid args).run Tryz.prog w = .ok (.enter fid args) w) ∧
  ∀ (x : Pr) (v : World), x ∈ l → Below W.heap.size W v → Calls Tryz.prog fid (#[.agg #[.string x.1, .string x.2]] ++ caps) v fun e v' => e = .returned (.bool (p x)) ∧ Below v.heap.size v v'
set_option maxRecDepth 100000 in
set_option maxHeartbeats 2000000 in
theorem idxFl_any (p : Pr → Bool) (fid : FuncId) (caps : Array Value) (A : Option Addr) (l : List Pr) (c : Nat) (w : World) (hA : Sl2 w A l) (hl : l.length ≤ 1000000001) (hT : TellsP fid caps p l w) :
    Calls Tryz.prog 72 #[.slice A l.length c, .func (.func fid) #[] caps] w fun e w' => e = .returned (.int .i64 (idxG p l)) ∧ Below w.heap.size w w' := by
  have hE := hT.1
  have HT2 := Lib.hid hT.2
  obtain ⟨R, hR⟩ : ∃ R, idxG p l = R := ⟨_, rfl⟩
  rw [hR]
  have HR := Lib.hid hR
  have HA := Lib.hid hA
  clear hR hA hT
  go_enter Tryz.func72, Tryz.ntmps72
  go_wp2
  go_loopw [8] (fun vi wr => ∃ i : Nat, i ≤ l.length ∧ vi = .int .i64 i ∧ Hid (R = if idxG p (l.drop i) < 0 then -1 else idxG p (l.drop i) + i) ∧ Hid (Below w.heap.size w wr)) (fun vi _ => ((l.length : Int) - intOf vi).toNat)
  case atStart => exact ⟨0, by omega, rfl, Lib.hid (by
    rw [List.drop_zero, HR.out]
    have := idxG_ge p l
    rw [HR.out] at this
    split <;> omega), Lib.hid (Below.refl _ _)⟩
  case round =>
    obtain ⟨i, hi, rfl, HQ, HB⟩ := hrel
    by_cases h0 : i < l.length
    · obtain ⟨⟨x1, x2⟩, ha⟩ : ∃ a, l[i]? = some a := ⟨l[i], List.getElem?_eq_getElem h0⟩
      obtain ⟨ad, rfl, had, d0, d1⟩ := (HA.out.below HB.out).at_ ha
      have hc := HT2.out (x1, x2) wr (List.mem_of_getElem? ha) HB.out
      cases hq : p (x1, x2)
      · rw [hq] at hc
        have HST : Hid (R = if (if idxG p (l.drop (i + 1)) < 0 then -1 else idxG p (l.drop (i + 1)) + 1) < 0 then -1 else (if idxG p (l.drop (i + 1)) < 0 then -1 else idxG p (l.drop (i + 1)) + 1) + i) := Lib.hid (by
          have hx0 : idxG p (l.drop i) = if idxG p (l.drop (i + 1)) < 0 then -1 else idxG p (l.drop (i + 1)) + 1 := by rw [idxG_drop ha, if_neg (by rw [hq]; simp)]
          rw [HQ.out, hx0])
        clear hq ha
        go_wp2_with (go_at_fn fid; refine hc.mono ?_; rintro e w3 ⟨rfl, hb3⟩)
        have HB3 := Lib.hid (HB.out.trans (hb3.mono HB.out.size))
        clear hb3 hc
        go_wp2
        go_roundw
        case rel => exact ⟨i + 1, by omega, by go_num, Lib.hid (by
          rw [HST.out]
          have := idxG_ge p (l.drop (i + 1))
          by_cases hn : idxG p (l.drop (i + 1)) < 0
          · rw [if_pos hn, if_pos hn]; rfl
          · rw [if_neg hn, if_neg hn, if_neg (by omega)]; omega), HB3⟩
        case measure => simp [intOf]; omega
      · rw [hq] at hc
        have HST : Hid (R = i) := Lib.hid (by
          have hx0 : idxG p (l.drop i) = 0 := by rw [idxG_drop ha, if_pos hq]
          rw [HQ.out, hx0]
          simp)
        clear hq ha
        go_wp2_with (go_at_fn fid; refine hc.mono ?_; rintro e w3 ⟨rfl, hb3⟩)
        have HB3 := Lib.hid (HB.out.trans (hb3.mono HB.out.size))
        clear hb3 hc
        go_wp2
        go_ret
        exact ⟨by rw [HST.out]; rfl, HB3.out⟩
    · have HT : Hid (R = -1) := Lib.hid (by rw [HQ.out, List.drop_eq_nil_of_le (by omega)]; rfl)
      go_wp2
      go_ret
      exact ⟨by rw [HT.out]; rfl, HB.out⟩
end Go.Proofs.YtmabhbihgenmcaaGreatDoor
namespace Wb
open Go Go.RowKit
def ofBnd : List UInt8 := [65, 66, 67, 68, 69, 70, 71, 72, 73, 74, 75, 76, 77, 78, 79, 80, 81, 82, 83, 84, 85, 86, 87, 88, 89, 90, 97, 98, 99, 100, 101, 102, 103, 104, 105, 106, 107, 108, 109, 110, 111, 112, 113, 114, 115, 116, 117, 118, 119, 120, 121, 122, 48, 49, 50, 51, 52, 53, 54, 55, 56, 57, 39, 40, 41, 43, 95, 44, 45, 46, 47, 58, 61, 63]
theorem ofBnd_c (c : UInt8) : ofBnd.contains c = bndC c := by
  have h : ∀ n : Fin 256, ofBnd.contains (UInt8.ofNat n.val) = bndC (UInt8.ofNat n.val) := by decide +kernel
  have := h ⟨c.toNat, c.toNat_lt⟩
  rwa [UInt8.ofNat_toNat] at this
theorem trim_bnd (l : List UInt8) : (Lib.trimLeftS l ofBnd = [] ↔ l.all bndC = true) := by
  unfold Lib.trimLeftS
  rw [show (fun c => ofBnd.contains c) = bndC from funext ofBnd_c]
  induction l with
  | nil => simp
  | cons c l ih =>
    rw [List.dropWhile_cons, List.all_cons]
    cases h : bndC c
    · simp
    · simpa using ih
def clashV (b : List UInt8) (x : PtV) : Bool := clashP b (ptOf x)
def nameV (b : List UInt8) (x : Pr) : Bool := (delB b).isPrefixOf (x.1.data.toList ++ [58])
theorem clashV_eq (b : List UInt8) (x : PtV) : clashV b x = (clashB b x.2.2.data.toList || x.2.1.any (nameV b)) := by
  unfold clashV clashP clashH ptOf nameV
  rw [List.any_map]
  rfl
theorem clashL_eq (b : List UInt8) (L : List PtV) : clashL b (ptsOf L) = L.any (clashV b) := by
  unfold clashL ptsOf
  rw [List.any_map]
  rfl
end Wb
namespace Go.Proofs.YtmabhbihgenmcaaGreatDoor
open Go.RowKit Wb
set_option maxRecDepth 100000 in
theorem isBnd_any (b : ByteArray) (w : World) (hb : b.size ≤ 1000000000) :
    Calls Tryz.prog 19 #[.string b] w fun e w' => e = .returned (.bool (bndF b.data.toList)) ∧ Below w.heap.size w w' := by
  have h1 := fun (v : World) => Any.strings_TrimLeft_laid Tryz.lays161 (by kernel_rfl) b ⟨ofBnd.toArray⟩ v (by decide) (ascii_of_all (by decide))
  have e1 : (⟨ofBnd.toArray⟩ : ByteArray).data.toList = ofBnd := rfl
  rw [e1] at h1
  have ht := trim_bnd b.data.toList
  have hbl := ba_size b
  have HB0 := Lib.hid (Below.refl w.heap.size w)
  unfold bndF
  by_cases h0 : b.size = 0
  · have hE : (b.data.toList.all bndC && decide (1 ≤ b.data.toList.length) && decide (b.data.toList.length ≤ 70)) = false := by
      rw [decide_eq_false (show ¬ 1 ≤ b.data.toList.length by omega)]
      simp
    have he : b.toList = [] := by
      rw [Lib.toList_data]
      exact List.eq_nil_of_length_eq_zero (by omega)
    rw [hE]
    clear hE hbl ht h1
    go_enter Tryz.func19, Tryz.ntmps19
    go_wp2
    go_ret
    exact ⟨rfl, HB0.out⟩
  have he : ¬ b.toList = [] := by
    rw [Lib.toList_data]
    intro e
    have := congrArg List.length e
    simp only [List.length_nil] at this
    omega
  have he2 : b.toList.isEmpty = false := by simpa using he
  by_cases h70 : b.size ≤ 70
  · have hE : (b.data.toList.all bndC && decide (1 ≤ b.data.toList.length) && decide (b.data.toList.length ≤ 70)) = b.data.toList.all bndC := by
      rw [decide_eq_true (show 1 ≤ b.data.toList.length by omega), decide_eq_true (show b.data.toList.length ≤ 70 by omega)]
      simp
    rw [hE]
    clear hE hbl h0
    obtain ⟨r, hr⟩ : ∃ r, Lib.trimLeftS b.data.toList ofBnd = r := ⟨_, rfl⟩
    rw [hr] at h1 ht
    clear hr
    obtain ⟨q, hq⟩ : ∃ q, b.data.toList.all bndC = q := ⟨_, rfl⟩
    rw [hq] at ht ⊢
    have hz : ((⟨r.toArray⟩ : ByteArray).toList == ([] : List UInt8)) = q := by
      rw [Lib.toList_data, Bool.eq_iff_iff, beq_iff_eq]
      exact ht
    have hz2 : (⟨r.toArray⟩ : ByteArray).toList.isEmpty = q := by
      rw [← hz]
      cases (⟨r.toArray⟩ : ByteArray).toList <;> rfl
    clear ht hq
    generalize (⟨r.toArray⟩ : ByteArray) = rb at *
    cases q
    all_goals
      go_enter Tryz.func19, Tryz.ntmps19
      go_wp2_with fail
      refine (h1 w).mono ?_
      rintro e w1 ⟨rfl, hb1⟩
      have HB1 := Lib.hid hb1
      clear hb1 h1
      go_wp2
      go_ret
      exact ⟨rfl, HB1.out⟩
  · have hE : (b.data.toList.all bndC && decide (1 ≤ b.data.toList.length) && decide (b.data.toList.length ≤ 70)) = false := by
      rw [decide_eq_false (show ¬ b.data.toList.length ≤ 70 by omega)]
      simp
    rw [hE]
    clear hE hbl ht h1
    go_enter Tryz.func19, Tryz.ntmps19
    go_wp2
    go_ret
    exact ⟨rfl, HB0.out⟩
def TellsV (fid : FuncId) (caps : Array Value) (p : PtV → Bool) (l : List PtV) (W : World) : Prop :=
  (∀ args w, (callFunc fid args).run Tryz.prog w = .ok (.enter fid args) w) ∧
  ∀ (x : PtV) (v : World), x ∈ l → Below W.heap.size W v → Calls Tryz.prog fid (#[.agg #[.slice x.1.1 x.2.1.length x.1.2, .string x.2.2]] ++ caps) v fun e v' => e = .returned (.bool (p x)) ∧ Below v.heap.size v v'
set_option maxRecDepth 100000 in
set_option maxHeartbeats 2000000 in
theorem idxPt_any (p : PtV → Bool) (fid : FuncId) (caps : Array Value) (A : Option Addr) (l : List PtV) (c : Nat) (w : World) (hA : SlP w A l) (hl : l.length ≤ 1000000001) (hT : TellsV fid caps p l w) :
    Calls Tryz.prog 42 #[.slice A l.length c, .func (.func fid) #[] caps] w fun e w' => e = .returned (.int .i64 (idxG p l)) ∧ Below w.heap.size w w' := by
  have hE := hT.1
  have HT2 := Lib.hid hT.2
  obtain ⟨R, hR⟩ : ∃ R, idxG p l = R := ⟨_, rfl⟩
  rw [hR]
  have HR := Lib.hid hR
  have HA := Lib.hid hA
  clear hR hA hT
  go_enter Tryz.func42, Tryz.ntmps42
  go_wp2
  go_loopw [8] (fun vi wr => ∃ i : Nat, i ≤ l.length ∧ vi = .int .i64 i ∧ Hid (R = if idxG p (l.drop i) < 0 then -1 else idxG p (l.drop i) + i) ∧ Hid (Below w.heap.size w wr)) (fun vi _ => ((l.length : Int) - intOf vi).toNat)
  case atStart => exact ⟨0, by omega, rfl, Lib.hid (by
    rw [List.drop_zero, HR.out]
    have := idxG_ge p l
    rw [HR.out] at this
    split <;> omega), Lib.hid (Below.refl _ _)⟩
  case round =>
    obtain ⟨i, hi, rfl, HQ, HB⟩ := hrel
    by_cases h0 : i < l.length
    · obtain ⟨⟨⟨x1, x3⟩, ⟨x4, x2⟩⟩, ha⟩ : ∃ a, l[i]? = some a := ⟨l[i], List.getElem?_eq_getElem h0⟩
      obtain ⟨ad, rfl, had, d0, d1, _⟩ := (HA.out.below HB.out).at_ ha
      have hc := HT2.out ((x1, x3), (x4, x2)) wr (List.mem_of_getElem? ha) HB.out
      cases hq : p ((x1, x3), (x4, x2))
      · rw [hq] at hc
        have HST : Hid (R = if (if idxG p (l.drop (i + 1)) < 0 then -1 else idxG p (l.drop (i + 1)) + 1) < 0 then -1 else (if idxG p (l.drop (i + 1)) < 0 then -1 else idxG p (l.drop (i + 1)) + 1) + i) := Lib.hid (by
          have hx0 : idxG p (l.drop i) = if idxG p (l.drop (i + 1)) < 0 then -1 else idxG p (l.drop (i + 1)) + 1 := by rw [idxG_drop ha, if_neg (by rw [hq]; simp)]
          rw [HQ.out, hx0])
        clear hq ha
        go_wp2_with (go_at_fn fid; refine hc.mono ?_; rintro e w3 ⟨rfl, hb3⟩)
        have HB3 := Lib.hid (HB.out.trans (hb3.mono HB.out.size))
        clear hb3 hc
        go_wp2
        go_roundw
        case rel => exact ⟨i + 1, by omega, by go_num, Lib.hid (by
          rw [HST.out]
          have := idxG_ge p (l.drop (i + 1))
          by_cases hn : idxG p (l.drop (i + 1)) < 0
          · rw [if_pos hn, if_pos hn]; rfl
          · rw [if_neg hn, if_neg hn, if_neg (by omega)]; omega), HB3⟩
        case measure => simp [intOf]; omega
      · rw [hq] at hc
        have HST : Hid (R = i) := Lib.hid (by
          have hx0 : idxG p (l.drop i) = 0 := by rw [idxG_drop ha, if_pos hq]
          rw [HQ.out, hx0]
          simp)
        clear hq ha
        go_wp2_with (go_at_fn fid; refine hc.mono ?_; rintro e w3 ⟨rfl, hb3⟩)
        have HB3 := Lib.hid (HB.out.trans (hb3.mono HB.out.size))
        clear hb3 hc
        go_wp2
        go_ret
        exact ⟨by rw [HST.out]; rfl, HB3.out⟩
    · have HT : Hid (R = -1) := Lib.hid (by rw [HQ.out, List.drop_eq_nil_of_le (by omega)]; rfl)
      go_wp2
      go_ret
      exact ⟨by rw [HT.out]; rfl, HB.out⟩
set_option maxRecDepth 100000 in
theorem contF_any (p : Pr → Bool) (fid : FuncId) (caps : Array Value) (A : Option Addr) (l : List Pr) (c : Nat) (w : World) (hA : Sl2 w A l) (hl : l.length ≤ 1000000001) (hT : TellsP fid caps p l w) :
    Calls Tryz.prog 43 #[.slice A l.length c, .func (.func fid) #[] caps] w fun e w' => e = .returned (.bool (l.any p)) ∧ Below w.heap.size w w' := by
  have h1 := idxFl_any p fid caps A l c w hA hl hT
  have hx := idxG_any p l
  rw [← hx]
  clear hx hA hT
  generalize idxG p l = n at *
  go_enter Tryz.func43, Tryz.ntmps43
  go_wp2_with fail
  refine h1.mono ?_
  rintro e w1 ⟨rfl, hb⟩
  have HB := Lib.hid hb
  clear hb h1
  go_wp2
  go_ret
  exact ⟨rfl, HB.out⟩
set_option maxRecDepth 100000 in
theorem contV_any (p : PtV → Bool) (fid : FuncId) (caps : Array Value) (A : Option Addr) (l : List PtV) (c : Nat) (w : World) (hA : SlP w A l) (hl : l.length ≤ 1000000001) (hT : TellsV fid caps p l w) :
    Calls Tryz.prog 20 #[.slice A l.length c, .func (.func fid) #[] caps] w fun e w' => e = .returned (.bool (l.any p)) ∧ Below w.heap.size w w' := by
  have h1 := idxPt_any p fid caps A l c w hA hl hT
  have hx := idxG_any p l
  rw [← hx]
  clear hx hA hT
  generalize idxG p l = n at *
  go_enter Tryz.func20, Tryz.ntmps20
  go_wp2_with fail
  refine h1.mono ?_
  rintro e w1 ⟨rfl, hb⟩
  have HB := Lib.hid hb
  clear hb h1
  go_wp2
  go_ret
  exact ⟨rfl, HB.out⟩
end Go.Proofs.YtmabhbihgenmcaaGreatDoor
namespace Go.Proofs.YtmabhbihgenmcaaGreatDoor
open Go.RowKit Wb
set_option maxRecDepth 100000 in
set_option maxHeartbeats 1000000 in
theorem nmclos_any (b : ByteArray) (g : Nat) (x : Pr) (w : World) (hg : w.heap[g]? = some (.cells #[.string b] 9 (0, 0))) (hb : b.size ≤ 1000000000) (hx : x.1.size ≤ 1000000000) :
    Calls Tryz.prog 44 #[.agg #[.string x.1, .string x.2], .pointer (some ⟨g, 0, none⟩)] w fun e w' => e = .returned (.bool (nameV b.data.toList x)) ∧ Below w.heap.size w w' := by
  obtain ⟨n, v⟩ := x
  simp only at hx ⊢
  have g1 : ¬ 9223372036854775807 < (⟨#[45, 45]⟩ : ByteArray).size + b.size := by have : (⟨#[45, 45]⟩ : ByteArray).size = 2 := rfl; omega
  have g2 : ¬ 9223372036854775807 < n.size + (⟨#[58]⟩ : ByteArray).size := by have : (⟨#[58]⟩ : ByteArray).size = 1 := rfl; omega
  have g3 : ¬ 9223372036854775807 < 2 + b.size := by omega
  have g4 : ¬ 9223372036854775807 < n.size + 1 := by omega
  have h1 := fun (u : World) => Tryz.strings_HasPrefix (n ++ ⟨#[58]⟩) (⟨#[45, 45]⟩ ++ b) u
  have e1 : Lib.hasPrefix (n ++ ⟨#[58]⟩ : ByteArray).data.toList (⟨#[45, 45]⟩ ++ b : ByteArray).data.toList = nameV b.data.toList (n, v) := by
    unfold Lib.hasPrefix nameV
    rw [ByteArray.data_append, ByteArray.data_append, Array.toList_append, Array.toList_append]
    rfl
  rw [e1] at h1
  have hlt : g < w.heap.size := (Array.getElem?_eq_some_iff.1 hg).1
  have c0 : ∀ o, (w.alloc o).cell? ⟨g, 0, none⟩ = some (.string b) := fun o => by
    have h := (Below.heap_alloc w o g hlt).trans hg
    exact blk_cell h 0
  have hba := (Below.refl w.heap.size w).alloc (Nat.le_refl _) (.cells #[.string n, .string v] 61)
  have HBA := Lib.hid hba
  clear e1 hba hg
  go_enter Tryz.func44, Tryz.ntmps44
  go_wp2_with fail
  refine (h1 _).mono ?_
  rintro e w1 ⟨rfl, rfl⟩
  clear h1
  go_wp2
  go_ret
  exact ⟨rfl, HBA.out⟩
theorem nm_tells (b : ByteArray) (g : Nat) (l : List Pr) (w : World) (hg : w.heap[g]? = some (.cells #[.string b] 9 (0, 0))) (hb : b.size ≤ 1000000000) (hz : ∀ x ∈ l, x.1.size ≤ 1000000000) : TellsP 44 #[.pointer (some ⟨g, 0, none⟩)] (nameV b.data.toList) l w :=
  ⟨enters_of Tryz.func44 (by kernel_rfl) rfl, fun x v hx hv => nmclos_any b g x v (still_block hg hv) hb (hz x hx)⟩
def PtZ (x : PtV) : Prop := x.2.1.length ≤ 1000000000 ∧ x.2.2.size ≤ 1000000000 ∧ ∀ f ∈ x.2.1, f.1.size ≤ 900000000 ∧ f.2.size ≤ 900000000
set_option maxRecDepth 100000 in
set_option maxHeartbeats 2000000 in
theorem clashes_any (b : ByteArray) (x : PtV) (w : World) (hb : b.size ≤ 1000000000) (hz : PtZ x) (hS : Sl2 w x.1.1 x.2.1) (hG : GvF w) :
    Calls Tryz.prog 22 #[.string b, .agg #[.slice x.1.1 x.2.1.length x.1.2, .string x.2.2]] w fun e w' => e = .returned (.bool (clashV b.data.toList x)) ∧ Below w.heap.size w w' := by
  obtain ⟨⟨A, c⟩, ⟨fs, body⟩⟩ := x
  obtain ⟨z1, z2, z3⟩ := hz
  simp only at hS z1 z2 z3 ⊢
  have hce := clashV_eq b.data.toList ((A, c), (fs, body))
  simp only at hce
  rw [hce]
  clear hce
  obtain ⟨R, hR⟩ : ∃ R, (clashB b.data.toList body.data.toList || fs.any (nameV b.data.toList)) = R := ⟨_, rfl⟩
  rw [hR]
  have HR := Lib.hid hR
  clear hR
  have hba := ((Below.refl w.heap.size w).alloc (Nat.le_refl _) (.cells #[.string b] 9)).alloc (by simp) (.cells #[.slice A fs.length c, .string body] 43)
  obtain ⟨w1, hw1⟩ : ∃ w1, (w.alloc (.cells #[.string b] 9)).alloc (.cells #[.slice A fs.length c, .string body] 43) = w1 := ⟨_, rfl⟩
  have hg : w1.heap[w.heap.size]? = some (.cells #[.string b] 9 (0, 0)) := by
    rw [← hw1]
    exact (Below.heap_alloc _ _ _ (by simp)).trans (heap_alloc_new _ _)
  have hp : w1.heap[w.heap.size + 1]? = some (.cells #[.slice A fs.length c, .string body] 43 (0, 0)) := by
    rw [← hw1]
    have := heap_alloc_new (w.alloc (.cells #[.string b] 9)) (.cells #[.slice A fs.length c, .string body] 43)
    simpa using this
  have hcut := pcut_any body b w1 z2 hb (by rw [← hw1]; exact hG.next (by rw [hw1] at hba ⊢; exact hba))
  rw [hw1] at hba
  have HW := Lib.hid hw1
  have HB := Lib.hid hba
  have HGB := Lib.hid hg
  have HP := Lib.hid hp
  have HS := Lib.hid (hS.below hba)
  have hsz := hba.size
  have p0 := blk_cell hg 0
  have p1 := blk_cell hp 0
  have p2 := blk_cell hp 1
  simp only [List.getElem?_toArray, List.getElem?_cons_zero, List.getElem?_cons_succ] at p0 p1 p2
  clear hba hw1 hg hp hS hG
  go_enter Tryz.func22, Tryz.ntmps22
  go_upto_region 1 with fail
  rw [HW.out]
  go_wp2_with fail
  refine hcut.mono ?_
  rintro e w2 ⟨⟨r, hN, he⟩, hb2⟩
  have HB2 := Lib.hid (HB.out.trans (hb2.mono HB.out.size))
  have q0 : w2.cell? ⟨w.heap.size, 0, none⟩ = some (.string b) := (hb2.cell (World.block_lt_of_cell? _ _ p0)).trans p0
  have q1 : w2.cell? ⟨w.heap.size + 1, 0, none⟩ = some (.slice A fs.length c) := (hb2.cell (World.block_lt_of_cell? _ _ p1)).trans p1
  have hcf := contF_any (nameV b.data.toList) 44 #[.pointer (some ⟨w.heap.size, 0, none⟩)] A fs c w2 (HS.out.below hb2) (by omega) (nm_tells b w.heap.size fs w2 (still_block HGB.out hb2) hb (fun x hx => by have := (z3 x hx).1; omega))
  clear hcut hb2 p0 p1 p2 z3
  rcases next_clash hN with ⟨h1, h2⟩ | ⟨k, h1, _, h2⟩
  · rcases he with ⟨_, rfl⟩ | ⟨k, h3, _⟩
    · have HE : Hid (R = fs.any (nameV b.data.toList)) := Lib.hid (by rw [← HR.out, h2, Bool.false_or])
      clear hN h1 h2 HR
      generalize fs.any (nameV b.data.toList) = an at *
      go_wp2_with fail
      refine hcf.mono ?_
      rintro e w3 ⟨rfl, hb3⟩
      have HB3 := Lib.hid (HB2.out.trans (hb3.mono HB2.out.size))
      clear hb3 hcf
      go_wp2
      go_ret
      exact ⟨by rw [HE.out]; rfl, HB3.out⟩
    · omega
  · rcases he with ⟨h3, _⟩ | ⟨k2, _, _, rfl⟩
    · omega
    · have HE : Hid (R = true) := Lib.hid (by rw [← HR.out, h2, Bool.true_or])
      clear hN h1 h2 hcf HR
      go_wp2
      go_ret
      exact ⟨by rw [HE.out]; rfl, HB2.out⟩
set_option maxRecDepth 100000 in
theorem ptclos_any (b : ByteArray) (g : Nat) (x : PtV) (w : World) (hg : w.heap[g]? = some (.cells #[.string b] 9 (0, 0))) (hb : b.size ≤ 1000000000) (hz : PtZ x) (hS : Sl2 w x.1.1 x.2.1) (hG : GvF w) :
    Calls Tryz.prog 21 #[.agg #[.slice x.1.1 x.2.1.length x.1.2, .string x.2.2], .pointer (some ⟨g, 0, none⟩)] w fun e w' => e = .returned (.bool (clashV b.data.toList x)) ∧ Below w.heap.size w w' := by
  have hlt : g < w.heap.size := (Array.getElem?_eq_some_iff.1 hg).1
  obtain ⟨cl, hcl⟩ : ∃ cl, clashV b.data.toList x = cl := ⟨_, rfl⟩
  have hba := (Below.refl w.heap.size w).alloc (Nat.le_refl _) (.cells #[.slice x.1.1 x.2.1.length x.1.2, .string x.2.2] 43)
  have h1 := clashes_any b x (w.alloc (.cells #[.slice x.1.1 x.2.1.length x.1.2, .string x.2.2] 43)) hb hz (hS.below hba) (hG.next hba)
  rw [hcl] at h1 ⊢
  have c0 : ∀ o, (w.alloc o).cell? ⟨g, 0, none⟩ = some (.string b) := fun o => by
    have h := (Below.heap_alloc w o g hlt).trans hg
    exact blk_cell h 0
  have HBA := Lib.hid hba
  clear hba hg hcl hS hG hz
  obtain ⟨⟨A, c⟩, ⟨fs, body⟩⟩ := x
  simp only at h1 HBA ⊢
  go_enter Tryz.func21, Tryz.ntmps21
  go_wp2_with fail
  refine h1.mono ?_
  rintro e w1 ⟨rfl, hb1⟩
  have HB1 := Lib.hid (HBA.out.trans (hb1.mono HBA.out.size))
  clear hb1 h1
  go_wp2
  go_ret
  exact ⟨rfl, HB1.out⟩
theorem pt_tells (b : ByteArray) (g : Nat) (L : List PtV) (w : World) (hg : w.heap[g]? = some (.cells #[.string b] 9 (0, 0))) (hb : b.size ≤ 1000000000) (hz : ∀ x ∈ L, PtZ x) (hS : ∀ x ∈ L, Sl2 w x.1.1 x.2.1) (hG : GvF w) :
    TellsV 21 #[.pointer (some ⟨g, 0, none⟩)] (clashV b.data.toList) L w :=
  ⟨enters_of Tryz.func21 (by kernel_rfl) rfl, fun x v hx hv => ptclos_any b g x v (still_block hg hv) hb (hz x hx) ((hS x hx).below hv) (hG.next hv)⟩
end Go.Proofs.YtmabhbihgenmcaaGreatDoor
