/- FeA FeB FeC FdX. -/
import Derived.Deep.AppendSrc
import Derived.Laws.Strings
import Derived.Laws.Externs
import Derived.Test.YtmabhbihgenmcaaGreatDoorRows
import Derived.Lib.Bytealg
import Derived.Deep.Cut
import Derived.Deep.DeepCutAuto
import Derived.Shelf.Abstract
import Derived.Test.YtmabhbihgenmcaaGreatDoorKd2
import Derived.Test.YtmabhbihgenmcaaGreatDoorKd3
namespace Wb
open Go
def spanA (p : UInt8 → Bool) (s : ByteArray) : ByteArray := ⟨(s.data.toList.takeWhile p).toArray⟩
def spanR (p : UInt8 → Bool) (s : ByteArray) : ByteArray := ⟨(s.data.toList.dropWhile p).toArray⟩
theorem spanA_list (p : UInt8 → Bool) (s : ByteArray) : (spanA p s).data.toList = s.data.toList.takeWhile p := rfl
theorem spanR_list (p : UInt8 → Bool) (s : ByteArray) : (spanR p s).data.toList = s.data.toList.dropWhile p := rfl
theorem ba_size (s : ByteArray) : s.size = s.data.toList.length := by simp
theorem span_end (p : UInt8 → Bool) (s : ByteArray) (k : Nat) (h1 : s.data.toList.takeWhile p = s.data.toList.take k) (h2 : s.data.toList.dropWhile p = s.data.toList.drop k) : spanA p s = s.extract 0 k ∧ spanR p s = s.extract k s.size := by
  unfold spanA spanR
  rw [h1, h2, Lib.extract_upto, Lib.extract_from]
  exact ⟨rfl, rfl⟩
theorem span_step (p : UInt8 → Bool) (s : ByteArray) (k : Nat) (h : k < s.size) (hp : p s[k] = true) (h1 : s.data.toList.takeWhile p = s.data.toList.take k ++ (s.data.toList.drop k).takeWhile p ∧ s.data.toList.dropWhile p = (s.data.toList.drop k).dropWhile p) :
    s.data.toList.takeWhile p = s.data.toList.take (k + 1) ++ (s.data.toList.drop (k + 1)).takeWhile p ∧ s.data.toList.dropWhile p = (s.data.toList.drop (k + 1)).dropWhile p := by
  have hl : s.data.toList.length = s.size := by simp
  obtain ⟨a, b⟩ := h1
  rw [drop_cons s k h] at a b
  rw [List.takeWhile_cons, if_pos hp] at a
  rw [List.dropWhile_cons, if_pos hp] at b
  refine ⟨?_, b⟩
  rw [a, List.take_succ_eq_append_getElem (by omega), List.append_assoc]
  rfl
theorem span_stop (p : UInt8 → Bool) (s : ByteArray) (k : Nat) (h : k < s.size) (hp : p s[k] = false) (h1 : s.data.toList.takeWhile p = s.data.toList.take k ++ (s.data.toList.drop k).takeWhile p ∧ s.data.toList.dropWhile p = (s.data.toList.drop k).dropWhile p) :
    spanA p s = s.extract 0 k ∧ spanR p s = s.extract k s.size := by
  obtain ⟨a, b⟩ := h1
  have e := drop_cons s k h
  refine span_end p s k ?_ ?_
  · rw [a, e, List.takeWhile_cons, if_neg (by rw [hp]; simp), List.append_nil]
  · rw [b]; conv => lhs; rw [e]
    rw [List.dropWhile_cons, if_neg (by rw [hp]; simp), ← e]
theorem span_over (p : UInt8 → Bool) (s : ByteArray) (k : Nat) (h : ¬ k < s.size) (h1 : s.data.toList.takeWhile p = s.data.toList.take k ++ (s.data.toList.drop k).takeWhile p ∧ s.data.toList.dropWhile p = (s.data.toList.drop k).dropWhile p) :
    spanA p s = s.extract 0 k ∧ spanR p s = s.extract k s.size := by
  have hl : s.data.toList.length = s.size := by simp
  obtain ⟨a, b⟩ := h1
  have e : s.data.toList.drop k = [] := List.drop_eq_nil_of_le (by omega)
  refine span_end p s k ?_ ?_
  · rw [a, e, List.takeWhile_nil, List.append_nil]
  · rw [b, e]; rfl
theorem index_lt (l : List UInt8) (c : UInt8) : decide (Lib.indexByte l c < 0) = !l.contains c := by
  induction l with
  | nil => rfl
  | cons b l ih =>
    unfold Lib.indexByte
    have hge := Lib.indexByte_ge l c
    rw [List.contains_cons]
    by_cases hb : b = c
    · subst hb; simp
    · rw [if_neg (by simpa using hb)]
      have hcb : (c == b) = false := by simpa using fun e => hb e.symm
      rw [hcb, Bool.false_or, ← ih]
      by_cases hm : Lib.indexByte l c = -1
      · rw [hm]; rfl
      · rw [if_neg (by simpa using hm), decide_eq_false (by omega), decide_eq_false (by omega)]
def visC (but : List UInt8) (c : UInt8) : Bool := decide (33 ≤ c.toNat) && decide (c.toNat ≤ 126) && !but.contains c
theorem vis_name : visC [58] = nameC := by
  funext c
  unfold visC nameC
  rw [List.contains_cons, List.contains_nil, Bool.or_false]
  rfl
theorem nat_u8 (c : UInt8) : ((c.toNat : Int).toNat.toUInt8) = c := by
  rw [Int.toNat_natCast]; exact UInt8.ofNat_toNat
end Wb
namespace Go.Proofs.YtmabhbihgenmcaaGreatDoor
open Go.RowKit Wb
def TellsB (fid : FuncId) (caps : Array Value) (p : UInt8 → Bool) (W : World) : Prop :=
  (∀ args w, (callFunc fid args).run Tryz.prog w = .ok (.enter fid args) w) ∧
  ∀ (c : UInt8) (v : World), Below W.heap.size W v → Calls Tryz.prog fid (#[.int .u8 (c.toNat : Int)] ++ caps) v fun e v' => e = .returned (.bool (p c)) ∧ Below v.heap.size v v'
set_option maxRecDepth 100000 in
set_option maxHeartbeats 800000 in
theorem span_any (p : UInt8 → Bool) (fid : FuncId) (caps : Array Value) (s : ByteArray) (w : World) (hs : s.size ≤ 1000000000) (hC : TellsB fid caps p w) :
    Calls Tryz.prog 114 #[.string s, .func (.func fid) #[] caps] w fun e w' => e = .returned (.tuple #[.string (spanA p s), .string (spanR p s)]) ∧ Below w.heap.size w w' := by
  have hE := hC.1
  have HC := Lib.hid hC.2
  clear hC
  go_enter Tryz.func114, Tryz.ntmps114
  go_wp2
  go_loopw [6] (fun vi wr => ∃ k : Nat, k ≤ s.size ∧ vi = .int .i64 k ∧ Hid (s.data.toList.takeWhile p = s.data.toList.take k ++ (s.data.toList.drop k).takeWhile p ∧ s.data.toList.dropWhile p = (s.data.toList.drop k).dropWhile p) ∧ Hid (Below w.heap.size w wr)) (fun vi _ => s.size - (intOf vi).toNat)
  case atStart => exact ⟨0, by omega, rfl, Lib.hid ⟨by simp, by simp⟩, Lib.hid (Below.refl _ _)⟩
  case round =>
    obtain ⟨k, hk, rfl, HK, HB⟩ := hrel
    by_cases h0 : k < s.size
    · have hc := HC.out s[k] wr HB.out
      by_cases hq : p s[k] = true
      · have HS := Lib.hid (span_step p s k h0 hq HK.out)
        rw [hq] at hc
        clear hq
        go_wp2_with (go_at_fn fid; refine hc.mono ?_; rintro e w3 ⟨rfl, hb3⟩)
        have HB3 := Lib.hid (HB.out.trans (hb3.mono HB.out.size))
        clear hb3 hc
        go_wp2
        go_roundw
        case rel => exact ⟨k + 1, by omega, by go_num, HS, HB3⟩
        case measure => simp [intOf] <;> omega
      · have hq : p s[k] = false := by simpa using hq
        have HS := Lib.hid (span_stop p s k h0 hq HK.out)
        rw [hq] at hc
        clear hq
        go_wp2_with (go_at_fn fid; refine hc.mono ?_; rintro e w3 ⟨rfl, hb3⟩)
        have HB3 := Lib.hid (HB.out.trans (hb3.mono HB.out.size))
        clear hb3 hc
        go_wp2
        go_region
        go_wp2
        go_ret2
        rw [HS.out.1, HS.out.2]
        exact ⟨rfl, HB3.out.drew⟩
    · have HS := Lib.hid (span_over p s k h0 HK.out)
      go_wp2
      go_region
      go_wp2
      go_ret2
      rw [HS.out.1, HS.out.2]
      exact ⟨rfl, HB.out.drew⟩
end Go.Proofs.YtmabhbihgenmcaaGreatDoor
namespace Wb
open Go
theorem all_span (p : UInt8 → Bool) (l : List UInt8) : (l.dropWhile p).isEmpty = l.all p := by
  induction l with
  | nil => rfl
  | cons c l ih =>
    rw [List.dropWhile_cons, List.all_cons]
    cases hc : p c
    · simp
    · simp [ih]
theorem empty_list (s : ByteArray) : s.toList.isEmpty = s.data.toList.isEmpty := by rw [Lib.toList_data]
end Wb
namespace Go.Proofs.YtmabhbihgenmcaaGreatDoor
open Go.RowKit Wb
theorem ixl (s : ByteArray) (c : Int) (w : World) : (callFunc 129 #[.string s, .int .u8 c]).run Tryz.prog w = .ok (.value (.int .i64 (Lib.indexByte s.data.toList c.toNat.toUInt8))) w := by
  rw [run_callFunc_extern (P := Tryz.prog) (f := 129) (fn := Tryz.f129) (e := Extern.BytealgIndexByte.indexByte) (by kernel_rfl) (by kernel_rfl) (by kernel_rfl) (by kernel_rfl) (by kernel_rfl), Lib.run_indexByteString]
  rfl
set_option maxRecDepth 100000 in
theorem vis_clos (but : ByteArray) (c : UInt8) (g : Nat) (w : World) (hg : w.heap[g]? = some (.cells #[.string but] 9 (0, 0))) :
    Calls Tryz.prog 123 #[.int .u8 (c.toNat : Int), .pointer (some ⟨g, 0, none⟩)] w fun e w' => e = .returned (.bool (visC but.data.toList c)) ∧ Below w.heap.size w w' := by
  have hx := ixl
  have c0 := blk_cell hg 0
  simp only [List.getElem?_toArray, List.getElem?_cons_zero] at c0
  have hi := Lib.hid (index_lt but.data.toList c)
  have hn := nat_u8 c
  have HB := Lib.hid (Below.refl w.heap.size w)
  obtain ⟨n, hcn⟩ : ∃ n : Nat, c.toNat = n := ⟨_, rfl⟩
  have HV : Hid (visC but.data.toList c = (decide (33 ≤ n) && decide (n ≤ 126) && !but.data.toList.contains c)) := Lib.hid (by unfold visC; rw [hcn])
  rw [hcn] at hn ⊢
  rw [HV.out]
  clear hg hcn HV
  by_cases h1 : 33 ≤ n
  · by_cases h2 : n ≤ 126
    · have HR : Hid ((decide (33 ≤ n) && decide (n ≤ 126) && !but.data.toList.contains c) = decide (Lib.indexByte but.data.toList c < 0)) := Lib.hid (by rw [hi.out, decide_eq_true h1, decide_eq_true h2]; rfl)
      rw [HR.out]
      clear HR hi
      go_enter Tryz.func123, Tryz.ntmps123
      go_wp2_with go_in
      all_goals
        go_ret
        refine ⟨?_, HB.out⟩
        simp_all
    · rw [decide_eq_true h1, decide_eq_false h2]
      clear hi
      go_enter Tryz.func123, Tryz.ntmps123
      go_wp2
      go_ret
      exact ⟨rfl, HB.out⟩
  · rw [decide_eq_false h1]
    clear hi
    go_enter Tryz.func123, Tryz.ntmps123
    go_wp2
    go_ret
    exact ⟨rfl, HB.out⟩
theorem vis_tells (but : ByteArray) (g : Nat) (w : World) (hg : w.heap[g]? = some (.cells #[.string but] 9 (0, 0))) : TellsB 123 #[.pointer (some ⟨g, 0, none⟩)] (visC but.data.toList) w :=
  ⟨enters_of Tryz.func123 (by kernel_rfl) rfl, fun c v hv => vis_clos but c g v (still_block hg hv)⟩
theorem blank_any (c : UInt8) (w : World) : Calls Tryz.prog 115 #[.int .u8 (c.toNat : Int)] w fun e w' => e = .returned (.bool (blankB c)) ∧ Below w.heap.size w w' := by
  have HB := Lib.hid (Below.refl w.heap.size w)
  have e : ∀ k : UInt8, ((c.toNat : Int) == (k.toNat : Int)) = (c == k) := fun k => by
    rw [Bool.eq_iff_iff, beq_iff_eq, beq_iff_eq]
    exact ⟨fun h => UInt8.toNat.inj (by omega), fun h => by rw [h]⟩
  have f1 : ((c.toNat : Int) == 32) = (c == 32) := e 32
  have f2 : ((c.toNat : Int) == 9) = (c == 9) := e 9
  unfold blankB
  clear e
  generalize (c.toNat : Int) = n at *
  cases h1 : c == 32
  · rw [h1] at f1
    cases h2 : c == 9
    · rw [h2] at f2
      go_enter Tryz.func115, Tryz.ntmps115
      go_wp2
      go_ret
      exact ⟨rfl, HB.out⟩
    · rw [h2] at f2
      go_enter Tryz.func115, Tryz.ntmps115
      go_wp2
      go_ret
      exact ⟨rfl, HB.out⟩
  · rw [h1] at f1
    go_enter Tryz.func115, Tryz.ntmps115
    go_wp2
    go_ret
    exact ⟨rfl, HB.out⟩
theorem blank_tells (w : World) : TellsB 115 #[] blankB w := ⟨enters_of Tryz.func115 (by kernel_rfl) rfl, fun c v _ => blank_any c v⟩
theorem text_any (c : UInt8) (w : World) : Calls Tryz.prog 92 #[.int .u8 (c.toNat : Int)] w fun e w' => e = .returned (.bool (plainC c)) ∧ Below w.heap.size w w' := by
  have HB := Lib.hid (Below.refl w.heap.size w)
  have f2 : ((c.toNat : Int) == 9) = (c == 9) := by
    rw [Bool.eq_iff_iff, beq_iff_eq, beq_iff_eq]
    exact ⟨fun h => UInt8.toNat.inj (by have : (9 : UInt8).toNat = 9 := rfl; omega), fun h => by rw [h]; rfl⟩
  have h9 : (c == 9) = true → c.toNat = 9 := fun h => by rw [beq_iff_eq.1 h]; rfl
  unfold plainC
  obtain ⟨n, hcn⟩ : ∃ n : Nat, c.toNat = n := ⟨_, rfl⟩
  rw [hcn] at f2 h9 ⊢
  generalize (c == 9) = b at *
  clear hcn
  by_cases h1 : 32 ≤ n
  · by_cases h2 : n ≤ 126
    · rw [decide_eq_true h1, decide_eq_true h2]
      clear h9 f2
      go_enter Tryz.func92, Tryz.ntmps92
      go_wp2
      go_ret
      exact ⟨by simp, HB.out⟩
    · obtain rfl : b = false := by cases b; rfl; exact absurd (h9 rfl) (by omega)
      rw [decide_eq_true h1, decide_eq_false h2]
      clear h9
      go_enter Tryz.func92, Tryz.ntmps92
      go_wp2
      go_ret
      exact ⟨ret_b (by simp <;> omega), HB.out⟩
  · rw [decide_eq_false h1]
    clear h9
    cases b
    · go_enter Tryz.func92, Tryz.ntmps92
      go_wp2
      go_ret
      exact ⟨rfl, HB.out⟩
    · go_enter Tryz.func92, Tryz.ntmps92
      go_wp2
      go_ret
      exact ⟨rfl, HB.out⟩
theorem text_tells (w : World) : TellsB 92 #[] plainC w := ⟨enters_of Tryz.func92 (by kernel_rfl) rfl, fun c v _ => text_any c v⟩
theorem rng_tells (w : World) : TellsB 100 #[] (fun c => c != 9 && plainC c) w := ⟨enters_of Tryz.func100 (by kernel_rfl) rfl, fun c v _ => by
  have HB := Lib.hid (Below.refl v.heap.size v)
  have hc := text_any c v
  show Calls Tryz.prog 100 #[.int .u8 (c.toNat : Int)] v _
  simp only
  have e : (c != 9) = !decide ((c.toNat : Int) = 9) := by
    rw [Bool.eq_iff_iff, bne_iff_ne, Bool.not_eq_true', decide_eq_false_iff_not]
    exact not_congr ⟨fun h => by rw [h]; rfl, fun h => UInt8.toNat.inj (by have : (9 : UInt8).toNat = 9 := rfl; omega)⟩
  rw [e]
  generalize plainC c = d at *
  clear e
  generalize (c.toNat : Int) = n at *
  by_cases h : n = 9
  · rw [decide_eq_true h]
    subst h
    clear hc
    go_enter Tryz.func100, Tryz.ntmps100
    go_wp2
    go_ret
    exact ⟨rfl, HB.out⟩
  · rw [decide_eq_false h]
    go_enter Tryz.func100, Tryz.ntmps100
    go_wp2_with fail
    refine hc.mono ?_
    rintro e w3 ⟨rfl, hb3⟩
    have HB3 := Lib.hid hb3
    go_wp2
    go_ret
    exact ⟨by cases d <;> simp [h], HB3.out⟩⟩
set_option maxRecDepth 100000 in
theorem visible_any (but : ByteArray) (w : World) : Calls Tryz.prog 98 #[.string but] w fun e w' => e = .returned (.func (.func 123) #[] #[.pointer (some ⟨w.heap.size, 0, none⟩)]) ∧ w' = w.alloc (.cells #[.string but] 9) := by
  go_enter Tryz.func98, Tryz.ntmps98
  go_wp2
  go_ret
  exact ⟨rfl, rfl⟩
set_option maxRecDepth 100000 in
theorem all_any (p : UInt8 → Bool) (fid : FuncId) (caps : Array Value) (s : ByteArray) (w : World) (hs : s.size ≤ 1000000000) (hC : TellsB fid caps p w) :
    Calls Tryz.prog 91 #[.string s, .func (.func fid) #[] caps] w fun e w' => e = .returned (.bool (s.data.toList.all p)) ∧ Below w.heap.size w w' := by
  have h := span_any p fid caps s w hs hC
  obtain ⟨b, hb⟩ : ∃ b, s.data.toList.all p = b := ⟨_, rfl⟩
  have hr : (spanR p s).toList.isEmpty = b := by rw [empty_list, spanR_list, ← hb]; exact all_span p _
  rw [hb]
  generalize spanR p s = r at *
  generalize spanA p s = q at *
  clear hb
  cases b
  · go_enter Tryz.func91, Tryz.ntmps91
    go_wp2_with fail
    refine h.mono ?_
    rintro e w3 ⟨rfl, hb3⟩
    have HB3 := Lib.hid hb3
    clear hb3 h
    go_wp2
    go_ret
    exact ⟨rfl, HB3.out⟩
  · go_enter Tryz.func91, Tryz.ntmps91
    go_wp2_with fail
    refine h.mono ?_
    rintro e w3 ⟨rfl, hb3⟩
    have HB3 := Lib.hid hb3
    clear hb3 h
    go_wp2
    go_ret
    exact ⟨rfl, HB3.out⟩
set_option maxRecDepth 100000 in
theorem skip_any (s : ByteArray) (w : World) (hs : s.size ≤ 1000000000) :
    Calls Tryz.prog 88 #[.string s] w fun e w' => e = .returned (.string (spanR blankB s)) ∧ Below w.heap.size w w' := by
  have h := span_any blankB 115 #[] s w hs (blank_tells w)
  go_enter Tryz.func88, Tryz.ntmps88
  go_wp2_with fail
  refine h.mono ?_
  rintro e w3 ⟨rfl, hb3⟩
  have HB3 := Lib.hid hb3
  clear hb3 h
  go_wp2
  go_ret
  exact ⟨rfl, HB3.out⟩
end Go.Proofs.YtmabhbihgenmcaaGreatDoor
namespace Wb
open Go
theorem named_list (s : ByteArray) : namedF s.data.toList = (!s.toList.isEmpty && decide (s.size ≤ 64) && s.data.toList.all nameC) := by
  rw [empty_list]
  unfold namedF
  rw [ba_size]
  cases h : s.data.toList with
  | nil => rfl
  | cons c l =>
    rw [decide_eq_true (show 1 ≤ (c :: l).length by simp)]
    cases (c :: l).all nameC <;> cases decide ((c :: l).length ≤ 64) <;> rfl
end Wb
namespace Go.Proofs.YtmabhbihgenmcaaGreatDoor
open Go.RowKit Wb
set_option maxRecDepth 100000 in
theorem isName_any (s : ByteArray) (w : World) (hs : s.size ≤ 1000000000) :
    Calls Tryz.prog 73 #[.string s] w fun e w' => e = .returned (.bool (namedF s.data.toList)) ∧ Below w.heap.size w w' := by
  have hv := visible_any ⟨#[58]⟩ w
  have hb1 := (Below.refl w.heap.size w).alloc (Nat.le_refl _) (.cells #[.string ⟨#[58]⟩] 9)
  have hall := all_any nameC 123 #[.pointer (some ⟨w.heap.size, 0, none⟩)] s (w.alloc (.cells #[.string ⟨#[58]⟩] 9)) hs (by rw [← vis_name]; exact vis_tells _ w.heap.size _ (heap_alloc_new _ _))
  have HB := Lib.hid hb1
  have HB0 := Lib.hid (Below.refl w.heap.size w)
  rw [named_list]
  clear hb1
  cases he : s.toList.isEmpty
  · by_cases h64 : s.size ≤ 64
    · rw [decide_eq_true h64]
      obtain ⟨b, hb⟩ : ∃ b, s.data.toList.all nameC = b := ⟨_, rfl⟩
      rw [hb] at hall ⊢
      clear hb
      go_enter Tryz.func73, Tryz.ntmps73
      go_wp2_with fail
      refine hv.mono ?_
      rintro e w3 ⟨rfl, rfl⟩
      clear hv
      go_wp2_with fail
      refine hall.mono ?_
      rintro e w3 ⟨rfl, hb3⟩
      have HB3 := Lib.hid (HB.out.trans (hb3.mono HB.out.size))
      clear hb3 hall
      go_wp2
      go_ret
      exact ⟨rfl, HB3.out⟩
    · rw [decide_eq_false h64]
      clear hall hv
      go_enter Tryz.func73, Tryz.ntmps73
      go_wp2
      go_ret
      exact ⟨ret_b (by simp <;> omega), HB0.out⟩
  · clear hall hv
    go_enter Tryz.func73, Tryz.ntmps73
    go_wp2
    go_ret
    exact ⟨rfl, HB0.out⟩
end Go.Proofs.YtmabhbihgenmcaaGreatDoor
namespace Wb
open Go
theorem all_takeWhile (p : UInt8 → Bool) (l : List UInt8) : (l.takeWhile p).all p = true := by
  induction l with
  | nil => rfl
  | cons c l ih =>
    rw [List.takeWhile_cons]
    split
    · rename_i h; rw [List.all_cons, h, ih]; rfl
    · rfl
theorem takeW_le (p : UInt8 → Bool) (l : List UInt8) : (l.takeWhile p).length ≤ l.length := (List.takeWhile_prefix p).length_le
end Wb
