/- SdA SdB SdC. -/
import Derived.Lib.AppendIntMem
import Derived.Shelf.Strings.FuncGrows
import Derived.Test.YtbdamneophbnnaaGreatDoorCU9
import Derived.Test.YtbdamneophbnnaaGreatDoorCU10
import Derived.Test.YtbdamneophbnnaaGreatDoorCU15
import Derived.Test.YtbdamneophbnnaaGreatDoorCU16
import Derived.Test.YtbdamneophbnnaaGreatDoorCU18
import Derived.Test.YtbdamneophbnnaaGreatDoorCU23
namespace Wb
open Go
theorem dec_dgN : ∀ n, 1 ≤ n → Lib.decDigits n = dgN n := by
  intro n
  induction n using Nat.strongRecOn with
  | _ n ih =>
    intro h
    by_cases h10 : n < 10
    · rw [Lib.decDigits, dif_pos h10, dgN, dif_neg (show ¬ n = 0 by omega), show n / 10 = 0 from by omega, show n % 10 = n from by omega, show dgN 0 = [] from by rw [dgN, dif_pos rfl]]
      rfl
    · rw [Lib.decDigits, dif_neg h10, ih (n / 10) (by omega) (by omega)]
      conv => rhs; rw [dgN, dif_neg (show ¬ n = 0 by omega)]
theorem itoa_dgN (n : Nat) (h : 1 ≤ n) : Lib.itoa (n : Int) = dgN n := by
  unfold Lib.itoa
  rw [if_neg (by omega)]
  exact dec_dgN n h
theorem idx_bad (s : ByteArray) : ∀ f pos, Lib.idxFuncFrom (fun x => !charB (x : Int)) true s f pos = match badU f (s.data.toList.drop pos) pos with
    | some k => (k : Int)
    | none => -1
  | 0, _ => rfl
  | f + 1, pos => by
    have hsl : s.data.toList.length = s.size := by simp
    rw [Lib.idxFuncFrom, badU]
    by_cases h : pos < s.size
    · have hne : ¬ s.data.toList.drop pos = [] := fun e => by
        have := List.length_drop (l := s.data.toList) (i := pos)
        rw [e, hsl] at this
        simp at this
        omega
      rw [if_pos h, decode_U s pos h, if_neg hne]
      cases hc : charB ((decU (s.data.toList.drop pos)).1 : Int) with
      | false => rw [if_pos (by simp), if_neg (by simp)]
      | true => rw [if_neg (by simp), if_pos rfl, idx_bad s f, List.drop_drop]
    · rw [if_neg h, if_pos (List.drop_eq_nil_iff.2 (by omega))]
theorem sg_iff (s : ByteArray) : sgB s = (decide (chk s.data.toList < 0) && !decide (0 ≤ Lib.idxFunc (fun x => !charB (x : Int)) true s)) := by
  unfold sgB Lib.idxFunc
  rw [idx_bad s s.size 0, List.drop_zero]
  congr 1
  · rcases chk_bd s.data.toList with h | ⟨h1, h2⟩
    · rw [h]; rfl
    · rw [decide_eq_false (by omega)]
      exact beq_eq_false_iff_ne.2 (by omega)
  · cases badU s.size s.data.toList 0 with
    | none => rfl
    | some k => simp
theorem idx_byte1 (c : UInt8) : ∀ l : List UInt8, decide (0 ≤ Lib.indexByte l c) = l.contains c
  | [] => rfl
  | b :: l => by
    have ih := idx_byte1 c l
    have hg := Lib.indexByte_ge l c
    rw [Lib.indexByte, List.contains_cons]
    by_cases h : b = c
    · subst h; simp
    · rw [if_neg (by simpa using h), beq_eq_false_iff_ne.2 (Ne.symm h), Bool.false_or, ← ih]
      by_cases hm : Lib.indexByte l c = -1
      · rw [hm]; rfl
      · rw [if_neg (by simpa using hm)]
        rw [decide_eq_true (by omega), decide_eq_true (by omega)]
def bindable1 (s : ByteArray) : Bool := !decide (s = sE) && (!decide (s = sXMLNS) && (!s.data.toList.contains 41 && sgB s))
theorem bindable_iff (s : ByteArray) : (s = sE ∨ s = sXMLNS ∨ (41 : UInt8) ∈ s.data.toList ∨ sgB s = false) ↔ bindable1 s = false := by
  unfold bindable1
  by_cases h1 : s = sE
  · simp [h1]
  · by_cases h2 : s = sXMLNS
    · simp [h2]
    · by_cases h3 : (41 : UInt8) ∈ s.data.toList
      · have : s.data.toList.contains 41 = true := List.contains_iff_mem.2 h3
        rw [this]
        simp [h3]
      · have : s.data.toList.contains 41 = false := by
          rw [Bool.eq_false_iff]
          exact fun e => h3 (List.contains_iff_mem.1 e)
        rw [this]
        simp only [h1, h2, h3, false_or, decide_false, Bool.not_false, Bool.true_and]
end Wb
namespace Go.Proofs.YtbdamneophbnnaaGreatDoor
open Go.RowKit Wb
set_option maxHeartbeats 1000000 in
theorem notChar_any (r : Int) (w : World) :
    Calls Tryz.prog 130 #[.int .i32 r] w fun e w' => e = .returned (.bool (!charB r)) ∧ Below w.heap.size w w' := by
  go_enter Tryz.func130, Tryz.ntmps130
  go_wp2_with fail
  refine (char_any r _).mono ?_
  rintro e w' ⟨rfl, hb⟩
  go_wp2
  go_ret
  exact ⟨rfl, hb⟩
set_option maxHeartbeats 2000000 in
set_option maxRecDepth 100000 in
theorem ssigns_any (s : ByteArray) (w : World) (hs : s.size ≤ 1000000000) :
    Calls Tryz.prog 108 #[.string s] w fun e w' => e = .returned (.bool (sgB s)) ∧ Below w.heap.size w w' := by
  rw [sg_iff s]
  have hcf := fun v => Tryz.strings_ContainsFunc_grows 130 #[] (enters_of Tryz.func130 (by kernel_rfl) rfl) (fun x => !charB (x : Int)) s v (fun W x _ _ => by
    have := notChar_any (x : Int) W
    exact this)
  have hck := fun v => check_any s v hs
  have hlow : chk s.data.toList = -1 ∨ 0 ≤ chk s.data.toList := by
    rcases chk_bd s.data.toList with h | h
    · exact .inl h
    · exact .inr h.1
  generalize Lib.idxFunc (fun x => !charB (x : Int)) true s = I at *
  generalize chk s.data.toList = C at *
  have hc : (0 ≤ C) ∨ (C = -1 ∧ 0 ≤ I) ∨ (C = -1 ∧ ¬ 0 ≤ I) := by omega
  rcases hc with h | ⟨rfl, h⟩ | ⟨rfl, h⟩
  · have h1 : decide (C < 0) = false := decide_eq_false (by omega)
    rw [h1]
    go_enter Tryz.func108, Tryz.ntmps108
    go_wp2_with fail
    refine (hck _).mono ?_
    rintro e w1 ⟨rfl, hb⟩
    go_wp2
    go_ret
    exact ⟨rfl, hb⟩
  · have h1 : decide (0 ≤ I) = true := decide_eq_true h
    rw [h1] at hcf ⊢
    go_enter Tryz.func108, Tryz.ntmps108
    go_wp2_with fail
    refine (hck _).mono ?_
    rintro e w1 ⟨rfl, hb⟩
    go_wp2_with fail
    refine (hcf _).mono ?_
    rintro e w2 ⟨rfl, hb2⟩
    go_wp2
    go_ret
    exact ⟨rfl, hb.trans (hb2.mono hb.size)⟩
  · have h1 : decide (0 ≤ I) = false := decide_eq_false h
    rw [h1] at hcf ⊢
    go_enter Tryz.func108, Tryz.ntmps108
    go_wp2_with fail
    refine (hck _).mono ?_
    rintro e w1 ⟨rfl, hb⟩
    go_wp2_with fail
    refine (hcf _).mono ?_
    rintro e w2 ⟨rfl, hb2⟩
    go_wp2
    go_ret
    exact ⟨rfl, hb.trans (hb2.mono hb.size)⟩
set_option maxHeartbeats 2000000 in
set_option maxRecDepth 100000 in
theorem bindable_any (s : ByteArray) (w : World) (hs : s.size ≤ 1000000000) :
    Calls Tryz.prog 161 #[.string s] w fun e w' => e = .returned (.bool (bindable1 s)) ∧ Below w.heap.size w w' := by
  have hct := fun v => Tryz.strings_Contains_one s 41 v
  rw [idx_byte1] at hct
  have hsg := fun v => ssigns_any s v hs
  obtain ⟨r, hr⟩ : ∃ r, bindable1 s = r := ⟨_, rfl⟩
  rw [hr]
  unfold bindable1 at hr
  have hxl : sXMLNS.toList = [104, 116, 116, 112, 58, 47, 47, 119, 119, 119, 46, 119, 51, 46, 111, 114, 103, 47, 50, 48, 48, 48, 47, 120, 109, 108, 110, 115, 47] := by rw [ByteArray.toList_eq]; rfl
  by_cases h1 : s = sE
  · have h1b : s.toList.isEmpty = true := by rw [nil_of s ((eqT_iff _ _).2 h1)]; rfl
    rw [decide_eq_true h1] at hr
    simp only [Bool.not_true, Bool.false_and] at hr
    subst hr
    clear h1 hct hsg
    go_enter Tryz.func161, Tryz.ntmps161
    go_wp2
    go_ret
    exact ⟨rfl, Below.refl _ _⟩
  · have h1b : s.toList.isEmpty = false := by simpa using ne_nil s (eqT_false.2 h1)
    rw [decide_eq_false h1] at hr
    by_cases h2 : s = sXMLNS
    · have h2b : (s.toList == [104, 116, 116, 112, 58, 47, 47, 119, 119, 119, 46, 119, 51, 46, 111, 114, 103, 47, 50, 48, 48, 48, 47, 120, 109, 108, 110, 115, 47]) = true := by rw [h2, hxl]; exact beq_self_eq_true _
      rw [decide_eq_true h2] at hr
      simp only [Bool.not_true, Bool.not_false, Bool.false_and, Bool.true_and] at hr
      subst hr
      clear h2 h1 hct hsg hxl
      go_enter Tryz.func161, Tryz.ntmps161
      go_wp2
      go_ret
      exact ⟨rfl, Below.refl _ _⟩
    · have h2b : (s.toList == [104, 116, 116, 112, 58, 47, 47, 119, 119, 119, 46, 119, 51, 46, 111, 114, 103, 47, 50, 48, 48, 48, 47, 120, 109, 108, 110, 115, 47]) = false := by
        have h : eqT s sXMLNS = false := eqT_false.2 h2
        unfold eqT at h
        rw [hxl] at h
        exact h
      rw [decide_eq_false h2] at hr
      clear h2 h1 hxl
      cases h3 : s.data.toList.contains 41 with
      | true =>
        rw [h3] at hr hct
        simp only [Bool.not_true, Bool.not_false, Bool.false_and, Bool.true_and] at hr
        subst hr
        clear h3 hsg
        go_enter Tryz.func161, Tryz.ntmps161
        go_wp2_with fail
        refine (hct _).mono ?_
        rintro e w1 ⟨rfl, rfl⟩
        go_wp2
        go_ret
        exact ⟨rfl, Below.refl _ _⟩
      | false =>
        rw [h3] at hr hct
        simp only [Bool.not_false, Bool.true_and] at hr
        rw [hr] at hsg
        clear h3 hr
        go_enter Tryz.func161, Tryz.ntmps161
        go_wp2_with fail
        refine (hct _).mono ?_
        rintro e w1 ⟨rfl, rfl⟩
        go_wp2_with fail
        refine (hsg _).mono ?_
        rintro e w2 ⟨rfl, hb⟩
        go_wp2
        go_ret
        exact ⟨rfl, hb⟩
set_option maxHeartbeats 2000000 in
theorem snumbered_any (i : Nat) (h : i < 99) (w : World) : Calls Tryz.prog 112 #[.int .i64 i] w fun e w' => e = .returned (.string (mkT (numT i))) ∧ w' = w := by
  have hs := itoa_small (i + 1) (by omega) w
  rw [show (((i + 1 : Nat)) : Int) = (i : Int) + 1 from by omega] at hs
  have hr : (ByteArray.mk #[110]) ++ (ByteArray.mk (digT (i + 1)).toArray) = mkT (numT i) := ba_app [110] (digT (i + 1))
  have hz : (ByteArray.mk (digT (i + 1)).toArray).size ≤ 2 := by
    show (digT (i + 1)).toArray.size ≤ 2
    unfold digT
    split <;> simp
  rw [← hr]
  generalize (ByteArray.mk (digT (i + 1)).toArray) = r at *
  have hz2 : ¬ 9223372036854775807 < 1 + r.size := by omega
  clear hr
  go_enter Tryz.func112, Tryz.ntmps112
  go_wp2_with fail
  refine hs.mono ?_
  rintro e w' ⟨rfl, rfl⟩
  go_wp2
  go_ret
  exact ⟨rfl, rfl⟩
theorem sitoa_any (n : Nat) (h1 : 1 ≤ n) (h2 : n ≤ 9999) (w : World) (hG : GvS w) : Calls Tryz.prog 107 #[.int .i64 n] w fun e w' => e = .returned (.string (mkT (dgN n))) ∧ Below w.heap.size w w' := by
  have := Tryz.strconv_Itoa (n : Int) (by omega) (by omega) w hG.2
  rw [itoa_dgN n h1] at this
  refine this.mono ?_
  rintro e w' ⟨rfl, k, os, rfl⟩
  exact ⟨rfl, Lib.below_grow _ w (Nat.le_refl _) k os⟩
set_option maxHeartbeats 1000000 in
theorem spidx_any (A : Option Addr) (l : List ByteArray) (x : ByteArray) (c : Nat) (w : World) (h : Sl1 w A l) (hl : l.length ≤ 1000000) :
    Calls Tryz.prog 160 #[.slice A l.length c, .string x] w fun e w' => e = .returned (.int .i64 (if hasB l x = true then (idxB x l : Int) else -1)) ∧ w' = w := by
  obtain ⟨r, hr⟩ : ∃ r : Int, (if hasB l x = true then (idxB x l : Int) else -1) = r := ⟨_, rfl⟩
  rw [hr]
  have HR := Lib.hid hr
  have HS := Lib.hid h
  clear hr h
  go_enter Tryz.func160, Tryz.ntmps160
  go_wp2
  go_loop [8] (fun vi => ∃ k : Nat, k ≤ l.length ∧ vi = .int .i64 k ∧ Hid (∀ j (hj : j < l.length), j < k → l[j] ≠ x)) (fun vi => ((l.length : Int) - intOf vi).toNat)
  case atStart => exact ⟨0, by omega, rfl, Lib.hid (fun j _ h => by omega)⟩
  case round =>
    obtain ⟨k, hk, rfl, HN⟩ := hrel
    by_cases h0 : k < l.length
    · obtain ⟨ad, rfl, had, hcell⟩ := HS.out.at_ (List.getElem?_eq_getElem h0)
      by_cases he : l[k] = x
      · have hi := idxB_at h0 he HN.out
        have hrk : r = k := by
          have := HR.out
          rw [if_pos ((hasB_iff _ _).2 (he ▸ List.getElem_mem h0)), hi] at this
          exact this.symm
        subst hrk
        have hb : (x.toList == (l[k]).toList) = true := by rw [he]; exact beq_self_eq_true _
        clear hi HN he
        generalize l[k] = y at *
        go_wp2
        go_ret
        exact ⟨rfl, rfl⟩
      · have hb : (x.toList == (l[k]).toList) = false := by
          have h1 : eqT x l[k] = false := by rw [eqT_dec]; exact decide_eq_false (fun e => he e.symm)
          exact h1
        have HN2 : Hid (∀ j (hj : j < l.length), j < k + 1 → l[j] ≠ x) := Lib.hid (fun j hj hjk => by
          by_cases e : j = k
          · subst e; exact he
          · exact HN.out j hj (by omega))
        clear he HN
        generalize l[k] = y at hcell hb
        go_wp2
        go_round
        case rel => exact ⟨k + 1, by omega, by go_num, HN2⟩
        case measure => simp [intOf]; omega
    · have hrk : r = -1 := by
        have := HR.out
        rw [if_neg] at this
        · exact this.symm
        · intro hh
          obtain ⟨j, hj, e⟩ := List.mem_iff_getElem.1 ((hasB_iff _ _).1 hh)
          exact HN.out j hj (by omega) e
      subst hrk
      go_wp2
      go_ret
      exact ⟨rfl, rfl⟩
end Go.Proofs.YtbdamneophbnnaaGreatDoor
namespace Wb
def preS (s : ByteArray) (l : List ByteArray) : Except Int (List UInt8 × List ByteArray) :=
  if hasB l s = true then .ok (numT (idxB s l), l) else if bindable1 s = false then .error 13 else if 16 ≤ l.length then .error 3 else .ok (numT l.length, l ++ [s])
def SpB (l : List ByteArray) : Prop := l.length ≤ 16 ∧ ∀ s ∈ l, bindable1 s = true
theorem SpB.nil : SpB [] := ⟨by simp, fun s h => by simp at h⟩
theorem preS_spB {s : ByteArray} {l l' : List ByteArray} {t : List UInt8} (h : preS s l = .ok (t, l')) (hl : SpB l) : SpB l' := by
  unfold preS at h
  split at h
  · injection h with h
    injection h with _ h
    rw [← h]
    exact hl
  · split at h
    · cases h
    · rename_i hb
      split at h
      · cases h
      · injection h with h
        injection h with _ h
        rw [← h]
        refine ⟨by rw [List.length_append, List.length_singleton]; omega, fun x hx => ?_⟩
        rcases List.mem_append.1 hx with hx | hx
        · exact hl.2 x hx
        · rw [List.mem_singleton.1 hx]
          simpa using hb
theorem nameT_pre {n : Pr} {plain : ByteArray} {l : List ByteArray} (hl : SpB l) (hn : nameB n.2.data.toList = true) (h1 : n.1 ≠ plain) (h2 : n.1 ≠ sXML) :
    nameT n plain l = match preS n.1 l with
      | .error e => .error e
      | .ok (t, l') => .ok (t ++ 58 :: n.2.data.toList, l') := by
  unfold nameT preS
  rw [if_neg (by rw [hn]; decide), if_neg h1, if_neg h2]
  by_cases hb : bindable1 n.1 = false
  · have hh : ¬ hasB l n.1 = true := fun h => by
      have := hl.2 _ ((hasB_iff _ _).1 h)
      rw [hb] at this
      cases this
    rw [if_pos ((bindable_iff _).2 hb), if_neg hh, if_pos hb]
  · rw [if_neg (fun h => hb ((bindable_iff _).1 h)), if_neg hb]
    by_cases hh : hasB l n.1 = true
    · rw [if_pos hh, if_pos hh]
    · rw [if_neg hh, if_neg hh]
      by_cases h16 : 16 ≤ l.length
      · rw [if_pos h16, if_pos h16]
      · rw [if_neg h16, if_neg h16]
end Wb
namespace Go.Proofs.YtbdamneophbnnaaGreatDoor
open Go.RowKit Wb
theorem text_info : (Tryz.prog.info? 9).map (fun i => (i.zero, i.size, i.bytes)) = some (some (.string ⟨#[]⟩), 1, 16) := by kernel_rfl
def PAt (base g : Nat) (space : ByteArray) (sp : List ByteArray) (T : Nat → Prop) (w : World) : Prop :=
  ∃ v, w.heap[g]? = some (.cells #[.string space, v] 122 (0, 0)) ∧ w.ownsRow base 9 1 v sp.length (cells1 sp) ∧ base ≤ g ∧ v.ownBlock ≠ some g ∧ ∀ k, T k → v.ownBlock ≠ some k
theorem PAt.below {base g : Nat} {space : ByteArray} {sp : List ByteArray} {T : Nat → Prop} {w w' : World} (h : PAt base g space sp T w) (hb : Below w.heap.size w w') : PAt base g space sp T w' := by
  obtain ⟨v, h1, h2, h3, h4, h5⟩ := h
  exact ⟨v, still_block h1 hb, own_below h2 hb, h3, h4, h5⟩
theorem PAt.sub {base g : Nat} {space : ByteArray} {sp : List ByteArray} {T T' : Nat → Prop} {w : World} (h : PAt base g space sp T w) (hT : ∀ k, T' k → T k) : PAt base g space sp T' w := by
  obtain ⟨v, h1, h2, h3, h4, h5⟩ := h
  exact ⟨v, h1, h2, h3, h4, fun k hk => h5 k (hT k hk)⟩
theorem PAt.lt {base g : Nat} {space : ByteArray} {sp : List ByteArray} {T : Nat → Prop} {w : World} (h : PAt base g space sp T w) : g < w.heap.size ∧ base ≤ g := by
  obtain ⟨v, h1, _, h3, _⟩ := h
  exact ⟨(Array.getElem?_eq_some_iff.1 h1).1, h3⟩
theorem PAt.more {base g : Nat} {space : ByteArray} {sp : List ByteArray} {T : Nat → Prop} {w : World} (h : PAt base g space sp T w) (o : Obj) : PAt base g space sp (fun k => T k ∨ k = w.heap.size) (w.alloc o) := by
  obtain ⟨v, h1, h2, h3, h4, h5⟩ := h
  have hb := (Below.refl w.heap.size w).alloc (Nat.le_refl _) o
  refine ⟨v, still_block h1 hb, own_below h2 hb, h3, h4, fun k hk => ?_⟩
  rcases hk with hk | rfl
  · exact h5 k hk
  · intro e
    have := (h2.lt _ e).2
    omega
def KpT (T : Nat → Prop) (w w' : World) : Prop := ∀ k, k < w.heap.size → T k → w'.heap[k]? = w.heap[k]?
theorem KpT.of_below {T : Nat → Prop} {w w' : World} (h : Below w.heap.size w w') : KpT T w w' := fun k hk _ => h.block k hk
theorem KpT.trans {T : Nat → Prop} {w w1 w2 : World} (h : KpT T w w1) (hs : w.heap.size ≤ w1.heap.size) (h' : KpT T w1 w2) : KpT T w w2 := fun k hk ht => (h' k (by omega) ht).trans (h k hk ht)
theorem KpT.sub {T T' : Nat → Prop} {w w' : World} (h : KpT T w w') (hT : ∀ k, T' k → T k) : KpT T' w w' := fun k hk ht => h k hk (hT k ht)
def PrOut (o : Except Int (List UInt8 × List ByteArray)) (base g : Nat) (space : ByteArray) (T : Nat → Prop) (w : World) (e : Ending) (w' : World) : Prop :=
  Below base w w' ∧ KpT T w w' ∧ (∃ v, w'.heap[g]? = some (.cells #[.string space, v] 122 (0, 0))) ∧ (∀ k, o = .error k → e = .returned (.tuple #[.string ⟨#[]⟩, .int .i64 k])) ∧
    ∀ t l, o = .ok (t, l) → e = .returned (.tuple #[.string (mkT t), .int .i64 0]) ∧ PAt base g space l T w'
theorem PrOut.bad {k : Int} {base g : Nat} {space : ByteArray} {T : Nat → Prop} {w w' : World} (hb : Below base w w') (hk : KpT T w w') (hg : ∃ v, w'.heap[g]? = some (.cells #[.string space, v] 122 (0, 0))) : PrOut (.error k) base g space T w (.returned (.tuple #[.string ⟨#[]⟩, .int .i64 k])) w' :=
  ⟨hb, hk, hg, fun k' h => by injection h with h; rw [h], fun t l h => by cases h⟩
theorem PrOut.good {t : List UInt8} {l : List ByteArray} {base g : Nat} {space : ByteArray} {T : Nat → Prop} {w w' : World} (hb : Below base w w') (hk : KpT T w w') (hp : PAt base g space l T w') : PrOut (.ok (t, l)) base g space T w (.returned (.tuple #[.string (mkT t), .int .i64 0])) w' :=
  ⟨hb, hk, by obtain ⟨v, h, _⟩ := hp; exact ⟨v, h⟩, fun k' h => (by cases h), fun t' l' h => by
    injection h with h
    injection h with h1 h2
    subst h1 h2
    exact ⟨rfl, hp⟩⟩
theorem own_other {w : World} {base sz n g : Nat} {e : TypeId} {v : Value} {xs : List Value} (h : w.ownsRow base e sz v n xs) (hne : v.ownBlock ≠ some g) (i : Nat) (u : Value) : (w.setCell ⟨g, i, none⟩ u).ownsRow base e sz v n xs := by
  refine ⟨h.1, ?_⟩
  rcases h.2 with hn | ⟨k, cap, cur, rfl, hbk, hk, rest⟩
  · exact .inl hn
  · refine .inr ⟨k, cap, cur, rfl, hbk, ?_, rest⟩
    refine (Below.heap_setCell _ _ _ _ fun e => hne ?_).trans hk
    rw [e]
    rfl
set_option maxHeartbeats 8000000 in
set_option maxRecDepth 100000 in
theorem sprefix_any (base g : Nat) (space s : ByteArray) (sp : List ByteArray) (T : Nat → Prop) (w : World) (hP : PAt base g space sp T w) (hT : ∀ k, T k → k < w.heap.size ∧ k ≠ g) (hsp : sp.length ≤ 16) (hs : s.size ≤ 1000000) :
    Calls Tryz.prog 146 #[.pointer (some ⟨g, 0, none⟩), .string s] w (PrOut (preS s sp) base g space T w) := by
  obtain ⟨o, ho⟩ : ∃ o, preS s sp = o := ⟨_, rfl⟩
  rw [ho]
  unfold preS at ho
  have HP := Lib.hid hP
  obtain ⟨v, hg, hown, hbg, hvg, hvT⟩ := hP
  obtain ⟨A, c, rfl⟩ := own_shape hown
  have hgl : g < w.heap.size := (Array.getElem?_eq_some_iff.1 hg).1
  have hix := spidx_any A sp s c w (Sl.of_own hown) (by omega)
  have p1 : w.cell? ⟨g, 1, none⟩ = some (.slice A sp.length c) := blk_cell hg 1
  cases hh : hasB sp s with
  | true =>
    rw [if_pos hh] at ho
    rw [if_pos hh] at hix
    subst ho
    have hi := idxB_lt ((hasB_iff _ _).1 hh)
    clear hh hg hown hvT hvg
    have hnu := fun u => snumbered_any (idxB s sp) (by omega) u
    have hge : (0 : Int) ≤ (idxB s sp : Int) := by omega
    have HB := Lib.hid (Below.refl base w)
    have HKT := Lib.hid (KpT.of_below (T := T) (Below.refl w.heap.size w))
    generalize idxB s sp = k at *
    go_enter Tryz.func146, Tryz.ntmps146
    go_wp2_with fail
    refine hix.mono ?_
    rintro e w1 ⟨rfl, rfl⟩
    clear hix
    go_wp2_with fail
    refine (hnu _).mono ?_
    rintro e w2 ⟨rfl, rfl⟩
    go_wp2
    go_ret2
    exact PrOut.good HB.out HKT.out HP.out
  | false =>
    rw [if_neg (by rw [hh]; decide)] at ho
    rw [if_neg (by rw [hh]; decide)] at hix
    have hbi := fun u => bindable_any s u (by omega)
    have hm1 : ¬ (0 : Int) ≤ -1 := by omega
    cases hb : bindable1 s with
    | false =>
      rw [hb] at hbi
      rw [if_pos hb] at ho
      subst ho
      clear hh hg hown hvT hvg hb
      go_enter Tryz.func146, Tryz.ntmps146
      go_wp2_with fail
      refine hix.mono ?_
      rintro e w1 ⟨rfl, rfl⟩
      clear hix
      go_wp2_with fail
      refine (hbi _).mono ?_
      rintro e w2 ⟨rfl, hb2⟩
      have HB := Lib.hid (hb2.mono (show base ≤ w1.heap.size by omega))
      have HKT := Lib.hid (KpT.of_below (T := T) hb2)
      have HGG := Lib.hid (HP.out.below hb2)
      clear hb2 hbi
      go_wp2
      go_ret2
      exact PrOut.bad HB.out HKT.out (by obtain ⟨v, h, _⟩ := HGG.out; exact ⟨v, h⟩)
    | true =>
      rw [hb] at hbi
      rw [if_neg (by rw [hb]; decide)] at ho
      by_cases h16 : sp.length = 16
      · rw [if_pos (by omega)] at ho
        subst ho
        have hl16 : ((sp.length : Int) == 16) = true := by rw [h16]; rfl
        clear h16
        go_enter Tryz.func146, Tryz.ntmps146
        go_wp2_with fail
        refine hix.mono ?_
        rintro e w1 ⟨rfl, rfl⟩
        clear hix
        go_wp2_with fail
        refine (hbi _).mono ?_
        rintro e w2 ⟨rfl, hb2⟩
        have p1 : w2.cell? ⟨g, 1, none⟩ = some (.slice A sp.length c) := blk_cell (still_block hg hb2) 1
        have HB := Lib.hid (hb2.mono (show base ≤ w1.heap.size by omega))
        have HKT := Lib.hid (KpT.of_below (T := T) hb2)
        have HGG := Lib.hid (HP.out.below hb2)
        clear hb2 hbi hh hg hown hvT hvg hb
        go_wp2
        go_ret2
        exact PrOut.bad HB.out HKT.out (by obtain ⟨v, h, _⟩ := HGG.out; exact ⟨v, h⟩)
      · rw [if_neg (by omega)] at ho
        subst ho
        have hl16 : ((sp.length : Int) == 16) = false := by rw [beq_eq_false_iff_ne]; omega
        clear h16 hh hb
        obtain ⟨i2, hk0, hu0, hu1, hu2⟩ := info_parts text_info
        go_enter Tryz.func146, Tryz.ntmps146
        go_wp2_with fail
        refine hix.mono ?_
        rintro e w1 ⟨rfl, rfl⟩
        clear hix
        go_wp2_with fail
        refine (hbi _).mono ?_
        rintro e w2 ⟨rfl, hb2⟩
        have p1 : w2.cell? ⟨g, 1, none⟩ = some (.slice A sp.length c) := blk_cell (still_block hg hb2) 1
        have hown2 := own_below hown hb2
        have hg2 := still_block hg hb2
        have hs2 := hb2.size
        have HB2 := Lib.hid hb2
        have hsz : base ≤ (w2.alloc (.cells #[.string s] 9)).heap.size := by simp; omega
        have hown2a := hown2.alloc (.cells #[.string s] 9)
        have hsl : Sl (w2.alloc (.cells #[.string s] 9)) 1 (some ⟨w2.heap.size, 0, none⟩) 1 [.string s] := Sl.lit w2 1 [.string s] _ 1 rfl
        clear hb2 hbi
        go_upto_region 8 with fail
        have hm : sp.length + 1 ≤ maxLen := by unfold maxLen; omega
        go_wp2_with (at_builtin; refine wpList_append_sl _ rfl _ _ _ rfl base 9 i2 _ 1 16 Tryz.underlying54 hk0 hu0 hu1 hu2 rfl (by omega) _ sp.length (cells1 sp) rfl hown2a (some ⟨w2.heap.size, 0, none⟩) 1 1 [.string s] rfl hsl (cells1_one [s]) hm (by omega) hsz ?_)
        intro v5 w5 hown5 hg5 hat5
        obtain ⟨A5, c5, rfl⟩ := own_shape hown5
        have hsz5 : (w2.alloc (.cells #[.string s] 9)).heap.size = w2.heap.size + 1 := by simp
        have hba := (Below.refl w2.heap.size w2).alloc (Nat.le_refl _) (.cells #[.string s] 9)
        have hgk := grown_block (still_block hg2 hba) hg5 (fun e => hvg e.symm)
        have hne5 : (Value.slice A5 (sp.length + 1) c5).ownBlock ≠ some g := by
          rcases hat5 with e | e
          · rw [e]; exact hvg
          · rw [e]
            intro h
            injection h with h
            omega
        have hT5 : ∀ k, T k → (Value.slice A5 (sp.length + 1) c5).ownBlock ≠ some k := fun k hk => by
          rcases hat5 with e | e
          · rw [e]; exact hvT k hk
          · rw [e]
            intro h
            injection h with h
            have := (hT k hk).1
            omega
        have HB5 : Hid (Below base w1 w5) := Lib.hid (((HB2.out.mono (by omega)).alloc (by omega) (.cells #[.string s] 9)).grown hg5 hsz (fun k hk => (hown.lt k hk).1))
        have HK5 : Hid (KpT T w1 w5) := Lib.hid (fun k hk ht => by
          have e1 := hg5.block k (by simp; omega) (fun e => hvT k ht e.symm)
          have e2 := hba.block k (by omega)
          exact e1.trans (e2.trans (HB2.out.block k hk)))
        have q1 : w5.cell? ⟨g, 1, none⟩ = some (.slice A sp.length c) := blk_cell hgk 1
        have qf := blk_free hgk 1
        clear hg5 hat5 hown2a hsl hba p1
        go_upto_region 9 with fail
        have hg6 : (w5.setCell ⟨g, 1, none⟩ (.slice A5 (sp.length + 1) c5)).heap[g]? = some (.cells #[.string space, .slice A5 (sp.length + 1) c5] 122 (0, 0)) := blk_set hgk 1 _
        have own6 := own_other hown5 hne5 1 (.slice A5 (sp.length + 1) c5)
        have HB6 : Hid (Below base w1 (w5.setCell ⟨g, 1, none⟩ (.slice A5 (sp.length + 1) c5))) := Lib.hid (HB5.out.setCell hbg _)
        have HK6 : Hid (KpT T w1 (w5.setCell ⟨g, 1, none⟩ (.slice A5 (sp.length + 1) c5))) := Lib.hid (fun k hk ht => (Below.heap_setCell _ _ _ _ (hT k ht).2).trans (HK5.out k hk ht))
        generalize w5.setCell ⟨g, 1, none⟩ (.slice A5 (sp.length + 1) c5) = w6 at *
        have q6 : w6.cell? ⟨g, 1, none⟩ = some (.slice A5 (sp.length + 1) c5) := blk_cell hg6 1
        have HP6 : Hid (PAt base g space (sp ++ [s]) T w6) := Lib.hid (by
          refine ⟨_, hg6, ?_, hbg, hne5, hT5⟩
          have e1 : cells1 (sp ++ [s]) = cells1 sp ++ [.string s] := by simp [cells1]
          rw [List.length_append, List.length_singleton, e1]
          exact own6)
        have hnu := fun u => snumbered_any sp.length (by omega) u
        have hwr : IntKind.i64.wrap ((sp.length : Int) + 1 - 1) = (sp.length : Int) := by rw [IntKind.wrap_i64]; omega
        clear q1 qf hg6 own6 hgk hown5 HB5 HK5 hne5 hT5 hown2 hg2 hown hg HP
        go_wp2_with fail
        refine (hnu _).mono ?_
        rintro e w7 ⟨rfl, rfl⟩
        go_wp2
        go_ret2
        exact PrOut.good HB6.out HK6.out HP6.out
end Go.Proofs.YtbdamneophbnnaaGreatDoor
namespace Wb
theorem preS_nz {s : ByteArray} {l : List ByteArray} {k : Int} (h : preS s l = .error k) : k ≠ 0 := by
  unfold preS at h
  split at h
  · cases h
  · split at h
    · injection h with h; omega
    · split at h
      · injection h with h; omega
      · cases h
theorem preS_len {s : ByteArray} {l l' : List ByteArray} {t : List UInt8} (h : preS s l = .ok (t, l')) (hl : l.length ≤ 16) : t.length ≤ 8 := by
  unfold preS at h
  split at h
  · rename_i hh
    have hi := idxB_lt ((hasB_iff _ _).1 hh)
    injection h with h
    injection h with h _
    rw [← h]
    exact Nat.le_trans (num_len ⟨idxB s l, by omega⟩) (by omega)
  · split at h
    · cases h
    · split at h
      · cases h
      · injection h with h
        injection h with h _
        rw [← h]
        exact Nat.le_trans (num_len ⟨l.length, by omega⟩) (by omega)
def attrN (n : Pr) (l : List ByteArray) : Except Int (List UInt8 × List ByteArray) :=
  match nameT n sE l with
  | .error e => .error e
  | .ok (t, l') => .ok (64 :: t, l')
theorem nameT_spB {n : Pr} {plain : ByteArray} {l l' : List ByteArray} {t : List UInt8} (h : nameT n plain l = .ok (t, l')) (hl : SpB l) : SpB l' := by
  obtain ⟨hn, ⟨_, _, rfl⟩ | ⟨_, _, _, rfl⟩ | ⟨h1, h2, _, _, _, _⟩⟩ := nameT_cases h
  · exact hl
  · exact hl
  · rw [nameT_pre hl hn h1 h2] at h
    cases hp : preS n.1 l with
    | error e => rw [hp] at h; cases h
    | ok x =>
      obtain ⟨t', l2⟩ := x
      rw [hp] at h
      injection h with h
      injection h with _ h
      rw [← h]
      exact preS_spB hp hl
end Wb
namespace Go.Proofs.YtbdamneophbnnaaGreatDoor
open Go.RowKit Wb
set_option maxHeartbeats 8000000 in
set_option maxRecDepth 100000 in
theorem sname_any (base g : Nat) (space n1 n2 plain : ByteArray) (sp : List ByteArray) (T : Nat → Prop) (w : World) (hP : PAt base g space sp T w) (hT : ∀ k, T k → k < w.heap.size ∧ k ≠ g) (hsp : SpB sp) (h1 : n1.size ≤ 1000000) (h2 : n2.size ≤ 1000000) :
    Calls Tryz.prog 127 #[.pointer (some ⟨g, 0, none⟩), .agg #[.string n1, .string n2], .string plain] w (PrOut (nameT (n1, n2) plain sp) base g space T w) := by
  obtain ⟨o, ho⟩ : ∃ o, nameT (n1, n2) plain sp = o := ⟨_, rfl⟩
  rw [ho]
  have hgl := hP.lt
  have hnm := fun v => name_any n2 v (by omega)
  have hk0 := OwnB.new0 w #[.string n1, .string n2] 44
  have hb0 := (Below.refl w.heap.size w).alloc (Nat.le_refl _) (.cells #[.string n1, .string n2] 44)
  have hP0 := hP.more (.cells #[.string n1, .string n2] 44)
  have hs0 : (w.alloc (.cells #[.string n1, .string n2] 44)).heap.size = w.heap.size + 1 := by simp
  have t1 : (n1.toList == plain.toList) = eqT n1 plain := rfl
  have t3 : (n1.toList == [104, 116, 116, 112, 58, 47, 47, 119, 119, 119, 46, 119, 51, 46, 111, 114, 103, 47, 88, 77, 76, 47, 49, 57, 57, 56, 47, 110, 97, 109, 101, 115, 112, 97, 99, 101]) = eqT n1 sXML := lit_of n1 sXML _ rfl
  have hbase : base ≤ w.heap.size := by omega
  have HGE := Lib.hid (show ∃ v, w.heap[g]? = some (.cells #[.string space, v] 122 (0, 0)) from by obtain ⟨v, h, _⟩ := hP; exact ⟨v, h⟩)
  cases hn : nameB n2.data.toList with
  | false =>
    rw [hn] at hnm
    have e : nameT (n1, n2) plain sp = .error 12 := by unfold nameT; rw [if_pos hn]
    obtain rfl := e.symm.trans ho
    clear ho hn t1 t3
    go_enter Tryz.func127, Tryz.ntmps127
    go_upto_region 1 with fail
    generalize w.alloc (.cells #[.string n1, .string n2] 44) = w0 at *
    have c1 : w0.cell? ⟨w.heap.size, 1, none⟩ = some (.string n2) := hk0.cell 1
    go_wp2_with fail
    refine (hnm _).mono ?_
    rintro e w1 ⟨rfl, hb1⟩
    have HB1 := Lib.hid (hb0.trans (hb1.mono hb0.size))
    clear hb1 hnm
    go_wp2
    go_ret2
    exact PrOut.bad (HB1.out.mono hbase) (KpT.of_below HB1.out) (by obtain ⟨v, h⟩ := HGE.out; exact ⟨v, still_block h HB1.out⟩)
  | true =>
    rw [hn] at hnm
    by_cases e1 : n1 = plain
    · have e : nameT (n1, n2) plain sp = .ok (n2.data.toList, sp) := by unfold nameT; rw [if_neg (by rw [hn]; decide), if_pos e1]
      obtain rfl := e.symm.trans ho
      have t1b : (n1.toList == plain.toList) = true := by rw [t1]; exact (eqT_iff _ _).2 e1
      clear ho hn t1 t3 e1 e
      go_enter Tryz.func127, Tryz.ntmps127
      go_upto_region 1 with fail
      generalize w.alloc (.cells #[.string n1, .string n2] 44) = w0 at *
      have c1 : w0.cell? ⟨w.heap.size, 1, none⟩ = some (.string n2) := hk0.cell 1
      go_wp2_with fail
      refine (hnm _).mono ?_
      rintro e w1 ⟨rfl, hb1⟩
      have HB1 := Lib.hid (hb0.trans (hb1.mono hb0.size))
      have c0 : w1.cell? ⟨w.heap.size, 0, none⟩ = some (.string n1) := (hk0.next hb1).cell 0
      have c1 : w1.cell? ⟨w.heap.size, 1, none⟩ = some (.string n2) := (hk0.next hb1).cell 1
      clear hb1 hnm
      go_wp2
      go_ret2
      have := PrOut.good (t := n2.data.toList) (HB1.out.mono hbase) (KpT.of_below (T := T) HB1.out) (hP.below HB1.out)
      rw [show mkT n2.data.toList = n2 from to_list n2] at this
      exact this
    · have t1b : (n1.toList == plain.toList) = false := by rw [t1]; exact eqT_false.2 e1
      by_cases e2 : n1 = sXML
      · have e : nameT (n1, n2) plain sp = .ok (sXmlK ++ n2.data.toList, sp) := by unfold nameT; rw [if_neg (by rw [hn]; decide), if_neg e1, if_pos e2]
        obtain rfl := e.symm.trans ho
        have t3b := t3.trans ((eqT_iff _ _).2 e2)
        have hx : (⟨#[120, 109, 108, 58]⟩ : ByteArray) ++ n2 = mkT (sXmlK ++ n2.data.toList) := by
          rw [← mkT_app, show mkT n2.data.toList = n2 from to_list n2]
          rfl
        have z1 : ¬ 9223372036854775807 < 4 + n2.size := by omega
        clear ho hn t1 t3 e1 e2 e
        go_enter Tryz.func127, Tryz.ntmps127
        go_upto_region 1 with fail
        generalize w.alloc (.cells #[.string n1, .string n2] 44) = w0 at *
        have c1 : w0.cell? ⟨w.heap.size, 1, none⟩ = some (.string n2) := hk0.cell 1
        go_wp2_with fail
        refine (hnm _).mono ?_
        rintro e w1 ⟨rfl, hb1⟩
        have HB1 := Lib.hid (hb0.trans (hb1.mono hb0.size))
        have c0 : w1.cell? ⟨w.heap.size, 0, none⟩ = some (.string n1) := (hk0.next hb1).cell 0
        have c1 : w1.cell? ⟨w.heap.size, 1, none⟩ = some (.string n2) := (hk0.next hb1).cell 1
        have HX := Lib.hid hx
        clear hb1 hnm hx
        go_wp2
        go_ret2
        have := PrOut.good (t := sXmlK ++ n2.data.toList) (HB1.out.mono hbase) (KpT.of_below (T := T) HB1.out) (hP.below HB1.out)
        rw [← HX.out] at this
        exact this
      · have t3b := t3.trans (eqT_false.2 e2)
        have e := nameT_pre (n := (n1, n2)) (plain := plain) hsp hn e1 e2
        rw [ho] at e
        have hlen := fun t l' (h : preS n1 sp = .ok (t, l')) => preS_len h hsp.1
        have hnz := fun k (h : preS n1 sp = .error k) => preS_nz h
        have hsp16 := hsp.1
        have hpre := fun v hp ht => sprefix_any base g space n1 sp (fun k => T k ∨ k = w.heap.size) v hp ht hsp16 h1
        obtain ⟨op, hop⟩ : ∃ op, preS n1 sp = op := ⟨_, rfl⟩
        rw [show preS (n1, n2).1 sp = op from hop] at e
        rw [hop] at hpre hlen hnz
        have HE := Lib.hid e
        have HPRE := Lib.hid hpre
        clear ho hn t1 t3 e1 e2 e hop hpre
        go_enter Tryz.func127, Tryz.ntmps127
        go_upto_region 1 with fail
        generalize w.alloc (.cells #[.string n1, .string n2] 44) = w0 at *
        have c1 : w0.cell? ⟨w.heap.size, 1, none⟩ = some (.string n2) := hk0.cell 1
        go_wp2_with fail
        refine (hnm _).mono ?_
        rintro e w1 ⟨rfl, hb1⟩
        have HB1 := Lib.hid (hb0.trans (hb1.mono hb0.size))
        have HK1 := Lib.hid (hk0.next hb1)
        have c0 : w1.cell? ⟨w.heap.size, 0, none⟩ = some (.string n1) := (hk0.next hb1).cell 0
        have c1 : w1.cell? ⟨w.heap.size, 1, none⟩ = some (.string n2) := (hk0.next hb1).cell 1
        have hP1 := hP0.below hb1
        have hs1 := hb1.size
        have hT1 : ∀ k, (T k ∨ k = w.heap.size) → k < w1.heap.size ∧ k ≠ g := fun k hk => by
          rcases hk with hk | rfl
          · have := hT k hk
            exact ⟨by omega, this.2⟩
          · exact ⟨by omega, by omega⟩
        clear hb1 hnm
        go_wp2_with fail
        refine (HPRE.out _ hP1 hT1).mono ?_
        rintro e w2 ⟨hb2, hkp2, hge2, herr, hok⟩
        have HB2 : Hid (Below base w w2) := Lib.hid ((HB1.out.mono hbase).trans hb2)
        have HK2 : Hid (KpT T w w2) := Lib.hid ((KpT.of_below HB1.out).trans HB1.out.size (hkp2.sub fun k hk => .inl hk))
        have HX2 : Hid (OwnB w.heap.size w w2 #[.string n1, .string n2] 44) := Lib.hid ⟨(hkp2 w.heap.size (by omega) (.inr rfl)).trans HK1.out.blk, Nat.le_refl _⟩
        clear hb2 hkp2 c0 c1 hP1 hT1 HPRE
        cases op with
        | error kk =>
          obtain rfl := herr kk rfl
          have hkn : (kk == 0) = false := by simpa using hnz kk rfl
          obtain rfl : .error kk = o := HE.out.symm
          clear herr hok hlen hnz
          go_wp2
          go_ret2
          exact PrOut.bad HB2.out HK2.out hge2
        | ok x =>
          obtain ⟨t, l'⟩ := x
          obtain ⟨rfl, hP2⟩ := hok t l' rfl
          have htl := hlen t l' rfl
          obtain rfl : .ok (t ++ 58 :: n2.data.toList, l') = o := HE.out.symm
          have hx : (mkT t ++ ⟨#[58]⟩) ++ n2 = mkT (t ++ 58 :: n2.data.toList) := by
            have e1 : n2 = mkT n2.data.toList := (to_list n2).symm
            conv => lhs; arg 2; rw [e1]
            rw [show (⟨#[58]⟩ : ByteArray) = mkT [58] from rfl, mkT_app, mkT_app]
            simp
          have c1 : w2.cell? ⟨w.heap.size, 1, none⟩ = some (.string n2) := HX2.out.cell 1
          have htz : (mkT t).size ≤ 8 := by rw [mkT_size]; exact htl
          have HPP := Lib.hid (hP2.sub (T' := T) fun k hk => .inl hk)
          have HX := Lib.hid hx
          clear herr hok hlen hnz hge2 hP2 htl hx HE
          generalize mkT t = P at *
          have z1 : ¬ 9223372036854775807 < P.size + 1 := by omega
          have z2 : ¬ 9223372036854775807 < P.size + 1 + n2.size := by omega
          go_wp2
          go_ret2
          have := PrOut.good (t := t ++ 58 :: n2.data.toList) HB2.out HK2.out HPP.out
          rw [← HX.out] at this
          exact this
set_option maxHeartbeats 4000000 in
set_option maxRecDepth 100000 in
theorem sattr_any (base g : Nat) (space n1 n2 : ByteArray) (sp : List ByteArray) (T : Nat → Prop) (w : World) (hP : PAt base g space sp T w) (hT : ∀ k, T k → k < w.heap.size ∧ k ≠ g) (hsp : SpB sp) (h1 : n1.size ≤ 1000000) (h2 : n2.size ≤ 1000000) :
    Calls Tryz.prog 105 #[.pointer (some ⟨g, 0, none⟩), .agg #[.string n1, .string n2]] w (PrOut (attrN (n1, n2) sp) base g space T w) := by
  have hgl := hP.lt
  have hbase : base ≤ w.heap.size := by omega
  have hk0 := OwnB.new0 w #[.string n1, .string n2] 44
  have hb0 := (Below.refl w.heap.size w).alloc (Nat.le_refl _) (.cells #[.string n1, .string n2] 44)
  have hnm := sname_any base g space n1 n2 sE sp T _ (hP.below hb0) (fun k hk => by have := hT k hk; have := hb0.size; exact ⟨by omega, (hT k hk).2⟩) hsp h1 h2
  have hlen := fun t l' (h : nameT (n1, n2) sE sp = .ok (t, l')) => (nameT_len h hsp.1).1
  have hnz := fun k (h : nameT (n1, n2) sE sp = .error k) => nameT_nz h
  unfold attrN
  obtain ⟨op, hop⟩ : ∃ op, nameT (n1, n2) sE sp = op := ⟨_, rfl⟩
  rw [hop] at hnm hlen hnz ⊢
  clear hop
  go_enter Tryz.func105, Tryz.ntmps105
  go_upto_region 1 with fail
  generalize w.alloc (.cells #[.string n1, .string n2] 44) = w0 at *
  have c0 : w0.cell? ⟨w.heap.size, 0, none⟩ = some (.string n1) := hk0.cell 0
  have c1 : w0.cell? ⟨w.heap.size, 1, none⟩ = some (.string n2) := hk0.cell 1
  go_wp2_with fail
  refine hnm.mono ?_
  rintro e w2 ⟨hb2, hkp2, hge2, herr, hok⟩
  have HB2 : Hid (Below base w w2) := Lib.hid ((hb0.mono hbase).trans hb2)
  have HK2 : Hid (KpT T w w2) := Lib.hid ((KpT.of_below hb0).trans hb0.size hkp2)
  clear hb2 hkp2 c0 c1 hnm
  cases op with
  | error kk =>
    obtain rfl := herr kk rfl
    have hkn : (kk == 0) = false := by simpa using hnz kk rfl
    clear herr hok hlen hnz
    go_wp2
    go_ret2
    exact PrOut.bad HB2.out HK2.out hge2
  | ok x =>
    obtain ⟨t, l'⟩ := x
    obtain ⟨rfl, hP2⟩ := hok t l' rfl
    have htl := hlen t l' rfl
    have htz : (mkT t).size ≤ 1000008 := by rw [mkT_size]; omega
    have HX := Lib.hid (show (⟨#[64]⟩ : ByteArray) ++ mkT t = mkT (64 :: t) from by rw [show (⟨#[64]⟩ : ByteArray) = mkT [64] from rfl, mkT_app]; rfl)
    have HPP := Lib.hid hP2
    clear herr hok hlen hnz hge2 hP2 htl
    generalize mkT t = P at *
    have z1 : ¬ 9223372036854775807 < 1 + P.size := by omega
    go_wp2
    go_ret2
    have := PrOut.good (t := 64 :: t) HB2.out HK2.out HPP.out
    rw [← HX.out] at this
    exact this
end Go.Proofs.YtbdamneophbnnaaGreatDoor
