/- UtfF LxTok3 TrR TrJ QnG QnH Mem2 QnI Shelf LeI LeQ LePlain2 LePlainU LeFit4 TrSa TrTa TrTb. -/
import Derived.Lib.Strings
import Derived.Test.YtlcjepnaljfpkaaProg
import Derived.Deep.RegionHeld2
import Derived.BigRegion
import Derived.Deep.AppendLies
import Derived.Deep.Draws
import Derived.Deep.Cut
import Derived.Deep.RegionLaw
import Derived.Test.YtlcjepnaljfpkaaRows
import Derived.DeepKeys4
import Derived.Shelf.Strings.Builder1
import Derived.Lib.Replace
import Derived.Lib.CountLaws
import Derived.Lib.IndexLaws
import Derived.Lib.IndexBytes
import Derived.Lib.ConvBytes
import Derived.Lib.AtoiErrMem
import Derived.Laws.Strings3
import Derived.Laws.Closers25
import Derived.Laws.Closers25b
import Derived.BigCall
import Derived.BigGuard
import Derived.Laws.BytesString
import Derived.Recover
import Derived.Laws.Pointers
import Derived.Deep.AppendSrc
import Derived.Laws.Strings
import Derived.Deep.DeepCutAuto
import Derived.Scope
import Derived.ScopeJumps
import Derived.WalkMore
import GoSem.Claim
import Derived.Deep.LoopGhost
import Derived.Lib.Fold
import Derived.Laws.RangeAny
import Derived.Laws.BitsAllLaws
import Derived.Shelf.GgClosure.StringsTrimFunc
import Derived.Lib.OthersKept
import Derived.Deep.QuietTactic
import Derived.BigQuiet
import Derived.KernelRfl
import Derived.Laws.StructEq
import Derived.Laws.Tables
import Derived.Test.YtlcjepnaljfpkaaQe1
import Derived.Test.YtlcjepnaljfpkaaQe2
namespace Go.Proofs.Ytlcjepnaljfpkaa
open Go.RowKit Wb
theorem runeS_dec (s : ByteArray) (p : Nat) (h : p < s.size) : runeS s p = dec (s.data.toList.drop p) := by
  unfold runeS
  rw [if_neg (by omega)]
  rfl
theorem drop_ne (s : ByteArray) (p : Nat) (h : p < s.size) : s.data.toList.drop p = s[p] :: s.data.toList.drop (p + 1) := drop_cons s p h
theorem chkL_cons (g : Nat) (c : UInt8) (l : List UInt8) (b : Int) : chkL (g + 1) (c :: l) b = if (dec (c :: l)).2 = 0 then b else chkL g ((c :: l).drop (dec (c :: l)).2.toNat) (b + (dec (c :: l)).2) := rfl
theorem nameL_cons' (g : Nat) (c : UInt8) (l : List UInt8) : nameL (g + 1) (c :: l) = if (dec (c :: l)).2 = 0 then false else partB (dec (c :: l)).1 && nameL g ((c :: l).drop (dec (c :: l)).2.toNat) := rfl
theorem chk_step (s : ByteArray) (p f m : Nat) (h : p < s.size) (hf : s.size - p ≤ f) (hm : (dec (s.data.toList.drop p)).2 = (m : Int)) (hm0 : m ≠ 0)
    (hc : chk s.data.toList = chkL f (s.data.toList.drop p) p) : s.size - (p + m) ≤ f - 1 ∧ chk s.data.toList = chkL (f - 1) (s.data.toList.drop (p + m)) ((p + m : Nat) : Int) := by
  refine ⟨by omega, ?_⟩
  rw [hc]
  obtain ⟨g, rfl⟩ : ∃ g, f = g + 1 := ⟨f - 1, by omega⟩
  have hd : (s.data.toList.drop p).drop m = s.data.toList.drop (p + m) := by rw [List.drop_drop]
  have hl := drop_ne s p h
  rw [hl] at hm hd ⊢
  have e : ((p + m : Nat) : Int) = (p : Int) + (m : Int) := by omega
  rw [Nat.add_sub_cancel, chkL_cons, if_neg (by omega), hm, Int.toNat_natCast, hd, e]
theorem chk_stop (s : ByteArray) (p f : Nat) (h : p < s.size) (hf : s.size - p ≤ f) (hm : (dec (s.data.toList.drop p)).2 = 0)
    (hc : chk s.data.toList = chkL f (s.data.toList.drop p) p) : chk s.data.toList = p := by
  rw [hc]
  obtain ⟨g, rfl⟩ : ∃ g, f = g + 1 := ⟨f - 1, by omega⟩
  have hl := drop_ne s p h
  rw [hl] at hm ⊢
  rw [chkL_cons, if_pos hm]
theorem chk_end (s : ByteArray) (p f : Nat) (h : ¬ p < s.size) (hc : chk s.data.toList = chkL f (s.data.toList.drop p) p) : chk s.data.toList = -1 := by
  rw [hc, List.drop_eq_nil_of_le (by simp; omega)]
  cases f <;> rfl
theorem name_step (s : ByteArray) (p f m : Nat) (b : Bool) (h : p < s.size) (hf : s.size - p ≤ f) (hm : (dec (s.data.toList.drop p)).2 = (m : Int)) (hm0 : m ≠ 0) (hp : partB (dec (s.data.toList.drop p)).1 = true)
    (hc : b = nameL f (s.data.toList.drop p)) : s.size - (p + m) ≤ f - 1 ∧ b = nameL (f - 1) (s.data.toList.drop (p + m)) := by
  refine ⟨by omega, ?_⟩
  rw [hc]
  obtain ⟨g, rfl⟩ : ∃ g, f = g + 1 := ⟨f - 1, by omega⟩
  have hd : (s.data.toList.drop p).drop m = s.data.toList.drop (p + m) := by rw [List.drop_drop]
  have hl := drop_ne s p h
  rw [hl] at hm hd hp ⊢
  rw [Nat.add_sub_cancel, nameL_cons', if_neg (by omega), hm, Int.toNat_natCast, hd, hp, Bool.true_and]
theorem name_stop (s : ByteArray) (p f : Nat) (b : Bool) (h : p < s.size) (hf : s.size - p ≤ f) (hm : (dec (s.data.toList.drop p)).2 = 0 ∨ partB (dec (s.data.toList.drop p)).1 = false)
    (hc : b = nameL f (s.data.toList.drop p)) : b = false := by
  rw [hc]
  obtain ⟨g, rfl⟩ : ∃ g, f = g + 1 := ⟨f - 1, by omega⟩
  have hl := drop_ne s p h
  rw [hl] at hm ⊢
  rw [nameL_cons']
  split
  · rfl
  · rcases hm with hm | hm
    · contradiction
    · rw [hm]; rfl
theorem name_end (s : ByteArray) (p f : Nat) (b : Bool) (h : ¬ p < s.size) (hc : b = nameL f (s.data.toList.drop p)) : b = true := by
  rw [hc, List.drop_eq_nil_of_le (by simp; omega)]
  cases f <;> rfl
set_option maxHeartbeats 400000 in
theorem check_any (s : ByteArray) (w : World) (hs : s.size ≤ 1000000000) :
    Calls Try.prog 61 #[.string s] w fun e w' => e = .returned (.int .i64 (chk s.data.toList)) ∧ Below w.heap.size w w' := by
  go_enter Try.func61, Try.ntmps61
  go_wp2
  go_loopw [3] (fun i wr => ∃ p f : Nat, p ≤ s.size ∧ i = .int .i64 p ∧ Hid (s.size - p ≤ f) ∧ Hid (chk s.data.toList = chkL f (s.data.toList.drop p) p) ∧ Below w.heap.size w wr) (fun i _ => s.size - (intOf i).toNat)
  case atStart => exact ⟨0, s.data.toList.length, by omega, rfl, Lib.hid (by simp), Lib.hid rfl, Below.refl _ _⟩
  case round =>
    obtain ⟨p, f, hp, rfl, HF, HC, hbel⟩ := hrel
    by_cases hlt : p < s.size
    · obtain ⟨b0, b4, bl⟩ := dec_bd (s.data.toList.drop p)
      obtain ⟨m, hm⟩ := Int.eq_ofNat_of_zero_le b0
      rw [hm] at bl
      have hle : p + m ≤ s.size := by simp at bl; omega
      have HM := Lib.hid hm
      have HR := Lib.hid (runeS_dec s p hlt)
      clear hm b0 b4 bl
      go_wp2_with fail
      refine (rune_any s p _ hs).mono ?_
      rw [HR.out, HM.out]
      rintro e w1 ⟨rfl, hb1⟩
      have hbw := hbel.trans (hb1.mono hbel.size)
      by_cases h0 : m = 0
      · subst h0
        go_wp2
        go_ret
        exact ⟨ret_i (by rw [chk_stop s p f hlt HF.out HM.out HC.out]), hbw⟩
      · have hne : ((m : Int) == 0) = false := by simpa using h0
        have hst := chk_step s p f m hlt HF.out HM.out h0 HC.out
        have H1 := Lib.hid hst.1
        have H2 := Lib.hid hst.2
        clear hst
        go_wp2
        go_roundw
        case rel => exact ⟨p + m, f - 1, hle, by go_num, H1, H2, hbw⟩
        case measure => simp [intOf]; omega
    · go_wp2
      go_ret
      exact ⟨ret_i (by rw [chk_end s p f hlt HC.out]), hbel⟩
set_option maxHeartbeats 400000 in
theorem name_any (s : ByteArray) (w : World) (hs : s.size ≤ 1000000000) :
    Calls Try.prog 57 #[.string s] w fun e w' => e = .returned (.bool (nameB s.data.toList)) ∧ Below w.heap.size w w' := by
  have HN := Lib.hid (show nameB s.data.toList = (decide (s.data.toList.length ≤ 64) && (decide ((dec s.data.toList).2 ≠ 0) && (startB (dec s.data.toList).1 && nameL s.data.toList.length (s.data.toList.drop (dec s.data.toList).2.toNat)))) from rfl)
  have hlen : s.data.toList.length = s.size := by simp
  rw [hlen] at HN
  clear hlen
  by_cases h64 : 64 < s.size
  · go_enter Try.func57, Try.ntmps57
    go_wp2
    go_ret
    refine ⟨ret_b ?_, Below.refl _ _⟩
    rw [HN.out, decide_eq_false (by omega)]
    rfl
  · have HR : Hid (runeS s 0 = dec s.data.toList) := by
      by_cases h0 : 0 < s.size
      · have := runeS_dec s 0 h0
        simpa using Lib.hid this
      · have : s.data.toList = [] := List.eq_nil_of_length_eq_zero (by rw [show s.data.toList.length = s.size by simp]; omega)
        unfold runeS
        rw [if_pos (by omega), this]
        exact Lib.hid rfl
    obtain ⟨b0, b4, bl⟩ := dec_bd s.data.toList
    obtain ⟨r, k, hd⟩ := dec_pair s.data.toList
    rw [hd] at HR HN b0 bl
    obtain ⟨m, rfl⟩ := Int.eq_ofNat_of_zero_le (show 0 ≤ k from b0)
    have hm : m ≤ s.size := by simpa using bl
    clear b0 b4 bl hd
    go_enter Try.func57, Try.ntmps57
    go_wp2_with fail
    refine (rune_any s 0 _ hs).mono ?_
    rw [HR.out]
    rintro e w1 ⟨rfl, hb1⟩
    by_cases h0 : m = 0
    · subst h0
      go_wp2
      go_ret
      refine ⟨ret_b ?_, hb1⟩
      rw [HN.out]
      simp
    · have hne : ((m : Int) == 0) = false := by simpa using h0
      go_wp2_with fail
      refine (start_any r _).mono ?_
      cases hst : startB r
      · rw [hst] at HN
        clear hst
        rintro e w2 ⟨rfl, hb2⟩
        have hbw := hb1.trans (hb2.mono hb1.size)
        go_wp2
        go_ret
        refine ⟨ret_b ?_, hbw⟩
        rw [HN.out]
        simp
      · have HN' : Hid (nameB s.data.toList = nameL s.size (s.data.toList.drop m)) := by
          refine Lib.hid ?_
          rw [HN.out, hst, decide_eq_true (show s.size ≤ 64 by omega), decide_eq_true (show ¬ (m : Int) = 0 by omega)]
          rfl
        clear hst HN
        rintro e w2 ⟨rfl, hb2⟩
        have hbw := hb1.trans (hb2.mono hb1.size)
        go_wp2
        go_loopw [5] (fun i wr => ∃ p f : Nat, p ≤ s.size ∧ i = .int .i64 p ∧ Hid (s.size - p ≤ f) ∧ Hid (nameB s.data.toList = nameL f (s.data.toList.drop p)) ∧ Below w.heap.size w wr) (fun i _ => s.size - (intOf i).toNat)
        case atStart => exact ⟨m, s.size, hm, rfl, Lib.hid (by omega), HN', hbw⟩
        case round =>
          obtain ⟨p, f, hp, rfl, HF, HC, hbel⟩ := hrel
          clear HR hm hne h0
          by_cases hlt : p < s.size
          · obtain ⟨b0, b4, bl⟩ := dec_bd (s.data.toList.drop p)
            obtain ⟨r', k, hd⟩ := dec_pair (s.data.toList.drop p)
            have HD := Lib.hid hd
            rw [hd] at b0 bl
            obtain ⟨m', rfl⟩ := Int.eq_ofNat_of_zero_le (show 0 ≤ k from b0)
            have hle : p + m' ≤ s.size := by simp at bl; omega
            have HR := Lib.hid (runeS_dec s p hlt)
            clear b0 b4 bl hd
            go_wp2_with fail
            refine (rune_any s p _ hs).mono ?_
            rw [HR.out, HD.out]
            rintro e w3 ⟨rfl, hb3⟩
            have hbw3 := hbel.trans (hb3.mono hbel.size)
            by_cases h0 : m' = 0
            · subst h0
              go_wp2
              go_ret
              exact ⟨ret_b (name_stop s p f _ hlt HF.out (.inl (by rw [HD.out]; rfl)) HC.out).symm, hbw3⟩
            · have hne : ((m' : Int) == 0) = false := by simpa using h0
              go_wp2_with fail
              refine (part_any r' _).mono ?_
              cases hpt : partB r'
              · have HP := Lib.hid hpt
                clear hpt
                rintro e w4 ⟨rfl, hb4⟩
                have hbw4 := hbw3.trans (hb4.mono hbw3.size)
                go_wp2
                go_ret
                exact ⟨ret_b (name_stop s p f _ hlt HF.out (.inr (by rw [HD.out]; exact HP.out)) HC.out).symm, hbw4⟩
              · have hst := name_step s p f m' _ hlt HF.out (by rw [HD.out]) h0 (by rw [HD.out]; exact hpt) HC.out
                have H1 := Lib.hid hst.1
                have H2 := Lib.hid hst.2
                clear hst hpt
                rintro e w4 ⟨rfl, hb4⟩
                have hbw4 := hbw3.trans (hb4.mono hbw3.size)
                go_wp2
                go_roundw
                case rel => exact ⟨p + m', f - 1, hle, by go_num, H1, H2, hbw4⟩
                case measure => simp [intOf]; omega
          · go_wp2
            go_ret
            exact ⟨ret_b (name_end s p f _ hlt HC.out).symm, hbel⟩
end Go.Proofs.Ytlcjepnaljfpkaa
namespace Wb
def TxtOK (l : List UInt8) : Prop := ∃ ns : List Int, (∀ n ∈ ns, charB n = true) ∧ l = ns.flatMap enc
end Wb
namespace Wb
def TxtB (s : ByteArray) : Prop := TxtOK s.data.toList
def nameOK (n : Pr) : Prop := nameB n.2.data.toList = true ∧ TxtB n.1 ∧ n.1 ≠ sXMLNS
def attrsOK (l : List Tr) : Prop := l.length ≤ 32 ∧ (l.map (·.1)).Pairwise (· ≠ ·) ∧ ∀ a ∈ l, nameOK a.1 ∧ a.1 ≠ (sE, sXmlns) ∧ TxtB a.2
mutual
/-- A node asz it must be that stands so deep, but for how many there are. -/
def okN : Nat → Nd → Prop
  | d, .mk k n asz ks t => (k = 1 ∧ d ≤ 24 ∧ t = sE ∧ nameOK n ∧ attrsOK asz ∧ okKs (d + 1) 0 ks) ∨ (k = 2 ∧ t ≠ sE ∧ TxtB t ∧ n = (sE, sE) ∧ asz = [] ∧ ks = [])
def okKs : Nat → Int → List Nd → Prop
  | _, _, [] => True
  | d, ahead, k :: ks => ¬ (ahead = 2 ∧ k.kind = 2) ∧ okN d k ∧ okKs d k.kind ks
end
theorem last_cases {α : Type} (l : List α) : l = [] ∨ ∃ m x, l = m ++ [x] := by
  rcases List.eq_nil_or_concat l with h | ⟨m, x, h⟩
  · exact .inl h
  · exact .inr ⟨m, x, by simpa using h⟩
end Wb
namespace Go.Proofs.Ytlcjepnaljfpkaa
open Go.RowKit Wb
section
variable {base B : Nat} {ov : Value} {rc : List Value} {w : World}
theorem node_info : (Try.prog.info? 27).map (fun i => (i.zero, i.size, i.bytes)) = some (some (.agg #[.int .i64 0, .string ⟨#[]⟩, .string ⟨#[]⟩, .slice none 0 0, .slice none 0 0, .string ⟨#[]⟩]), 6, 104) := by kernel_rfl
end
end Go.Proofs.Ytlcjepnaljfpkaa
namespace Go.Proofs.Ytlcjepnaljfpkaa
open Go.RowKit Wb
set_option maxHeartbeats 1000000 in
theorem same_same (A B : Option Addr) (l : List Tr) (c d : Nat) (w : World) (hl : l.length ≤ 1000000) (hA : Sl3 w A l) (hB : Sl3 w B l) :
    Calls Try.prog 33 #[.slice A l.length c, .slice B l.length d] w fun e w' => e = .returned (.bool true) ∧ Below w.heap.size w w' := by
  go_enter Try.func33, Try.ntmps33
  go_wp2
  go_loopw [5] (fun i wr => ∃ k : Nat, k ≤ l.length ∧ i = .int .i64 k ∧ Below w.heap.size w wr) (fun i _ => ((l.length : Int) - intOf i).toNat)
  case atStart => exact ⟨0, by omega, rfl, Below.refl _ _⟩
  case round =>
    obtain ⟨k, hk, rfl, hb⟩ := hrel
    by_cases h0 : k < l.length
    · obtain ⟨⟨⟨x1, x2⟩, x3⟩, he⟩ : ∃ x, l[k]? = some x := ⟨l[k], List.getElem?_eq_getElem (by omega)⟩
      obtain ⟨ad, rfl, _, c1, c2, c3⟩ := (hA.below hb).at_ he
      obtain ⟨bd, rfl, _, d1, d2, d3⟩ := (hB.below hb).at_ he
      clear he
      go_wp2
      go_region
      go_wp2
      go_roundw
      case rel => exact ⟨k + 1, by omega, by go_num, hb.drew⟩
      case measure => simp [intOf]; omega
    · go_wp2
      go_ret
      exact ⟨rfl, hb⟩
end Go.Proofs.Ytlcjepnaljfpkaa
namespace Go.Proofs.Ytlcjepnaljfpkaa
open Go.RowKit Wb Go.Maps
set_option maxRecDepth 1000000 in
theorem laidOut : laidOutB Try.prog = true := by kernel_rfl
theorem name_row : (23 : TypeId) < Try.prog.types.size := of_decide_eq_true (by kernel_rfl)
theorem name_wide : (match Try.prog.underlying 23 with | some (.array _ _) | some (.struct _) => true | _ => false) = true := by kernel_rfl
set_option maxRecDepth 1000000 in
theorem name_law : Keyed Try.prog 23 := Keyed.of_law (deep_law_laid laidOut (m := 3) (by omega) name_row (by kernel_rfl) name_wide)
theorem name_kt : Try.prog.keyType 23 = true := by kernel_rfl
theorem name_cells : Try.prog.cellsOf 23 = 2 := by kernel_rfl
def litN (x : Pr) : Lit := .string (keyBytes [.string x.1.data.toList, .string x.2.data.toList])
theorem str_cells : Try.prog.cellsOf 9 = 1 := by kernel_rfl
theorem many_types : (2 : Nat) ≤ Try.prog.types.size := of_decide_eq_true (by kernel_rfl)
theorem key_str (m : Nat) (s : ByteArray) (h : s.size ≤ maxLen) : Try.prog.keyLits (m + 1) 9 [.string s] = some [.string s.data.toList] := by
  unfold Program.keyLits
  rw [Try.underlying9]
  simp [h]
theorem name_key (x : Pr) (h1 : x.1.size ≤ maxLen) (h2 : x.2.size ≤ maxLen) : keyOf Try.prog 23 (.agg #[.string x.1, .string x.2]) = some (litN x) := by
  have hf : (Value.agg #[.string x.1, .string x.2]).formed Try.prog 23 = true := by
    simp [Value.formed, Try.underlying23, name_cells]
  unfold keyOf
  rw [Try.underlying23]
  simp only [name_kt, hf, Bool.and_self, if_true]
  obtain ⟨m, hm⟩ : ∃ m, Try.prog.types.size + 1 = m + 2 := ⟨Try.prog.types.size - 1, by have := many_types; omega⟩
  rw [hm]
  unfold Program.keyLits
  rw [Try.underlying23]
  simp [Value.cells, name_cells, str_cells, key_str _ _ h1, key_str _ _ h2, litN]
theorem litN_inj {x y : Pr} (h1 : x.1.size ≤ maxLen) (h2 : x.2.size ≤ maxLen) (h3 : y.1.size ≤ maxLen) (h4 : y.2.size ≤ maxLen) (h : litN x = litN y) : x = y := by
  have := name_law.inj (name_key x h1 h2) (h ▸ name_key y h3 h4)
  simp only [Value.agg.injEq, Array.mk.injEq, List.cons.injEq, Value.string.injEq, and_true] at this
  exact Prod.ext this.1 this.2
theorem zero_unit (w : World) : (zeroValue 84).run Try.prog w = .ok (.agg #[]) w := by kernel_rfl
end Go.Proofs.Ytlcjepnaljfpkaa
namespace Wb
open Go Go.RowKit
theorem own_below {w w2 : World} {base sz n : Nat} {e : TypeId} {v : Value} {xs : List Value} (h : w.ownsRow base e sz v n xs) (hb : Below w.heap.size w w2) : w2.ownsRow base e sz v n xs := by
  refine ⟨h.1, ?_⟩
  rcases h.2 with hn | ⟨g, cap, cur, rfl, hbg, hg, rest⟩
  · exact .inl hn
  · exact .inr ⟨g, cap, cur, rfl, hbg, still_block hg hb, rest⟩
theorem grown_block {w w2 : World} {g : Nat} {o : Obj} {row : Option Nat} (h : w.heap[g]? = some o) (hg : w.grownBy w2 row) (hne : some g ≠ row) : w2.heap[g]? = some o :=
  (hg.block g (Array.getElem?_eq_some_iff.1 h).1 hne).trans h
end Wb
namespace Go.Proofs.Ytlcjepnaljfpkaa
open Go.RowKit Wb Go.Maps
theorem attr_info : (Try.prog.info? 29).map (fun i => (i.zero, i.size, i.bytes)) = some (some (.agg #[.string ⟨#[]⟩, .string ⟨#[]⟩, .string ⟨#[]⟩]), 3, 48) := by kernel_rfl
end Go.Proofs.Ytlcjepnaljfpkaa
namespace Go.Proofs
open Go.Shelf
def Try.lays169_ren : Go.Shelf.Ren := ⟨fun | 169 => 59 | n => n, fun | 70 => 86 | 9 => 9 | 0 => 0 | 72 => 89 | 37 => 87 | 127 => 100 | 3 => 3 | 5 => 5 | n => n, fun | n => n⟩
theorem Try.lays169 : Go.Proofs.Lays.n169 Try.prog Try.lays169_ren := {
  mixed := by kernel_rfl
  f169 := Try.func59.trans (congrArg some (by kernel_rfl))
  t0 := Try.underlying0
  a0 := Try.isAgg0
  z0 := Try.sizeOf0
  v0 := Try.zeroValue0
  t3 := Try.underlying3
  a3 := Try.isAgg3
  z3 := Try.sizeOf3
  v3 := Try.zeroValue3
  t9 := Try.underlying9
  a9 := Try.isAgg9
  z9 := Try.sizeOf9
  v9 := Try.zeroValue9
  t37 := Try.underlying87
  a37 := Try.isAgg87
  z37 := Try.sizeOf87
  v37 := Try.zeroValue87
  t70 := Try.underlying86
  a70 := Try.isAgg86
  z70 := Try.sizeOf86
  v70 := Try.zeroValue86
  t72 := Try.underlying89
  a72 := Try.isAgg89
  z72 := Try.sizeOf89
  v72 := Try.zeroValue89
  t127 := Try.underlying100
  a127 := Try.isAgg100
  z127 := Try.sizeOf100
  v127 := Try.zeroValue100 }
theorem Try.Builder_Extra_169 : Builder.Extra Try.prog Try.lays169_ren := {
  sizeBuilder := by kernel_rfl
  liesBuilder := by kernel_rfl
  t5 := Try.underlying5
  a5 := Try.isAgg5
  z5 := Try.sizeOf5
  v5 := Try.zeroValue5
  infoByte := by kernel_rfl
  cellsByte := by kernel_rfl
  sizeByte := by kernel_rfl
  neB5 := by decide }
open Go.RowKit in
theorem Try.Builder_String_any (B b : Nat) (l : List UInt8) (w : World) (h : Lib.IsBuilder 89 5 B b (Lib.byteCells l) w) (hBw : B ≤ w.heap.size) :
    Calls Try.prog 59 #[.pointer (some ⟨b, 0, none⟩)] w fun e w' => e = .returned (.string ⟨l.toArray⟩) ∧ Below B w w' := Any.Builder_String_any Try.lays169 Try.Builder_Extra_169 B b l w h hBw
end Go.Proofs
namespace Go.Proofs.Ytlcjepnaljfpkaa
open Go.RowKit Wb
theorem toL (l : List UInt8) : (⟨l.toArray⟩ : ByteArray).data.toList = l := rfl
theorem isb_below {T e : TypeId} {B b : Nat} {bs : List Value} {w w' : World} (h : Lib.IsBuilder T e B b bs w) (hb : Below w.heap.size w w') : Lib.IsBuilder T e B b bs w' := by
  have k : ∀ p, Lib.BuilderAt T e B b p bs w → Lib.BuilderAt T e B b p bs w' := by
    rintro p ⟨h1, v, h2, h3, h4⟩
    exact ⟨h1, v, still_block h2 hb, own_below h3 hb, h4⟩
  exact h.imp (k _) (k _)
end Go.Proofs.Ytlcjepnaljfpkaa
namespace Go.Proofs.Ytlcjepnaljfpkaa
open Go.RowKit Wb
theorem own_blk_ne {w : World} {base sz n g : Nat} {e t : TypeId} {v : Value} {xs : List Value} {cs : Array Value} {fr : Nat × Nat} (h : w.ownsRow base e sz v n xs) (hb : w.heap[g]? = some (.cells cs t fr)) (hne : t ≠ e) : v.ownBlock ≠ some g := by
  intro hv
  rcases h.2 with ⟨rfl, _⟩ | ⟨k, cap, cur, rfl, _, hk, _⟩
  · simp [Value.ownBlock] at hv
  · simp [Value.ownBlock] at hv
    subst hv
    rw [hb] at hk
    injection hk with hk
    injection hk with _ ht
    exact hne ht
section
variable {w0 w w' : World} {D : Nat} {s : ByteArray} {fr at_ T : Nat} {k : Int} {x : ByteArray} {acc : List Pr}
end
end Go.Proofs.Ytlcjepnaljfpkaa
namespace Wb
def decU (l : List UInt8) : Nat × Nat := if (dec l).2 = 0 then (65533, 1) else ((dec l).1.toNat, (dec l).2.toNat)
def decL (b0 : Nat) (l : List UInt8) : Nat × Nat :=
  let a (k : Nat) : Nat := (l[k]?.getD 0).toNat
  let cont (k : Nat) : Bool := decide (k < l.length) && a k / 64 == 2
  if b0 < 0x80 then (b0, 1)
  else if b0 / 32 == 6 && cont 0 then
    let c := (b0 % 32) * 64 + a 0 % 64
    if c ≥ 0x80 then (c, 2) else (65533, 1)
  else if b0 / 16 == 14 && cont 0 && cont 1 then
    let c := (b0 % 16) * 4096 + (a 0 % 64) * 64 + a 1 % 64
    if c ≥ 0x800 && Go.Utf8.valid c then (c, 3) else (65533, 1)
  else if b0 / 8 == 30 && cont 0 && cont 1 && cont 2 then
    let c := (b0 % 8) * 262144 + (a 0 % 64) * 4096 + (a 1 % 64) * 64 + a 2 % 64
    if c ≥ 0x10000 && Go.Utf8.valid c then (c, 4) else (65533, 1)
  else (65533, 1)
theorem get_bang (s : ByteArray) (j : Nat) : s.get! j = (s.data.toList[j]?).getD 0 := by
  show s.data[j]! = _
  rw [getElem!_def, ← Array.getElem?_toList]
  cases s.data.toList[j]? <;> rfl
theorem decode_L (s : ByteArray) (i : Nat) (c : UInt8) (l : List UInt8) (h : s.data.toList.drop i = c :: l) : Go.Utf8.decode s i = decL c.toNat l := by
  have hs : s.size = s.data.toList.length := by simp
  have hlen : i + (l.length + 1) = s.size := by
    have := congrArg List.length h
    rw [List.length_drop] at this
    simp only [List.length_cons] at this
    omega
  have ha : ∀ k, (s.get! (i + k)) = ((c :: l)[k]?).getD 0 := by
    intro k
    rw [get_bang, ← h, List.getElem?_drop]
  have h0 : (s.get! (i + 0)) = c := by rw [ha]; rfl
  have h1 : (s.get! (i + 1)) = (l[0]?).getD 0 := by rw [ha]; rfl
  have h2 : (s.get! (i + 2)) = (l[1]?).getD 0 := by rw [ha]; rfl
  have h3 : (s.get! (i + 3)) = (l[2]?).getD 0 := by rw [ha]; rfl
  have l1 : decide (i + 1 < s.size) = decide (0 < l.length) := decide_eq_decide.2 (by omega)
  have l2 : decide (i + 2 < s.size) = decide (1 < l.length) := decide_eq_decide.2 (by omega)
  have l3 : decide (i + 3 < s.size) = decide (2 < l.length) := decide_eq_decide.2 (by omega)
  unfold Go.Utf8.decode decL Go.Utf8.runeError
  simp only [h0, h1, h2, h3, l1, l2, l3]
theorem valid_sgn (r : Int) : Go.Utf8.valid r = sgn r := by
  unfold Go.Utf8.valid sgn
  rw [Bool.eq_iff_iff]
  simp only [Bool.or_eq_true, Bool.and_eq_true, decide_eq_true_eq]
  omega
theorem decU_zero {c : UInt8} {l : List UInt8} (h : fsz c.toNat = 0) : decU (c :: l) = (65533, 1) := by
  unfold decU dec
  simp only [h, if_pos]
theorem decU_none {c : UInt8} {l : List UInt8} {k : Nat} (h : fsz c.toNat = k) (hk : k ≠ 0) (hn : decN (fbt c.toNat) (k - 1) l = none) : decU (c :: l) = (65533, 1) := by
  have e : dec (c :: l) = (0, 0) := by
    unfold dec
    simp only [h, Int.toNat_natCast, hn]
    rw [if_neg (by omega)]
  unfold decU
  rw [e]
  rfl
theorem decU_some {c : UInt8} {l : List UInt8} {k : Nat} {r : Int} (h : fsz c.toNat = k) (hk : k ≠ 0) (hn : decN (fbt c.toNat) (k - 1) l = some r) : decU (c :: l) = if slen r = k then (r.toNat, k) else (65533, 1) := by
  have e : dec (c :: l) = if slen r = k then (r, (k : Int)) else (0, 0) := by
    unfold dec
    simp only [h, Int.toNat_natCast, hn]
    rw [if_neg (by omega)]
  unfold decU
  rw [e]
  by_cases hs : slen r = k
  · simp only [if_pos hs]
    rw [if_neg (by omega)]
    simp
  · simp only [if_neg hs]
    rfl
theorem decN_one (r : Int) (l : List UInt8) : decN r 1 l = if (decide (0 < l.length) && (l[0]?.getD 0).toNat / 64 == 2) = true then some (r * 64 + ((l[0]?.getD 0).toNat % 64 : Nat)) else none := by
  cases l with
  | nil => rfl
  | cons d l =>
    by_cases g : d.toNat / 64 = 2
    · simp [decN, g, show ((d.toNat : Int) / 64 = 2) from by omega]
    · simp [decN, g, show ¬ ((d.toNat : Int) / 64 = 2) from by omega]
theorem decN_more (r : Int) (k : Nat) (l : List UInt8) : decN r (k + 1) l = if (decide (0 < l.length) && (l[0]?.getD 0).toNat / 64 == 2) = true then decN (r * 64 + ((l[0]?.getD 0).toNat % 64 : Nat)) k (l.drop 1) else none := by
  cases l with
  | nil => rfl
  | cons d l =>
    by_cases g : d.toNat / 64 = 2
    · simp [decN, g, show ((d.toNat : Int) / 64 = 2) from by omega]
    · simp [decN, g, show ¬ ((d.toNat : Int) / 64 = 2) from by omega]
theorem drop1 (l : List UInt8) (k : Nat) : (l.drop 1)[k]? = l[k + 1]? := by rw [List.getElem?_drop, Nat.add_comm]
theorem dropl (l : List UInt8) (k : Nat) : decide (k < (l.drop 1).length) = decide (k + 1 < l.length) := decide_eq_decide.2 (by rw [List.length_drop]; omega)
theorem slen_is (v : Nat) : slen v = if sgn v = true then (if v < 128 then 1 else if v < 2048 then 2 else if v < 65536 then 3 else 4) else 0 := by
  have e1 : ((v : Int) < 128) = (v < 128) := propext (by omega)
  have e2 : ((v : Int) < 2048) = (v < 2048) := propext (by omega)
  have e3 : ((v : Int) < 65536) = (v < 65536) := propext (by omega)
  unfold slen
  simp only [e1, e2, e3]
theorem fin2 (v : Nat) (hv : v < 2048) : (if v ≥ 128 then (v, 2) else (65533, 1)) = if slen v = (2 : Nat) then ((v : Int).toNat, 2) else (65533, 1) := by
  have hs : sgn v = true := (sgn_iff _).2 (by omega)
  rw [slen_is, if_pos hs]
  by_cases h : v < 128
  · rw [if_pos h, if_neg (by omega), if_neg (by omega)]
  · have e : (if v < 128 then (1 : Int) else if v < 2048 then 2 else if v < 65536 then 3 else 4) = (2 : Nat) := by rw [if_neg h, if_pos hv]; rfl
    rw [if_pos e, if_pos (by omega)]
    rfl
theorem fin3 (v : Nat) (hv : v < 65536) : (if (decide (v ≥ 2048) && Go.Utf8.valid v) = true then (v, 3) else (65533, 1)) = if slen v = (3 : Nat) then ((v : Int).toNat, 3) else (65533, 1) := by
  rw [valid_sgn, slen_is]
  by_cases hs : sgn v = true
  · rw [if_pos hs, hs, Bool.and_true]
    by_cases h : v < 2048
    · rw [decide_eq_false (by omega), if_neg (by decide), if_neg]
      split
      · omega
      · omega
    · have e : (if v < 128 then (1 : Int) else if v < 2048 then 2 else if v < 65536 then 3 else 4) = (3 : Nat) := by rw [if_neg (by omega), if_neg h, if_pos hv]; rfl
      rw [decide_eq_true (by omega), if_pos rfl, if_pos e]
      rfl
  · rw [if_neg hs, Bool.eq_false_iff.2 hs, Bool.and_false, if_neg (by decide), if_neg (by omega)]
theorem fin4 (v : Nat) : (if (decide (v ≥ 65536) && Go.Utf8.valid v) = true then (v, 4) else (65533, 1)) = if slen v = (4 : Nat) then ((v : Int).toNat, 4) else (65533, 1) := by
  rw [valid_sgn, slen_is]
  by_cases hs : sgn v = true
  · rw [if_pos hs, hs, Bool.and_true]
    by_cases h : v < 65536
    · rw [decide_eq_false (by omega), if_neg (by decide), if_neg]
      split
      · omega
      · split <;> omega
    · have e : (if v < 128 then (1 : Int) else if v < 2048 then 2 else if v < 65536 then 3 else 4) = (4 : Nat) := by rw [if_neg (by omega), if_neg (by omega), if_neg h]; rfl
      rw [decide_eq_true (by omega), if_pos rfl, if_pos e]
      rfl
  · rw [if_neg hs, Bool.eq_false_iff.2 hs, Bool.and_false, if_neg (by decide), if_neg (by omega)]
theorem arith3 (a b c : Nat) : ((a : Int) * 64 + (b : Nat)) * 64 + (c : Nat) = ((a * 4096 + b * 64 + c : Nat) : Int) := by omega
theorem arith4 (a b c d : Nat) : (((a : Int) * 64 + (b : Nat)) * 64 + (c : Nat)) * 64 + (d : Nat) = ((a * 262144 + b * 4096 + c * 64 + d : Nat) : Int) := by omega
theorem decL_U (c : UInt8) (l : List UInt8) : decL c.toNat l = decU (c :: l) := by
  have hc := c.toNat_lt
  by_cases h1 : c.toNat < 128
  · have hf : fsz c.toNat = (1 : Nat) := by unfold fsz; rw [if_pos (by omega)]; rfl
    have hb : fbt c.toNat = c.toNat := by unfold fbt; rw [if_pos (by omega)]
    have hl : slen c.toNat = (1 : Nat) := by unfold slen; rw [if_pos ((sgn_iff _).2 (by omega)), if_pos (by omega)]; rfl
    rw [decU_some hf (by omega) (r := c.toNat) (by rw [hb]; rfl), if_pos hl]
    unfold decL
    simp [h1]
  · by_cases h2 : c.toNat / 32 = 6
    · have hf : fsz c.toNat = (2 : Nat) := by unfold fsz; rw [if_neg (by omega), if_pos (by omega)]; rfl
      have hb : fbt c.toNat = (c.toNat % 32 : Nat) := by unfold fbt; rw [if_neg (by omega), if_pos (by omega)]; omega
      unfold decL
      simp only [if_neg h1, h2, beq_self_eq_true, Bool.true_and]
      have hn := decN_one (c.toNat % 32 : Nat) l
      by_cases g1 : (decide (0 < l.length) && (l[0]?.getD 0).toNat / 64 == 2) = true
      · rw [if_pos g1] at hn ⊢
        rw [decU_some hf (by omega) (r := (c.toNat % 32 * 64 + (l[0]?.getD 0).toNat % 64 : Nat)) (by rw [hb, hn]; congr 1), fin2 _ (by omega)]
      · rw [if_neg g1] at hn ⊢
        rw [decU_none hf (by omega) (by rw [hb]; exact hn)]
        simp [show ¬ c.toNat / 16 = 14 from by omega, show ¬ c.toNat / 8 = 30 from by omega]
    · by_cases h3 : c.toNat / 16 = 14
      · have hf : fsz c.toNat = (3 : Nat) := by unfold fsz; rw [if_neg (by omega), if_neg (by omega), if_pos (by omega)]; rfl
        have hb : fbt c.toNat = (c.toNat % 16 : Nat) := by unfold fbt; rw [if_neg (by omega), if_neg (by omega), if_pos (by omega)]; omega
        unfold decL
        simp only [if_neg h1, h3, beq_self_eq_true, Bool.true_and]
        rw [if_neg (by simp [h2])]
        have hn := decN_more (c.toNat % 16 : Nat) 1 l
        rw [decN_one, drop1, dropl] at hn
        by_cases g1 : (decide (0 < l.length) && (l[0]?.getD 0).toNat / 64 == 2) = true
        · rw [if_pos g1] at hn
          rw [g1, Bool.true_and]
          by_cases g2 : (decide (0 + 1 < l.length) && (l[0 + 1]?.getD 0).toNat / 64 == 2) = true
          · rw [if_pos g2] at hn
            rw [if_pos g2, decU_some hf (by omega) (r := (c.toNat % 16 * 4096 + (l[0]?.getD 0).toNat % 64 * 64 + (l[1]?.getD 0).toNat % 64 : Nat)) (by rw [hb, hn]; exact congrArg some (arith3 _ _ _)), fin3 _ (by omega)]
          · rw [if_neg g2] at hn
            rw [if_neg g2, decU_none hf (by omega) (by rw [hb]; exact hn)]
            simp [show ¬ c.toNat / 8 = 30 from by omega]
        · rw [if_neg g1] at hn
          have g1' := Bool.eq_false_iff.2 g1
          rw [g1', decU_none hf (by omega) (by rw [hb]; exact hn)]
          simp
      · by_cases h4 : c.toNat / 8 = 30
        · have hf : fsz c.toNat = (4 : Nat) := by unfold fsz; rw [if_neg (by omega), if_neg (by omega), if_neg (by omega), if_pos (by omega)]; rfl
          have hb : fbt c.toNat = (c.toNat % 8 : Nat) := by unfold fbt; rw [if_neg (by omega), if_neg (by omega), if_neg (by omega), if_pos (by omega)]; omega
          unfold decL
          simp only [if_neg h1, h4, beq_self_eq_true, Bool.true_and]
          rw [if_neg (by simp [h2]), if_neg (by simp [h3])]
          have hn := decN_more (c.toNat % 8 : Nat) 2 l
          rw [decN_more _ 1 (l.drop 1), decN_one, drop1, drop1, drop1, dropl, dropl, dropl] at hn
          by_cases g1 : (decide (0 < l.length) && (l[0]?.getD 0).toNat / 64 == 2) = true
          · rw [if_pos g1] at hn
            rw [g1, Bool.true_and]
            by_cases g2 : (decide (0 + 1 < l.length) && (l[0 + 1]?.getD 0).toNat / 64 == 2) = true
            · rw [if_pos g2] at hn
              rw [show (decide (1 < l.length) && (l[1]?.getD (0 : UInt8)).toNat / 64 == 2) = true from g2, Bool.true_and]
              by_cases g3 : (decide (0 + 1 + 1 < l.length) && (l[0 + 1 + 1]?.getD 0).toNat / 64 == 2) = true
              · rw [if_pos g3] at hn
                rw [if_pos g3, decU_some hf (by omega) (r := (c.toNat % 8 * 262144 + (l[0]?.getD 0).toNat % 64 * 4096 + (l[1]?.getD 0).toNat % 64 * 64 + (l[2]?.getD 0).toNat % 64 : Nat)) (by rw [hb, hn]; exact congrArg some (arith4 _ _ _ _)), fin4]
              · rw [if_neg g3] at hn
                rw [if_neg g3, decU_none hf (by omega) (by rw [hb]; exact hn)]
            · rw [if_neg g2] at hn
              have g2' := Bool.eq_false_iff.2 g2
              rw [show (decide (1 < l.length) && (l[1]?.getD (0 : UInt8)).toNat / 64 == 2) = false from g2', decU_none hf (by omega) (by rw [hb]; exact hn)]
              simp
          · rw [if_neg g1] at hn
            have g1' := Bool.eq_false_iff.2 g1
            rw [g1', decU_none hf (by omega) (by rw [hb]; exact hn)]
            simp
        · have hf : fsz c.toNat = 0 := by unfold fsz; rw [if_neg (by omega), if_neg (by omega), if_neg (by omega), if_neg (by omega)]
          rw [decU_zero hf]
          unfold decL
          simp [h1, h2, h3, h4]
theorem decode_U (s : ByteArray) (i : Nat) (hi : i < s.size) : Go.Utf8.decode s i = decU (s.data.toList.drop i) := by
  have hs : s.size = s.data.toList.length := by simp
  cases hd : s.data.toList.drop i with
  | nil =>
    have := congrArg List.length hd
    rw [List.length_drop] at this
    simp at this
    omega
  | cons c l => rw [decode_L s i c l hd, decL_U]
end Wb
namespace Wb
open Go
theorem decU_pos (l : List UInt8) : 1 ≤ (decU l).2 := by
  have hn := (dec_bd l).1
  unfold decU
  by_cases h : (dec l).2 = 0
  · simp [h]
  · simp only [h, if_false]
    omega
def badU : Nat → List UInt8 → Nat → Option Nat
  | 0, _, _ => none
  | f + 1, l, b => if l = [] then none else if charB (decU l).1 = true then badU f (l.drop (decU l).2) (b + (decU l).2) else some b
end Wb
namespace Wb
theorem decU_enc (n : Int) (hs : sgn n = true) (r : List UInt8) : decU (enc n ++ r) = (n.toNat, (slen n).toNat) := by
  have := slen_one n hs
  unfold decU
  rw [dec_enc n hs r]
  rw [if_neg (by show ¬ slen n = 0; omega)]
theorem badU_flat : ∀ (ns : List Int), (∀ n ∈ ns, sgn n = true) → ∀ (f k : Nat), (ns.flatMap enc).length ≤ f → (badU f (ns.flatMap enc) k = none ↔ ∀ n ∈ ns, charB n = true)
  | [], _, f, k, _ => by
    have : badU f ([] : List UInt8) k = none := by cases f <;> rfl
    simp [this]
  | n :: ns, h, f, k, hf => by
    have hs := h n (by simp)
    have h0 := (sgn_iff n).1 hs
    have h1 := slen_one n hs
    have hl := enc_length n
    rw [List.flatMap_cons] at hf ⊢
    rw [List.length_append] at hf
    obtain ⟨f, rfl⟩ : ∃ f', f = f' + 1 := ⟨f - 1, by omega⟩
    unfold badU
    rw [if_neg (by intro e; have := congrArg List.length e; rw [List.length_append, List.length_nil] at this; omega), decU_enc n hs]
    simp only
    rw [Int.toNat_of_nonneg h0.1, show (slen n).toNat = (enc n).length from by omega, List.drop_left]
    by_cases hc : charB n = true
    · rw [if_pos hc, badU_flat ns (fun m hm => h m (by simp [hm])) f _ (by omega)]
      simp [hc]
    · rw [if_neg hc]
      simp [hc]
end Wb
namespace Go.Proofs.Ytlcjepnaljfpkaa
open Go.RowKit Wb
theorem six_blk {w : World} {g : Nat} {t : TypeId} {z0 z1 z2 z3 z4 z5 : Value} (h : w.heap[g]? = some (.cells #[z0, z1, z2, z3, z4, z5] t (0, 0))) (c0 c1 c2 c3 c4 c5 : Value) :
    ((((((w.setCell ⟨g, 0, none⟩ c0).setCell ⟨g, 1, none⟩ c1).setCell ⟨g, 2, none⟩ c2).setCell ⟨g, 3, none⟩ c3).setCell ⟨g, 4, none⟩ c4).setCell ⟨g, 5, none⟩ c5).heap[g]? = some (.cells #[c0, c1, c2, c3, c4, c5] t (0, 0)) := by
  have := blk_set (blk_set (blk_set (blk_set (blk_set (blk_set h 0 c0) 1 c1) 2 c2) 3 c3) 4 c4) 5 c5
  simpa using this
theorem six_below {B : Nat} {a w : World} {g : Nat} (h : Below B a w) (hg : B ≤ g) (c0 c1 c2 c3 c4 c5 : Value) :
    Below B a ((((((w.setCell ⟨g, 0, none⟩ c0).setCell ⟨g, 1, none⟩ c1).setCell ⟨g, 2, none⟩ c2).setCell ⟨g, 3, none⟩ c3).setCell ⟨g, 4, none⟩ c4).setCell ⟨g, 5, none⟩ c5) := by
  have st : ∀ (v : World) (i : Nat) (c : Value), Below B a v → Below B a (v.setCell ⟨g, i, none⟩ c) := fun v i c hv => hv.setCell (p := ⟨g, i, none⟩) hg c
  exact st _ _ _ (st _ _ _ (st _ _ _ (st _ _ _ (st _ _ _ (st _ _ _ h)))))
theorem six_keep (w : World) (g : Nat) (c0 c1 c2 c3 c4 c5 : Value) :
    Keep (fun k => k = g) w ((((((w.setCell ⟨g, 0, none⟩ c0).setCell ⟨g, 1, none⟩ c1).setCell ⟨g, 2, none⟩ c2).setCell ⟨g, 3, none⟩ c3).setCell ⟨g, 4, none⟩ c4).setCell ⟨g, 5, none⟩ c5) := by
  have st : ∀ (v : World) (i : Nat) (c : Value), Keep (fun k => k = g) w v → Keep (fun k => k = g) w (v.setCell ⟨g, i, none⟩ c) := fun v i c hv => hv.setCell (p := ⟨g, i, none⟩) rfl c
  exact st _ _ _ (st _ _ _ (st _ _ _ (st _ _ _ (st _ _ _ (st _ _ _ (Keep.refl _ w))))))
theorem node_info2 : (Try.prog.info? 27).map (·.size) = some 6 := by kernel_rfl
end Go.Proofs.Ytlcjepnaljfpkaa
namespace Go.Proofs.Ytlcjepnaljfpkaa
open Go.RowKit Wb Go.Lib
theorem txt_bad {s : List UInt8} (h : TxtOK s) (f k : Nat) (hf : s.length ≤ f) : badU f s k = none := by
  obtain ⟨ns, hn, rfl⟩ := h
  exact (badU_flat ns (fun n hm => char_sgn n (hn n hm)) f k hf).2 hn
theorem arr_info : (Try.prog.info? 65).map (·.size) = some 2 := by kernel_rfl
theorem key_any (a b : ByteArray) (w : World) : Calls Try.prog 35 #[.agg #[.string a, .string b]] w fun e w' => e = .returned (.agg #[.string a, .string b]) ∧ Below w.heap.size w w' := by
  have hb : ((w.alloc (.cells #[.string a, .string b] 23)).alloc (.cells #[.string a, .string b] 65)).heap[w.heap.size + 1]? = some (.cells #[.string a, .string b] 65 (0, 0)) := by
    have := heap_alloc_new (w.alloc (.cells #[.string a, .string b] 23)) (.cells #[.string a, .string b] 65)
    simpa using this
  have HB := Lib.hid hb
  clear hb
  go_enter Try.func35, Try.ntmps35
  go_wp2
  refine bodyPost_ret (results_cell_row rfl _ _ (w.heap.size + 1) _ _ (0, 0) _ rfl HB.out Try.underlying65 rfl arr_info) rfl ?_
  exact ⟨rfl, ((Below.refl _ w).alloc (Nat.le_refl _) _).alloc (by simp) _⟩
set_option maxRecDepth 100000 in
theorem eq_arr (a b c d : ByteArray) (w : World) : (Op.equalIn 10000 65 (.agg #[.string a, .string b]) (.agg #[.string c, .string d])).run Try.prog w = .ok (a.toList == c.toList && b.toList == d.toList) w := by
  have u3 := Try.underlying9
  have a3 := Try.isAgg9
  have z3 := Try.sizeOf9
  rw [show (10000 : Nat) = 9999 + 1 from rfl, Op.equalIn]
  simp only [Sem.run_bind, run_underlying Try.underlying65, Result.andThen_ok]
  simp only [Std.Legacy.Range.forIn_eq_forIn_range', Std.Legacy.Range.size, Nat.sub_zero, Nat.add_sub_cancel, Nat.div_one, List.range'_succ, List.range'_zero, List.forIn_cons, List.forIn_nil]
  go_simp
  by_cases h1 : a.toList = c.toList <;> by_cases h2 : b.toList = d.toList <;> simp [h1, h2]
end Go.Proofs.Ytlcjepnaljfpkaa
namespace Go.Proofs.Ytlcjepnaljfpkaa
open Go.RowKit Wb Go.Maps
theorem arr_row : (65 : TypeId) < Try.prog.types.size := of_decide_eq_true (by kernel_rfl)
theorem arr_wide : (match Try.prog.underlying 65 with | some (.array _ _) | some (.struct _) => true | _ => false) = true := by kernel_rfl
set_option maxRecDepth 1000000 in
theorem arr_law : Keyed Try.prog 65 := Keyed.of_law (deep_law_laid laidOut (m := 3) (by omega) arr_row (by kernel_rfl) arr_wide)
theorem arr_kt : Try.prog.keyType 65 = true := by kernel_rfl
theorem arr_cells : Try.prog.cellsOf 65 = 2 := by kernel_rfl
theorem arr_key (x : Pr) (h1 : x.1.size ≤ maxLen) (h2 : x.2.size ≤ maxLen) : keyOf Try.prog 65 (.agg #[.string x.1, .string x.2]) = some (litN x) := by
  have hf : (Value.agg #[.string x.1, .string x.2]).formed Try.prog 65 = true := by
    simp [Value.formed, Try.underlying65, arr_cells]
  unfold keyOf
  rw [Try.underlying65]
  simp only [arr_kt, hf, Bool.and_self, if_true]
  obtain ⟨m, hm⟩ : ∃ m, Try.prog.types.size + 1 = m + 2 := ⟨Try.prog.types.size - 1, by have := many_types; omega⟩
  rw [hm]
  unfold Program.keyLits
  rw [Try.underlying65]
  simp [Value.cells, arr_cells, str_cells, key_str _ _ h1, key_str _ _ h2, litN, show List.range 2 = [0, 1] from rfl]
def SetA (w : World) (b n : Nat) (l : List Pr) : Prop :=
  ∃ D : DataW Unit, w.ownsMap Try.prog 65 unitElem b n D ∧ (∀ y ∈ l, y.1.size ≤ maxLen ∧ y.2.size ≤ maxLen) ∧
    ∀ x : Pr, x.1.size ≤ maxLen → x.2.size ≤ maxLen → Maps.has D (litN x) = l.any (fun y => eqP y x)
theorem SetA.made (w : World) : SetA (w.alloc (.map #[] 0)) w.heap.size 0 [] :=
  ⟨.map [], World.ownsMap_made _ _ _ _, by simp, fun x _ _ => by simp [has_eq]⟩
theorem SetA.put {w : World} {b n : Nat} {l : List Pr} {D : DataW Unit} {x : Pr} (hown : w.ownsMap Try.prog 65 unitElem b n (D.put (litN x) (.agg []))) (hD : IsMap D)
    (hsz : ∀ y ∈ l, y.1.size ≤ maxLen ∧ y.2.size ≤ maxLen) (h1 : x.1.size ≤ maxLen) (h2 : x.2.size ≤ maxLen)
    (hhas : ∀ x : Pr, x.1.size ≤ maxLen → x.2.size ≤ maxLen → Maps.has D (litN x) = l.any (fun y => eqP y x)) : SetA w b n (l ++ [x]) := by
  refine ⟨_, hown, ?_, fun y k1 k2 => ?_⟩
  · intro y hy
    rcases List.mem_append.1 hy with h | h
    · exact hsz y h
    · rw [List.mem_singleton.1 h]; exact ⟨h1, h2⟩
  · rw [List.any_append, ← hhas y k1 k2]
    by_cases e : y = x
    · subst e
      rw [has_put_same hD (show WideAt.IsKeyLit (litN y) from trivial), List.any_cons, (eqP_iff y y).2 rfl]
      simp
    · rw [has_put_other (fun h => e (litN_inj k1 k2 h1 h2 h))]
      have : eqP x y = false := by
        cases h : eqP x y
        · rfl
        · exact absurd ((eqP_iff _ _).1 h).symm e
      simp [this]
theorem map_below {w w2 : World} {b n : Nat} {D : DataW Unit} (h : w.ownsMap Try.prog 65 unitElem b n D) (hb : Below w.heap.size w w2) : w2.ownsMap Try.prog 65 unitElem b n D := by
  obtain ⟨es, clock, h1, h2⟩ := h
  exact ⟨es, clock, still_block h1 hb, h2⟩
def AtsSz (l : List Tr) : Prop := ∀ a ∈ l, a.1.1.size ≤ 1000000000 ∧ a.1.2.size ≤ 1000000000 ∧ a.2.size ≤ 1000000000
end Go.Proofs.Ytlcjepnaljfpkaa
