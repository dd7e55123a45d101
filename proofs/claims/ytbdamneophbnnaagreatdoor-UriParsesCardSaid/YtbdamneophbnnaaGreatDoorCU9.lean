/- LePlain2 LePlainU LeFit3 LeFit4 LxF TrSa TrTa TrA TrTp SaA SaB. -/
import GoSem.Claim
import Derived.Test.YtbdamneophbnnaaGreatDoorProg
import Derived.Deep.RegionHeld2
import Derived.BigRegion
import Derived.Deep.AppendLies
import Derived.Deep.Draws
import Derived.Deep.Cut
import Derived.Deep.RegionLaw
import Derived.Test.YtbdamneophbnnaaGreatDoorRows
import Derived.DeepKeys4
import Derived.Deep.DeepCutAuto
import Derived.Scope
import Derived.ScopeJumps
import Derived.WalkMore
import Derived.Deep.LoopGhost
import Derived.Lib.Fold
import Derived.Laws.RangeAny
import Derived.Laws.BitsAllLaws
import Derived.Shelf.GgClosure.StringsTrimFunc
import Derived.Lib.OthersKept
import Derived.Deep.QuietTactic
import Derived.BigQuiet
import Derived.KernelRfl
import Derived.Laws.StructEq
import Derived.Laws.Tables
import GoSem.Core.Float
import Derived.Laws.ComplexArith
import Derived.Laws.Cover2
import Derived.Laws.Cover3
import Derived.Test.YtbdamneophbnnaaGreatDoorCU2
import Derived.Test.YtbdamneophbnnaaGreatDoorCU3
import Derived.Test.YtbdamneophbnnaaGreatDoorCU4
import Derived.Test.YtbdamneophbnnaaGreatDoorCU5
import Derived.Test.YtbdamneophbnnaaGreatDoorCU6
import Derived.Test.YtbdamneophbnnaaGreatDoorCU8
namespace Wb
def decU (l : List UInt8) : Nat × Nat := if (dec l).2 = 0 then (65533, 1) else ((dec l).1.toNat, (dec l).2.toNat)
def decL (b0 : Nat) (l : List UInt8) : Nat × Nat :=
  let a (k : Nat) : Nat := (l[k]?.getD 0).toNat
  let cont (k : Nat) : Bool := decide (k < l.length) && a k / 64 == 2
  if b0 < 0x80 then (b0, 1)
  else if b0 / 32 == 6 && cont 0 then
    let c := (b0 % 32) * 64 + a 0 % 64
    if c ≥ 0x80 then (c, 2) else (65533, 1)
  else if b0 / 16 == 14 && cont 0 && cont 1 then
    let c := (b0 % 16) * 4096 + (a 0 % 64) * 64 + a 1 % 64
    if c ≥ 0x800 && Go.Utf8.valid c then (c, 3) else (65533, 1)
  else if b0 / 8 == 30 && cont 0 && cont 1 && cont 2 then
    let c := (b0 % 8) * 262144 + (a 0 % 64) * 4096 + (a 1 % 64) * 64 + a 2 % 64
    if c ≥ 0x10000 && Go.Utf8.valid c then (c, 4) else (65533, 1)
  else (65533, 1)
theorem get_bang (s : ByteArray) (j : Nat) : s.get! j = (s.data.toList[j]?).getD 0 := by
  show s.data[j]! = _
  rw [getElem!_def, ← Array.getElem?_toList]
  cases s.data.toList[j]? <;> rfl
theorem decode_L (s : ByteArray) (i : Nat) (c : UInt8) (l : List UInt8) (h : s.data.toList.drop i = c :: l) : Go.Utf8.decode s i = decL c.toNat l := by
  have hs : s.size = s.data.toList.length := by simp
  have hlen : i + (l.length + 1) = s.size := by
    have := congrArg List.length h
    rw [List.length_drop] at this
    simp only [List.length_cons] at this
    omega
  have ha : ∀ k, (s.get! (i + k)) = ((c :: l)[k]?).getD 0 := by
    intro k
    rw [get_bang, ← h, List.getElem?_drop]
  have h0 : (s.get! (i + 0)) = c := by rw [ha]; rfl
  have h1 : (s.get! (i + 1)) = (l[0]?).getD 0 := by rw [ha]; rfl
  have h2 : (s.get! (i + 2)) = (l[1]?).getD 0 := by rw [ha]; rfl
  have h3 : (s.get! (i + 3)) = (l[2]?).getD 0 := by rw [ha]; rfl
  have l1 : decide (i + 1 < s.size) = decide (0 < l.length) := decide_eq_decide.2 (by omega)
  have l2 : decide (i + 2 < s.size) = decide (1 < l.length) := decide_eq_decide.2 (by omega)
  have l3 : decide (i + 3 < s.size) = decide (2 < l.length) := decide_eq_decide.2 (by omega)
  unfold Go.Utf8.decode decL Go.Utf8.runeError
  simp only [h0, h1, h2, h3, l1, l2, l3]
theorem valid_sgn (r : Int) : Go.Utf8.valid r = sgn r := by
  unfold Go.Utf8.valid sgn
  rw [Bool.eq_iff_iff]
  simp only [Bool.or_eq_true, Bool.and_eq_true, decide_eq_true_eq]
  omega
theorem decU_zero {c : UInt8} {l : List UInt8} (h : fsz c.toNat = 0) : decU (c :: l) = (65533, 1) := by
  unfold decU dec
  simp only [h, if_pos]
theorem decU_none {c : UInt8} {l : List UInt8} {k : Nat} (h : fsz c.toNat = k) (hk : k ≠ 0) (hn : decN (fbt c.toNat) (k - 1) l = none) : decU (c :: l) = (65533, 1) := by
  have e : dec (c :: l) = (0, 0) := by
    unfold dec
    simp only [h, Int.toNat_natCast, hn]
    rw [if_neg (by omega)]
  unfold decU
  rw [e]
  rfl
theorem decU_some {c : UInt8} {l : List UInt8} {k : Nat} {r : Int} (h : fsz c.toNat = k) (hk : k ≠ 0) (hn : decN (fbt c.toNat) (k - 1) l = some r) : decU (c :: l) = if slen r = k then (r.toNat, k) else (65533, 1) := by
  have e : dec (c :: l) = if slen r = k then (r, (k : Int)) else (0, 0) := by
    unfold dec
    simp only [h, Int.toNat_natCast, hn]
    rw [if_neg (by omega)]
  unfold decU
  rw [e]
  by_cases hs : slen r = k
  · simp only [if_pos hs]
    rw [if_neg (by omega)]
    simp
  · simp only [if_neg hs]
    rfl
theorem decN_one (r : Int) (l : List UInt8) : decN r 1 l = if (decide (0 < l.length) && (l[0]?.getD 0).toNat / 64 == 2) = true then some (r * 64 + ((l[0]?.getD 0).toNat % 64 : Nat)) else none := by
  cases l with
  | nil => rfl
  | cons d l =>
    by_cases g : d.toNat / 64 = 2
    · simp [decN, g, show ((d.toNat : Int) / 64 = 2) from by omega]
    · simp [decN, g, show ¬ ((d.toNat : Int) / 64 = 2) from by omega]
theorem decN_more (r : Int) (k : Nat) (l : List UInt8) : decN r (k + 1) l = if (decide (0 < l.length) && (l[0]?.getD 0).toNat / 64 == 2) = true then decN (r * 64 + ((l[0]?.getD 0).toNat % 64 : Nat)) k (l.drop 1) else none := by
  cases l with
  | nil => rfl
  | cons d l =>
    by_cases g : d.toNat / 64 = 2
    · simp [decN, g, show ((d.toNat : Int) / 64 = 2) from by omega]
    · simp [decN, g, show ¬ ((d.toNat : Int) / 64 = 2) from by omega]
theorem drop1 (l : List UInt8) (k : Nat) : (l.drop 1)[k]? = l[k + 1]? := by rw [List.getElem?_drop, Nat.add_comm]
theorem dropl (l : List UInt8) (k : Nat) : decide (k < (l.drop 1).length) = decide (k + 1 < l.length) := decide_eq_decide.2 (by rw [List.length_drop]; omega)
theorem slen_is (v : Nat) : slen v = if sgn v = true then (if v < 128 then 1 else if v < 2048 then 2 else if v < 65536 then 3 else 4) else 0 := by
  have e1 : ((v : Int) < 128) = (v < 128) := propext (by omega)
  have e2 : ((v : Int) < 2048) = (v < 2048) := propext (by omega)
  have e3 : ((v : Int) < 65536) = (v < 65536) := propext (by omega)
  unfold slen
  simp only [e1, e2, e3]
theorem fin2 (v : Nat) (hv : v < 2048) : (if v ≥ 128 then (v, 2) else (65533, 1)) = if slen v = (2 : Nat) then ((v : Int).toNat, 2) else (65533, 1) := by
  have hs : sgn v = true := (sgn_iff _).2 (by omega)
  rw [slen_is, if_pos hs]
  by_cases h : v < 128
  · rw [if_pos h, if_neg (by omega), if_neg (by omega)]
  · have e : (if v < 128 then (1 : Int) else if v < 2048 then 2 else if v < 65536 then 3 else 4) = (2 : Nat) := by rw [if_neg h, if_pos hv]; rfl
    rw [if_pos e, if_pos (by omega)]
    rfl
theorem fin3 (v : Nat) (hv : v < 65536) : (if (decide (v ≥ 2048) && Go.Utf8.valid v) = true then (v, 3) else (65533, 1)) = if slen v = (3 : Nat) then ((v : Int).toNat, 3) else (65533, 1) := by
  rw [valid_sgn, slen_is]
  by_cases hs : sgn v = true
  · rw [if_pos hs, hs, Bool.and_true]
    by_cases h : v < 2048
    · rw [decide_eq_false (by omega), if_neg (by decide), if_neg]
      split
      · omega
      · omega
    · have e : (if v < 128 then (1 : Int) else if v < 2048 then 2 else if v < 65536 then 3 else 4) = (3 : Nat) := by rw [if_neg (by omega), if_neg h, if_pos hv]; rfl
      rw [decide_eq_true (by omega), if_pos rfl, if_pos e]
      rfl
  · rw [if_neg hs, Bool.eq_false_iff.2 hs, Bool.and_false, if_neg (by decide), if_neg (by omega)]
theorem fin4 (v : Nat) : (if (decide (v ≥ 65536) && Go.Utf8.valid v) = true then (v, 4) else (65533, 1)) = if slen v = (4 : Nat) then ((v : Int).toNat, 4) else (65533, 1) := by
  rw [valid_sgn, slen_is]
  by_cases hs : sgn v = true
  · rw [if_pos hs, hs, Bool.and_true]
    by_cases h : v < 65536
    · rw [decide_eq_false (by omega), if_neg (by decide), if_neg]
      split
      · omega
      · split <;> omega
    · have e : (if v < 128 then (1 : Int) else if v < 2048 then 2 else if v < 65536 then 3 else 4) = (4 : Nat) := by rw [if_neg (by omega), if_neg (by omega), if_neg h]; rfl
      rw [decide_eq_true (by omega), if_pos rfl, if_pos e]
      rfl
  · rw [if_neg hs, Bool.eq_false_iff.2 hs, Bool.and_false, if_neg (by decide), if_neg (by omega)]
theorem arith3 (a b c : Nat) : ((a : Int) * 64 + (b : Nat)) * 64 + (c : Nat) = ((a * 4096 + b * 64 + c : Nat) : Int) := by omega
theorem arith4 (a b c d : Nat) : (((a : Int) * 64 + (b : Nat)) * 64 + (c : Nat)) * 64 + (d : Nat) = ((a * 262144 + b * 4096 + c * 64 + d : Nat) : Int) := by omega
theorem decL_U (c : UInt8) (l : List UInt8) : decL c.toNat l = decU (c :: l) := by
  have hc := c.toNat_lt
  by_cases h1 : c.toNat < 128
  · have hf : fsz c.toNat = (1 : Nat) := by unfold fsz; rw [if_pos (by omega)]; rfl
    have hb : fbt c.toNat = c.toNat := by unfold fbt; rw [if_pos (by omega)]
    have hl : slen c.toNat = (1 : Nat) := by unfold slen; rw [if_pos ((sgn_iff _).2 (by omega)), if_pos (by omega)]; rfl
    rw [decU_some hf (by omega) (r := c.toNat) (by rw [hb]; rfl), if_pos hl]
    unfold decL
    simp [h1]
  · by_cases h2 : c.toNat / 32 = 6
    · have hf : fsz c.toNat = (2 : Nat) := by unfold fsz; rw [if_neg (by omega), if_pos (by omega)]; rfl
      have hb : fbt c.toNat = (c.toNat % 32 : Nat) := by unfold fbt; rw [if_neg (by omega), if_pos (by omega)]; omega
      unfold decL
      simp only [if_neg h1, h2, beq_self_eq_true, Bool.true_and]
      have hn := decN_one (c.toNat % 32 : Nat) l
      by_cases g1 : (decide (0 < l.length) && (l[0]?.getD 0).toNat / 64 == 2) = true
      · rw [if_pos g1] at hn ⊢
        rw [decU_some hf (by omega) (r := (c.toNat % 32 * 64 + (l[0]?.getD 0).toNat % 64 : Nat)) (by rw [hb, hn]; congr 1), fin2 _ (by omega)]
      · rw [if_neg g1] at hn ⊢
        rw [decU_none hf (by omega) (by rw [hb]; exact hn)]
        simp [show ¬ c.toNat / 16 = 14 from by omega, show ¬ c.toNat / 8 = 30 from by omega]
    · by_cases h3 : c.toNat / 16 = 14
      · have hf : fsz c.toNat = (3 : Nat) := by unfold fsz; rw [if_neg (by omega), if_neg (by omega), if_pos (by omega)]; rfl
        have hb : fbt c.toNat = (c.toNat % 16 : Nat) := by unfold fbt; rw [if_neg (by omega), if_neg (by omega), if_pos (by omega)]; omega
        unfold decL
        simp only [if_neg h1, h3, beq_self_eq_true, Bool.true_and]
        rw [if_neg (by simp [h2])]
        have hn := decN_more (c.toNat % 16 : Nat) 1 l
        rw [decN_one, drop1, dropl] at hn
        by_cases g1 : (decide (0 < l.length) && (l[0]?.getD 0).toNat / 64 == 2) = true
        · rw [if_pos g1] at hn
          rw [g1, Bool.true_and]
          by_cases g2 : (decide (0 + 1 < l.length) && (l[0 + 1]?.getD 0).toNat / 64 == 2) = true
          · rw [if_pos g2] at hn
            rw [if_pos g2, decU_some hf (by omega) (r := (c.toNat % 16 * 4096 + (l[0]?.getD 0).toNat % 64 * 64 + (l[1]?.getD 0).toNat % 64 : Nat)) (by rw [hb, hn]; exact congrArg some (arith3 _ _ _)), fin3 _ (by omega)]
          · rw [if_neg g2] at hn
            rw [if_neg g2, decU_none hf (by omega) (by rw [hb]; exact hn)]
            simp [show ¬ c.toNat / 8 = 30 from by omega]
        · rw [if_neg g1] at hn
          have g1' := Bool.eq_false_iff.2 g1
          rw [g1', decU_none hf (by omega) (by rw [hb]; exact hn)]
          simp
      · by_cases h4 : c.toNat / 8 = 30
        · have hf : fsz c.toNat = (4 : Nat) := by unfold fsz; rw [if_neg (by omega), if_neg (by omega), if_neg (by omega), if_pos (by omega)]; rfl
          have hb : fbt c.toNat = (c.toNat % 8 : Nat) := by unfold fbt; rw [if_neg (by omega), if_neg (by omega), if_neg (by omega), if_pos (by omega)]; omega
          unfold decL
          simp only [if_neg h1, h4, beq_self_eq_true, Bool.true_and]
          rw [if_neg (by simp [h2]), if_neg (by simp [h3])]
          have hn := decN_more (c.toNat % 8 : Nat) 2 l
          rw [decN_more _ 1 (l.drop 1), decN_one, drop1, drop1, drop1, dropl, dropl, dropl] at hn
          by_cases g1 : (decide (0 < l.length) && (l[0]?.getD 0).toNat / 64 == 2) = true
          · rw [if_pos g1] at hn
            rw [g1, Bool.true_and]
            by_cases g2 : (decide (0 + 1 < l.length) && (l[0 + 1]?.getD 0).toNat / 64 == 2) = true
            · rw [if_pos g2] at hn
              rw [show (decide (1 < l.length) && (l[1]?.getD (0 : UInt8)).toNat / 64 == 2) = true from g2, Bool.true_and]
              by_cases g3 : (decide (0 + 1 + 1 < l.length) && (l[0 + 1 + 1]?.getD 0).toNat / 64 == 2) = true
              · rw [if_pos g3] at hn
                rw [if_pos g3, decU_some hf (by omega) (r := (c.toNat % 8 * 262144 + (l[0]?.getD 0).toNat % 64 * 4096 + (l[1]?.getD 0).toNat % 64 * 64 + (l[2]?.getD 0).toNat % 64 : Nat)) (by rw [hb, hn]; exact congrArg some (arith4 _ _ _ _)), fin4]
              · rw [if_neg g3] at hn
                rw [if_neg g3, decU_none hf (by omega) (by rw [hb]; exact hn)]
            · rw [if_neg g2] at hn
              have g2' := Bool.eq_false_iff.2 g2
              rw [show (decide (1 < l.length) && (l[1]?.getD (0 : UInt8)).toNat / 64 == 2) = false from g2', decU_none hf (by omega) (by rw [hb]; exact hn)]
              simp
          · rw [if_neg g1] at hn
            have g1' := Bool.eq_false_iff.2 g1
            rw [g1', decU_none hf (by omega) (by rw [hb]; exact hn)]
            simp
        · have hf : fsz c.toNat = 0 := by unfold fsz; rw [if_neg (by omega), if_neg (by omega), if_neg (by omega), if_neg (by omega)]
          rw [decU_zero hf]
          unfold decL
          simp [h1, h2, h3, h4]
theorem decode_U (s : ByteArray) (i : Nat) (hi : i < s.size) : Go.Utf8.decode s i = decU (s.data.toList.drop i) := by
  have hs : s.size = s.data.toList.length := by simp
  cases hd : s.data.toList.drop i with
  | nil =>
    have := congrArg List.length hd
    rw [List.length_drop] at this
    simp at this
    omega
  | cons c l => rw [decode_L s i c l hd, decL_U]
end Wb
namespace Wb
open Go
def badU : Nat → List UInt8 → Nat → Option Nat
  | 0, _, _ => none
  | f + 1, l, b => if l = [] then none else if charB (decU l).1 = true then badU f (l.drop (decU l).2) (b + (decU l).2) else some b
end Wb
namespace Wb
theorem dw_len {p : UInt8 → Bool} (l : List UInt8) : (l.dropWhile p).length + (l.takeWhile p).length = l.length := by
  have := congrArg List.length (List.takeWhile_append_dropWhile (p := p) (l := l))
  rw [List.length_append] at this
  omega
end Wb
namespace Wb
theorem decU_enc (n : Int) (hs : sgn n = true) (r : List UInt8) : decU (enc n ++ r) = (n.toNat, (slen n).toNat) := by
  have := slen_one n hs
  unfold decU
  rw [dec_enc n hs r]
  rw [if_neg (by show ¬ slen n = 0; omega)]
theorem badU_flat : ∀ (ns : List Int), (∀ n ∈ ns, sgn n = true) → ∀ (f k : Nat), (ns.flatMap enc).length ≤ f → (badU f (ns.flatMap enc) k = none ↔ ∀ n ∈ ns, charB n = true)
  | [], _, f, k, _ => by
    have : badU f ([] : List UInt8) k = none := by cases f <;> rfl
    simp [this]
  | n :: ns, h, f, k, hf => by
    have hs := h n (by simp)
    have h0 := (sgn_iff n).1 hs
    have h1 := slen_one n hs
    have hl := enc_length n
    rw [List.flatMap_cons] at hf ⊢
    rw [List.length_append] at hf
    obtain ⟨f, rfl⟩ : ∃ f', f = f' + 1 := ⟨f - 1, by omega⟩
    unfold badU
    rw [if_neg (by intro e; have := congrArg List.length e; rw [List.length_append, List.length_nil] at this; omega), decU_enc n hs]
    simp only
    rw [Int.toNat_of_nonneg h0.1, show (slen n).toNat = (enc n).length from by omega, List.drop_left]
    by_cases hc : charB n = true
    · rw [if_pos hc, badU_flat ns (fun m hm => h m (by simp [hm])) f _ (by omega)]
      simp [hc]
    · rw [if_neg hc]
      simp [hc]
end Wb
namespace Go.Proofs.YtbdamneophbnnaaGreatDoor
open Go.RowKit Wb
theorem byte_info : (Tryz.prog.info? 5).map (fun i => (i.zero, i.size, i.bytes)) = some (some (.int .u8 0), 1, 1) := by kernel_rfl
theorem b8_toNat (b : UInt8) : b8 (b.toNat : Int) = b := by unfold b8; simp
theorem run_text_own {w : World} {base n : Nat} {e : TypeId} {v : Value} (l : List UInt8) (h : w.ownsRow base e 1 v n (cellsB l)) (hl : l ≠ []) :
    (convert 74 9 v).run Tryz.prog w = .ok (.string ⟨l.toArray⟩) w := by
  have hn : n = l.length := by have := h.1; rw [cellsB_length] at this; omega
  obtain ⟨g, cap, rfl, _, _⟩ := h.form (by cases l with
    | nil => exact absurd rfl hl
    | cons a r => rw [hn]; simp)
  rw [run_text w g n cap (l.map fun b => (b.toNat : Int)) (by simp [hn]) (by
    intro j u hu
    have := h.cells (g := g) rfl j u (by simpa [cellsB] using hu)
    rw [Addr.add_lit, Nat.zero_add] at this
    exact this)]
  rw [List.map_map, show (b8 ∘ fun b : UInt8 => (b.toNat : Int)) = id from funext b8_toNat, List.map_id]
theorem map_nil (o : Except Nat (List UInt8)) : o = o.map ([] ++ ·) := by cases o <;> rfl
theorem run_text_none (w : World) : (convert 74 9 (.slice none 0 0)).run Tryz.prog w = .ok (.string ⟨#[]⟩) w := by
  rw [run_convert_bytes_string w _ _ _ _ 0 0 Tryz.underlying74 Tryz.underlying5 Tryz.underlying9]
  unfold Conv.bytesToString
  simp [Sem.run_pure]
  rfl
theorem run_text_empty (w : World) (g c : Nat) : (convert 74 9 (.slice (some ⟨g, 0, none⟩) 0 c)).run Tryz.prog w = .ok (.string ⟨#[]⟩) w := by
  rw [run_text w g 0 c [] rfl (by simp)]
  rfl
end Go.Proofs.YtbdamneophbnnaaGreatDoor
namespace Go.Proofs.YtbdamneophbnnaaGreatDoor
open Go.RowKit Wb
theorem results_cell3 {P : Program} {fn : Func} {p u v : Tmp} {ty : TypeId} (h : fn.results = #[.cell p ty, .tmp u, .tmp v]) (tmps : Array Value) (w : World) (g : Nat) (t : TypeId) (cs : Array Value) (d : TypeDesc)
    (hp : tmps.getD p undef = .pointer (some ⟨g, 0, none⟩)) (hg : w.heap[g]? = some (.cells cs t (0, 0)))
    (hu : P.underlying ty = some d) (hd : (match d with | .struct _ | .array _ _ => true | _ => false) = true) (hi : (P.info? ty).map (·.size) = some cs.size) :
    (results fn tmps).run P w = .ok (.tuple #[.agg cs, tmps.getD u undef, tmps.getD v undef]) w := by
  have hp' : tmps[p]?.getD undef = .pointer (some ⟨g, 0, none⟩) := by simpa using hp
  simp only [results, h]
  simp [Result.andThen, hp', asAddr, run_loadVar_row w g t ty cs (0, 0) d hg hu hd hi]
end Go.Proofs.YtbdamneophbnnaaGreatDoor
namespace Go.Proofs.YtbdamneophbnnaaGreatDoor
open Go.RowKit Wb Go.Lib
theorem txt_bad {s : List UInt8} (h : TxtOK s) (f k : Nat) (hf : s.length ≤ f) : badU f s k = none := by
  obtain ⟨ns, hn, rfl⟩ := h
  exact (badU_flat ns (fun n hm => char_sgn n (hn n hm)) f k hf).2 hn
end Go.Proofs.YtbdamneophbnnaaGreatDoor
namespace Go.Proofs.YtbdamneophbnnaaGreatDoor
open Go.RowKit Wb
def cells1 (l : List ByteArray) : List Value := l.map .string
end Go.Proofs.YtbdamneophbnnaaGreatDoor
namespace Go.Proofs.YtbdamneophbnnaaGreatDoor
open Go.RowKit Wb
theorem txt_none {s : List UInt8} (hc : chk s = -1) (hb : badU s.length s 0 = none) : TxtOK s := by
  obtain ⟨ns, r, h1, h2, h3⟩ := form _ s (Nat.le_refl _)
  have hf := chk_form ns r h1 h3
  rw [← h2] at hf
  by_cases hr : r = []
  · subst hr
    rw [List.append_nil] at h2
    refine ⟨ns, (badU_flat ns h1 s.length 0 (by rw [← h2]; exact Nat.le_refl _)).1 ?_, h2⟩
    rw [← h2]; exact hb
  · rw [if_neg hr] at hf
    omega
end Go.Proofs.YtbdamneophbnnaaGreatDoor
namespace Wb
open Go.Proofs.YtbdamneophbnnaaGreatDoor
def sgB (s : ByteArray) : Bool := (chk s.data.toList == -1) && (badU s.size s.data.toList 0).isNone
theorem sgB_iff (s : ByteArray) : sgB s = true ↔ TxtB s := by
  unfold sgB TxtB
  rw [Bool.and_eq_true, beq_iff_eq, Option.isNone_iff_eq_none, Go.Lib.size_eq]
  constructor
  · rintro ⟨h1, h2⟩
    exact txt_none h1 h2
  · intro h
    refine ⟨?_, txt_bad h _ 0 (Nat.le_refl _)⟩
    obtain ⟨ns, hn, e⟩ := h
    have := chk_form ns [] (fun n hm => char_sgn n (hn n hm)) rfl
    rw [e]
    simpa using this
end Wb
namespace Wb
def cutC (c : UInt8) (s : List UInt8) : Option (List UInt8 × List UInt8) := if s.contains c then some (s.takeWhile (· != c), (s.dropWhile (· != c)).drop 1) else none
theorem tw_free {c : UInt8} : ∀ {a : List UInt8} (b : List UInt8), (∀ x ∈ a, x ≠ c) → (a ++ c :: b).takeWhile (· != c) = a ∧ (a ++ c :: b).dropWhile (· != c) = c :: b
  | [], b, _ => by simp
  | x :: a, b, h => by
    have hx : (x != c) = true := by rw [bne_iff_ne]; exact h x (by simp)
    obtain ⟨h1, h2⟩ := tw_free (a := a) b fun y hy => h y (by simp [hy])
    rw [List.cons_append, List.takeWhile_cons, List.dropWhile_cons, hx, h1, h2]
    exact ⟨rfl, rfl⟩
theorem cutC_at {c : UInt8} {a : List UInt8} (b : List UInt8) (h : ∀ x ∈ a, x ≠ c) : cutC c (a ++ c :: b) = some (a, b) := by
  obtain ⟨h1, h2⟩ := tw_free (c := c) b h
  unfold cutC
  rw [h1, h2, if_pos (by simp)]
  rfl
theorem cutC_none {c : UInt8} {a : List UInt8} (h : ∀ x ∈ a, x ≠ c) : cutC c a = none := by
  unfold cutC
  rw [if_neg]
  intro h2
  exact h c (List.contains_iff_mem.1 h2) rfl
theorem cutC_some {c : UInt8} {s a b : List UInt8} (h : cutC c s = some (a, b)) : s = a ++ c :: b ∧ ∀ x ∈ a, x ≠ c := by
  unfold cutC at h
  split at h
  · rename_i hc
    have hm := List.contains_iff_mem.1 hc
    obtain ⟨p, q, rfl⟩ := List.append_of_mem hm
    injection h with h
    injection h with h1 h2
    have hf : ∀ x ∈ (p ++ c :: q).takeWhile (· != c), x ≠ c := fun x hx => by
      have := tw_each (· != c) _ x hx
      rwa [bne_iff_ne] at this
    have hs := List.takeWhile_append_dropWhile (p := (· != c)) (l := p ++ c :: q)
    subst h1
    refine ⟨?_, hf⟩
    have hd : (p ++ c :: q).dropWhile (· != c) = c :: b := by
      cases hd : (p ++ c :: q).dropWhile (· != c) with
      | nil =>
        rw [hd, List.append_nil] at hs
        exact absurd rfl (hf c (by rw [hs]; exact hm))
      | cons y r =>
        have hy := List.head_dropWhile_not (p := (· != c)) (l := p ++ c :: q) (by rw [hd]; simp)
        rw [hd] at h2
        have : y = c := by
          have e : ((p ++ c :: q).dropWhile (· != c)).head (by rw [hd]; simp) = y := by simp [hd]
          rw [e] at hy
          simpa using hy
        subst this
        simp only [List.drop_succ_cons, List.drop_zero] at h2
        rw [h2]
    rw [hd] at hs
    exact hs.symm
  · cases h
def sBindK : List UInt8 := [120, 109, 108, 110, 115, 40]
def bind1 (s : List UInt8) : Option ((List UInt8 × List UInt8) × List UInt8) :=
  if s.take 6 = sBindK then match cutC 41 (s.drop 6) with
    | none => none
    | some (g, r) => match cutC 61 g with
      | none => none
      | some (n, sp) => if nameB n = true then some ((n, sp), r) else none
  else none
def bindsL : Nat → List UInt8 → List Pr → List Pr × Int
  | 0, _, _ => ([], 4)
  | f + 1, s, out => match s.dropWhile blkU with
    | [] => (out, 0)
    | c :: l => match bind1 (c :: l) with
      | none => ([], 4)
      | some ((n, sp), r) =>
        if 16 ≤ out.length then ([], 3) else if bindB ⟨n.toArray⟩ ⟨sp.toArray⟩ = 0 then bindsL f r (out ++ [(⟨n.toArray⟩, ⟨sp.toArray⟩)]) else ([], bindB ⟨n.toArray⟩ ⟨sp.toArray⟩)
def bindsP (q : List UInt8) : List Pr × Int := if (decP q).2 = 0 then bindsL ((decP q).1.length + 1) (decP q).1 [] else ([], (decP q).2)
theorem bind1_len {s : List UInt8} {n sp r : List UInt8} (h : bind1 s = some ((n, sp), r)) : r.length < s.length ∧ s = sBindK ++ (n ++ 61 :: sp) ++ 41 :: r ∧ nameB n = true ∧ (∀ x ∈ n, x ≠ 61) ∧ ∀ x ∈ n ++ 61 :: sp, x ≠ 41 := by
  unfold bind1 at h
  split at h
  · rename_i h6
    split at h
    · cases h
    · rename_i g r' hc
      obtain ⟨e1, e2⟩ := cutC_some hc
      split at h
      · cases h
      · rename_i n' sp' hc2
        obtain ⟨e3, e4⟩ := cutC_some hc2
        split at h
        · rename_i hn
          injection h with h
          injection h with h h2
          injection h with h h1
          subst h h1 h2
          have es : s = sBindK ++ (n' ++ 61 :: sp') ++ 41 :: r' := by
            rw [← e3, List.append_assoc, ← e1, ← h6, List.take_append_drop]
          refine ⟨?_, es, hn, e4, by rw [← e3]; exact e2⟩
          have := congrArg List.length es
          simp only [List.length_append, List.length_cons] at this
          omega
        · cases h
  · cases h
theorem bind1_is {n sp : List UInt8} (r : List UInt8) (hn : nameB n = true) (h61 : ∀ x ∈ n, x ≠ 61) (h41 : ∀ x ∈ n ++ 61 :: sp, x ≠ 41) : bind1 (sBindK ++ (n ++ 61 :: sp) ++ 41 :: r) = some ((n, sp), r) := by
  unfold bind1
  rw [List.append_assoc, if_pos (by rfl), show (6 : Nat) = sBindK.length from rfl, List.drop_left, cutC_at r h41]
  simp only
  rw [cutC_at sp h61]
  simp only
  rw [if_pos hn]
end Wb
namespace Wb
def dgN (n : Nat) : List UInt8 := if _h : n = 0 then [] else dgN (n / 10) ++ [UInt8.ofNat (48 + n % 10)]
termination_by n
decreasing_by omega
def valN (l : List UInt8) : Nat := l.foldl (fun a c => a * 10 + (c.toNat - 48)) 0
theorem dgN_last (n : Nat) : (UInt8.ofNat (48 + n % 10)).toNat = 48 + n % 10 := by
  rw [UInt8.toNat_ofNat']
  omega
theorem val_dgN : ∀ n, valN (dgN n) = n := by
  intro n
  induction n using Nat.strongRecOn with
  | _ n ih =>
    rw [dgN]
    split
    · rename_i h; subst h; rfl
    · rename_i h
      have := ih (n / 10) (by omega)
      unfold valN at this ⊢
      rw [List.foldl_append, this]
      simp only [List.foldl_cons, List.foldl_nil, dgN_last]
      omega
theorem dgN_byte (n : Nat) : ∀ c ∈ dgN n, 48 ≤ c.toNat ∧ c.toNat ≤ 57 := by
  induction n using Nat.strongRecOn with
  | _ n ih =>
    intro c hc
    rw [dgN] at hc
    split at hc
    · cases hc
    · rename_i h
      rcases List.mem_append.1 hc with hc | hc
      · exact ih (n / 10) (by omega) c hc
      · rw [List.mem_singleton] at hc
        rw [hc, dgN_last]
        omega
theorem dgN_le (n : Nat) : ∀ k, n < 10 ^ k → (dgN n).length ≤ k := by
  induction n using Nat.strongRecOn with
  | _ n ih =>
    intro k h
    rw [dgN]
    split
    · exact Nat.zero_le _
    · rename_i hn
      cases k with
      | zero => simp at h; omega
      | succ k =>
        rw [Nat.pow_succ] at h
        rw [List.length_append]
        have := ih (n / 10) (by omega) k (by omega)
        simp only [List.length_cons, List.length_nil]
        omega
theorem dgN_head (n : Nat) (h0 : n ≠ 0) : ∃ c r, dgN n = c :: r ∧ c ≠ 48 := by
  induction n using Nat.strongRecOn with
  | _ n ih =>
    rw [dgN, dif_neg h0]
    by_cases h : n / 10 = 0
    · rw [h, dgN, dif_pos rfl]
      refine ⟨_, [], rfl, fun e => ?_⟩
      have := congrArg UInt8.toNat e
      rw [dgN_last] at this
      have e48 : (48 : UInt8).toNat = 48 := rfl
      omega
    · obtain ⟨c, r, e, hc⟩ := ih (n / 10) (by omega) h
      exact ⟨c, _, by rw [e]; rfl, hc⟩
theorem dgN_digT : ∀ i : Fin 99, dgN (i.val + 1) = digT (i.val + 1) := by
  intro i
  have h1 : ∀ m, m < 10 → m ≠ 0 → dgN m = [(48 + m).toUInt8] := by
    intro m hm h0
    rw [dgN, dif_neg h0, show m / 10 = 0 by omega, dgN, dif_pos rfl, show m % 10 = m by omega]
    rfl
  have hi := i.isLt
  unfold digT
  split
  · exact h1 _ (by omega) (by omega)
  · rw [dgN, dif_neg (by omega), h1 ((i.val + 1) / 10) (by omega) (by omega)]
    rfl
def posP (t : List UInt8) : Nat := if 1 ≤ t.length ∧ t.length ≤ 4 ∧ t.head? ≠ some 48 ∧ (∀ c ∈ t, 48 ≤ c.toNat ∧ c.toNat ≤ 57) then valN t else 0
theorem posP_is {n : Nat} (h0 : n ≠ 0) (h : n ≤ 9999) : posP (dgN n) = n := by
  obtain ⟨c, r, e, hc⟩ := dgN_head n h0
  unfold posP
  rw [if_pos, val_dgN]
  refine ⟨by rw [e]; simp, dgN_le n 4 (by omega), ?_, dgN_byte n⟩
  rw [e]
  simpa using hc
theorem valN_lt : ∀ (l : List UInt8), (∀ c ∈ l, 48 ≤ c.toNat ∧ c.toNat ≤ 57) → ∀ a k, a < 10 ^ k → l.foldl (fun a c => a * 10 + (c.toNat - 48)) a < 10 ^ (k + l.length)
  | [], _, a, k, h => h
  | c :: l, hc, a, k, h => by
    rw [List.foldl_cons, List.length_cons, show k + (l.length + 1) = (k + 1) + l.length by omega]
    have := hc c (by simp)
    refine valN_lt l (fun x hx => hc x (by simp [hx])) _ (k + 1) ?_
    rw [Nat.pow_succ]
    omega
theorem posP_le (t : List UInt8) : posP t ≤ 9999 := by
  unfold posP
  split
  · rename_i h
    have h2 := valN_lt t h.2.2.2 0 0 (by decide)
    have h3 : 10 ^ (0 + t.length) ≤ 10 ^ 4 := Nat.pow_le_pow_right (by decide) (by omega)
    unfold valN
    have h4 : 10 ^ 4 = 10000 := rfl
    omega
  · omega
def spOK (s : ByteArray) : Prop := s ≠ sE ∧ s ≠ sXMLNS ∧ (41 : UInt8) ∉ s.data.toList ∧ TxtB s
def hasB (l : List ByteArray) (x : ByteArray) : Bool := l.any fun y => decide (y = x)
theorem hasB_iff (l : List ByteArray) (x : ByteArray) : hasB l x = true ↔ x ∈ l := by
  unfold hasB
  rw [List.any_eq_true]
  constructor
  · rintro ⟨y, h1, h2⟩
    rw [decide_eq_true_eq] at h2
    rw [← h2]
    exact h1
  · exact fun h => ⟨x, h, by simp⟩
def nameT (n : Pr) (plain : ByteArray) (l : List ByteArray) : Except Int (List UInt8 × List ByteArray) :=
  if nameB n.2.data.toList = false then .error 12
  else if n.1 = plain then .ok (n.2.data.toList, l)
  else if n.1 = sXML then .ok (sXmlK ++ n.2.data.toList, l)
  else if n.1 = sE ∨ n.1 = sXMLNS ∨ (41 : UInt8) ∈ n.1.data.toList ∨ sgB n.1 = false then .error 13
  else if hasB l n.1 = true then .ok (numT (idxB n.1 l) ++ 58 :: n.2.data.toList, l)
  else if 16 ≤ l.length then .error 3
  else .ok (numT l.length ++ 58 :: n.2.data.toList, l ++ [n.1])
theorem idxB_app : ∀ {l : List ByteArray} {x : ByteArray} (r : List ByteArray), x ∈ l → idxB x (l ++ r) = idxB x l
  | y :: l, x, r, h => by
    rw [List.cons_append]
    unfold idxB
    by_cases e : y = x
    · rw [if_pos e, if_pos e]
    · rw [if_neg e, if_neg e]
      rcases List.mem_cons.1 h with h | h
      · exact absurd h.symm e
      · rw [idxB_app r h]
theorem idxB_new : ∀ {l : List ByteArray} {x : ByteArray}, x ∉ l → idxB x (l ++ [x]) = l.length
  | [], x, _ => by
    rw [List.nil_append]
    unfold idxB
    rw [if_pos rfl]
    rfl
  | y :: l, x, h => by
    rw [List.cons_append]
    unfold idxB
    rw [if_neg (fun e => h (by simp [e])), idxB_new (l := l) (x := x) (fun e => h (by simp [e]))]
    simp
theorem nameT_cases {n : Pr} {plain : ByteArray} {l l' : List ByteArray} {t : List UInt8} (h : nameT n plain l = .ok (t, l')) :
    nameB n.2.data.toList = true ∧ ((n.1 = plain ∧ t = n.2.data.toList ∧ l' = l) ∨ (n.1 ≠ plain ∧ n.1 = sXML ∧ t = sXmlK ++ n.2.data.toList ∧ l' = l) ∨
      (n.1 ≠ plain ∧ n.1 ≠ sXML ∧ spOK n.1 ∧ n.1 ∈ l' ∧ t = numT (idxB n.1 l') ++ 58 :: n.2.data.toList ∧ (l' = l ∨ (l' = l ++ [n.1] ∧ l.length < 16)))) := by
  unfold nameT at h
  split at h
  · cases h
  · rename_i hn
    have hn : nameB n.2.data.toList = true := by simpa using hn
    refine ⟨hn, ?_⟩
    split at h
    · rename_i hp
      injection h with h
      injection h with h1 h2
      exact .inl ⟨hp, h1.symm, h2.symm⟩
    · rename_i hp
      split at h
      · rename_i hx
        injection h with h
        injection h with h1 h2
        exact .inr (.inl ⟨hp, hx, h1.symm, h2.symm⟩)
      · rename_i hx
        split at h
        · cases h
        · rename_i hs
          have hs : spOK n.1 := by
            simp only [not_or] at hs
            refine ⟨hs.1, hs.2.1, hs.2.2.1, (sgB_iff _).1 (by simpa using hs.2.2.2)⟩
          split at h
          · rename_i hm
            have hm := (hasB_iff _ _).1 hm
            injection h with h
            injection h with h1 h2
            subst h2
            exact .inr (.inr ⟨hp, hx, hs, hm, h1.symm, .inl rfl⟩)
          · rename_i hm
            have hm : n.1 ∉ l := fun e => hm ((hasB_iff _ _).2 e)
            split at h
            · cases h
            · rename_i hl
              injection h with h
              injection h with h1 h2
              subst h2
              exact .inr (.inr ⟨hp, hx, hs, by simp, by rw [← h1, idxB_new hm], .inr ⟨rfl, by omega⟩⟩)
def SpsOK (l : List ByteArray) : Prop := l.length ≤ 16 ∧ ∀ s ∈ l, spOK s ∧ s ≠ sXML
theorem nameT_sps {n : Pr} {plain : ByteArray} {l l' : List ByteArray} {t : List UInt8} (h : nameT n plain l = .ok (t, l')) (hl : SpsOK l) : SpsOK l' ∧ ∃ r, l' = l ++ r := by
  obtain ⟨_, ⟨_, _, rfl⟩ | ⟨_, _, _, rfl⟩ | ⟨_, hx, hs, _, _, rfl | ⟨rfl, h16⟩⟩⟩ := nameT_cases h
  · exact ⟨hl, [], by simp⟩
  · exact ⟨hl, [], by simp⟩
  · exact ⟨hl, [], by simp⟩
  · refine ⟨⟨by rw [List.length_append]; simp; omega, fun s hm => ?_⟩, _, rfl⟩
    rcases List.mem_append.1 hm with hm | hm
    · exact hl.2 s hm
    · rw [List.mem_singleton] at hm
      subst hm
      exact ⟨hs, hx⟩
theorem res_num {pre : List Pr} {sp : List ByteArray} {s lo : ByteArray} (attr : Bool) (hl : sp.length ≤ 32) (hm : s ∈ sp) (hn : nameB lo.data.toList = true) :
    resB (pre ++ numP 0 sp) ⟨(numT (idxB s sp) ++ 58 :: lo.data.toList).toArray⟩ attr = ((s, lo), 0) := by
  have hi := idxB_lt hm
  have hg := idxB_get hm
  have hs := split_pre (q := ⟨(numT (idxB s sp) ++ 58 :: lo.data.toList).toArray⟩) (p := ⟨(numT (idxB s sp)).toArray⟩) (by rw [of_list]; exact num_name ⟨idxB s sp, by omega⟩) hn (by rw [of_list, of_list])
  have hf : findB (pre ++ numP 0 sp) ⟨(numT (idxB s sp)).toArray⟩ = (s, true) := by
    refine findB_some (eqT_false.2 (num_neX _).2) ?_
    have := lastB_num sp 0 (idxB s sp) s (by omega) hg
    rw [Nat.zero_add] at this
    rw [lastB_app, this]
  rw [resB_full (attr := attr) hs (by rw [eqT_false.2 (num_neE _)]; cases attr <;> rfl) hf (eqT_false.2 (num_neX _).1)]
  rfl
theorem res_xml {sc : List Pr} {lo : ByteArray} (attr : Bool) (hn : nameB lo.data.toList = true) : resB sc ⟨(sXmlK ++ lo.data.toList).toArray⟩ attr = ((sXML, lo), 0) := by
  have hs := split_pre (q := ⟨(sXmlK ++ lo.data.toList).toArray⟩) (p := sXmlQ) (by decide +kernel) hn (by rw [of_list]; rfl)
  rw [resB_full (attr := attr) hs (by rw [eqT_false.2 (by decide : sXmlQ ≠ sE)]; cases attr <;> rfl) (findB_xml (l := sc) (eqT_self sXmlQ)) (eqT_false.2 (by decide) : eqT sXmlQ sXmlns = false)]
  rfl
theorem nameT_res {n : Pr} {space : ByteArray} {l l' : List ByteArray} {t : List UInt8} (attr : Bool) (h : nameT n (if attr then sE else space) l = .ok (t, l')) (r : List ByteArray) (hr : (l' ++ r).length ≤ 32) :
    resB ((sE, space) :: numP 0 (l' ++ r)) ⟨t.toArray⟩ attr = (n, 0) := by
  obtain ⟨s, lo⟩ := n
  obtain ⟨hn, ⟨h1, rfl, rfl⟩ | ⟨_, h1, rfl, rfl⟩ | ⟨_, _, _, hm, rfl, _⟩⟩ := nameT_cases h
  · simp only at hn h1 ⊢
    rw [to_list]
    cases attr with
    | true =>
      simp only [if_true] at h1
      rw [resB_bare (split_bare hn) (eqT_self _), h1]
    | false =>
      simp only [Bool.false_eq_true, if_false] at h1
      have hf : findB ((sE, space) :: numP 0 (l' ++ r)) sE = (space, true) := by
        refine findB_some (eqT_false.2 (by decide)) ?_
        rw [lastB, lastB_numE]
        simp only [eqT_self]
        rfl
      rw [resB_full (attr := false) (split_bare hn) rfl hf (eqT_false.2 (by decide) : eqT sE sXmlns = false), h1]
      rfl
  · simp only at hn h1 ⊢
    rw [res_xml attr hn, h1]
  · simp only at hn hm ⊢
    have := res_num (pre := [(sE, space)]) attr hr (List.mem_append_left r hm) hn
    rw [idxB_app r hm] at this
    exact this
end Wb
