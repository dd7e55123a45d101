/- PrE LxTok LxTok3 TrR TrU PrP PrQ PrR QdP QdQ TrG UtfA. -/
import Derived.WalkSmall
import Derived.Test.YtbdamneophbnnaaGreatDoorRows
import Derived.Test.YtbdamneophbnnaaGreatDoorCU1
import Derived.Test.YtbdamneophbnnaaGreatDoorCU2
namespace Wb
def digT (n : Nat) : List UInt8 := if n < 10 then [(48 + n).toUInt8] else [(48 + n / 10).toUInt8, (48 + n % 10).toUInt8]
def numT (i : Nat) : List UInt8 := 110 :: digT (i + 1)
def needs (s : ByteArray) : Bool := !(eqT s sE) && !(eqT s sXML)
def sXmlK : List UInt8 := [120, 109, 108, 58]
def idxB (x : ByteArray) : List ByteArray → Nat
  | [] => 0
  | y :: l => if y = x then 0 else idxB x l + 1
theorem idxB_at : ∀ {l : List ByteArray} {x : ByteArray} {k : Nat} (hk : k < l.length), l[k]'hk = x → (∀ j (hj : j < l.length), j < k → l[j] ≠ x) → idxB x l = k
  | [], _, _, hk, _, _ => by simp at hk
  | y :: l, x, 0, hk, h, _ => by
    have h : y = x := h
    unfold idxB
    rw [if_pos h]
  | y :: l, x, k + 1, hk, h, hn => by
    have hy : y ≠ x := hn 0 (by simp) (by omega)
    unfold idxB
    rw [if_neg hy, idxB_at (k := k) (l := l) (x := x) (by simpa using hk) (by simpa using h) (fun j hj hjk => by
      have := hn (j + 1) (by simpa using hj) (by omega)
      simpa using this)]
theorem idxB_lt : ∀ {l : List ByteArray} {x : ByteArray}, x ∈ l → idxB x l < l.length
  | y :: l, x, h => by
    unfold idxB
    by_cases e : y = x
    · rw [if_pos e]; simp
    · rw [if_neg e]
      have : x ∈ l := by
        rcases List.mem_cons.1 h with h | h
        · exact absurd h.symm e
        · exact h
      have := idxB_lt this
      simp only [List.length_cons]; omega
end Wb
namespace Wb
def blkB (c : UInt8) : Bool := c == 9 || c == 10 || c == 13 || c == 32
def wordB (c : UInt8) : Bool := !(blkB c) && c != 47 && c != 62 && c != 61 && c != 60 && c != 34 && c != 39 && c != 38
def endsL : List UInt8 → List UInt8
  | [] => []
  | c :: l => if c = 13 then (if l.take 1 = [10] then endsL l else 10 :: endsL l) else c :: endsL l
end Wb
namespace Wb
def TxtOK (l : List UInt8) : Prop := ∃ ns : List Int, (∀ n ∈ ns, charB n = true) ∧ l = ns.flatMap enc
theorem b8_nat (n : Int) (h0 : 0 ≤ n) (h1 : n < 256) : ((b8 n).toNat : Int) = n := by
  unfold b8
  simp
  omega
theorem enc_low {n : Int} {b : UInt8} (h : b ∈ enc n) (hb : b.toNat < 128) : enc n = [b] ∧ n = b.toNat := by
  unfold enc at h ⊢
  split at h
  · rename_i hs
    have hr := (sgn_iff n).1 hs
    rw [if_pos hs]
    split at h
    · rename_i h1
      rw [if_pos h1]
      simp only [List.mem_singleton] at h
      subst h
      exact ⟨rfl, (b8_nat n (by omega) (by omega)).symm⟩
    · exfalso
      split at h
      · simp only [List.mem_cons, List.not_mem_nil, or_false] at h
        rcases h with rfl | rfl
        · have := b8_nat (192 + n / 64) (by omega) (by omega); omega
        · have := b8_nat (128 + n % 64) (by omega) (by omega); omega
      · split at h
        · simp only [List.mem_cons, List.not_mem_nil, or_false] at h
          rcases h with rfl | rfl | rfl
          · have := b8_nat (224 + n / 4096) (by omega) (by omega); omega
          · have := b8_nat (128 + n / 64 % 64) (by omega) (by omega); omega
          · have := b8_nat (128 + n % 64) (by omega) (by omega); omega
        · simp only [List.mem_cons, List.not_mem_nil, or_false] at h
          rcases h with rfl | rfl | rfl | rfl
          · have := b8_nat (240 + n / 262144) (by omega) (by omega); omega
          · have := b8_nat (128 + n / 4096 % 64) (by omega) (by omega); omega
          · have := b8_nat (128 + n / 64 % 64) (by omega) (by omega); omega
          · have := b8_nat (128 + n % 64) (by omega) (by omega); omega
  · simp at h
theorem TxtOK.nil : TxtOK [] := ⟨[], by simp, rfl⟩
theorem TxtOK.app {a b : List UInt8} (ha : TxtOK a) (hb : TxtOK b) : TxtOK (a ++ b) := by
  obtain ⟨ns, h1, rfl⟩ := ha
  obtain ⟨ms, h2, rfl⟩ := hb
  refine ⟨ns ++ ms, ?_, by simp⟩
  intro n hn
  rcases List.mem_append.1 hn with h | h
  · exact h1 n h
  · exact h2 n h
theorem enc_ascii {b : UInt8} (h : b.toNat < 128) : enc (b.toNat : Int) = [b] := by
  have hs : sgn (b.toNat : Int) = true := by rw [sgn_iff]; omega
  unfold enc
  rw [if_pos hs, if_pos (by omega)]
  unfold b8
  simp
theorem TxtOK.ascii {l : List UInt8} (h : ∀ b ∈ l, 32 ≤ b.toNat ∧ b.toNat < 128) : TxtOK l := by
  refine ⟨l.map fun b => (b.toNat : Int), fun n hn => ?_, ?_⟩
  · obtain ⟨b, hb, rfl⟩ := List.mem_map.1 hn
    have := h b hb
    unfold charB
    simp [inS, charS]
    omega
  · induction l with
    | nil => rfl
    | cons c l ih =>
      rw [List.map_cons, List.flatMap_cons, enc_ascii (h c (by simp)).2, ← ih (fun b hb => h b (by simp [hb]))]
      rfl
end Wb
namespace Wb
def TxtB (s : ByteArray) : Prop := TxtOK s.data.toList
end Wb
namespace Wb
theorem word_low {c : UInt8} (h : wordB c = false) : c.toNat < 128 := by
  unfold wordB blkB at h
  simp at h
  apply Classical.byContradiction
  intro hn
  have ne : ∀ d : UInt8, d.toNat < 128 → c ≠ d := fun d hd e => by rw [e] at hn; omega
  have := h (ne 9 (by decide)) (ne 10 (by decide)) (ne 13 (by decide)) (ne 32 (by decide)) (ne 47 (by decide)) (ne 62 (by decide)) (ne 61 (by decide)) (ne 60 (by decide)) (ne 34 (by decide)) (ne 39 (by decide))
  exact ne 38 (by decide) this
theorem tw_each (p : UInt8 → Bool) : ∀ (l : List UInt8), ∀ c ∈ l.takeWhile p, p c = true
  | [], c, h => by simp at h
  | d :: l, c, h => by
    by_cases hd : p d = true
    · rw [List.takeWhile_cons_of_pos hd] at h
      rcases List.mem_cons.1 h with rfl | h
      · exact hd
      · exact tw_each p l c h
    · rw [List.takeWhile_cons_of_neg hd] at h
      simp at h
end Wb
namespace Wb
theorem part_word : ∀ c : Fin 128, partB (c.val : Int) = true → wordB (UInt8.ofNat c.val) = true ∧ UInt8.ofNat c.val ≠ 58 ∧ UInt8.ofNat c.val ≠ 63 ∧ UInt8.ofNat c.val ≠ 33 := by decide +kernel
theorem enc_part_word {n : Int} (hn : partB n = true) {b : UInt8} (hb : b ∈ enc n) : wordB b = true ∧ b ≠ 58 ∧ b ≠ 63 ∧ b ≠ 33 := by
  by_cases hl : b.toNat < 128
  · obtain ⟨_, rfl⟩ := enc_low hb hl
    have := part_word ⟨b.toNat, hl⟩ hn
    simpa using this
  · refine ⟨?_, ?_, ?_, ?_⟩
    · cases h : wordB b with
      | true => rfl
      | false => exact absurd (word_low h) hl
    · intro e; subst e; exact hl (by decide)
    · intro e; subst e; exact hl (by decide)
    · intro e; subst e; exact hl (by decide)
theorem nm_bytes {l : List UInt8} (h : nameB l = true) : l ≠ [] ∧ l.length ≤ 64 ∧ TxtOK l ∧ ∀ b ∈ l, wordB b = true ∧ b ≠ 58 ∧ b ≠ 63 ∧ b ≠ 33 := by
  obtain ⟨h1, n, ns, h2, h3, rfl⟩ := (nameB_iff l).1 h
  have hp : ∀ m ∈ n :: ns, partB m = true := fun m hm => by
    rcases List.mem_cons.1 hm with rfl | hm
    · exact start_part m h2
    · exact h3 m hm
  have hs := slen_one n (start_sgn n h2)
  have hl := enc_length n
  refine ⟨fun e => ?_, h1, ⟨n :: ns, fun m hm => part_char m (hp m hm), rfl⟩, fun b hb => ?_⟩
  · have := congrArg List.length e
    simp only [List.flatMap_cons, List.length_append, List.length_nil] at this
    omega
  · obtain ⟨m, hm, hb⟩ := List.mem_flatMap.1 hb
    exact enc_part_word (hp m hm) hb
end Wb
namespace Wb
theorem needs_iff (s : ByteArray) : needs s = true ↔ s ≠ sE ∧ s ≠ sXML := by
  unfold needs
  rw [Bool.and_eq_true, Bool.not_eq_true', Bool.not_eq_true', eqT_false, eqT_false]
theorem num_name : ∀ i : Fin 32, nameB (numT i.val) = true := by decide +kernel
theorem num_inj : ∀ i j : Fin 32, numT i.val = numT j.val → i = j := by decide +kernel
theorem num_len : ∀ i : Fin 32, (numT i.val).length ≤ 3 := by decide +kernel
theorem refB_high {attr : Bool} {c : UInt8} (h : 128 ≤ c.toNat) : refB attr c = [] := by
  unfold refB
  have ne : ∀ d : UInt8, d.toNat < 128 → c ≠ d := fun d hd e => by rw [e] at h; omega
  rw [if_neg (ne 38 (by decide)), if_neg (ne 60 (by decide)), if_neg (fun e => ne 62 (by decide) e.1), if_neg (fun e => ne 34 (by decide) e.1), if_neg (ne 13 (by decide)), if_neg (fun e => ne 10 (by decide) e.1), if_neg (fun e => ne 9 (by decide) e.1)]
theorem refB_txt (attr : Bool) (c : UInt8) : TxtOK (refB attr c) := by
  refine TxtOK.ascii ?_
  unfold refB
  repeat' split
  all_goals decide
theorem esc_txt (attr : Bool) {l : List UInt8} (h : TxtOK l) : TxtOK (escL attr l) := by
  obtain ⟨ns, h1, rfl⟩ := h
  induction ns with
  | nil => exact TxtOK.nil
  | cons n ns ih =>
    rw [List.flatMap_cons, escL_app]
    refine TxtOK.app ?_ (ih (fun m hm => h1 m (by simp [hm])))
    have hn : TxtOK (enc n) := ⟨[n], fun m hm => h1 m (by rw [List.mem_singleton] at hm; simp [hm]), by simp⟩
    by_cases hx : ∃ b ∈ enc n, b.toNat < 128
    · obtain ⟨b, hb, hl⟩ := hx
      have e := (enc_low hb hl).1
      rw [e] at hn ⊢
      show TxtOK (escB attr b ++ [])
      rw [List.append_nil]
      unfold escB
      split
      · exact hn
      · exact refB_txt _ _
    · rw [escL_plain (fun c hc => refB_high (by
        apply Classical.byContradiction
        intro hh
        exact hx ⟨c, hc, by omega⟩))]
      exact hn
end Wb
namespace Wb
open Go
theorem ext_list (s : ByteArray) (a b : Nat) : (s.extract a b).data.toList = (s.data.toList.drop a).take (b - a) := by
  simp [ByteArray.data_extract]
theorem of_list (l : List UInt8) : (ByteArray.mk l.toArray).data.toList = l := by simp
theorem to_list (s : ByteArray) : (⟨s.data.toList.toArray⟩ : ByteArray) = s := by
  apply ba_data; simp
theorem bang_at {q : ByteArray} {l : List UInt8} (hq : q.data.toList = l) {i : Nat} (h : i < l.length) : q[i]! = l[i] := by
  have hi : i < q.size := by rw [Go.Lib.size_eq, hq]; exact h
  rw [getElem!_pos q i hi]
  subst hq
  show q.data[i] = _
  rw [← Array.getElem_toList]
theorem cIx_at {q : ByteArray} {a b : List UInt8} (hq : q.data.toList = a ++ 58 :: b) (ha : ∀ x ∈ a, x ≠ 58) : cIx q = some a.length := by
  rw [cIx_some]
  refine ⟨by rw [Go.Lib.size_eq, hq]; simp, ?_, fun i hi => ?_⟩
  · rw [bang_at hq (i := a.length) (by simp)]
    simp
  · rw [bang_at hq (i := i) (by simp; omega), List.getElem_append_left hi]
    exact ha _ (List.getElem_mem _)
theorem cIx_bare {q : ByteArray} (ha : ∀ x ∈ q.data.toList, x ≠ 58) : cIx q = none := by
  rw [cIx_none]
  intro i hi
  rw [Go.Lib.size_eq] at hi
  rw [bang_at rfl hi]
  exact ha _ (List.getElem_mem _)
theorem split_bare {lo : ByteArray} (h : nameB lo.data.toList = true) : splitB lo = (sE, lo, true) := by
  rw [splitB_none (cIx_bare fun x hx => ((nm_bytes h).2.2.2 x hx).2.1) h]
  rfl
theorem split_pre {q p lo : ByteArray} (hp : nameB p.data.toList = true) (h : nameB lo.data.toList = true) (hq : q.data.toList = p.data.toList ++ 58 :: lo.data.toList) : splitB q = (p, lo, true) := by
  have hc := cIx_at hq (fun x hx => ((nm_bytes hp).2.2.2 x hx).2.1)
  have e1 : q.extract 0 p.data.toList.length = p := ba_data (by
    rw [ext_list, hq, List.drop_zero, Nat.sub_zero, List.take_left])
  have e2 : q.extract (p.data.toList.length + 1) q.size = lo := ba_data (by
    have hs : q.size = p.data.toList.length + (lo.data.toList.length + 1) := by rw [Go.Lib.size_eq, hq]; simp
    rw [ext_list, hq, show p.data.toList ++ 58 :: lo.data.toList = (p.data.toList ++ [58]) ++ lo.data.toList from by simp, List.drop_left' (by simp), hs]
    exact List.take_of_length_le (by omega))
  rw [splitB_some hc rfl rfl, e1, e2, hp, h]
  rfl
def numP : Nat → List ByteArray → List Pr
  | _, [] => []
  | i, s :: sp => (⟨(numT i).toArray⟩, s) :: numP (i + 1) sp
theorem num_ne {i j : Nat} (hi : i < 32) (hj : j < 32) (h : i ≠ j) : (⟨(numT i).toArray⟩ : ByteArray) ≠ ⟨(numT j).toArray⟩ := fun e => by
  have := congrArg (fun s : ByteArray => s.data.toList) e
  simp only at this
  have := num_inj ⟨i, hi⟩ ⟨j, hj⟩ this
  simp only [Fin.mk.injEq] at this
  exact h this
theorem num_neE (i : Nat) : (⟨(numT i).toArray⟩ : ByteArray) ≠ sE := fun e => by
  have h2 : (numT i).toArray.size = 0 := congrArg ByteArray.size e
  rw [List.size_toArray] at h2
  unfold numT at h2
  simp at h2
theorem num_neX (i : Nat) : (⟨(numT i).toArray⟩ : ByteArray) ≠ sXmlns ∧ (⟨(numT i).toArray⟩ : ByteArray) ≠ sXmlQ := by
  have key : ∀ s : ByteArray, s.data.toList.head? = some 120 → (⟨(numT i).toArray⟩ : ByteArray) ≠ s := fun s hs e => by
    have := congrArg (fun s : ByteArray => s.data.toList.head?) e
    simp only at this
    rw [hs] at this
    unfold numT at this
    simp at this
  exact ⟨key _ rfl, key _ rfl⟩
theorem bind_num {i : Nat} (hi : i < 32) {s : ByteArray} (h1 : needs s = true) (h2 : s ≠ sXMLNS) : bindB ⟨(numT i).toArray⟩ s = 0 := by
  obtain ⟨h3, h4⟩ := (needs_iff s).1 h1
  have e1 := eqT_false.2 (num_neE i)
  have e2 := eqT_false.2 (num_neX i).1
  have e3 := eqT_false.2 (num_neX i).2
  have e4 := eqT_false.2 h3
  have e5 := eqT_false.2 h4
  have e6 := eqT_false.2 h2
  have e7 : nameB (ByteArray.mk (numT i).toArray).data.toList = true := by rw [of_list]; exact num_name ⟨i, hi⟩
  unfold bindB
  rw [e1, e2, e3, e4, e5, e6, e7]
  rfl
theorem bind_dfl {own : ByteArray} (h1 : own ≠ sXML) (h2 : own ≠ sXMLNS) : bindB sE own = 0 := by
  have e5 := eqT_false.2 h1
  have e6 := eqT_false.2 h2
  have e1 : eqT sE sE = true := eqT_self _
  have e2 : eqT sE sXmlns = false := eqT_false.2 (by decide)
  have e3 : eqT sE sXmlQ = false := eqT_false.2 (by decide)
  unfold bindB
  rw [e1, e2, e3, e5, e6]
  rfl
theorem lastB_app (a b : List Pr) (p : ByteArray) : lastB (a ++ b) p = match lastB b p with | some s => some s | none => lastB a p := by
  induction a with
  | nil => simp only [List.nil_append, lastB]; cases lastB b p <;> rfl
  | cons x a ih =>
    rw [List.cons_append, lastB, ih]
    cases lastB b p with
    | some s => rfl
    | none => rfl
theorem lastB_numE : ∀ (sp : List ByteArray) (i : Nat), lastB (numP i sp) sE = none
  | [], _ => rfl
  | s :: sp, i => by
    rw [numP, lastB, lastB_numE sp (i + 1)]
    simp only [eqT_false.2 (num_neE i)]
    rfl
theorem lastB_below : ∀ (sp : List ByteArray) (i j : Nat), i + sp.length ≤ 32 → j < i → lastB (numP i sp) ⟨(numT j).toArray⟩ = none
  | [], _, _, _, _ => rfl
  | s :: sp, i, j, h, hj => by
    simp only [List.length_cons] at h
    rw [numP, lastB, lastB_below sp (i + 1) j (by omega) (by omega)]
    simp only [eqT_false.2 (num_ne (i := i) (j := j) (by omega) (by omega) (by omega))]
    rfl
theorem lastB_num : ∀ (sp : List ByteArray) (i k : Nat) (s : ByteArray), i + sp.length ≤ 32 → sp[k]? = some s → lastB (numP i sp) ⟨(numT (i + k)).toArray⟩ = some s
  | [], _, _, _, _, h => by simp at h
  | x :: sp, i, 0, s, h, hs => by
    simp only [List.length_cons] at h
    simp only [List.getElem?_cons_zero, Option.some.injEq] at hs
    subst hs
    rw [numP, lastB]
    simp only [Nat.add_zero]
    rw [lastB_below sp (i + 1) i (by omega) (by omega)]
    simp only [eqT_self]
    rfl
  | x :: sp, i, k + 1, s, h, hs => by
    simp only [List.length_cons] at h
    rw [numP, lastB, show i + (k + 1) = i + 1 + k from by omega, lastB_num sp (i + 1) k s (by omega) (by simpa using hs)]
theorem idxB_get : ∀ {l : List ByteArray} {x : ByteArray}, x ∈ l → l[idxB x l]? = some x
  | y :: l, x, h => by
    unfold idxB
    by_cases e : y = x
    · rw [if_pos e, e]; rfl
    · rw [if_neg e]
      rcases List.mem_cons.1 h with h | h
      · exact absurd h.symm e
      · simpa using idxB_get h
end Wb
namespace Wb
def plC (c : UInt8) : Bool := (decide (97 ≤ c.toNat) && decide (c.toNat ≤ 122)) || (decide (65 ≤ c.toNat) && decide (c.toNat ≤ 90)) || (decide (48 ≤ c.toNat) && decide (c.toNat ≤ 57)) ||
  c == 45 || c == 46 || c == 95 || c == 126
def hexG (n : Nat) : UInt8 := if n < 10 then UInt8.ofNat (48 + n) else UInt8.ofNat (55 + n)
def dgV (c : UInt8) : Int :=
  if 48 ≤ c.toNat ∧ c.toNat ≤ 57 then c.toNat - 48 else if 65 ≤ c.toNat ∧ c.toNat ≤ 70 then c.toNat - 55 else if 97 ≤ c.toNat ∧ c.toNat ≤ 102 then c.toNat - 87 else -1
def pctC (keep : List UInt8) (c : UInt8) : List UInt8 := if ((plC c || keep.contains c) && c != 37) = true then [c] else [37, hexG (c.toNat / 16), hexG (c.toNat % 16)]
def pctE (keep s : List UInt8) : List UInt8 := s.flatMap (pctC keep)
def pctD : List UInt8 → Option (List UInt8)
  | [] => some []
  | c :: l => if c = 37 then
      match l with
      | a :: b :: r => if dgV a < 0 ∨ dgV b < 0 then none else (pctD r).map (UInt8.ofNat (dgV a * 16 + dgV b).toNat :: ·)
      | _ => none
    else (pctD l).map (c :: ·)
def decP (s : List UInt8) : List UInt8 × Int := match pctD s with
  | none => ([], 32)
  | some t => if 0 ≤ chk t then ([], 10) else (t, 0)
def pieceA (by_ : UInt8) : List UInt8 → List UInt8 → List (List UInt8)
  | cur, [] => [cur]
  | cur, c :: l => if c = by_ then cur :: pieceA by_ [] l else pieceA by_ (cur ++ [c]) l
def pieceF (by_ : UInt8) (s : List UInt8) : List (List UInt8) := pieceA by_ [] s
def joinB (by_ : UInt8) : List (List UInt8) → List UInt8
  | [] => []
  | [x] => x
  | x :: y :: r => x ++ by_ :: joinB by_ (y :: r)
theorem pctD_one {c : UInt8} (l : List UInt8) (h : c ≠ 37) : pctD (c :: l) = (pctD l).map (c :: ·) := by
  match l with
  | [] => rw [pctD.eq_def]; simp only [h, if_false]
  | [x] => rw [pctD.eq_def]; simp only [h, if_false]
  | x :: y :: r => rw [pctD.eq_def]; simp only [h, if_false]
theorem pctD_esc (a b : UInt8) (r : List UInt8) : pctD (37 :: a :: b :: r) = if dgV a < 0 ∨ dgV b < 0 then none else (pctD r).map (UInt8.ofNat (dgV a * 16 + dgV b).toNat :: ·) := by
  rw [pctD, if_pos rfl]
theorem pctD_end {l : List UInt8} (h : l.length < 2) : pctD (37 :: l) = none := by
  match l, h with
  | [], _ => rfl
  | [x], _ => rfl
theorem dgV_bd (c : UInt8) : dgV c = -1 ∨ (0 ≤ dgV c ∧ dgV c ≤ 15) := by
  unfold dgV
  repeat' split
  all_goals omega
theorem hexG_nat (n : Nat) (h : n < 16) : (hexG n).toNat = if n < 10 then 48 + n else 55 + n := by
  unfold hexG
  split
  · rw [UInt8.toNat_ofNat']; omega
  · rw [UInt8.toNat_ofNat']; omega
theorem dgV_hex (n : Nat) (h : n < 16) : dgV (hexG n) = n := by
  have h2 := hexG_nat n h
  unfold dgV
  rw [h2]
  repeat' split
  all_goals omega
theorem plC_hex (n : Nat) (h : n < 16) : plC (hexG n) = true := by
  have h2 := hexG_nat n h
  unfold plC
  rw [h2]
  simp only [Bool.or_eq_true, Bool.and_eq_true, decide_eq_true_eq]
  split <;> omega
theorem byte_two (c : UInt8) : UInt8.ofNat (((c.toNat / 16 : Nat) : Int) * 16 + ((c.toNat % 16 : Nat) : Int)).toNat = c := by
  apply UInt8.toNat_inj.1
  have := c.toNat_lt
  rw [UInt8.toNat_ofNat']
  omega
theorem pctC_dec (keep l : List UInt8) (c : UInt8) : pctD (pctC keep c ++ l) = (pctD l).map (c :: ·) := by
  have hc := c.toNat_lt
  unfold pctC
  split
  · rename_i h
    have : c ≠ 37 := by
      rw [Bool.and_eq_true, bne_iff_ne] at h
      exact h.2
    rw [List.singleton_append, pctD_one _ this]
  · rw [List.cons_append, List.cons_append, List.cons_append, List.nil_append, pctD_esc]
    have h1 := dgV_hex (c.toNat / 16) (by omega)
    have h2 := dgV_hex (c.toNat % 16) (by omega)
    rw [h1, h2, if_neg (by omega), byte_two]
theorem pct_back (keep : List UInt8) : ∀ s : List UInt8, pctD (pctE keep s) = some s
  | [] => rfl
  | c :: l => by
    have := pct_back keep l
    unfold pctE at this ⊢
    rw [List.flatMap_cons, pctC_dec, this]
    rfl
theorem pctE_append (keep s t : List UInt8) : pctE keep (s ++ t) = pctE keep s ++ pctE keep t := by
  unfold pctE
  rw [List.flatMap_append]
theorem pctC_len (keep : List UInt8) (c : UInt8) : 1 ≤ (pctC keep c).length ∧ (pctC keep c).length ≤ 3 := by
  unfold pctC
  split <;> simp
theorem pctE_len (keep : List UInt8) : ∀ s : List UInt8, (pctE keep s).length ≤ 3 * s.length
  | [] => Nat.le_refl _
  | c :: l => by
    have := pctE_len keep l
    have h := (pctC_len keep c).2
    unfold pctE at this ⊢
    rw [List.flatMap_cons, List.length_append, List.length_cons]
    omega
theorem pctE_mem (keep s : List UInt8) : ∀ c ∈ pctE keep s, plC c = true ∨ c = 37 ∨ keep.contains c = true := by
  intro c h
  unfold pctE at h
  obtain ⟨d, _, h⟩ := List.mem_flatMap.1 h
  have hd := d.toNat_lt
  unfold pctC at h
  split at h
  · rename_i hk
    rw [List.mem_singleton] at h
    subst h
    rw [Bool.and_eq_true, Bool.or_eq_true] at hk
    exact hk.1.elim .inl fun h => .inr (.inr h)
  · simp only [List.mem_cons, List.not_mem_nil, or_false] at h
    rcases h with rfl | rfl | rfl
    · exact .inr (.inl rfl)
    · exact .inl (plC_hex _ (by omega))
    · exact .inl (plC_hex _ (by omega))
theorem decP_back (keep s : List UInt8) : decP (pctE keep s) = if 0 ≤ chk s then ([], 10) else (s, 0) := by
  unfold decP
  rw [pct_back]
theorem pctD_append (t : List UInt8) : ∀ (n : Nat) (s a : List UInt8), s.length ≤ n → pctD s = some a → pctD (s ++ t) = (pctD t).map (a ++ ·)
  | _, [], a, _, h => by
    rw [pctD] at h
    cases h
    rw [List.nil_append]
    cases pctD t <;> rfl
  | 0, c :: l, _, hn, _ => by simp at hn
  | n + 1, c :: l, a, hn, h => by
    rw [List.length_cons] at hn
    by_cases hc : c = 37
    · subst hc
      match l, hn, h with
      | x :: y :: r, hn, h =>
        simp only [List.length_cons] at hn
        rw [pctD_esc] at h
        rw [List.cons_append, List.cons_append, List.cons_append, pctD_esc]
        split at h
        · cases h
        · rename_i hx
          rw [if_neg hx]
          obtain ⟨b, hb, rfl⟩ := Option.map_eq_some_iff.1 h
          rw [pctD_append t n r b (by omega) hb, Option.map_map]
          rfl
      | [x], _, h =>
        rw [pctD_end (by simp)] at h
        cases h
      | [], _, h =>
        rw [pctD_end (by simp)] at h
        cases h
    · rw [pctD_one _ hc] at h
      rw [List.cons_append, pctD_one _ hc]
      obtain ⟨b, hb, rfl⟩ := Option.map_eq_some_iff.1 h
      rw [pctD_append t n l b (by omega) hb, Option.map_map]
      rfl
theorem decP_ok {s a : List UInt8} {e : Int} (h : decP s = (a, e)) (he : e = 0) : pctD s = some a ∧ chk a = -1 := by
  unfold decP at h
  subst he
  split at h
  · cases h
  · rename_i t ht
    split at h
    · cases h
    · rename_i hc
      cases h
      refine ⟨ht, ?_⟩
      rcases chk_bd a with h | h
      · exact h
      · omega
theorem pctD_len : ∀ (n : Nat) (s a : List UInt8), s.length ≤ n → pctD s = some a → a.length ≤ s.length
  | _, [], a, _, h => by
    rw [pctD] at h
    cases h
    exact Nat.le_refl _
  | 0, c :: l, _, hn, _ => by simp at hn
  | n + 1, c :: l, a, hn, h => by
    rw [List.length_cons] at hn ⊢
    by_cases hc : c = 37
    · subst hc
      match l, hn, h with
      | x :: y :: r, hn, h =>
        simp only [List.length_cons] at hn ⊢
        rw [pctD_esc] at h
        split at h
        · cases h
        · obtain ⟨b, hb, rfl⟩ := Option.map_eq_some_iff.1 h
          have := pctD_len n r b (by omega) hb
          rw [List.length_cons]
          omega
      | [x], _, h =>
        rw [pctD_end (by simp)] at h
        cases h
      | [], _, h =>
        rw [pctD_end (by simp)] at h
        cases h
    · rw [pctD_one _ hc] at h
      obtain ⟨b, hb, rfl⟩ := Option.map_eq_some_iff.1 h
      have := pctD_len n l b (by omega) hb
      rw [List.length_cons]
      omega
theorem decP_len (s : List UInt8) : (decP s).1.length ≤ s.length := by
  unfold decP
  split
  · simp
  · rename_i t ht
    split
    · simp
    · exact pctD_len _ s t (Nat.le_refl _) ht
end Wb
namespace Wb
theorem pieceA_ne (by_ : UInt8) : ∀ (cur s : List UInt8), pieceA by_ cur s ≠ []
  | _, [] => by rw [pieceA]; simp
  | cur, c :: l => by
    rw [pieceA]
    split
    · simp
    · exact pieceA_ne by_ _ l
theorem joinB_cons (by_ : UInt8) (x : List UInt8) {l : List (List UInt8)} (h : l ≠ []) : joinB by_ (x :: l) = x ++ by_ :: joinB by_ l := by
  match l, h with
  | y :: r, _ => rfl
theorem piece_join (by_ : UInt8) : ∀ (cur s : List UInt8), joinB by_ (pieceA by_ cur s) = cur ++ s
  | cur, [] => by rw [pieceA]; exact (List.append_nil _).symm
  | cur, c :: l => by
    rw [pieceA]
    split
    · rename_i hc
      rw [joinB_cons by_ _ (pieceA_ne _ _ _), piece_join by_ [] l, hc]
      rfl
    · rw [piece_join by_ (cur ++ [c]) l, List.append_assoc]
      rfl
theorem piece_free (by_ : UInt8) : ∀ (cur s : List UInt8), by_ ∉ cur → ∀ x ∈ pieceA by_ cur s, by_ ∉ x
  | cur, [], h, x, hx => by
    rw [pieceA, List.mem_singleton] at hx
    rw [hx]
    exact h
  | cur, c :: l, h, x, hx => by
    rw [pieceA] at hx
    split at hx
    · rcases List.mem_cons.1 hx with rfl | hx
      · exact h
      · exact piece_free by_ [] l List.not_mem_nil x hx
    · rename_i hc
      refine piece_free by_ (cur ++ [c]) l ?_ x hx
      rw [List.mem_append, List.mem_singleton]
      exact fun hq => hq.elim h fun hq => hc hq.symm
theorem pcs_len (by_ : UInt8) : ∀ (cur s : List UInt8), (pieceA by_ cur s).length ≤ s.length + 1
  | _, [] => by rw [pieceA]; simp
  | cur, c :: l => by
    rw [pieceA]
    have h1 := pcs_len by_ [] l
    have h2 := pcs_len by_ (cur ++ [c]) l
    split
    · simp only [List.length_cons]; omega
    · simp only [List.length_cons]; omega
theorem piece_size (by_ : UInt8) : ∀ (cur s : List UInt8), ∀ x ∈ pieceA by_ cur s, x.length ≤ cur.length + s.length
  | cur, [], x, hx => by
    rw [pieceA, List.mem_singleton] at hx
    subst hx
    simp
  | cur, c :: l, x, hx => by
    rw [pieceA] at hx
    rw [List.length_cons]
    split at hx
    · rcases List.mem_cons.1 hx with rfl | hx
      · omega
      · have := piece_size by_ [] l x hx
        rw [List.length_nil] at this
        omega
    · have := piece_size by_ (cur ++ [c]) l x hx
      rw [List.length_append, List.length_singleton] at this
      omega
theorem join_snoc (by_ : UInt8) (y : List UInt8) : ∀ l : List (List UInt8), joinB by_ (l ++ [y]) = joinB by_ l ++ ((if l.length = 0 then [] else [by_]) ++ y)
  | [] => rfl
  | [x] => by
    show x ++ by_ :: y = x ++ ([by_] ++ y)
    rfl
  | x :: z :: r => by
    have h := join_snoc by_ y (z :: r)
    rw [List.cons_append, joinB_cons by_ x (by simp), h, joinB_cons by_ x (by simp), List.append_assoc]
    rfl
theorem enc_step (keep s : List UInt8) (i : Nat) (h : i < s.length) : pctE keep (s.take (i + 1)) = pctE keep (s.take i) ++ pctC keep s[i] := by
  rw [← List.take_append_getElem h, pctE_append]
  congr 1
  unfold pctE
  rw [List.flatMap_singleton]
def DecAt (s b : List UInt8) (i : Nat) : Prop := pctD s = (pctD (s.drop i)).map (b ++ ·)
theorem decAt_zero (s : List UInt8) : DecAt s [] 0 := by
  unfold DecAt
  rw [List.drop_zero]
  cases pctD s <;> rfl
theorem pdrop_at {s : List UInt8} {i : Nat} (h : i < s.length) : s.drop i = s[i] :: s.drop (i + 1) := List.drop_eq_getElem_cons h
theorem decAt_one {s b : List UInt8} {i : Nat} (hd : DecAt s b i) (h : i < s.length) (hc : s[i] ≠ 37) : DecAt s (b ++ [s[i]]) (i + 1) := by
  unfold DecAt at hd ⊢
  rw [hd, pdrop_at h, pctD_one _ hc, Option.map_map]
  congr 1
  funext x
  simp
theorem decAt_bad {s b : List UInt8} {i : Nat} (hd : DecAt s b i) (h : i < s.length) (hc : s[i] = 37) (hb : s.length ≤ i + 2 ∨ (∃ h2 : i + 2 < s.length, dgV s[i + 1] < 0 ∨ dgV s[i + 2] < 0)) : pctD s = none := by
  unfold DecAt at hd
  rw [hd, pdrop_at h, hc]
  rcases hb with hb | ⟨h2, hb⟩
  · rw [pctD_end (by rw [List.length_drop]; omega)]
    rfl
  · rw [pdrop_at (show i + 1 < s.length by omega), pdrop_at (show i + 1 + 1 < s.length by omega), pctD_esc, if_pos hb]
    rfl
theorem decAt_esc {s b : List UInt8} {i : Nat} (hd : DecAt s b i) (h : i + 2 < s.length) (hc : s[i] = 37) (h1 : 0 ≤ dgV s[i + 1]) (h2 : 0 ≤ dgV s[i + 2]) :
    DecAt s (b ++ [UInt8.ofNat (dgV s[i + 1] * 16 + dgV s[i + 2]).toNat]) (i + 3) := by
  unfold DecAt at hd ⊢
  rw [hd, pdrop_at (show i < s.length by omega), hc, pdrop_at (show i + 1 < s.length by omega), pdrop_at (show i + 1 + 1 < s.length by omega), pctD_esc, if_neg (by have h2 : 0 ≤ dgV s[i + 1 + 1] := h2; omega), Option.map_map]
  congr 1
  funext x
  simp
theorem decAt_end {s b : List UInt8} {i : Nat} (hd : DecAt s b i) (h : s.length ≤ i) : pctD s = some b := by
  unfold DecAt at hd
  rw [hd, List.drop_eq_nil_of_le h]
  show some (b ++ []) = some b
  rw [List.append_nil]
end Wb
namespace Wb
open Go Go.RowKit
structure Keep (S : Nat → Prop) (w w' : World) : Prop where
  os : w'.os = w.os
  tape : w'.tape = w.tape
  output : w'.output = w.output
  size : w.heap.size ≤ w'.heap.size
  block : ∀ k, k < w.heap.size → ¬ S k → w'.heap[k]? = w.heap[k]?
section
variable {S S' : Nat → Prop} {w w' w2 : World}
theorem Keep.refl (S : Nat → Prop) (w : World) : Keep S w w := ⟨rfl, rfl, rfl, Nat.le_refl _, fun _ _ _ => rfl⟩
theorem Keep.trans (h : Keep S w w') (k : Keep S w' w2) : Keep S w w2 :=
  ⟨k.os.trans h.os, k.tape.trans h.tape, k.output.trans h.output, Nat.le_trans h.size k.size, fun i hi hs => (k.block i (Nat.lt_of_lt_of_le hi h.size) hs).trans (h.block i hi hs)⟩
theorem Keep.of_below (S : Nat → Prop) (h : Below w.heap.size w w') : Keep S w w' := ⟨h.os, h.tape, h.output, h.size, fun k hk _ => h.block k hk⟩
theorem Keep.below {base : Nat} (h : Keep S w w') (hs : ∀ k, S k → base ≤ k) (hb : base ≤ w.heap.size) : Below base w w' :=
  ⟨h.os, h.tape, h.output, h.size, fun k hk => h.block k (by omega) (fun h1 => by have := hs k h1; omega)⟩
theorem Keep.setCell (h : Keep S w w') {p : Addr} (hp : S p.block) (u : Value) : Keep S w (w'.setCell p u) :=
  h.trans ⟨rfl, rfl, rfl, by simp [World.setCell], fun k _ hn => Below.heap_setCell _ _ _ _ (fun e => hn (by rw [e]; exact hp))⟩
theorem Keep.grown (h : Keep S w w') {row : Option Nat} (hg : w'.grownBy w2 row) (hr : ∀ k, row = some k → S k) : Keep S w w2 :=
  h.trans ⟨hg.os, hg.tape, hg.output, hg.size, fun k hk hn => hg.block k hk (fun e => hn (hr k e.symm))⟩
theorem own_blk {base sz n : Nat} {e : TypeId} {v : Value} {xs : List Value} (h : w.ownsRow base e sz v n xs) (hb : ∀ k, v.ownBlock = some k → w'.heap[k]? = w.heap[k]?) : w'.ownsRow base e sz v n xs := by
  refine ⟨h.1, ?_⟩
  rcases h.2 with h2 | ⟨g, cap, cur, rfl, hbg, hg, rest⟩
  · exact .inl h2
  · exact .inr ⟨g, cap, cur, rfl, hbg, (hb g rfl).trans hg, rest⟩
theorem own_in {base sz n g : Nat} {e : TypeId} {v : Value} {xs : List Value} (h : w.ownsRow base e sz v n xs) (hv : v.ownBlock = some g) : base ≤ g ∧ g < w.heap.size := h.lt g hv
end
section
variable {tN tE tB : TypeId} {S S' : Nat → Prop} {w w' : World} {base B : Nat} {ov kv : Value}
variable {rc : List Value}
theorem blk_in {w : World} {g : Nat} {o : Obj} (h : w.heap[g]? = some o) : g < w.heap.size := (Array.getElem?_eq_some_iff.1 h).1
end
end Wb
namespace Go.Proofs.YtbdamneophbnnaaGreatDoor
open Go.RowKit Wb
set_option maxHeartbeats 400000 in
theorem sign_any (n : Int) (w : World) :
    Calls Tryz.prog 81 #[.int .i64 n] w fun e w' => e = .returned (.bool (sgn n)) ∧ w = w' := by
  have H := Lib.hid (sgn_iff n)
  go_enter Tryz.func81, Tryz.ntmps81
  go_wp2
  all_goals
    go_ret
    refine ⟨ret_b ?_, rfl⟩
    unfold sgn
    simp [*]
    try omega
set_option maxHeartbeats 400000 in
theorem first_any (c : Int) (w : World) (h0 : 0 ≤ c) (h1 : c < 256) :
    Calls Tryz.prog 101 #[.int .u8 c] w fun e w' => e = .returned (.tuple #[.int .i64 (fsz c), .int .i32 (fbt c)]) ∧ w = w' := by
  have k31 := u8_and31 c h0 h1
  have k15 := u8_and15 c h0 h1
  have k7 := u8_and7 c h0 h1
  go_enter Tryz.func101, Tryz.ntmps101
  go_wp2
  all_goals
    go_ret2
    refine ⟨ret_ii ?_ ?_, rfl⟩
    all_goals
      try simp only [beq_iff_eq, beq_eq_false_iff_ne] at *
      first | unfold fsz | unfold fbt
      repeat (first | (rw [if_pos (by omega)]) | (rw [if_neg (by omega)]))
set_option maxHeartbeats 400000 in
theorem further_any (r below : Int) (w : World) (h0 : 0 ≤ r) (h1 : r < 2147483648) (hb0 : 0 ≤ below) (hb1 : below ≤ 12) :
    Calls Tryz.prog 193 #[.int .i32 r, .int .i64 below] w fun e w' => e = .returned (.int .u8 (128 + r / 2 ^ below.toNat % 64)) ∧ w = w' := by
  go_enter Tryz.func193, Tryz.ntmps193
  go_wp2
  go_ret
  refine ⟨ret_i ?_, rfl⟩
  have hp : (0 : Int) < 2 ^ below.toNat := Int.pow_pos (by decide)
  have q0 : 0 ≤ r / 2 ^ below.toNat := Int.ediv_nonneg h0 (by omega)
  have q1 : r / 2 ^ below.toNat ≤ r := Int.ediv_le_self _ h0
  generalize r / 2 ^ below.toNat = q at *
  show bits BinOp.or IntKind.u8 128 (bits BinOp.and IntKind.i32 q 63 % 256) = _
  rw [i32_and63 q q0 (by omega), u8_or128 _ (by omega) (by omega)]
  omega
set_option maxHeartbeats 400000 in
theorem blank_any (c : Int) (w : World) :
    Calls Tryz.prog 88 #[.int .u8 c] w fun e w' => e = .returned (.bool (blk c)) ∧ w = w' := by
  go_enter Tryz.func88, Tryz.ntmps88
  go_wp2
  all_goals
    go_ret
    refine ⟨ret_b ?_, rfl⟩
    unfold blk
    simp_all
theorem inS_take (r : Int) (l : List (Int × Int)) (k : Nat) (h : k < l.length) (h0 : inS r (l.take k) = false) :
    inS r (l.take (k + 1)) = (decide (l[k].1 ≤ r) && decide (r ≤ l[k].2)) := by
  unfold inS at *
  rw [List.take_succ_eq_append_getElem h, List.any_append, h0]
  simp
theorem inS_mono (r : Int) (l : List (Int × Int)) (j : Nat) (h : true = inS r (l.take j)) : true = inS r l := by
  unfold inS at *
  have h := h.symm
  rw [List.any_eq_true] at h
  obtain ⟨x, hx, hp⟩ := h
  exact (List.any_eq_true.2 ⟨x, List.mem_of_mem_take hx, hp⟩).symm
set_option maxHeartbeats 400000 in
theorem within_any (r : Int) (l : List (Int × Int)) (b n : Nat) (w : World) (hn : l.length = n) (hn1 : n ≤ 1000) (hb : b < w.heap.size)
    (hc : ∀ k (h : k < l.length), w.cell? ⟨b, k * 2, none⟩ = some (.int .i32 l[k].1) ∧ w.cell? ⟨b, k * 2 + 1, none⟩ = some (.int .i32 l[k].2)) :
    Calls Tryz.prog 126 #[.int .i32 r, .slice (some ⟨b, 0, none⟩) n n] w fun e w' => e = .returned (.bool (inS r l)) ∧ Below w.heap.size w w' := by
  have HC := Lib.hid hc
  have HN := Lib.hid hn
  clear hc hn
  go_enter Tryz.func126, Tryz.ntmps126
  go_wp2
  go_loopw [9] (fun i wr => ∃ k : Nat, k ≤ n ∧ i = .int .i64 k ∧ Hid (inS r (l.take k) = false) ∧ Below w.heap.size w wr) (fun i _ => n - (intOf i).toNat)
  case atStart => exact ⟨0, Nat.zero_le _, rfl, rfl, Below.refl _ _⟩
  case round =>
    obtain ⟨k, hk, rfl, HI, hbel⟩ := hrel
    by_cases hlt : k < n
    · have hk' : k < l.length := by rw [HN.out]; exact hlt
      have hs := hbel.size
      obtain ⟨lo, hi, e1, e2, HS⟩ : ∃ lo hi, wr.cell? ⟨b, k * 2, none⟩ = some (.int .i32 lo) ∧ wr.cell? ⟨b, k * 2 + 1, none⟩ = some (.int .i32 hi) ∧ Hid (inS r (l.take (k + 1)) = (decide (lo ≤ r) && decide (r ≤ hi))) :=
        ⟨_, _, (hbel.cell (p := ⟨b, k * 2, none⟩) hb).trans (HC.out k hk').1, (hbel.cell (p := ⟨b, k * 2 + 1, none⟩) hb).trans (HC.out k hk').2, inS_take r l k hk' HI.out⟩
      go_wp2
      · go_ret
        refine ⟨ret_b (inS_mono r l (k + 1) ?_), hbel.alloc hs _⟩
        rw [HS.out]
        simp [*]
      all_goals
        go_roundw
        case rel => exact ⟨k + 1, by omega, by go_num, Lib.hid (by rw [HS.out]; simp; omega), hbel.alloc hs _⟩
        case measure => simp [intOf]; omega
    · go_wp2
      go_ret
      refine ⟨ret_b ?_, hbel⟩
      have HI' := HI.out
      rw [List.take_of_length_le (by rw [HN.out]; omega)] at HI'
      exact HI'.symm
set_option maxHeartbeats 400000 in
theorem in_any (r : Int) (l : List (Int × Int)) (b n : Nat) (w : World) (hn : l.length * 2 = n) (hn1 : n ≤ 1000)
    (hc : ∀ k (h : k < l.length), w.cell? ⟨b, 2 * k, none⟩ = some (.int .i64 l[k].1) ∧ w.cell? ⟨b, 2 * k + 1, none⟩ = some (.int .i64 l[k].2)) :
    Calls Tryz.prog 99 #[.int .i64 r, .slice (some ⟨b, 0, none⟩) n n] w fun e w' => e = .returned (.bool (inS r l)) ∧ w = w' := by
  have HC := Lib.hid hc
  have HN := Lib.hid hn
  clear hc hn
  go_enter Tryz.func99, Tryz.ntmps99
  go_wp2
  go_loop [5] (fun i => ∃ k : Nat, k * 2 ≤ n ∧ i = .int .i64 (2 * (k : Int)) ∧ Hid (inS r (l.take k) = false)) (fun i => n - (intOf i).toNat)
  case atStart => exact ⟨0, by omega, rfl, rfl⟩
  case round =>
    obtain ⟨k, hk, rfl, HI⟩ := hrel
    by_cases hlt : k * 2 + 1 < n
    · have hk' : k < l.length := by have := HN.out; omega
      obtain ⟨lo, hi, e1, e2, HS⟩ : ∃ lo hi, w.cell? ⟨b, 2 * k, none⟩ = some (.int .i64 lo) ∧ w.cell? ⟨b, 2 * k + 1, none⟩ = some (.int .i64 hi) ∧ Hid (inS r (l.take (k + 1)) = (decide (lo ≤ r) && decide (r ≤ hi))) :=
        ⟨_, _, (HC.out k hk').1, (HC.out k hk').2, inS_take r l k hk' HI.out⟩
      go_wp2
      · go_ret
        refine ⟨ret_b (inS_mono r l (k + 1) ?_), rfl⟩
        rw [HS.out]
        simp [*]
      all_goals
        go_round
        case rel => exact ⟨k + 1, by omega, by go_num, Lib.hid (by rw [HS.out]; simp; omega)⟩
        case measure => simp [intOf]; omega
    · go_wp2
      go_ret
      refine ⟨ret_b ?_, rfl⟩
      have HI' := HI.out
      rw [List.take_of_length_le (by have := HN.out; omega)] at HI'
      exact HI'.symm
end Go.Proofs.YtbdamneophbnnaaGreatDoor
