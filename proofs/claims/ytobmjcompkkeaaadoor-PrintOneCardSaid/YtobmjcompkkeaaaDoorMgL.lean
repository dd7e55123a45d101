
/- Contracts of the reference's small functions of layer 3: Begins, Index, small, number. -/
import Derived.Test.YtobmjcompkkeaaaDoorMgU
import Derived.Test.YtobmjcompkkeaaaDoorMgX
import Derived.Test.YtobmjcompkkeaaaDoorMem3
import Derived.Laws.Strings
namespace Go.Proofs.YtobmjcompkkeaaaDoor
open Go.RowKit Wb

/-- A text stands at a place. -/
def begAt (s : ByteArray) (i : Nat) (t : ByteArray) : Bool := (s.extract i (i + t.size)).toList == t.toList
def begB (s : ByteArray) (at_ : Int) (t : ByteArray) : Bool := decide (0 ≤ at_) && (decide (at_ + t.size ≤ s.size) && begAt s at_.toNat t)

/-- What Index answers. -/
def IdxIs (s : ByteArray) (a : Nat) (t : ByteArray) (r : Int) : Prop :=
  (r = -1 ∧ ∀ i, a ≤ i → i + t.size ≤ s.size → begAt s i t = false) ∨
  (∃ k : Nat, r = k ∧ a ≤ k ∧ k + t.size ≤ s.size ∧ begAt s k t = true ∧ ∀ i, a ≤ i → i < k → begAt s i t = false)

end Go.Proofs.YtobmjcompkkeaaaDoor

namespace Go.Proofs.YtobmjcompkkeaaaDoor
open Go.RowKit Wb

/-- What number answers: -1, or the digits' number, counted no further than past two millions. -/
def numR (base : Int) (l : List UInt8) : Int :=
  match (if l = [] then none else capL base 0 l) with
  | some n => n
  | none => -1

theorem digV_lt (c : Int) : digV c < 100 := by
  unfold digV
  split
  · omega
  · split <;> omega
theorem capL_bad {base n : Int} {c : UInt8} {l : List UInt8} (h : base ≤ digV c.toNat) : capL base n (c :: l) = none := by
  unfold capL; rw [if_pos h]
theorem capL_low {base n : Int} {c : UInt8} {l : List UInt8} (h : ¬ base ≤ digV c.toNat) (hn : n < 2000000) : capL base n (c :: l) = capL base (n * base + digV c.toNat) l := by
  conv => lhs; unfold capL
  rw [if_neg h, if_pos hn]
theorem capL_high {base n : Int} {c : UInt8} {l : List UInt8} (h : ¬ base ≤ digV c.toNat) (hn : ¬ n < 2000000) : capL base n (c :: l) = capL base n l := by
  conv => lhs; unfold capL
  rw [if_neg h, if_neg hn]
theorem numR_some {base n : Int} {l : List UInt8} (h : l ≠ []) (ho : capL base 0 l = some n) : numR base l = n := by
  unfold numR; rw [if_neg h, ho]
theorem numR_none {base : Int} {l : List UInt8} (ho : capL base 0 l = none) : numR base l = -1 := by
  unfold numR
  split
  · rename_i n hn
    split at hn
    · cases hn
    · rw [ho] at hn; cases hn
  · rfl
theorem numR_nil {base : Int} : numR base [] = -1 := rfl

theorem drop_byte (s : ByteArray) (k : Nat) (h : k < s.size) : s.data.toList.drop k = s[k] :: s.data.toList.drop (k + 1) := by
  have hk : k < s.data.toList.length := by simpa using h
  rw [List.drop_eq_getElem_cons hk]
  rfl

end Go.Proofs.YtobmjcompkkeaaaDoor

namespace Go.Proofs.YtobmjcompkkeaaaDoor
open Go.RowKit Wb

theorem cap_num {base : Int} (hb : 1 ≤ base) (l : List UInt8) :
    (numL base l = none ∧ numR base l = -1) ∨ ∃ m M, numL base l = some M ∧ numR base l = m ∧ 0 ≤ m ∧ (m = M ∨ (2000000 ≤ m ∧ 2000000 ≤ M)) := by
  by_cases h : l = []
  · subst h; exact .inl ⟨rfl, rfl⟩
  · rcases cap_dig base hb l 0 0 (Int.le_refl _) (.inl rfl) with ⟨h1, h2⟩ | ⟨m, M, h1, h2, h3, h4⟩
    · exact .inl ⟨by unfold numL; rw [if_neg h, h2], numR_none h1⟩
    · exact .inr ⟨m, M, by unfold numL; rw [if_neg h, h2], numR_some h h1, h3, h4⟩

theorem charB_big {n : Int} (h : 2000000 ≤ n) : charB n = false := by
  unfold charB
  simp [inS, charS]
  omega

/-- The number that the reference reckons with. -/
def refM (t : List UInt8) : Int := if t.take 2 = [35, 120] then numR 16 (t.drop 2) else if t.take 1 = [35] then numR 10 (t.drop 1) else -1

theorem refN_M (t : List UInt8) : (match refN t with | some n => if charB n then some (enc n) else none | none => none) = if 0 ≤ refM t ∧ charB (refM t) = true then some (enc (refM t)) else none := by
  have key : ∀ (base : Int) (l : List UInt8), 1 ≤ base → (match numL base l with | some n => if charB n then some (enc n) else none | none => none) = if 0 ≤ numR base l ∧ charB (numR base l) = true then some (enc (numR base l)) else none := by
    intro base l hb
    rcases cap_num hb l with ⟨h1, h2⟩ | ⟨m, M, h1, h2, h3, h4⟩
    · rw [h1, h2]; simp
    · rw [h1, h2]
      rcases h4 with rfl | ⟨h5, h6⟩
      · simp [h3]
      · simp only [charB_big h5, charB_big h6]; simp
  unfold refN refM
  by_cases h1 : t.take 2 = [35, 120]
  · simp only [if_pos h1]; exact key 16 _ (by omega)
  · simp only [if_neg h1]
    by_cases h2 : t.take 1 = [35]
    · simp only [if_pos h2]; exact key 10 _ (by omega)
    · simp only [if_neg h2]; simp

theorem refV_M {t : List UInt8} (h1 : t ≠ sLt) (h2 : t ≠ sGt) (h3 : t ≠ sAmp) (h4 : t ≠ sQuot) (h5 : t ≠ sApos) :
    refV t = if 0 ≤ refM t ∧ charB (refM t) = true then some (enc (refM t)) else none := by
  unfold refV
  rw [if_neg h1, if_neg h2, if_neg h3, if_neg h4, if_neg h5]
  exact refN_M t

theorem extract_L (s : ByteArray) (a b : Nat) : (s.extract a b).data.toList = (s.data.toList.drop a).take (b - a) := by
  simp only [ByteArray.data_extract, Array.toList_extract]

theorem begAt_L (s t : ByteArray) (i : Nat) : begAt s i t = true ↔ (s.data.toList.drop i).take t.size = t.data.toList := by
  unfold begAt
  rw [ByteArray.toList_eq, ByteArray.toList_eq, beq_iff_eq, extract_L]
  rw [show i + t.size - i = t.size from by omega]

theorem begAt_one (s : ByteArray) (i : Nat) (c : UInt8) (h : i < s.size) : begAt s i ⟨#[c]⟩ = true ↔ s[i] = c := by
  rw [begAt_L, drop_byte s i h]
  show [s[i]] = [c] ↔ _
  simp

/-- What stands at a reference's place: what it stands for, and how long it is between & and ;. -/
def refAt (s : ByteArray) (k : Nat) : Option (List UInt8 × Nat) :=
  match semi (s.data.toList.drop (k + 1)) with
  | none => none
  | some (t, _) => match refV t with
    | none => none
    | some x => some (x, t.length)

theorem semi_at {s : ByteArray} {k : Nat} (hk : k < s.size) (h38 : s[k] = 38) {r : Int} (h : IdxIs s k ⟨#[59]⟩ r) :
    (r = -1 ∧ semi (s.data.toList.drop (k + 1)) = none) ∨ ∃ e : Nat, r = e ∧ k + 1 ≤ e ∧ e < s.size ∧ semi (s.data.toList.drop (k + 1)) = some ((s.extract (k + 1) e).data.toList, s.data.toList.drop (e + 1)) ∧ (s.extract (k + 1) e).data.toList.length = e - (k + 1) := by
  have one : (⟨#[59]⟩ : ByteArray).size = 1 := rfl
  have hL : s.data.toList.length = s.size := by simp
  have at_ : ∀ j (hj : j < (s.data.toList.drop (k + 1)).length), (s.data.toList.drop (k + 1))[j] = s[k + 1 + j]'(by simp at hj; omega) := by
    intro j hj
    rw [List.getElem_drop]; rfl
  rcases h with ⟨rfl, h⟩ | ⟨e, rfl, h1, h2, h3, h4⟩
  · refine .inl ⟨rfl, semi_none _ (fun j hj => ?_)⟩
    rw [at_ j hj]
    intro he
    simp at hj
    have := (begAt_one s (k + 1 + j) 59 (by omega)).2 he
    rw [h (k + 1 + j) (by omega) (by rw [one]; omega)] at this
    cases this
  · rw [one] at h2
    have h5 := (begAt_one s e 59 (by omega)).1 h3
    have hne : e ≠ k := by
      rintro rfl
      rw [h38] at h5
      exact absurd h5 (by decide)
    refine .inr ⟨e, rfl, by omega, by omega, ?_, ?_⟩
    · have hj : e - (k + 1) < (s.data.toList.drop (k + 1)).length := by simp; omega
      rw [semi_some _ (e - (k + 1)) hj]
      · rw [extract_L, List.drop_drop]
        congr 3
        omega
      · rw [at_ _ hj]
        have : k + 1 + (e - (k + 1)) = e := by omega
        simp only [this, h5]
      · intro j hjk
        rw [at_ j (by omega)]
        intro he
        have := (begAt_one s (k + 1 + j) 59 (by omega)).2 he
        rw [h4 (k + 1 + j) (by omega) (by omega)] at this
        cases this
    · rw [extract_L]; simp; omega

theorem enc_ne {n : Int} (h : charB n = true) : enc n ≠ [] := by
  have hs : sgn n = true := by
    unfold charB at h
    simp [inS, charS] at h
    rw [sgn_iff]
    omega
  unfold enc
  rw [if_pos hs]
  split
  · simp
  · split
    · simp
    · split <;> simp
theorem refV_ne {t x : List UInt8} (h : refV t = some x) : x ≠ [] := by
  unfold refV at h
  split at h
  · cases h; simp
  · split at h
    · cases h; simp
    · split at h
      · cases h; simp
      · split at h
        · cases h; simp
        · split at h
          · cases h; simp
          · split at h
            · split at h
              · cases h; exact enc_ne (by assumption)
              · cases h
            · cases h
end Go.Proofs.YtobmjcompkkeaaaDoor

namespace Go.Proofs.YtobmjcompkkeaaaDoor
open Go.RowKit Wb

/-- What reference answers at a place at which & stands. -/
def refT (s : ByteArray) (k : Nat) : ByteArray × Int :=
  match refAt s k with
  | some (x, n) => (⟨x.toArray⟩, (k : Int) + n + 2)
  | none => (⟨#[]⟩, k)

theorem refT_no {s : ByteArray} {k : Nat} (h : semi (s.data.toList.drop (k + 1)) = none) : refT s k = (⟨#[]⟩, (k : Int)) := by
  unfold refT refAt; rw [h]
theorem refT_bad {s : ByteArray} {k : Nat} {t r : List UInt8} (h : semi (s.data.toList.drop (k + 1)) = some (t, r)) (hv : refV t = none) : refT s k = (⟨#[]⟩, (k : Int)) := by
  unfold refT refAt; rw [h]; simp only [hv]
theorem refT_ok {s : ByteArray} {k : Nat} {t r x : List UInt8} (h : semi (s.data.toList.drop (k + 1)) = some (t, r)) (hv : refV t = some x) : refT s k = (⟨x.toArray⟩, (k : Int) + t.length + 2) := by
  unfold refT refAt; rw [h]; simp only [hv]

theorem begB_0 (t x : ByteArray) : begB t 0 x = true ↔ t.data.toList.take x.size = x.data.toList := by
  unfold begB
  have h := begAt_L t x 0
  rw [List.drop_zero] at h
  rw [← h]
  simp only [Int.le_refl, decide_true, Bool.true_and, Bool.and_eq_true, decide_eq_true_eq, Int.toNat_zero]
  constructor
  · exact fun h => h.2
  · intro h'
    refine ⟨?_, h'⟩
    have h2 := congrArg List.length (h.1 h')
    simp at h2
    omega
theorem begB_size {t x : ByteArray} (h : begB t 0 x = true) : (x.size : Int) ≤ t.size := by
  unfold begB at h
  simp at h
  omega

def nm : Nat → List UInt8
  | 0 => sLt
  | 1 => sGt
  | 2 => sAmp
  | 3 => sQuot
  | _ => sApos

end Go.Proofs.YtobmjcompkkeaaaDoor

namespace Go.Proofs.YtobmjcompkkeaaaDoor
open Go.RowKit Wb

def unB (s : ByteArray) (attr : Bool) : ByteArray × Int × Int :=
  match unL attr (s.size + 1) s.data.toList 0 with
  | .ok x => (⟨x.toArray⟩, 0, 0)
  | .error p => (⟨#[]⟩, p, 16)
theorem unB_ok {s : ByteArray} {attr : Bool} {x : List UInt8} (h : unL attr (s.size + 1) s.data.toList 0 = .ok x) : unB s attr = (⟨x.toArray⟩, 0, 0) := by unfold unB; rw [h]
theorem unB_bad {s : ByteArray} {attr : Bool} {p : Nat} (h : unL attr (s.size + 1) s.data.toList 0 = .error p) : unB s attr = (⟨#[]⟩, (p : Int), 16) := by unfold unB; rw [h]

theorem map_app (o : Except Nat (List UInt8)) (out x : List UInt8) : (o.map (x ++ ·)).map (out ++ ·) = o.map ((out ++ x) ++ ·) := by
  cases o <;> simp [Except.map]
theorem map_cons (o : Except Nat (List UInt8)) (out : List UInt8) (c : UInt8) : (o.map (c :: ·)).map (out ++ ·) = o.map ((out ++ [c]) ++ ·) := by
  cases o <;> simp [Except.map]

theorem refAt_semi {s : ByteArray} {k : Nat} {x : List UInt8} {n : Nat} (h : refAt s k = some (x, n)) :
    ∃ t r, semi (s.data.toList.drop (k + 1)) = some (t, r) ∧ refV t = some x ∧ t.length = n := by
  unfold refAt at h
  cases hs : semi (s.data.toList.drop (k + 1)) with
  | none => rw [hs] at h; cases h
  | some p =>
    obtain ⟨t, r⟩ := p
    rw [hs] at h
    simp only at h
    cases hv : refV t with
    | none => rw [hv] at h; cases h
    | some y =>
      rw [hv] at h
      simp only [Option.some.injEq, Prod.mk.injEq] at h
      obtain ⟨rfl, rfl⟩ := h
      exact ⟨t, r, rfl, hv, rfl⟩

theorem semi_len : ∀ {l t r : List UInt8}, semi l = some (t, r) → r = l.drop (t.length + 1) ∧ t.length + 1 ≤ l.length
  | [], _, _, h => by cases h
  | c :: l, t, r, h => by
    unfold semi at h
    split at h
    · simp only [Option.some.injEq, Prod.mk.injEq] at h
      obtain ⟨rfl, rfl⟩ := h
      simp
    · cases hs : semi l with
      | none => rw [hs] at h; cases h
      | some p =>
        obtain ⟨a, b⟩ := p
        rw [hs] at h
        simp only [Option.some.injEq, Prod.mk.injEq] at h
        obtain ⟨rfl, rfl⟩ := h
        obtain ⟨h1, h2⟩ := semi_len hs
        refine ⟨by rw [h1]; simp, by simp; omega⟩

theorem un_ref {s : ByteArray} {k f : Nat} {x : List UInt8} {n : Nat} {attr : Bool} (hk : k < s.size) (h38 : s[k] = 38) (h : refAt s k = some (x, n)) :
    unL attr (f + 1) (s.data.toList.drop k) k = (unL attr f (s.data.toList.drop (k + n + 2)) (k + n + 2)).map (x ++ ·) ∧ k + n + 2 ≤ s.size := by
  obtain ⟨t, r, h1, h2, rfl⟩ := refAt_semi h
  obtain ⟨h3, h4⟩ := semi_len h1
  have hL : s.data.toList.length = s.size := by simp
  constructor
  · rw [drop_byte s k hk]
    conv => lhs; unfold unL
    rw [if_pos h38, h1]
    simp only [h2]
    rw [h3, List.drop_drop, show k + 1 + (t.length + 1) = k + t.length + 2 from by omega]
  · simp at h4
    omega
theorem un_bad {s : ByteArray} {k f : Nat} {attr : Bool} (hk : k < s.size) (h38 : s[k] = 38) (h : refAt s k = none) :
    unL attr (f + 1) (s.data.toList.drop k) k = .error k := by
  rw [drop_byte s k hk]
  unfold unL
  rw [if_pos h38]
  unfold refAt at h
  cases hs : semi (s.data.toList.drop (k + 1)) with
  | none => rfl
  | some p =>
    obtain ⟨t, r⟩ := p
    rw [hs] at h
    simp only at h ⊢
    cases hv : refV t with
    | none => rfl
    | some y => rw [hv] at h; cases h
theorem un_crlf {s : ByteArray} {k f : Nat} {attr : Bool} (hk : k < s.size) (hk1 : k + 1 < s.size) (h13 : s[k] = 13) (h10 : s[k + 1] = 10) :
    unL attr (f + 1) (s.data.toList.drop k) k = (unL attr f (s.data.toList.drop (k + 2)) (k + 2)).map ((if attr then 32 else 10) :: ·) := by
  rw [drop_byte s k hk]
  conv => lhs; unfold unL
  rw [if_neg (by rw [h13]; decide), if_pos h13, drop_byte s (k + 1) hk1, h10]
  simp
theorem un_cr {s : ByteArray} {k f : Nat} {attr : Bool} (hk : k < s.size) (h13 : s[k] = 13) (h : ∀ h1 : k + 1 < s.size, s[k + 1] ≠ 10) :
    unL attr (f + 1) (s.data.toList.drop k) k = (unL attr f (s.data.toList.drop (k + 1)) (k + 1)).map ((if attr then 32 else 10) :: ·) := by
  rw [drop_byte s k hk]
  conv => lhs; unfold unL
  rw [if_neg (by rw [h13]; decide), if_pos h13, if_neg]
  by_cases h1 : k + 1 < s.size
  · rw [drop_byte s (k + 1) h1]
    simp [h h1]
  · rw [List.drop_eq_nil_of_le (by simp; omega)]
    simp
theorem un_other {s : ByteArray} {k f : Nat} {attr : Bool} (hk : k < s.size) (h38 : s[k] ≠ 38) (h13 : s[k] ≠ 13) :
    unL attr (f + 1) (s.data.toList.drop k) k = (unL attr f (s.data.toList.drop (k + 1)) (k + 1)).map ((if attr && (s[k] == 9 || s[k] == 10) then 32 else s[k]) :: ·) := by
  rw [drop_byte s k hk]
  conv => lhs; unfold unL
  rw [if_neg h38, if_neg h13]
theorem un_end {s : ByteArray} {k f : Nat} {attr : Bool} (hk : s.size ≤ k) : unL attr (f + 1) (s.data.toList.drop k) k = .ok [] := by
  rw [List.drop_eq_nil_of_le (by simpa using hk)]; rfl

theorem enc_le (n : Int) : (enc n).length ≤ 4 := by
  unfold enc
  split
  · split
    · simp
    · split
      · simp
      · split <;> simp
  · simp
theorem refV_le {t x : List UInt8} (h : refV t = some x) : x.length ≤ 4 := by
  unfold refV at h
  split at h
  · cases h; simp
  · split at h
    · cases h; simp
    · split at h
      · cases h; simp
      · split at h
        · cases h; simp
        · split at h
          · cases h; simp
          · split at h
            · split at h
              · cases h; exact enc_le _
              · cases h
            · cases h

theorem byte_eq (s : ByteArray) (k : Nat) (h : k < s.size) (c : UInt8) : ((s[k].toNat : Int) == (c.toNat : Int)) = decide (s[k] = c) := by
  by_cases e : s[k] = c
  · rw [e]; simp
  · have : s[k].toNat ≠ c.toNat := fun h => e (UInt8.toNat_inj.1 h)
    rw [decide_eq_false e]
    simp
    omega
end Go.Proofs.YtobmjcompkkeaaaDoor

namespace Go.Proofs.YtobmjcompkkeaaaDoor
open Go.RowKit Wb

theorem byte_info : (Tryd.prog.info? 5).map (fun i => (i.zero, i.size, i.bytes)) = some (some (.int .u8 0), 1, 1) := by kernel_rfl

theorem b8_toNat (b : UInt8) : b8 (b.toNat : Int) = b := by unfold b8; simp

/-- What an own row of bytes is as a text. -/
theorem run_text_own {w : World} {base n : Nat} {e : TypeId} {v : Value} (l : List UInt8) (h : w.ownsRow base e 1 v n (cellsB l)) (hl : l ≠ []) :
    (convert 39 9 v).run Tryd.prog w = .ok (.string ⟨l.toArray⟩) w := by
  have hn : n = l.length := by have := h.1; rw [cellsB_length] at this; omega
  obtain ⟨g, cap, rfl, _, _⟩ := h.form (by cases l with
    | nil => exact absurd rfl hl
    | cons a r => rw [hn]; simp)
  rw [run_text w g n cap (l.map fun b => (b.toNat : Int)) (by simp [hn]) (by
    intro j u hu
    have := h.cells (g := g) rfl j u (by simpa [cellsB] using hu)
    rw [Addr.add_lit, Nat.zero_add] at this
    exact this)]
  rw [List.map_map, show (b8 ∘ fun b : UInt8 => (b.toNat : Int)) = id from funext b8_toNat, List.map_id]

theorem map_nil (o : Except Nat (List UInt8)) : o = o.map ([] ++ ·) := by cases o <;> rfl

theorem run_text_none (w : World) : (convert 39 9 (.slice none 0 0)).run Tryd.prog w = .ok (.string ⟨#[]⟩) w := by
  rw [run_convert_bytes_string w _ _ _ _ 0 0 Tryd.underlying39 Tryd.underlying5 Tryd.underlying9]
  unfold Conv.bytesToString
  simp [Sem.run_pure]
  rfl
theorem run_text_empty (w : World) (g c : Nat) : (convert 39 9 (.slice (some ⟨g, 0, none⟩) 0 c)).run Tryd.prog w = .ok (.string ⟨#[]⟩) w := by
  rw [run_text w g 0 c [] rfl (by simp)]
  rfl

theorem own_len {w : World} {base n : Nat} {e : TypeId} {v : Value} {l : List UInt8} (h : w.ownsRow base e 1 v n (cellsB l)) : n = l.length := by
  have := h.1; rw [cellsB_length] at this; omega

end Go.Proofs.YtobmjcompkkeaaaDoor

namespace Go.Proofs.YtobmjcompkkeaaaDoor
open Go.RowKit Wb

/-! ### LexPlain's plain facts -/
theorem unL_len (attr : Bool) : ∀ (f : Nat) (l : List UInt8) (k : Nat) (a : List UInt8), unL attr f l k = .ok a → a.length ≤ 4 * l.length := by
  intro f
  induction f with
  | zero =>
    intro l k a h
    simp only [unL, Except.ok.injEq] at h
    subst h
    simp
  | succ f ih =>
    intro l k a h
    cases l with
    | nil =>
      simp only [unL, Except.ok.injEq] at h
      subst h
      simp
    | cons c l =>
      unfold unL at h
      split at h
      · cases hs : semi l with
        | none => rw [hs] at h; cases h
        | some p =>
          obtain ⟨t, r⟩ := p
          rw [hs] at h
          simp only at h
          cases hv : refV t with
          | none => rw [hv] at h; cases h
          | some x =>
            rw [hv] at h
            simp only at h
            obtain ⟨b, hb, rfl⟩ := ex_map_ok h
            have h1 := ih _ _ _ hb
            have h2 := refV_le hv
            have h3 := congrArg List.length (semi_drop hs)
            simp only [List.length_append, List.length_cons] at h3 ⊢
            omega
      · split at h
        · split at h
          · obtain ⟨b, hb, rfl⟩ := ex_map_ok h
            have h1 := ih _ _ _ hb
            simp only [List.length_drop, List.length_cons] at h1 ⊢
            omega
          · obtain ⟨b, hb, rfl⟩ := ex_map_ok h
            have h1 := ih _ _ _ hb
            simp only [List.length_cons] at h1 ⊢
            omega
        · obtain ⟨b, hb, rfl⟩ := ex_map_ok h
          have h1 := ih _ _ _ hb
          simp only [List.length_cons] at h1 ⊢
          omega

theorem unB_cases (s : ByteArray) (attr : Bool) : (∃ x : List UInt8, unL attr (s.size + 1) s.data.toList 0 = .ok x ∧ unB s attr = (⟨x.toArray⟩, 0, 0) ∧ x.length ≤ 4 * s.size) ∨ ∃ p : Nat, unB s attr = (⟨#[]⟩, (p : Int), 16) := by
  cases h : unL attr (s.size + 1) s.data.toList 0 with
  | ok x =>
    refine .inl ⟨x, rfl, unB_ok h, ?_⟩
    have := unL_len _ _ _ _ _ h
    simpa using this
  | error p => exact .inr ⟨p, unB_bad h⟩

theorem app_list (s t : ByteArray) : (s ++ t).data.toList = s.data.toList ++ t.data.toList := by simp [ByteArray.data_append]
theorem ba_of (s : ByteArray) : (⟨s.data.toList.toArray⟩ : ByteArray) = s := by cases s; simp

theorem unB_app {s t : ByteArray} {x y : List UInt8} (hs : unL false (s.size + 1) s.data.toList 0 = .ok x) (ht : unL false (t.size + 1) t.data.toList 0 = .ok y) (hl : s.size = 0 ∨ ∃ h : s.size - 1 < s.size, s[s.size - 1] ≠ 13) :
    unB (s ++ t) false = (⟨(x ++ y).toArray⟩, 0, 0) := by
  have hL : s.data.toList.length = s.size := by simp
  have hT : t.data.toList.length = t.size := by simp
  refine unB_ok ?_
  rw [app_list]
  have hlast : ∀ hn : s.data.toList ≠ [], s.data.toList.getLast hn ≠ 13 := by
    intro hn
    rcases hl with h0 | ⟨h1, h2⟩
    · exact absurd (List.eq_nil_of_length_eq_zero (by omega)) hn
    · rw [List.getLast_eq_getElem]
      simp only [hL]
      exact h2
  rw [unL_app false t.data.toList s.data.toList.length s.data.toList (Nat.le_refl _) x 0 (s.size + 1) ((s ++ t).size + 1) (t.size + 1) hs (by omega) (by simp) (by omega) hlast]
  have : unL false (t.size + 1) t.data.toList (0 + s.data.toList.length) = .ok y := unL_place ht _
  rw [this]
  rfl

theorem unB_plain {s : ByteArray} (h : ∀ b ∈ s.data.toList, b ≠ 38 ∧ b ≠ 13) : unB s false = (s, 0, 0) ∧ unB (s ++ ⟨#[38, 103, 116, 59]⟩) false = (s ++ ⟨#[62]⟩, 0, 0) := by
  have hL : s.data.toList.length = s.size := by simp
  have h1 := unL_plain s.data.toList (s.size + 1) 0 (by omega) h
  refine ⟨by rw [unB_ok h1, ba_of], ?_⟩
  have h2 : unL false ((⟨#[38, 103, 116, 59]⟩ : ByteArray).size + 1) (⟨#[38, 103, 116, 59]⟩ : ByteArray).data.toList 0 = .ok [62] := unL_gt 0 0
  rw [unB_app h1 h2]
  · congr 1
  · by_cases h0 : s.size = 0
    · exact .inl h0
    · refine .inr ⟨by omega, ?_⟩
      have hm : s[s.size - 1]'(by omega) ∈ s.data.toList := by
        have : s[s.size - 1]'(by omega) = s.data.toList[s.size - 1]'(by omega) := rfl
        rw [this]
        exact List.getElem_mem _
      exact (h _ hm).2
end Go.Proofs.YtobmjcompkkeaaaDoor

