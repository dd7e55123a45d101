
/- A whole document: its text, its declaration, its tokens; a remark put in ahead of a tag. No program in sight. -/
import Derived.Test.YtoahkpkkkjnngaaGreatDoorLxTok2
namespace Wb

/-! ### what is text -/
def TxtOK (l : List UInt8) : Prop := ∃ ns : List Int, (∀ n ∈ ns, charB n = true) ∧ l = ns.flatMap enc

theorem b8_nat (n : Int) (h0 : 0 ≤ n) (h1 : n < 256) : ((b8 n).toNat : Int) = n := by
  unfold b8
  simp
  omega
/-- A byte below 128 is a sign alone. -/
theorem enc_low {n : Int} {b : UInt8} (h : b ∈ enc n) (hb : b.toNat < 128) : enc n = [b] ∧ n = b.toNat := by
  unfold enc at h ⊢
  split at h
  · rename_i hs
    have hr := (sgn_iff n).1 hs
    rw [if_pos hs]
    split at h
    · rename_i h1
      rw [if_pos h1]
      simp only [List.mem_singleton] at h
      subst h
      exact ⟨rfl, (b8_nat n (by omega) (by omega)).symm⟩
    · exfalso
      split at h
      · simp only [List.mem_cons, List.not_mem_nil, or_false] at h
        rcases h with rfl | rfl
        · have := b8_nat (192 + n / 64) (by omega) (by omega); omega
        · have := b8_nat (128 + n % 64) (by omega) (by omega); omega
      · split at h
        · simp only [List.mem_cons, List.not_mem_nil, or_false] at h
          rcases h with rfl | rfl | rfl
          · have := b8_nat (224 + n / 4096) (by omega) (by omega); omega
          · have := b8_nat (128 + n / 64 % 64) (by omega) (by omega); omega
          · have := b8_nat (128 + n % 64) (by omega) (by omega); omega
        · simp only [List.mem_cons, List.not_mem_nil, or_false] at h
          rcases h with rfl | rfl | rfl | rfl
          · have := b8_nat (240 + n / 262144) (by omega) (by omega); omega
          · have := b8_nat (128 + n / 4096 % 64) (by omega) (by omega); omega
          · have := b8_nat (128 + n / 64 % 64) (by omega) (by omega); omega
          · have := b8_nat (128 + n % 64) (by omega) (by omega); omega
  · simp at h

theorem TxtOK.nil : TxtOK [] := ⟨[], by simp, rfl⟩
theorem TxtOK.app {a b : List UInt8} (ha : TxtOK a) (hb : TxtOK b) : TxtOK (a ++ b) := by
  obtain ⟨ns, h1, rfl⟩ := ha
  obtain ⟨ms, h2, rfl⟩ := hb
  refine ⟨ns ++ ms, ?_, by simp⟩
  intro n hn
  rcases List.mem_append.1 hn with h | h
  · exact h1 n h
  · exact h2 n h
theorem TxtOK.split : ∀ (ns : List Int), (∀ n ∈ ns, charB n = true) → ∀ (a b : List UInt8), ns.flatMap enc = a ++ b → b.take 1 = [60] → TxtOK a ∧ TxtOK b
  | [], _, a, b, h, hb => by
    rw [List.flatMap_nil] at h
    have := List.append_eq_nil_iff.1 h.symm
    rw [this.2] at hb
    cases hb
  | n :: ns, hn, a, b, h, hb => by
    rw [List.flatMap_cons] at h
    by_cases ha : a = []
    · subst ha
      exact ⟨TxtOK.nil, n :: ns, hn, by simpa using h.symm⟩
    · have hs := char_sgn n (hn n (by simp))
      rcases Nat.lt_or_ge a.length (enc n).length with hl | hl
      · -- a sign's bytes would hold the <
        exfalso
        have hmem : (60 : UInt8) ∈ enc n := by
          have h2 : (enc n ++ ns.flatMap enc)[a.length]? = some 60 := by
            rw [h, List.getElem?_append_right (Nat.le_refl _), Nat.sub_self]
            cases b with
            | nil => cases hb
            | cons c b => simp at hb; rw [hb]; rfl
          rw [List.getElem?_append_left hl] at h2
          exact List.mem_of_getElem? h2
        have h3 := (enc_low hmem (by decide)).1
        rw [h3] at hl
        have h4 := List.length_pos_iff.2 ha
        simp only [List.length_cons, List.length_nil] at hl
        omega
      · obtain ⟨a', rfl⟩ : ∃ a', a = enc n ++ a' := by
          refine ⟨a.drop (enc n).length, ?_⟩
          have h2 := congrArg (List.take (enc n).length) h
          rw [List.take_left, List.take_append_of_le_length hl] at h2
          conv => rhs; lhs; rw [h2]
          rw [List.take_append_drop]
        rw [List.append_assoc] at h
        have h3 := List.append_cancel_left h
        obtain ⟨h4, h5⟩ := TxtOK.split ns (fun m hm => hn m (by simp [hm])) a' b h3 hb
        exact ⟨TxtOK.app ⟨[n], by simpa using hn n (by simp), by simp⟩ h4, h5⟩
theorem TxtOK.cut {a b : List UInt8} (h : TxtOK (a ++ b)) (hb : b.take 1 = [60]) : TxtOK a ∧ TxtOK b := by
  obtain ⟨ns, h1, h2⟩ := h
  exact TxtOK.split ns h1 a b h2.symm hb
theorem enc_ascii {b : UInt8} (h : b.toNat < 128) : enc (b.toNat : Int) = [b] := by
  have hs : sgn (b.toNat : Int) = true := by rw [sgn_iff]; omega
  unfold enc
  rw [if_pos hs, if_pos (by omega)]
  unfold b8
  simp
theorem TxtOK.ascii {l : List UInt8} (h : ∀ b ∈ l, 32 ≤ b.toNat ∧ b.toNat < 128) : TxtOK l := by
  refine ⟨l.map fun b => (b.toNat : Int), fun n hn => ?_, ?_⟩
  · obtain ⟨b, hb, rfl⟩ := List.mem_map.1 hn
    have := h b hb
    unfold charB
    simp [inS, charS]
    omega
  · induction l with
    | nil => rfl
    | cons c l ih =>
      rw [List.map_cons, List.flatMap_cons, enc_ascii (h c (by simp)).2, ← ih (fun b hb => h b (by simp [hb]))]
      rfl
/-- Valid bytes without those below 32 and without 239 are text. -/
theorem TxtOK.of_chk {l : List UInt8} (hc : chk l = -1) (h : ∀ b ∈ l, 32 ≤ b.toNat ∧ b ≠ 239) : TxtOK l := by
  obtain ⟨ns, r, h1, h2, h3⟩ := form l.length l (Nat.le_refl _)
  have h4 := chk_form ns r h1 h3
  rw [← h2, hc] at h4
  have hr : r = [] := by
    by_cases hr : r = []
    · exact hr
    · rw [if_neg hr] at h4
      have : (0 : Int) ≤ ((ns.flatMap enc).length : Int) := by omega
      omega
  subst hr
  rw [List.append_nil] at h2
  refine ⟨ns, fun n hn => ?_, h2⟩
  have hs := h1 n hn
  have hr := (sgn_iff n).1 hs
  have hb : ∀ b ∈ enc n, 32 ≤ b.toNat ∧ b ≠ 239 := fun b hb => h b (by rw [h2]; exact List.mem_flatMap.2 ⟨n, hn, hb⟩)
  have h32 : 32 ≤ n := by
    by_cases h5 : n < 128
    · have e : enc n = [b8 n] := by unfold enc; rw [if_pos hs, if_pos h5]
      have h6 := (hb (b8 n) (by rw [e]; simp)).1
      have h7 := b8_nat n (by omega) (by omega)
      omega
    · omega
  have hff : ¬ (65534 ≤ n ∧ n ≤ 65535) := by
    rintro ⟨h5, h6⟩
    have e : enc n = [b8 (224 + n / 4096), b8 (128 + n / 64 % 64), b8 (128 + n % 64)] := by
      unfold enc; rw [if_pos hs, if_neg (by omega), if_neg (by omega), if_pos (by omega)]
    have h7 := (hb (b8 (224 + n / 4096)) (by rw [e]; simp)).2
    apply h7
    have : 224 + n / 4096 = 239 := by omega
    rw [this]; rfl
  unfold charB
  simp [inS, charS]
  omega

/-! ### the remarks -/
theorem until_skip {p : List UInt8} {q : UInt8} (hp : p.head? = some q) (B : List UInt8) : ∀ r : List UInt8, (∀ b ∈ r, b ≠ q) → untilR p (r ++ (p ++ B)) = some (r.length + p.length, r)
  | [], _ => by
    cases p with
    | nil => cases hp
    | cons c p =>
      rw [List.nil_append, List.cons_append]
      unfold untilR
      rw [if_pos (by rw [← List.cons_append, List.take_left])]
      simp
  | c :: r, h => by
    rw [List.cons_append]
    unfold untilR
    have hc : ¬ ((c :: (r ++ (p ++ B))).take p.length = p) := by
      cases p with
      | nil => cases hp
      | cons d p =>
        simp at hp
        subst hp
        simp only [List.length_cons, List.take_succ_cons, List.cons.injEq, not_and]
        intro e
        exact absurd e (h c (by simp))
    rw [if_neg hc, until_skip hp B r (fun b hb => h b (by simp [hb]))]
    simp
    omega

def remX (r : List UInt8) : List UInt8 := [60, 33, 45, 45] ++ (r ++ [45, 45, 62])
def piX (r : List UInt8) : List UInt8 := [60, 63, 120, 32] ++ (r ++ [63, 62])

theorem litR_yes (p B : List UInt8) : litR p (p ++ B) = some (p.length, ()) := by
  unfold litR; rw [List.take_left, if_pos rfl]
theorem rem_piece (r B : List UInt8) (h : ∀ b ∈ r, b ≠ 45) : pieceR (remX r ++ B) = some ((remX r).length, none) := by
  have e : remX r ++ B = [60] ++ ([33] ++ ([45, 45] ++ (r ++ ([45, 45] ++ ([62] ++ B))))) := by simp [remX]
  rw [e]
  unfold pieceR
  rw [if_pos (by simp)]
  have hb : bangR ([45, 45] ++ (r ++ ([45, 45] ++ ([62] ++ B)))) = some (1 + (1 + (r.length + 2 + 1)), none) := by
    unfold bangR
    refine bindR_of (n := 1) (a := 45) rfl ?_
    rw [if_pos rfl]
    refine bindR_of (n := 1) (a := ()) (litR_yes [45] _) ?_
    refine bindR_of (n := r.length + 2) (a := r) (until_skip (p := [45, 45]) rfl _ r h) ?_
    have hd : ((r ++ ([45, 45] ++ ([62] ++ B))).drop (r.length + 2)) = [62] ++ B := by
      rw [← List.drop_drop, List.drop_left]; rfl
    show mapR (litR [62]) _ ((r ++ ([45, 45] ++ ([62] ++ B))).drop (r.length + 2)) = _
    rw [hd]
    unfold mapR
    rw [litR_yes]
    rfl
  have hm : markR ([60] ++ ([33] ++ ([45, 45] ++ (r ++ ([45, 45] ++ ([62] ++ B)))))) = some (1 + (1 + (1 + (1 + (r.length + 2 + 1)))), none) := by
    unfold markR
    refine bindR_of (n := 1) (a := ()) (litR_yes [60] _) ?_
    refine bindR_of (n := 1) (a := 33) rfl ?_
    rw [if_neg (by decide), if_pos rfl]
    exact hb
  rw [hm]
  simp [remX]
  omega

theorem span_one (p : UInt8 → Bool) (c d : UInt8) (B : List UInt8) (hc : p c = true) (hd : p d = false) : spanR p (c :: d :: B) = some (1, [c]) := by
  unfold spanR
  simp [hc, hd]
theorem pi_piece (r B : List UInt8) (h : ∀ b ∈ r, b ≠ 63) : pieceR (piX r ++ B) = some ((piX r).length, none) := by
  have e : piX r ++ B = [60] ++ ([63] ++ (120 :: 32 :: (r ++ ([63, 62] ++ B)))) := by simp [piX]
  rw [e]
  unfold pieceR
  rw [if_pos (by simp)]
  have h2 : piEndR (32 :: (r ++ ([63, 62] ++ B))) = some (r.length + 1 + 2, ()) := by
    unfold piEndR
    rw [if_pos (.inr (by rfl))]
    unfold mapR
    have := until_skip (p := [63, 62]) rfl B (32 :: r) (by
      intro b hb
      rcases List.mem_cons.1 hb with rfl | hb
      · decide
      · exact h b hb)
    rw [List.cons_append] at this
    rw [this]
    rfl
  have hp : piR (120 :: 32 :: (r ++ ([63, 62] ++ B))) = some (1 + (r.length + 1 + 2), none) := by
    unfold piR
    refine bindR_of (n := 1) (a := [120]) (span_one _ 120 32 _ (by decide) (by decide)) ?_
    unfold guardR
    rw [if_pos (by decide)]
    unfold mapR
    rw [show (120 :: 32 :: (r ++ ([63, 62] ++ B))).drop 1 = 32 :: (r ++ ([63, 62] ++ B)) from rfl, h2]
  have hm : markR ([60] ++ ([63] ++ (120 :: 32 :: (r ++ ([63, 62] ++ B))))) = some (1 + (1 + (1 + (r.length + 1 + 2))), none) := by
    unfold markR
    refine bindR_of (n := 1) (a := ()) (litR_yes [60] _) ?_
    refine bindR_of (n := 1) (a := 63) rfl ?_
    rw [if_pos rfl]
    exact hp
  rw [hm]
  simp [piX]
  omega
end Wb
