/- LeFit4. -/
import Derived.Test.YtlcjepnaljfpkaaGreatDoorQp27
import Derived.Test.YtlcjepnaljfpkaaGreatDoorQp29
namespace Wb
theorem dec_ascii (c : UInt8) (l : List UInt8) (h : c.toNat < 128) : dec (c :: l) = ((c.toNat : Int), 1) := by
  have e := enc_ascii h
  have hs : sgn (c.toNat : Int) = true := by rw [sgn_iff]; omega
  have := dec_enc (c.toNat : Int) hs l
  rw [e] at this
  rw [show c :: l = [c] ++ l from rfl, this]
  unfold slen
  rw [if_pos hs, if_pos (by omega)]
theorem decU_ascii (c : UInt8) (l : List UInt8) (h : c.toNat < 128) : decU (c :: l) = (c.toNat, 1) := by
  unfold decU
  rw [dec_ascii c l h]
  simp
theorem decU_enc (n : Int) (hs : sgn n = true) (r : List UInt8) : decU (enc n ++ r) = (n.toNat, (slen n).toNat) := by
  have := slen_one n hs
  unfold decU
  rw [dec_enc n hs r]
  rw [if_neg (by show ¬ slen n = 0; omega)]
theorem decU_le {l : List UInt8} (h : l ≠ []) : (decU l).2 ≤ l.length := by
  have := (dec_bd l).2.2
  have h1 := List.length_pos_iff.2 h
  unfold decU
  split
  · show 1 ≤ _; omega
  · show (dec l).2.toNat ≤ _; omega
theorem decU_low {l : List UInt8} {b : UInt8} (h : b ∈ l.take (decU l).2) (hb : b.toNat < 128) : ((decU l).1 : Int) = b.toNat := by
  cases l with
  | nil => simp at h
  | cons c l =>
    by_cases hc : c.toNat < 128
    · rw [decU_ascii c l hc] at h ⊢
      simp at h
      rw [h]
    · exfalso
      by_cases h0 : (dec (c :: l)).2 = 0
      · have e : decU (c :: l) = (65533, 1) := by unfold decU; rw [if_pos h0]
        rw [e] at h
        simp at h
        subst h
        exact hc hb
      · obtain ⟨n, k, hd⟩ := dec_pair (c :: l)
        rw [hd] at h0
        obtain ⟨h1, h2, r, h3⟩ := dec_some _ n k hd h0
        rw [h3, decU_enc n h1 r] at h
        have hl := enc_length n
        rw [List.take_append_of_le_length (by simp only; omega), List.take_of_length_le (by simp only; omega)] at h
        obtain ⟨h4, _⟩ := enc_low h hb
        rw [h4] at h3
        simp only [List.singleton_append, List.cons.injEq] at h3
        rw [h3.1] at hc
        exact hc hb
theorem part_low : ∀ c : Fin 128, partB (c.val : Int) = true → blkB (UInt8.ofNat c.val) = false ∧ UInt8.ofNat c.val ≠ 63 := by decide +kernel
theorem high_clean {b : UInt8} (h : 128 ≤ b.toNat) : blkB b = false ∧ b ≠ 63 := by
  have ne : ∀ c : UInt8, c.toNat < 128 → b ≠ c := fun c hc e => by rw [e] at h; omega
  refine ⟨?_, ne 63 (by decide)⟩
  unfold blkB
  have h1 := ne 9 (by decide)
  have h2 := ne 10 (by decide)
  have h3 := ne 13 (by decide)
  have h4 := ne 32 (by decide)
  simp [h1, h2, h3, h4]
theorem behind_split : ∀ (f : Nat) (l : List UInt8), ∃ p, l = p ++ behindU f l ∧ ∀ b ∈ p, blkB b = false ∧ b ≠ 63
  | 0, l => ⟨[], rfl, by simp⟩
  | f + 1, l => by
    unfold behindU
    split
    · rename_i h; exact ⟨[], by rw [h]; rfl, by simp⟩
    · split
      · rename_i h hp
        obtain ⟨p, h1, h2⟩ := behind_split f (l.drop (decU l).2)
        refine ⟨l.take (decU l).2 ++ p, ?_, fun b hb => ?_⟩
        · rw [List.append_assoc, ← h1, List.take_append_drop]
        · rcases List.mem_append.1 hb with hb | hb
          · by_cases hlow : b.toNat < 128
            · rw [decU_low hb hlow] at hp
              have := part_low ⟨b.toNat, hlow⟩ hp
              simpa using this
            · exact high_clean (by omega)
          · exact h2 b hb
      · exact ⟨[], rfl, by simp⟩
theorem behind_name {c : UInt8} (hc : c.toNat < 128) (hp : partB (c.toNat : Int) = false) (r : List UInt8) : ∀ (ns : List Int), (∀ n ∈ ns, partB n = true) → ∀ f, (ns.flatMap enc ++ c :: r).length ≤ f → behindU f (ns.flatMap enc ++ c :: r) = c :: r
  | [], _, f, hf => by
    rw [List.flatMap_nil, List.nil_append] at hf ⊢
    obtain ⟨f, rfl⟩ : ∃ f', f = f' + 1 := ⟨f - 1, by simp at hf; omega⟩
    unfold behindU
    rw [if_neg (by simp), decU_ascii c r hc, if_neg (by simp only [hp]; decide)]
  | n :: ns, h, f, hf => by
    have hn := h n (by simp)
    have hs := part_sgn n hn
    have h0 := (sgn_iff n).1 hs
    have h1 := slen_one n hs
    have hl := enc_length n
    obtain ⟨f, rfl⟩ : ∃ f', f = f' + 1 := ⟨f - 1, by simp at hf; omega⟩
    have e : (n :: ns).flatMap enc ++ c :: r = enc n ++ (ns.flatMap enc ++ c :: r) := by rw [List.flatMap_cons, List.append_assoc]
    rw [e] at hf ⊢
    unfold behindU
    rw [if_neg (by intro e; have := congrArg List.length e; simp at this), decU_enc n hs, if_pos (by simp only; rw [Int.toNat_of_nonneg h0.1]; exact hn)]
    simp only
    have hd : (enc n ++ (ns.flatMap enc ++ c :: r)).drop (slen n).toNat = ns.flatMap enc ++ c :: r := by
      rw [show (slen n).toNat = (enc n).length from by omega, List.drop_left]
    rw [hd]
    refine behind_name hc hp r ns (fun m hm => h m (by simp [hm])) f ?_
    simp only [List.length_append] at hf ⊢
    omega
theorem until_app {p : List UInt8} (B : List UInt8) (h : ∀ b ∈ p, b ≠ 63) : untilR [63, 62] (p ++ B) = (untilR [63, 62] B).map fun x => (p.length + x.1, p ++ x.2) := by
  induction p with
  | nil =>
    rw [List.nil_append]
    cases untilR [63, 62] B with
    | none => rfl
    | some x => simp
  | cons c p ih =>
    have hc := h c (by simp)
    rw [List.cons_append]
    conv => lhs; unfold untilR
    rw [if_neg (by simp [hc]), ih (fun b hb => h b (by simp [hb]))]
    cases untilR [63, 62] B with
    | none => rfl
    | some x =>
      simp only [Option.map_some, Option.some.injEq, Prod.mk.injEq, List.length_cons, List.cons_append, and_true]
      omega
def piQ (b : UInt8) : Bool := !(blkB b) && b != 63
theorem piQ_yes {b : UInt8} (h : blkB b = false ∧ b ≠ 63) : piQ b = true := by unfold piQ; simp [h.1, h.2]
theorem tw_app {p : UInt8 → Bool} {a : List UInt8} {c : UInt8} (r : List UInt8) (ha : ∀ b ∈ a, p b = true) (hc : p c = false) : (a ++ c :: r).takeWhile p = a := by
  induction a with
  | nil => simp [hc]
  | cons d a ih => simp [ha d (by simp), ih (fun b hb => ha b (by simp [hb]))]
theorem tw_mem {p : UInt8 → Bool} {x : UInt8} : ∀ {l : List UInt8}, x ∈ l.takeWhile p → p x = true
  | [], h => by simp at h
  | c :: l, h => by
    by_cases hc : p c = true
    · rw [List.takeWhile_cons_of_pos hc] at h
      rcases List.mem_cons.1 h with rfl | h
      · exact hc
      · exact tw_mem h
    · rw [List.takeWhile_cons_of_neg hc] at h
      simp at h
def piNext (l : List UInt8) : Prop := l.take 2 = [63, 62] ∨ (l.take 1).any blkB = true
theorem piNext_head {l : List UInt8} (h : piNext l) : ∃ c r, l = c :: r ∧ c.toNat < 128 ∧ partB (c.toNat : Int) = false ∧ piQ c = false := by
  cases l with
  | nil => rcases h with h | h <;> simp at h
  | cons c r =>
    refine ⟨c, r, rfl, ?_⟩
    rcases h with h | h
    · simp at h
      rw [h.1]
      decide
    · have hb : blkB c = true := by simpa using h
      unfold blkB at hb
      simp at hb
      rcases hb with ((rfl | rfl) | rfl) | rfl <;> decide
theorem piR_cases (r : List UInt8) :
    (∃ w b n v, r = w ++ b ∧ (∀ x ∈ w, blkB x = false ∧ x ≠ 63) ∧ nameB w = true ∧ lowL w ≠ sXml ∧ piNext b ∧ untilR [63, 62] b = some (n, v) ∧ piR r = some (w.length + n, none)) ∨
    (piR r = none ∧ ∀ w b, r = w ++ b → (∀ x ∈ w, blkB x = false ∧ x ≠ 63) → nameB w = true → lowL w ≠ sXml → piNext b → untilR [63, 62] b = none) := by
  have key : ∀ w b, r = w ++ b → (∀ x ∈ w, blkB x = false ∧ x ≠ 63) → nameB w = true → lowL w ≠ sXml → piNext b →
      piR r = match untilR [63, 62] b with | none => none | some (n, _) => some (w.length + n, none) := by
    intro w b hr hw hn hx hb
    obtain ⟨c, b', rfl, _, _, hq⟩ := piNext_head hb
    have htw : r.takeWhile (fun b => !(blkB b) && b != 63) = w := by
      rw [hr]; exact tw_app (p := piQ) b' (fun x hx => piQ_yes (hw x hx)) hq
    unfold piR
    rw [bindR_yes (span_yes (p := fun b => !(blkB b) && b != 63) (by rw [htw, hr]; simp)), htw, guardR_yes (by rw [hn]; simp; exact hx)]
    have hd : r.drop w.length = c :: b' := by rw [hr, List.drop_left]
    rw [hd]
    have hend : piEndR (c :: b') = mapR (untilR [63, 62]) (fun _ => some ()) (c :: b') := by
      unfold piEndR
      exact if_pos hb
    cases hu : untilR [63, 62] (c :: b') with
    | none =>
      rw [mapR_no hu] at hend
      rw [mapR_no hend]
    | some x =>
      obtain ⟨m, v⟩ := x
      rw [mapR_yes hu] at hend
      rw [mapR_yes hend]
  cases hp : piR r with
  | none =>
    refine .inr ⟨rfl, fun w b h1 h2 h3 h4 h5 => ?_⟩
    have := key w b h1 h2 h3 h4 h5
    rw [hp] at this
    cases hu : untilR [63, 62] b with
    | none => rfl
    | some x => rw [hu] at this; cases this
  | some x =>
    left
    obtain ⟨m, o⟩ := x
    unfold piR at hp
    obtain ⟨n1, w, m1, h1, h2, rfl⟩ := bindR_some hp
    unfold spanR at h1
    split at h1
    · rename_i hl
      simp only [Option.some.injEq, Prod.mk.injEq] at h1
      obtain ⟨hn1, hw⟩ := h1
      unfold guardR at h2
      split at h2
      · rename_i hg
        simp only [Bool.and_eq_true, Bool.not_eq_true', beq_eq_false_iff_ne] at hg
        obtain ⟨u, h3, h4⟩ := mapR_some h2
        unfold piEndR at h3
        split at h3
        · rename_i hnx
          obtain ⟨v, h5, _⟩ := mapR_some h3
          simp only [Option.some.injEq] at h4
          rw [← hn1] at h5 hnx
          rw [← hw] at hg
          refine ⟨r.takeWhile (fun b => !(blkB b) && b != 63), r.drop (r.takeWhile (fun b => !(blkB b) && b != 63)).length, m1, v, ?_, ?_, hg.1, hg.2, hnx, h5, ?_⟩
          · rw [tw_drop, List.takeWhile_append_dropWhile]
          · intro x hx
            have := tw_mem hx
            simpa using this
          · rw [← hn1, ← h4]
        · cases h3
      · cases h2
    · cases h1
theorem pi_fit (L : List UInt8) (fr : Nat) (hfr : fr ≤ L.length) : Fits (noneX (instructionU L fr)) (fr + 2) L.length (piR (L.drop (fr + 2))) := by
  unfold instructionU upToX
  simp only
  generalize hr : L.drop (fr + 2) = r
  obtain ⟨p, hp, hclean⟩ := behind_split r.length r
  generalize hb : behindU r.length r = b at *
  have hname : r.take (r.length - b.length) = p := by
    have : r.length - b.length = p.length := by rw [hp]; simp
    rw [this, hp, List.take_left]
  rw [hname]
  have uniq : ∀ w c, r = w ++ c → nameB w = true → piNext c → w = p ∧ c = b := by
    intro w c hw hn hc
    obtain ⟨d, c', rfl, h1, h2, _⟩ := piNext_head hc
    obtain ⟨_, n, ns, h4, h5, h6⟩ := (nameB_iff w).1 hn
    have e : behindU r.length r = d :: c' := by
      have := behind_name h1 h2 c' (n :: ns) (fun m hm => by
        rcases List.mem_cons.1 hm with rfl | hm
        · exact start_part _ h4
        · exact h5 m hm) r.length (by rw [← h6, ← hw]; exact Nat.le_refl _)
      rw [← h6, ← hw] at this
      exact this
    rw [hb] at e
    refine ⟨?_, e.symm⟩
    rw [hp, e] at hw
    exact (List.append_cancel_right hw).symm
  rcases piR_cases r with ⟨w, c, n, v, h1, h2, h3, h4, h5, h6, h7⟩ | ⟨h1, h2⟩
  · obtain ⟨rfl, rfl⟩ := uniq w c h1 h3 h5
    rw [h7, if_neg (by rintro (h | h); · rw [h3] at h; cases h
                       · exact h4 h), if_neg (by rintro ⟨_, h8, h9⟩; rcases h5 with h5 | h5; · exact h9 h5
                                                 · rw [h5] at h8; cases h8)]
    have hu : untilR [63, 62] r = some (w.length + n, w ++ v) := by
      rw [h1, until_app c (fun x hx => (h2 x hx).2), h6]; rfl
    rw [hu]
    exact Fits.ok (n := w.length + n) (a := none) rfl rfl
  · refine Fits.bad h1 ?_
    by_cases c1 : nameB p = false ∨ lowL p = sXml
    · rw [if_pos c1]
      exact Bad.mk hfr (by omega)
    · rw [if_neg c1]
      by_cases c2 : b ≠ [] ∧ (b.take 1).any blkB = false ∧ b.take 2 ≠ [63, 62]
      · rw [if_pos c2]
        exact Bad.mk hfr (by omega)
      · rw [if_neg c2]
        have hu : untilR [63, 62] r = none := by
          rw [hp, until_app b (fun x hx => (hclean x hx).2)]
          by_cases hbn : b = []
          · rw [hbn]; rfl
          · have hnx : piNext b := by
              by_cases h3 : b.take 2 = [63, 62]
              · exact .inl h3
              · cases h4 : (b.take 1).any blkB with
                | true => exact .inr h4
                | false => exact absurd ⟨hbn, h4, h3⟩ c2
            have hn : nameB p = true := by
              cases h3 : nameB p with
              | true => rfl
              | false => exact absurd (.inl h3) c1
            rw [h2 p b hp hclean hn (fun h => c1 (.inr h)) hnx]
            rfl
        rw [hu]
        exact Bad.mk hfr (by omega)
theorem Fits.shift {α : Type} {e : Er (α × Nat)} {at_ k len : Nat} {o o' : Option (Nat × α)} (h : Fits e (at_ + k) len o) (ho : o' = o.map fun x => (k + x.1, x.2)) : Fits e at_ len o' := by
  subst ho
  rcases h.split with ⟨n, a, h1, h2⟩ | ⟨h1, h2⟩
  · rw [h1, h2]
    exact Fits.ok (n := k + n) (a := a) rfl (by rw [Nat.add_assoc])
  · rw [h1]
    exact Fits.bad rfl h2
theorem mark_is (c : UInt8) (r : List UInt8) : markR (60 :: c :: r) = ((if c = 63 then piR else if c = 33 then bangR else if c = 47 then endR else guardR (wordB c) (startR c)) r).map fun x => (2 + x.1, x.2) := by
  unfold markR
  rw [bindR_yes (n := 1) (a := ()) (show litR [60] (60 :: c :: r) = some (1, ()) from litR_is (p := [60]) rfl)]
  simp only [List.drop_succ_cons, List.drop_zero]
  rw [bindR_yes (n := 1) (a := c) rfl]
  simp only [List.drop_succ_cons, List.drop_zero]
  cases (if c = 63 then piR else if c = 33 then bangR else if c = 47 then endR else guardR (wordB c) (startR c)) r with
  | none => rfl
  | some x =>
    simp only [Option.map_some, Option.some.injEq, Prod.mk.injEq, and_true]
    omega
theorem token_fit (L : List UInt8) (fr : Nat) (hfr : fr < L.length) : Fits (tokenU L fr) fr L.length (pieceR (L.drop fr)) := by
  unfold tokenU pieceR
  simp only
  cases hl : L.drop fr with
  | nil => have := drop_nil_len hl; omega
  | cons c t =>
    by_cases h60 : c = 60
    · subst h60
      have ht := drop_cons_next hl
      rw [if_neg (by simp), if_pos (show (60 :: t).take 1 = [60] from rfl)]
      cases t with
      | nil =>
        have hm : markR [60] = none := by
          unfold markR
          rw [bindR_yes (n := 1) (a := ()) (show litR [60] [60] = some (1, ()) from litR_is (p := [60]) rfl)]
          rfl
        rw [hm]
        rw [if_neg (by decide), if_neg (by decide), if_neg (by decide), if_neg (by decide), if_neg (by decide), if_neg (by decide)]
        refine Fits.bad rfl ?_
        have : startTagX L fr = .error (fr, 2) := by
          unfold startTagX namedX
          rw [ht]
        rw [this]
        exact Bad.mk (by omega) (by omega)
      | cons d r =>
        have hr2 : L.drop (fr + 2) = r := drop_cons_next ht
        have hlen := drop_cons_len ht
        rw [mark_is]
        simp only [List.take_succ_cons, List.take_zero, List.cons.injEq, true_and, and_true]
        by_cases h63 : d = 63
        · subst h63
          rw [if_pos rfl, if_pos rfl, ← hr2]
          exact (pi_fit L fr (by omega)).shift rfl
        · rw [if_neg h63, if_neg h63]
          by_cases h33 : d = 33
          · subst h33
            simp only [true_and, if_true]
            by_cases hc : r.take 2 = [45, 45]
            · rw [if_pos hc]
              obtain ⟨r1, rfl, h1⟩ := take_head (c := 45) (p := [45]) hc
              obtain ⟨r2, rfl, _⟩ := take_head (c := 45) (p := []) h1
              have hr4 : L.drop (fr + 4) = r2 := by rw [show fr + 4 = (fr + 2) + 2 from rfl, drop_plus, hr2]; rfl
              have hll := congrArg List.length hr2
              simp only [List.length_drop, List.length_cons] at hll
              exact (comment_fit L fr r2 hr4 (by omega)).shift rfl
            · rw [if_neg hc]
              by_cases hs : r.take 7 = [91, 67, 68, 65, 84, 65, 91]
              · rw [if_pos hs]
                have e : r = [91, 67, 68, 65, 84, 65, 91] ++ r.drop 7 := by rw [← hs, List.take_append_drop]
                have hr9 : L.drop (fr + 9) = r.drop 7 := by rw [show fr + 9 = (fr + 2) + 7 from rfl, drop_plus, hr2]
                have hll := congrArg List.length hr2
                have hsl := congrArg List.length hs
                simp only [List.length_drop, List.length_take, List.length_cons, List.length_nil] at hll hsl
                have := (section_fit L fr (r.drop 7) hr9 (by omega)).shift (o' := (bangR r).map fun x => (2 + x.1, x.2)) (by rw [e]; rfl)
                exact this
              · rw [if_neg hs, bang_none hc hs]
                by_cases h68 : r.take 1 = [68]
                · rw [if_pos h68]
                  exact Fits.bad rfl (Bad.mk (by omega) (by omega))
                · rw [if_neg h68]
                  exact Fits.bad rfl (Bad.mk (by omega) (by omega))
          · simp only [h33, false_and, if_false]
            by_cases h47 : d = 47
            · subst h47
              rw [if_pos rfl, if_pos rfl, ← hr2]
              exact (end_fit L fr (by omega)).shift rfl
            · rw [if_neg h47, if_neg h47]
              exact (start_fit L fr (by omega) d r ht).shift rfl
    · rw [if_pos (by simpa using h60), if_neg (by simpa using h60), ← hl]
      exact text_fit L fr hfr (by rw [hl]; simpa using h60)
theorem toks_fit (L : List UInt8) : ∀ (f at_ : Nat), L.length < at_ + f → at_ ≤ L.length → (∃ ts, tokL f (L.drop at_) at_ = some ts ∧ tokLU L f at_ = .ok ts) ∨ (tokL f (L.drop at_) at_ = none ∧ Bad (tokLU L f at_) L.length)
  | 0, at_, h, h' => by omega
  | f + 1, at_, h, h' => by
    unfold tokLU
    by_cases hat : L.length ≤ at_
    · rw [if_pos hat, List.drop_eq_nil_of_le hat, tokL_nil]
      exact .inl ⟨[], rfl, rfl⟩
    · rw [if_neg hat]
      unfold tokL
      have hne : (L.drop at_).isEmpty = false := by
        cases hd : L.drop at_ with
        | nil => have := drop_nil_len hd; omega
        | cons c r => rfl
      rw [hne]
      simp only [Bool.false_eq_true, if_false]
      rcases (token_fit L at_ (by omega)).split with ⟨n, t, h1, h2⟩ | ⟨h1, h2⟩
      · rw [h1, h2]
        simp only
        have hn := piece_takes h1
        have hin := (piece_loc _ _ _ h1).1
        rw [List.length_drop] at hin
        rw [← drop_plus]
        rcases toks_fit L f (at_ + n) (by omega) (by omega) with ⟨ts, h3, h4⟩ | ⟨h3, h4⟩
        · rw [h3, h4]
          exact .inl ⟨_, rfl, rfl⟩
        · obtain ⟨p, q, e1, e2⟩ := h4.err (β := List (Nat × Tk))
          rw [h3, e1]
          exact .inr ⟨rfl, e2⟩
      · obtain ⟨p, q, e1, e2⟩ := h2.err (β := List (Nat × Tk))
        rw [h1, e1]
        exact .inr ⟨rfl, e2⟩
theorem badU_flat : ∀ (ns : List Int), (∀ n ∈ ns, sgn n = true) → ∀ (f k : Nat), (ns.flatMap enc).length ≤ f → (badU f (ns.flatMap enc) k = none ↔ ∀ n ∈ ns, charB n = true)
  | [], _, f, k, _ => by
    have : badU f ([] : List UInt8) k = none := by cases f <;> rfl
    simp [this]
  | n :: ns, h, f, k, hf => by
    have hs := h n (by simp)
    have h0 := (sgn_iff n).1 hs
    have h1 := slen_one n hs
    have hl := enc_length n
    rw [List.flatMap_cons] at hf ⊢
    rw [List.length_append] at hf
    obtain ⟨f, rfl⟩ : ∃ f', f = f' + 1 := ⟨f - 1, by omega⟩
    unfold badU
    rw [if_neg (by intro e; have := congrArg List.length e; rw [List.length_append, List.length_nil] at this; omega), decU_enc n hs]
    simp only
    rw [Int.toNat_of_nonneg h0.1, show (slen n).toNat = (enc n).length from by omega, List.drop_left]
    by_cases hc : charB n = true
    · rw [if_pos hc, badU_flat ns (fun m hm => h m (by simp [hm])) f _ (by omega)]
      simp [hc]
    · rw [if_neg hc]
      simp [hc]
theorem badU_lt : ∀ (f : Nat) (l : List UInt8) (k p : Nat), badU f l k = some p → p < k + l.length
  | 0, l, k, p, h => by cases h
  | f + 1, l, k, p, h => by
    unfold badU at h
    split at h
    · cases h
    · rename_i hne
      have := decU_le hne
      have h1 := List.length_pos_iff.2 hne
      split at h
      · have h2 := badU_lt f _ _ _ h
        rw [List.length_drop] at h2
        omega
      · simp only [Option.some.injEq] at h
        omega
theorem check_fit (L : List UInt8) : (L.length ≤ 32768 ∧ TxtOK L ∧ checkU L = .ok ()) ∨ (¬ (L.length ≤ 32768 ∧ TxtOK L) ∧ Bad (checkU L) L.length) := by
  unfold checkU
  by_cases h1 : 32768 < L.length
  · rw [if_pos h1]
    exact .inr ⟨fun h => by omega, Bad.mk (by omega) (by omega)⟩
  · rw [if_neg h1]
    obtain ⟨ns, r, hs, hL, hr⟩ := form L.length L (Nat.le_refl _)
    have hc := chk_form ns r hs hr
    rw [← hL] at hc
    by_cases h2 : 0 ≤ chk L
    · rw [if_pos h2]
      refine .inr ⟨fun ⟨_, ms, h3, h4⟩ => ?_, Bad.mk ?_ (by omega)⟩
      · have := chk_form ms [] (fun m hm => char_sgn m (h3 m hm)) rfl
        rw [List.append_nil, ← h4, if_pos rfl] at this
        omega
      · rcases chk_bd L with h | h
        · omega
        · omega
    · rw [if_neg h2]
      have hrn : r = [] := by
        apply Classical.byContradiction
        intro hn
        rw [if_neg hn] at hc
        omega
      subst hrn
      rw [List.append_nil] at hL
      have hb := badU_flat ns hs L.length 0 (by rw [← hL]; exact Nat.le_refl _)
      rw [← hL] at hb
      cases hbu : badU L.length L 0 with
      | none => exact .inl ⟨by omega, ⟨ns, hb.1 hbu, hL⟩, rfl⟩
      | some p =>
        have := badU_lt _ _ _ _ hbu
        refine .inr ⟨fun ⟨_, ms, h3, h4⟩ => ?_, Bad.mk (by omega) (by omega)⟩
        have h5 := (badU_flat ms (fun m hm => char_sgn m (h3 m hm)) L.length 0 (by rw [← h4]; exact Nat.le_refl _)).2 h3
        rw [← h4, hbu] at h5
        cases h5
theorem declX_no {L : List UInt8} (h : ¬ declQ L) : declX L = .ok 0 := by
  unfold declX
  exact if_neg h
theorem tokens_fit (L : List UInt8) : (∃ ts, DocIs L ts ∧ tokensU L = .ok ts) ∨ ((∀ ts, ¬ DocIs L ts) ∧ Bad (tokensU L) L.length) := by
  unfold tokensU
  rcases check_fit L with ⟨h1, h2, h3⟩ | ⟨h1, h2⟩
  · rw [h3]
    simp only
    by_cases hq : declQ L
    · rcases decl_fit L hq with ⟨n, d1, d2⟩ | ⟨d1, d2⟩
      · rw [d2]
        simp only
        have hn := (decl_loc _ _ _ d1).1
        rcases toks_fit L (L.length + 1) n (by omega) hn with ⟨ts, h4, h5⟩ | ⟨h4, h5⟩
        · exact .inl ⟨ts, ⟨h1, h2, .inl ⟨hq, n, d1, h4⟩⟩, h5⟩
        · refine .inr ⟨fun ts hd => ?_, h5⟩
          rcases hd.2.2 with ⟨_, m, e1, e2⟩ | ⟨e1, _⟩
          · rw [d1] at e1
            simp only [Option.some.injEq, Prod.mk.injEq, and_true] at e1
            subst e1
            rw [h4] at e2
            cases e2
          · exact e1 hq
      · obtain ⟨p, q, e1, e2⟩ := d2.err (β := List (Nat × Tk))
        rw [e1]
        refine .inr ⟨fun ts hd => ?_, e2⟩
        rcases hd.2.2 with ⟨_, m, e3, _⟩ | ⟨e3, _⟩
        · rw [d1] at e3; cases e3
        · exact e3 hq
    · rw [declX_no hq]
      simp only
      rcases toks_fit L (L.length + 1) 0 (by omega) (Nat.zero_le _) with ⟨ts, h4, h5⟩ | ⟨h4, h5⟩
      · exact .inl ⟨ts, ⟨h1, h2, .inr ⟨hq, by rw [List.drop_zero] at h4; exact h4⟩⟩, h5⟩
      · refine .inr ⟨fun ts hd => ?_, h5⟩
        rw [List.drop_zero] at h4
        rcases hd.2.2 with ⟨e1, _⟩ | ⟨_, e2⟩
        · exact hq e1
        · rw [h4] at e2; cases e2
  · obtain ⟨p, q, e1, e2⟩ := h2.err (β := List (Nat × Tk))
    rw [e1]
    exact .inr ⟨fun ts hd => h1 ⟨hd.1, hd.2.1⟩, e2⟩
end Wb
