/- TrU. -/
import Derived.Test.YtlcjepnaljfpkaaGreatDoorQp18
namespace Wb
theorem word_low {c : UInt8} (h : wordB c = false) : c.toNat < 128 := by
  unfold wordB blkB at h
  simp at h
  apply Classical.byContradiction
  intro hn
  have ne : ∀ d : UInt8, d.toNat < 128 → c ≠ d := fun d hd e => by rw [e] at hn; omega
  have := h (ne 9 (by decide)) (ne 10 (by decide)) (ne 13 (by decide)) (ne 32 (by decide)) (ne 47 (by decide)) (ne 62 (by decide)) (ne 61 (by decide)) (ne 60 (by decide)) (ne 34 (by decide)) (ne 39 (by decide))
  exact ne 38 (by decide) this
theorem blk_low {c : UInt8} (h : blkB c = true) : c.toNat < 128 := by
  unfold blkB at h
  simp at h
  rcases h with ((rfl | rfl) | rfl) | rfl <;> decide
theorem TxtOK.strip : ∀ (a b : List UInt8), (∀ c ∈ a, c.toNat < 128) → TxtOK (a ++ b) → TxtOK b
  | [], _, _, h => h
  | c :: a, b, hc, h => TxtOK.strip a b (fun d hd => hc d (by simp [hd])) (TxtOK.tail (c := c) h (hc c (by simp)))
theorem tw_split (p : UInt8 → Bool) (l : List UInt8) : l = l.takeWhile p ++ l.drop (l.takeWhile p).length := by
  conv => lhs; rw [← List.takeWhile_append_dropWhile (p := p) (l := l)]
  congr 1
  induction l with
  | nil => rfl
  | cons c l ih =>
    by_cases h : p c = true
    · simp [h, ih]
    · simp [h]
theorem tw_each (p : UInt8 → Bool) : ∀ (l : List UInt8), ∀ c ∈ l.takeWhile p, p c = true
  | [], c, h => by simp at h
  | d :: l, c, h => by
    by_cases hd : p d = true
    · rw [List.takeWhile_cons_of_pos hd] at h
      rcases List.mem_cons.1 h with rfl | h
      · exact hd
      · exact tw_each p l c h
    · rw [List.takeWhile_cons_of_neg hd] at h
      simp at h
theorem tw_next (p : UInt8 → Bool) : ∀ (l : List UInt8) (c : UInt8) (r : List UInt8), l.drop (l.takeWhile p).length = c :: r → p c = false
  | [], c, r, h => by simp at h
  | d :: l, c, r, h => by
    by_cases hd : p d = true
    · rw [List.takeWhile_cons_of_pos hd, List.length_cons, List.drop_succ_cons] at h
      exact tw_next p l c r h
    · rw [List.takeWhile_cons_of_neg hd] at h
      simp at h
      rw [← h.1]
      exact Bool.eq_false_iff.2 hd
theorem span_txt {p : UInt8 → Bool} (hp : ∀ c, p c = false → c.toNat < 128) {l : List UInt8} (h : TxtOK l) : TxtOK (l.takeWhile p) ∧ TxtOK (l.drop (l.takeWhile p).length) := by
  cases hd : l.drop (l.takeWhile p).length with
  | nil =>
    have e := tw_split p l
    rw [hd, List.append_nil] at e
    rw [← e]
    exact ⟨h, TxtOK.nil⟩
  | cons c r =>
    have e := tw_split p l
    rw [hd] at e
    rw [e] at h
    exact h.at_head (hp c (tw_next p l c r hd))
theorem blank_txt {l : List UInt8} (h : TxtOK l) : TxtOK (l.drop (l.takeWhile blkB).length) := by
  rw [tw_split blkB l] at h
  exact TxtOK.strip _ _ (fun c hc => blk_low (tw_each blkB l c hc)) h
theorem spanR_some {p : UInt8 → Bool} {l : List UInt8} {n : Nat} {a : List UInt8} (h : spanR p l = some (n, a)) : a = l.takeWhile p ∧ n = (l.takeWhile p).length := by
  unfold spanR at h
  split at h
  · simp only [Option.some.injEq, Prod.mk.injEq] at h
    exact ⟨h.2.symm, h.1.symm⟩
  · cases h
theorem litR_some {p l : List UInt8} {n : Nat} {u : Unit} (h : litR p l = some (n, u)) : n = p.length ∧ l = p ++ l.drop n := by
  unfold litR at h
  split at h
  · rename_i hp
    simp only [Option.some.injEq, Prod.mk.injEq] at h
    refine ⟨h.1.symm, ?_⟩
    rw [← h.1]
    conv => lhs; rw [← List.take_append_drop p.length l, hp]
  · cases h
theorem untilR_some {p : List UInt8} : ∀ {l : List UInt8} {n : Nat} {v : List UInt8}, untilR p l = some (n, v) → l = v ++ (p ++ l.drop n)
  | [], n, v, h => by
    unfold untilR at h
    split at h
    · rename_i hp
      simp only [Option.some.injEq, Prod.mk.injEq] at h
      obtain ⟨rfl, rfl⟩ := h
      simp [hp]
    · cases h
  | c :: l, n, v, h => by
    unfold untilR at h
    split at h
    · rename_i hc
      simp only [Option.some.injEq, Prod.mk.injEq] at h
      obtain ⟨rfl, rfl⟩ := h
      conv => lhs; rw [← List.take_append_drop p.length (c :: l), hc]
      rfl
    · cases hu : untilR p l with
      | none => rw [hu] at h; cases h
      | some q =>
        obtain ⟨m, b⟩ := q
        rw [hu] at h
        simp only [Option.some.injEq, Prod.mk.injEq] at h
        obtain ⟨rfl, rfl⟩ := h
        have := untilR_some hu
        rw [List.drop_succ_cons, List.cons_append, ← this]
theorem byteR_some {l : List UInt8} {n : Nat} {c : UInt8} (h : byteR l = some (n, c)) : n = 1 ∧ l = c :: l.drop 1 := by
  cases l with
  | nil => cases h
  | cons d l =>
    simp only [byteR, Option.some.injEq, Prod.mk.injEq] at h
    exact ⟨h.1.symm, by rw [h.2]; rfl⟩
theorem value_txt {l : List UInt8} {n : Nat} {v : List UInt8} (hl : TxtOK l) (h : valueR l = some (n, v)) : TxtOK v ∧ TxtOK (l.drop n) := by
  unfold valueR at h
  obtain ⟨n1, q, n2, h1, h2, rfl⟩ := bindR_some h
  obtain ⟨rfl, e1⟩ := byteR_some h1
  unfold guardR at h2
  split at h2
  · rename_i hq
    have hlow : q.toNat < 128 := by
      simp at hq
      rcases hq with rfl | rfl <;> decide
    rw [e1] at hl
    have hr := hl.tail hlow
    obtain ⟨w, h3, h4⟩ := mapR_some h2
    have e2 := untilR_some h3
    rw [e2] at hr
    obtain ⟨t1, t2⟩ := TxtOK.about (a := w) (c := q) hr hlow
    rw [List.drop_drop] at t2
    refine ⟨?_, t2⟩
    split at h4
    · cases h4
    · cases hu : unL true (w.length + 1) w 0 with
      | error p => rw [hu] at h4; cases h4
      | ok x =>
        rw [hu] at h4
        simp only [okL, Option.some.injEq] at h4
        subst h4
        exact unL_txt true _ w (Nat.le_refl _) t1 _ _ _ (by omega) hu
  · cases h2
theorem attr_txt {c : UInt8} {l : List UInt8} {n : Nat} {a : List UInt8 × List UInt8} (hl : TxtOK (c :: l)) (hw : wordB c = true) (h : attrR c l = some (n, a)) : TxtOK a.1 ∧ TxtOK a.2 ∧ TxtOK (l.drop n) := by
  unfold attrR at h
  obtain ⟨n1, w, m1, h1, h2, rfl⟩ := bindR_some h
  obtain ⟨rfl, rfl⟩ := spanR_some h1
  obtain ⟨s1, s2⟩ := span_txt (p := wordB) (fun c hc => word_low hc) hl
  rw [List.takeWhile_cons_of_pos hw] at s1 s2
  rw [List.length_cons, List.drop_succ_cons] at s2
  unfold guardR at h2
  split at h2
  · obtain ⟨n2, b2, m2, h3, h4, rfl⟩ := bindR_some h2
    obtain ⟨_, rfl⟩ := spanR_some h3
    have s3 := blank_txt s2
    obtain ⟨n3, u3, m3, h5, h6, rfl⟩ := bindR_some h4
    obtain ⟨rfl, e5⟩ := litR_some h5
    rw [e5] at s3
    have s4 := TxtOK.strip _ _ (by decide) s3
    obtain ⟨n4, b4, m4, h7, h8, rfl⟩ := bindR_some h6
    obtain ⟨_, rfl⟩ := spanR_some h7
    have s5 := blank_txt s4
    obtain ⟨v, h9, h10⟩ := mapR_some h8
    obtain ⟨t1, t2⟩ := value_txt s5 h9
    simp only [Option.some.injEq] at h10
    subst h10
    refine ⟨s1, t1, ?_⟩
    simp only [List.drop_drop] at t2 ⊢
    simpa [Nat.add_assoc] using t2
  · cases h2
theorem attrs_txt : ∀ (f : Nat) (acc : List (List UInt8 × List UInt8)) (l : List UInt8) (n : Nat) (k : Int) (r : List (List UInt8 × List UInt8)), TxtOK l → (∀ a ∈ acc, TxtOK a.1 ∧ TxtOK a.2) → attrsR f acc l = some (n, (k, r)) → ∀ a ∈ r, TxtOK a.1 ∧ TxtOK a.2
  | 0, _, _, _, _, _, _, _, h => by cases h
  | f + 1, acc, l, n, k, r, hl, hacc, h => by
    unfold attrsR at h
    obtain ⟨n1, bs, m1, h1, h2, rfl⟩ := bindR_some h
    obtain ⟨rfl, rfl⟩ := spanR_some h1
    have s1 := blank_txt hl
    obtain ⟨n2, c, m2, h3, h4, rfl⟩ := bindR_some h2
    obtain ⟨rfl, e3⟩ := byteR_some h3
    split at h4
    · simp only [pureR, Option.some.injEq, Prod.mk.injEq] at h4
      rw [← h4.2.2]; exact hacc
    · split at h4
      · obtain ⟨_, _, h5⟩ := mapR_some h4
        simp only [Option.some.injEq, Prod.mk.injEq] at h5
        rw [← h5.2]; exact hacc
      · unfold guardR at h4
        split at h4
        · rename_i hg
          simp only [Bool.and_eq_true] at hg
          obtain ⟨n3, a, m3, h5, h6, rfl⟩ := bindR_some h4
          rw [e3] at s1
          obtain ⟨t1, t2, t3⟩ := attr_txt s1 hg.1.1 h5
          refine attrs_txt f (acc ++ [a]) _ _ _ _ t3 (fun b hb => ?_) h6
          rcases List.mem_append.1 hb with hb | hb
          · exact hacc b hb
          · rw [List.mem_singleton] at hb
            rw [hb]; exact ⟨t1, t2⟩
        · cases h4
def TkTxt (t : Tk) : Prop := TxtOK t.2.1 ∧ (∀ a ∈ t.2.2.1, TxtOK a.1 ∧ TxtOK a.2) ∧ TxtOK t.2.2.2
theorem mark_txt {l : List UInt8} {n : Nat} {t : Tk} (hl : TxtOK l) (h : markR l = some (n, some t)) : TkTxt t := by
  unfold markR at h
  obtain ⟨n1, _, m1, h1, h2, rfl⟩ := bindR_some h
  obtain ⟨rfl, e1⟩ := litR_some h1
  rw [e1] at hl
  have s1 := TxtOK.strip _ _ (by decide) hl
  obtain ⟨n2, c, m2, h3, h4, rfl⟩ := bindR_some h2
  obtain ⟨rfl, e3⟩ := byteR_some h3
  split at h4
  · unfold piR at h4
    obtain ⟨_, _, _, _, h6, _⟩ := bindR_some h4
    unfold guardR at h6
    split at h6
    · obtain ⟨_, _, h7⟩ := mapR_some h6
      simp at h7
    · cases h6
  · split at h4
    · rename_i h33
      subst h33
      rw [e3] at s1
      have s2 := s1.tail (by decide)
      unfold bangR at h4
      obtain ⟨n3, d, m3, h5, h6, _⟩ := bindR_some h4
      obtain ⟨rfl, e5⟩ := byteR_some h5
      split at h6
      · obtain ⟨_, _, _, _, h8, _⟩ := bindR_some h6
        obtain ⟨_, _, _, _, h10, _⟩ := bindR_some h8
        obtain ⟨_, _, h11⟩ := mapR_some h10
        simp at h11
      · unfold guardR at h6
        split at h6
        · rename_i h91
          have hd : d = 91 := by simpa using h91
          subst hd
          rw [e5] at s2
          have s3 := s2.tail (by decide)
          obtain ⟨n4, _, m4, h7, h8, _⟩ := bindR_some h6
          obtain ⟨rfl, e7⟩ := litR_some h7
          rw [e7] at s3
          have s4 := TxtOK.strip _ _ (by decide) s3
          obtain ⟨v, h9, h10⟩ := mapR_some h8
          simp only [Option.some.injEq] at h10
          subst h10
          have e9 := untilR_some h9
          rw [e9] at s4
          have s5 : TxtOK v := (TxtOK.at_head (a := v) (c := 93) s4 (by decide)).1
          exact ⟨TxtOK.nil, by simp, endsL_txt _ v (Nat.le_refl _) s5⟩
        · cases h6
    · split at h4
      · rename_i h47
        subst h47
        rw [e3] at s1
        have s2 := s1.tail (by decide)
        unfold endR at h4
        obtain ⟨_, w, _, h5, h6, _⟩ := bindR_some h4
        obtain ⟨rfl, rfl⟩ := spanR_some h5
        unfold guardR at h6
        split at h6
        · obtain ⟨_, _, _, _, h8, _⟩ := bindR_some h6
          obtain ⟨_, _, h9⟩ := mapR_some h8
          simp only [Option.some.injEq] at h9
          subst h9
          exact ⟨(span_txt (p := wordB) (fun c hc => word_low hc) s2).1, by simp, TxtOK.nil⟩
        · cases h6
      · unfold guardR at h4
        split at h4
        · rename_i hw
          unfold startR at h4
          obtain ⟨_, w, _, h5, h6, _⟩ := bindR_some h4
          obtain ⟨rfl, rfl⟩ := spanR_some h5
          rw [e3] at s1
          obtain ⟨t1, t2⟩ := span_txt (p := wordB) (fun c hc => word_low hc) s1
          rw [List.takeWhile_cons_of_pos hw] at t1 t2
          rw [List.length_cons, List.drop_succ_cons] at t2
          unfold guardR at h6
          split at h6
          · obtain ⟨⟨k, asz⟩, h7, h8⟩ := mapR_some h6
            simp only [Option.some.injEq] at h8
            subst h8
            exact ⟨t1, attrs_txt _ _ _ _ _ _ t2 (by simp) h7, TxtOK.nil⟩
          · cases h6
        · cases h4
def EndsA {α : Type} (f : Rd α) : Prop := ∀ l n a, f l = some (n, a) → n ≤ l.length ∧ ∃ c, (l.take n).getLast? = some c ∧ c.toNat < 128
theorem EndsA.bind {α β : Type} {f : Rd α} {g : α → Rd β} (hf : ∀ l n a, f l = some (n, a) → n ≤ l.length) (hg : ∀ a, EndsA (g a)) : EndsA (bindR f g) := by
  intro l k b h
  obtain ⟨n, a, m, h1, h2, rfl⟩ := bindR_some h
  obtain ⟨h3, c, h4, h5⟩ := hg a _ _ _ h2
  have h6 := hf _ _ _ h1
  rw [List.length_drop] at h3
  refine ⟨by omega, c, ?_, h5⟩
  rw [List.take_add, List.getLast?_append, h4]
  rfl
theorem EndsA.map {α β : Type} {f : Rd α} (g : α → Option β) (h : EndsA f) : EndsA (mapR f g) := by
  intro l n b hf
  obtain ⟨a, h1, _⟩ := mapR_some hf
  exact h _ _ _ h1
theorem EndsA.guard {α : Type} {f : Rd α} (c : Bool) (h : EndsA f) : EndsA (guardR c f) := by
  intro l n a hf
  unfold guardR at hf
  split at hf
  · exact h _ _ _ hf
  · cases hf
theorem EndsA.lit {p : List UInt8} {c : UInt8} (hp : p.getLast? = some c) (hc : c.toNat < 128) : EndsA (litR p) := by
  intro l n a h
  obtain ⟨rfl, e⟩ := litR_some h
  refine ⟨by rw [e]; simp, c, ?_, hc⟩
  rw [e, List.take_left]
  exact hp
theorem EndsA.until {p : List UInt8} {c : UInt8} (hp : p.getLast? = some c) (hc : c.toNat < 128) : EndsA (untilR p) := by
  intro l n v h
  have e := untilR_some h
  have hpn : p ≠ [] := by rintro rfl; cases hp
  have hn := (Loc.until p hpn l n v h).1
  refine ⟨hn, c, ?_, hc⟩
  have hl : n = v.length + p.length := by
    have := congrArg List.length e
    simp only [List.length_append, List.length_drop] at this
    have := List.length_pos_iff.2 hpn
    omega
  rw [e, hl, ← List.append_assoc, List.take_left' (by simp), List.getLast?_append, hp]
  rfl
theorem EndsA.none {α : Type} : EndsA (fun _ => none : Rd α) := fun _ _ _ h => by cases h
theorem EndsA.rest {α : Type} {f : Rd α} (hf : EndsA f) {l : List UInt8} {n : Nat} {a : α} (h : f l = some (n, a)) (hl : TxtOK l) : TxtOK (l.drop n) := by
  obtain ⟨hn, c, h1, h2⟩ := hf _ _ _ h
  obtain ⟨ns, g1, g2⟩ := hl
  exact (TxtOK.part ns g1 (l.take n) (l.drop n) (by rw [← g2, List.take_append_drop]) (.inr (.inr (.inl ⟨c, h1, h2⟩)))).2
theorem le_of_loc {α : Type} {j : Nat} {f : Rd α} (h : Loc j f) : ∀ l n a, f l = some (n, a) → n ≤ l.length := fun l n a hf => (h l n a hf).1
theorem attrs_ends : ∀ (f : Nat) (acc : List (List UInt8 × List UInt8)), EndsA (attrsR f acc)
  | 0, _ => EndsA.none
  | f + 1, acc => by
    refine EndsA.bind (le_of_loc (Loc.span _)) (fun bs => ?_)
    intro l k b h
    obtain ⟨n, c, m, h1, h2, rfl⟩ := bindR_some h
    obtain ⟨rfl, e⟩ := byteR_some h1
    split at h2
    · rename_i h62
      simp only [pureR, Option.some.injEq, Prod.mk.injEq] at h2
      obtain ⟨rfl, _⟩ := h2
      rw [e]
      exact ⟨by simp, c, by simp, by rw [h62]; decide⟩
    · have key : EndsA (if c = 47 then mapR (litR [62]) fun _ => some (3, acc) else guardR (wordB c && !(bs.isEmpty) && decide (acc.length < 65)) (bindR (attrR c) fun a => attrsR f (acc ++ [a]))) := by
        split
        · exact EndsA.map _ (EndsA.lit (c := 62) rfl (by decide))
        · exact EndsA.guard _ (EndsA.bind (le_of_loc (attr_loc c)) (fun a => attrs_ends f _))
      exact EndsA.bind (g := fun _ => _) (le_of_loc Loc.byte) (fun _ => key) _ _ _ (bindR_of (f := byteR) h1 h2)
theorem piEnd_ends : EndsA piEndR := by
  intro l n a h
  unfold piEndR at h
  split at h
  · exact EndsA.map _ (EndsA.until (c := 62) rfl (by decide)) _ _ _ h
  · cases h
theorem mark_ends : EndsA markR := by
  refine EndsA.bind (le_of_loc (Loc.lit _)) (fun _ => EndsA.bind (le_of_loc Loc.byte) (fun c => ?_))
  split
  · exact EndsA.bind (le_of_loc (Loc.span _)) (fun _ => EndsA.guard _ (EndsA.map _ piEnd_ends))
  · split
    · refine EndsA.bind (le_of_loc Loc.byte) (fun c => ?_)
      split
      · exact EndsA.bind (le_of_loc (Loc.lit _)) (fun _ => EndsA.bind (le_of_loc (Loc.until _ (by simp))) (fun _ => EndsA.map _ (EndsA.lit (c := 62) rfl (by decide))))
      · exact EndsA.guard _ (EndsA.bind (le_of_loc (Loc.lit _)) (fun _ => EndsA.map _ (EndsA.until (c := 62) rfl (by decide))))
    · split
      · exact EndsA.bind (le_of_loc (Loc.span _)) (fun _ => EndsA.guard _ (EndsA.bind (le_of_loc (Loc.span _)) (fun _ => EndsA.map _ (EndsA.lit (c := 62) rfl (by decide)))))
      · exact EndsA.guard _ (EndsA.bind (le_of_loc (Loc.span _)) (fun _ => EndsA.guard _ (EndsA.map _ (attrs_ends _ _))))
theorem piece_txt {l : List UInt8} {n : Nat} {o : Option Tk} (hl : TxtOK l) (h : pieceR l = some (n, o)) : TxtOK (l.drop n) ∧ ∀ t, o = some t → TkTxt t := by
  unfold pieceR at h
  split at h
  · exact ⟨mark_ends.rest h hl, fun t ht => mark_txt hl (by rw [← ht]; exact h)⟩
  · have hn := (text_some h).1
    obtain ⟨s1, s2⟩ := span_txt (p := fun c => c != 60) (fun c hc => by
      have : c = 60 := by simpa using hc
      rw [this]; decide) hl
    refine ⟨by rw [hn]; exact s2, fun t ht => ?_⟩
    unfold textR at h
    simp only at h
    split at h
    · cases h
    · split at h
      · cases h
      · split at h
        · cases h
        · rename_i x hx
          simp only [Option.some.injEq, Prod.mk.injEq] at h
          rw [← h.2] at ht
          simp only [Option.some.injEq] at ht
          subst ht
          refine ⟨TxtOK.nil, by simp, ?_⟩
          cases hu : unL false ((l.takeWhile (· != 60)).length + 1) (l.takeWhile (· != 60)) 0 with
          | error p => rw [hu] at hx; cases hx
          | ok y =>
            rw [hu] at hx
            simp only [okL, Option.some.injEq] at hx
            subst hx
            exact unL_txt false _ _ (Nat.le_refl _) s1 _ _ _ (by omega) hu
theorem tokL_txt : ∀ (f : Nat) (l : List UInt8) (a : Nat) (ts : List (Nat × Tk)), TxtOK l → tokL f l a = some ts → ∀ x ∈ ts, TkTxt x.2 := by
  intro f
  induction f with
  | zero =>
    intro l a ts _ h x hx
    rcases tokL_some h with ⟨_, rfl⟩ | ⟨f', _, _, _, h0, _⟩
    · simp at hx
    · omega
  | succ f ih =>
    intro l a ts hl h x hx
    rcases tokL_some h with ⟨_, rfl⟩ | ⟨f', n, o, us, h0, hp, hr, hts⟩
    · simp at hx
    · obtain rfl : f' = f := by omega
      obtain ⟨t1, t2⟩ := piece_txt hl hp
      cases o with
      | none => rw [hts] at hx; exact ih _ _ _ t1 hr x hx
      | some t =>
        rw [hts] at hx
        rcases List.mem_cons.1 hx with rfl | hx
        · exact t2 t rfl
        · exact ih _ _ _ t1 hr x hx
theorem declT3_ends : EndsA declT3 := EndsA.bind (le_of_loc (Loc.span _)) (fun _ => EndsA.lit (c := 62) rfl (by decide))
theorem stand_ends : EndsA standR := EndsA.bind (le_of_loc (Loc.lit _)) (fun _ => EndsA.bind (le_of_loc (setting_loc _ _)) (fun _ => declT3_ends))
theorem declT2_ends : EndsA declT2 := by
  refine EndsA.bind (le_of_loc (Loc.span _)) (fun bs => EndsA.bind (le_of_loc Loc.byte) (fun c => ?_))
  split
  · exact EndsA.lit (c := 62) rfl (by decide)
  · exact EndsA.guard _ stand_ends
theorem declT1_ends : EndsA declT1 := by
  refine EndsA.bind (le_of_loc (Loc.span _)) (fun bs => EndsA.bind (le_of_loc Loc.byte) (fun c => ?_))
  split
  · exact EndsA.lit (c := 62) rfl (by decide)
  · split
    · exact EndsA.guard _ (EndsA.bind (le_of_loc (Loc.lit _)) (fun _ => EndsA.bind (le_of_loc (setting_loc _ _)) (fun _ => declT2_ends)))
    · exact EndsA.guard _ stand_ends
theorem decl_ends : EndsA declR :=
  EndsA.bind (le_of_loc (Loc.lit _)) (fun _ => EndsA.bind (le_of_loc (Loc.span _)) (fun _ => EndsA.bind (le_of_loc (Loc.lit _)) (fun _ => EndsA.bind (le_of_loc (setting_loc _ _)) (fun _ => declT1_ends))))
theorem doc_txt {s : List UInt8} {ts : List (Nat × Tk)} (h : DocIs s ts) : ∀ x ∈ ts, TkTxt x.2 := by
  obtain ⟨_, h2, h3⟩ := h
  rcases h3 with ⟨_, n, hd, ht⟩ | ⟨_, ht⟩
  · exact tokL_txt _ _ _ _ (decl_ends.rest hd h2) ht
  · exact tokL_txt _ _ _ _ h2 ht
end Wb
