/- LxTok4 LxTok5 TrT. -/
import Derived.Test.YtlcjepnaljfpkaaGreatDoorQp16
namespace Wb
def settingR (vals : List (List UInt8)) (fold : Bool) : Rd Unit :=
  bindR (spanR blkB) fun _ => bindR (litR [61]) fun _ => bindR (spanR blkB) fun _ => bindR byteR fun q => guardR (q == 34 || q == 39)
    (mapR (untilR [q]) fun v => if vals.contains (if fold then lowL v else v) then some () else none)
def declT3 : Rd Unit := bindR (spanR blkB) fun _ => litR [63, 62]
def standR : Rd Unit := bindR (litR [116, 97, 110, 100, 97, 108, 111, 110, 101]) fun _ => bindR (settingR [[121, 101, 115], [110, 111]] false) fun _ => declT3
def declT2 : Rd Unit := bindR (spanR blkB) fun bs => bindR byteR fun c =>
  if c = 63 then litR [62] else guardR (c == 115 && !(bs.isEmpty)) standR
def declT1 : Rd Unit := bindR (spanR blkB) fun bs => bindR byteR fun c =>
  if c = 63 then litR [62] else if c = 101 then guardR (!(bs.isEmpty)) (bindR (litR [110, 99, 111, 100, 105, 110, 103]) fun _ => bindR (settingR [[117, 116, 102, 45, 56]] true) fun _ => declT2)
  else guardR (c == 115 && !(bs.isEmpty)) standR
def declR : Rd Unit := bindR (litR [60, 63, 120, 109, 108]) fun _ => bindR (spanR blkB) fun _ => bindR (litR [118, 101, 114, 115, 105, 111, 110]) fun _ => bindR (settingR [[49, 46, 48]] false) fun _ => declT1
theorem setting_loc (vals : List (List UInt8)) (fold : Bool) : Loc 0 (settingR vals fold) :=
  Loc.bind (Loc.span _) (fun _ => Loc.bind (Loc.lit _) (fun _ => Loc.bind (Loc.span _) (fun _ => Loc.bind Loc.byte (fun _ => Loc.guard _ (Loc.map _ (Loc.until _ (by simp)))) (.inl rfl))
    (.inr ⟨Nat.le_refl _, fun _ => Takes.bindL Takes.byte⟩)) (.inl rfl)) (.inr ⟨Nat.le_refl _, fun _ => Takes.bindL (Takes.lit1 _ _)⟩)
theorem declT3_loc : Loc 0 declT3 := Loc.bind (Loc.span _) (fun _ => Loc.lit _) (.inr ⟨Nat.le_refl _, fun _ => Takes.lit1 _ _⟩)
theorem stand_loc : Loc 0 standR := Loc.bind (Loc.lit _) (fun _ => Loc.bind (setting_loc _ _) (fun _ => declT3_loc) (.inl rfl)) (.inl rfl)
theorem declT2_loc : Loc 0 declT2 := by
  refine Loc.bind (Loc.span _) (fun bs => Loc.bind Loc.byte (fun c => ?_) (.inl rfl)) (.inr ⟨Nat.le_refl _, fun _ => Takes.bindL Takes.byte⟩)
  split
  · exact Loc.lit _
  · exact Loc.guard _ stand_loc
theorem declT1_loc : Loc 0 declT1 := by
  refine Loc.bind (Loc.span _) (fun bs => Loc.bind Loc.byte (fun c => ?_) (.inl rfl)) (.inr ⟨Nat.le_refl _, fun _ => Takes.bindL Takes.byte⟩)
  split
  · exact Loc.lit _
  · split
    · exact Loc.guard _ (Loc.bind (Loc.lit _) (fun _ => Loc.bind (setting_loc _ _) (fun _ => declT2_loc) (.inl rfl)) (.inl rfl))
    · exact Loc.guard _ stand_loc
theorem decl_loc : Loc 0 declR :=
  Loc.bind (Loc.lit _) (fun _ => Loc.bind (Loc.span _) (fun _ => Loc.bind (Loc.lit _) (fun _ => Loc.bind (setting_loc _ _) (fun _ => declT1_loc) (.inl rfl)) (.inl rfl))
    (.inr ⟨Nat.le_refl _, fun _ => Takes.bindL (Takes.lit1 _ _)⟩)) (.inl rfl)
def declQ (l : List UInt8) : Prop := l.take 5 = [60, 63, 120, 109, 108] ∧ ((l.drop 5).take 1).any blkB = true
def DocIs (s : List UInt8) (ts : List (Nat × Tk)) : Prop :=
  s.length ≤ 32768 ∧ TxtOK s ∧ ((declQ s ∧ ∃ n, declR s = some (n, ()) ∧ tokL (s.length + 1) (s.drop n) n = some ts) ∨ (¬ declQ s ∧ tokL (s.length + 1) s 0 = some ts))
end Wb
namespace Wb
def TkForm (l : List UInt8) (t : Tk) : Prop :=
  1 ≤ t.1 ∧ t.1 ≤ 4 ∧ (t.1 = 4 → t.2.1 = [] ∧ t.2.2.1 = []) ∧ (t.1 = 2 → t.2.2.1 = []) ∧ (t.1 ≠ 4 ↔ (l.take 1 = [60] ∧ ¬ l.take 3 = [60, 33, 91]))
theorem TkForm.text {l x : List UInt8} (h : ¬ (l.take 1 = [60] ∧ ¬ l.take 3 = [60, 33, 91])) : TkForm l (4, [], [], x) := by
  refine ⟨?_, ?_, fun _ => ⟨rfl, rfl⟩, fun _ => rfl, ⟨fun h4 => absurd rfl h4, fun h4 => absurd h4 h⟩⟩
  · show (1 : Int) ≤ 4; omega
  · show (4 : Int) ≤ 4; omega
theorem TkForm.tag {l nm x : List UInt8} {at_ : List (List UInt8 × List UInt8)} {k : Int} (hk : k = 1 ∨ k = 2 ∨ k = 3) (h2 : k = 2 → at_ = []) (h1 : l.take 1 = [60]) (h3 : ¬ l.take 3 = [60, 33, 91]) : TkForm l (k, nm, at_, x) := by
  refine ⟨?_, ?_, fun h => ?_, h2, ⟨fun _ => ⟨h1, h3⟩, fun _ => ?_⟩⟩
  · show (1 : Int) ≤ k; omega
  · show k ≤ 4; omega
  · replace h : k = 4 := h
    omega
  · show k ≠ 4; omega
theorem attrs_kind : ∀ (f : Nat) (acc : List (List UInt8 × List UInt8)) (l : List UInt8) (n : Nat) (k : Int) (r : List (List UInt8 × List UInt8)), attrsR f acc l = some (n, (k, r)) → k = 1 ∨ k = 3
  | 0, _, _, _, _, _, h => by cases h
  | f + 1, acc, l, n, k, r, h => by
    unfold attrsR at h
    obtain ⟨n1, bs, m1, _, h2, rfl⟩ := bindR_some h
    obtain ⟨n2, c, m2, _, h4, rfl⟩ := bindR_some h2
    split at h4
    · simp only [pureR, Option.some.injEq, Prod.mk.injEq] at h4
      exact .inl h4.2.1.symm
    · split at h4
      · obtain ⟨_, _, h5⟩ := mapR_some h4
        simp only [Option.some.injEq, Prod.mk.injEq] at h5
        exact .inr h5.1.symm
      · unfold guardR at h4
        split at h4
        · obtain ⟨n3, a, m3, _, h6, rfl⟩ := bindR_some h4
          exact attrs_kind f _ _ _ _ _ h6
        · cases h4
theorem mark_form {l : List UInt8} {n : Nat} {t : Tk} (h : markR l = some (n, some t)) : TkForm l t := by
  unfold markR at h
  obtain ⟨n1, _, m1, h1, h2, rfl⟩ := bindR_some h
  obtain ⟨n2, c, m2, h3, h4, rfl⟩ := bindR_some h2
  obtain ⟨r, rfl⟩ : ∃ r, l = 60 :: r := by
    unfold litR at h1
    split at h1
    · rename_i hc
      cases l with
      | nil => cases hc
      | cons d r => simp at hc; exact ⟨r, by rw [hc]⟩
    · cases h1
  have hn1 : n1 = 1 := by
    unfold litR at h1
    split at h1
    · simp only [Option.some.injEq, Prod.mk.injEq] at h1
      exact h1.1.symm
    · cases h1
  subst hn1
  obtain ⟨r, rfl⟩ : ∃ r', r = c :: r' := by
    cases r with
    | nil => cases h3
    | cons d r' =>
      simp [byteR] at h3
      exact ⟨r', by rw [h3.2]⟩
  have hn2 : n2 = 1 := by
    simp [byteR] at h3
    exact h3.symm
  subst hn2
  simp only [List.drop_succ_cons, List.drop_zero] at h4
  split at h4
  · -- an instruction has no token
    unfold piR at h4
    obtain ⟨_, _, _, _, h6, _⟩ := bindR_some h4
    unfold guardR at h6
    split at h6
    · obtain ⟨_, _, h7⟩ := mapR_some h6
      simp at h7
    · cases h6
  · split at h4
    · rename_i h33
      subst h33
      unfold bangR at h4
      obtain ⟨n3, d, m3, h5, h6, _⟩ := bindR_some h4
      split at h6
      · obtain ⟨_, _, _, _, h8, _⟩ := bindR_some h6
        obtain ⟨_, _, _, _, h10, _⟩ := bindR_some h8
        obtain ⟨_, _, h11⟩ := mapR_some h10
        simp at h11
      · unfold guardR at h6
        split at h6
        · rename_i h91
          obtain ⟨_, _, _, _, h8, _⟩ := bindR_some h6
          obtain ⟨_, _, h9⟩ := mapR_some h8
          simp only [Option.some.injEq] at h9
          subst h9
          have hd : d = 91 := by simpa using h91
          subst hd
          obtain ⟨r', rfl⟩ : ∃ r', r = 91 :: r' := by
            cases r with
            | nil => cases h5
            | cons e r' => simp [byteR] at h5; exact ⟨r', by rw [h5.2]⟩
          exact TkForm.text (by simp)
        · cases h6
    · rename_i h63 h33
      have h3t : ¬ (60 :: c :: r).take 3 = [60, 33, 91] := by
        intro e
        simp at e
        exact h33 e.1
      split at h4
      · unfold endR at h4
        obtain ⟨_, w, _, _, h6, _⟩ := bindR_some h4
        unfold guardR at h6
        split at h6
        · obtain ⟨_, _, _, _, h8, _⟩ := bindR_some h6
          obtain ⟨_, _, h9⟩ := mapR_some h8
          simp only [Option.some.injEq] at h9
          subst h9
          exact TkForm.tag (.inr (.inl rfl)) (fun _ => rfl) rfl h3t
        · cases h6
      · unfold guardR at h4
        split at h4
        · unfold startR at h4
          obtain ⟨_, w, _, _, h6, _⟩ := bindR_some h4
          unfold guardR at h6
          split at h6
          · obtain ⟨⟨k, at_⟩, h7, h8⟩ := mapR_some h6
            simp only [Option.some.injEq] at h8
            subst h8
            rcases attrs_kind _ _ _ _ _ _ h7 with rfl | rfl
            · exact TkForm.tag (.inl rfl) (fun h => absurd h (by decide)) rfl h3t
            · exact TkForm.tag (.inr (.inr rfl)) (fun h => absurd h (by decide)) rfl h3t
          · cases h6
        · cases h4
theorem piece_form {l : List UInt8} {n : Nat} {t : Tk} (h : pieceR l = some (n, some t)) : TkForm l t := by
  unfold pieceR at h
  split at h
  · exact mark_form h
  · rename_i hc
    obtain ⟨_, _, x, hx⟩ := text_some h
    simp only [Option.some.injEq] at hx
    subst hx
    exact TkForm.text (fun h => hc h.1)
end Wb
namespace Wb
theorem TxtOK.part : ∀ (ns : List Int), (∀ n ∈ ns, charB n = true) → ∀ (a b : List UInt8), ns.flatMap enc = a ++ b → ((∃ c, b.head? = some c ∧ c.toNat < 128) ∨ b = [] ∨ (∃ c, a.getLast? = some c ∧ c.toNat < 128) ∨ a = []) → TxtOK a ∧ TxtOK b
  | [], _, a, b, h, _ => by
    rw [List.flatMap_nil] at h
    have := List.append_eq_nil_iff.1 h.symm
    rw [this.1, this.2]
    exact ⟨TxtOK.nil, TxtOK.nil⟩
  | n :: ns, hn, a, b, h, hb => by
    rw [List.flatMap_cons] at h
    have all : TxtOK (a ++ b) := ⟨n :: ns, hn, by rw [List.flatMap_cons, h]⟩
    by_cases ha : a = []
    · subst ha
      exact ⟨TxtOK.nil, by simpa using all⟩
    · by_cases hb0 : b = []
      · subst hb0
        exact ⟨by simpa using all, TxtOK.nil⟩
      · rcases Nat.lt_or_ge a.length (enc n).length with hl | hl
        · -- the boundary would lie within a sign's bytes, one of which is below 128
          exfalso
          have one : ∀ c ∈ enc n, c.toNat < 128 → False := fun c hc h1 => by
            have h3 := (enc_low hc h1).1
            rw [h3] at hl
            have := List.length_pos_iff.2 ha
            simp only [List.length_cons, List.length_nil] at hl
            omega
          rcases hb with ⟨c, hc, hlow⟩ | h0 | ⟨c, hc, hlow⟩ | h0
          · refine one c ?_ hlow
            have h2 : (enc n ++ ns.flatMap enc)[a.length]? = some c := by
              rw [h, List.getElem?_append_right (Nat.le_refl _), Nat.sub_self, ← List.head?_eq_getElem?, hc]
            rw [List.getElem?_append_left hl] at h2
            exact List.mem_of_getElem? h2
          · exact hb0 h0
          · refine one c ?_ hlow
            have hp := List.length_pos_iff.2 ha
            have h2 : (enc n ++ ns.flatMap enc)[a.length - 1]? = some c := by
              rw [h, List.getElem?_append_left (by omega), ← List.getLast?_eq_getElem?, hc]
            rw [List.getElem?_append_left (by omega)] at h2
            exact List.mem_of_getElem? h2
          · exact ha h0
        · obtain ⟨a', rfl⟩ : ∃ a', a = enc n ++ a' := by
            refine ⟨a.drop (enc n).length, ?_⟩
            have h2 := congrArg (List.take (enc n).length) h
            rw [List.take_left, List.take_append_of_le_length hl] at h2
            conv => rhs; lhs; rw [h2]
            rw [List.take_append_drop]
          rw [List.append_assoc] at h
          have h3 := List.append_cancel_left h
          have hb' : (∃ c, b.head? = some c ∧ c.toNat < 128) ∨ b = [] ∨ (∃ c, a'.getLast? = some c ∧ c.toNat < 128) ∨ a' = [] := by
            rcases hb with h4 | h4 | ⟨c, hc, hlow⟩ | h4
            · exact .inl h4
            · exact .inr (.inl h4)
            · by_cases ha' : a' = []
              · exact .inr (.inr (.inr ha'))
              · refine .inr (.inr (.inl ⟨c, ?_, hlow⟩))
                rw [List.getLast?_append] at hc
                cases hl' : a'.getLast? with
                | none => exact absurd (List.getLast?_eq_none_iff.1 hl') ha'
                | some d => rw [hl'] at hc; exact hc
            · exact absurd h4 ha
          obtain ⟨h4, h5⟩ := TxtOK.part ns (fun m hm => hn m (by simp [hm])) a' b h3 hb'
          exact ⟨TxtOK.app ⟨[n], by simpa using hn n (by simp), by simp⟩ h4, h5⟩
theorem TxtOK.at_head {a b : List UInt8} {c : UInt8} (h : TxtOK (a ++ c :: b)) (hc : c.toNat < 128) : TxtOK a ∧ TxtOK (c :: b) := by
  obtain ⟨ns, h1, h2⟩ := h
  exact TxtOK.part ns h1 a (c :: b) h2.symm (.inl ⟨c, rfl, hc⟩)
theorem TxtOK.behind {a b : List UInt8} {c : UInt8} (h : TxtOK ((a ++ [c]) ++ b)) (hc : c.toNat < 128) : TxtOK (a ++ [c]) ∧ TxtOK b := by
  obtain ⟨ns, h1, h2⟩ := h
  exact TxtOK.part ns h1 (a ++ [c]) b h2.symm (.inr (.inr (.inl ⟨c, by simp, hc⟩)))
theorem TxtOK.about {a b : List UInt8} {c : UInt8} (h : TxtOK (a ++ c :: b)) (hc : c.toNat < 128) : TxtOK a ∧ TxtOK b := by
  refine ⟨(h.at_head hc).1, ?_⟩
  have : a ++ c :: b = (a ++ [c]) ++ b := by simp
  rw [this] at h
  exact (h.behind hc).2
theorem TxtOK.one {n : Int} (h : charB n = true) : TxtOK (enc n) := ⟨[n], by simpa using h, by simp⟩
theorem TxtOK.tail {b : List UInt8} {c : UInt8} (h : TxtOK (c :: b)) (hc : c.toNat < 128) : TxtOK b := (TxtOK.about (a := []) h hc).2
theorem enc_high {n : Int} (h : 128 ≤ n) : ∀ b ∈ enc n, 128 ≤ b.toNat := fun b hb => by
  apply Classical.byContradiction
  intro hlt
  have := (enc_low hb (by omega)).2
  omega
theorem enc_ne' {n : Int} (h : charB n = true) : enc n ≠ [] := enc_ne n (char_sgn n h)
theorem refV_txt {t x : List UInt8} (h : refV t = some x) : TxtOK x := by
  unfold refV at h
  repeat' split at h
  all_goals first
    | (simp only [Option.some.injEq] at h; subst h; exact TxtOK.ascii (by decide))
    | (simp only [Option.some.injEq] at h; subst h; exact TxtOK.one (by assumption))
    | cases h
theorem unL_copy (attr : Bool) (l : List UInt8) : ∀ (a : List UInt8) (f k : Nat), (∀ b ∈ a, b ≠ 38 ∧ b ≠ 13 ∧ b ≠ 9 ∧ b ≠ 10) → unL attr (f + a.length) (a ++ l) k = (unL attr f l (k + a.length)).map (a ++ ·)
  | [], f, k, _ => by
    simp only [List.length_nil, Nat.add_zero, List.nil_append]
    cases unL attr f l k <;> rfl
  | c :: a, f, k, h => by
    obtain ⟨h1, h2, h3, h4⟩ := h c (by simp)
    rw [List.length_cons, ← Nat.add_assoc, List.cons_append]
    conv => lhs; unfold unL
    rw [if_neg h1, if_neg h2, if_neg (by simp [h3, h4]), unL_copy attr l a f (k + 1) (fun b hb => h b (by simp [hb])), map_one]
    congr 2
    omega
theorem TxtOK.low {c : UInt8} (h : TxtOK [c] ∨ c = 32 ∨ c = 10) : TxtOK [c] := by
  rcases h with h | rfl | rfl
  · exact h
  · exact TxtOK.ascii (by decide)
  · exact ⟨[10], by decide, by decide⟩
theorem unL_txt (attr : Bool) : ∀ (m : Nat) (l : List UInt8), l.length ≤ m → TxtOK l → ∀ (f k : Nat) (x : List UInt8), l.length < f → unL attr f l k = .ok x → TxtOK x := by
  intro m
  induction m with
  | zero =>
    intro l hl _ f k x _ h
    have : l = [] := List.eq_nil_of_length_eq_zero (by omega)
    subst this
    have : x = [] := by cases f <;> simpa [unL] using h.symm
    subst this
    exact TxtOK.nil
  | succ m ih =>
    intro l hl hT f k x hf h
    obtain ⟨ns, hn, rfl⟩ := hT
    cases ns with
    | nil =>
      have : x = [] := by cases f <;> simpa [unL] using h.symm
      subst this
      exact TxtOK.nil
    | cons n ns =>
      have hn0 := hn n (by simp)
      have hR : TxtOK (ns.flatMap enc) := ⟨ns, fun n hn' => hn n (by simp [hn']), rfl⟩
      rw [List.flatMap_cons] at h hf hl
      generalize ns.flatMap enc = R at h hf hl hR
      rw [List.length_append] at hf hl
      have hpos := List.length_pos_iff.2 (enc_ne' hn0)
      by_cases hhi : 128 ≤ n
      · have hb := enc_high hhi
        have hne : ∀ b ∈ enc n, b ≠ 38 ∧ b ≠ 13 ∧ b ≠ 9 ∧ b ≠ 10 := fun b hm => by
          have := hb b hm
          refine ⟨?_, ?_, ?_, ?_⟩ <;> (intro e; subst e; exact absurd this (by decide))
        obtain ⟨g, rfl⟩ : ∃ g, f = g + (enc n).length := ⟨f - (enc n).length, by omega⟩
        rw [unL_copy attr _ _ g k hne] at h
        obtain ⟨z, hz, rfl⟩ := ex_map_ok h
        exact (TxtOK.one hn0).app (ih R (by omega) hR g _ z (by omega) hz)
      · -- a sign of one byte
        have hs := char_sgn n hn0
        have h0 := (sgn_iff n).1 hs
        have e1 : enc n = [b8 n] := by unfold enc; rw [if_pos hs, if_pos (by omega)]
        have hT1 : TxtOK [b8 n] := by rw [← e1]; exact TxtOK.one hn0
        rw [e1] at h hf hl
        simp only [List.length_cons, List.length_nil] at hf hl
        generalize b8 n = c at h hT1
        obtain ⟨g, rfl⟩ : ∃ g, f = g + 1 := ⟨f - 1, by omega⟩
        rw [List.singleton_append] at h
        have one : ∀ (d : UInt8) (r : List UInt8) (j : Nat), TxtOK [d] → TxtOK r → r.length ≤ m → r.length < g → (unL attr g r j).map (d :: ·) = .ok x → TxtOK x := by
          intro d r j hd hr h1 h2 hy
          obtain ⟨z, hz, rfl⟩ := ex_map_ok hy
          exact TxtOK.app (a := [d]) hd (ih r h1 hr g j z h2 hz)
        have hbl : TxtOK [if attr then (32 : UInt8) else 10] := TxtOK.low (.inr (by cases attr <;> simp))
        unfold unL at h
        split at h
        · -- a reference
          cases hs' : semi R with
          | none => rw [hs'] at h; cases h
          | some p =>
            obtain ⟨t, r⟩ := p
            rw [hs'] at h
            simp only at h
            cases hv : refV t with
            | none => rw [hv] at h; cases h
            | some y =>
              rw [hv] at h
              simp only at h
              obtain ⟨z, hz, rfl⟩ := ex_map_ok h
              have hd := semi_drop hs'
              rw [hd] at hR
              have h4 := congrArg List.length hd
              simp only [List.length_append, List.length_cons] at h4
              exact (refV_txt hv).app (ih r (by omega) (hR.about (by decide)).2 g _ z (by omega) hz)
        · split at h
          · split at h
            · rename_i h10
              cases R with
              | nil => simp at h10
              | cons d r =>
                have hd : d = 10 := by simpa using h10
                subst hd
                simp only [List.length_cons] at hf hl
                exact one _ r _ hbl (hR.tail (by decide)) (by omega) (by omega) h
            · exact one _ R _ hbl hR (by omega) (by omega) h
          · refine one _ R _ ?_ hR (by omega) (by omega) h
            by_cases h9 : (attr && (c == 9 || c == 10)) = true
            · rw [if_pos h9]; exact TxtOK.low (.inr (.inl rfl))
            · rw [if_neg h9]; exact hT1
theorem endsL_txt : ∀ (m : Nat) (l : List UInt8), l.length ≤ m → TxtOK l → TxtOK (endsL l) := by
  intro m
  induction m with
  | zero =>
    intro l hl _
    have : l = [] := List.eq_nil_of_length_eq_zero (by omega)
    subst this
    exact TxtOK.nil
  | succ m ih =>
    intro l hl hT
    obtain ⟨ns, hn, rfl⟩ := hT
    cases ns with
    | nil => exact TxtOK.nil
    | cons n ns =>
      have hn0 := hn n (by simp)
      have hR : TxtOK (ns.flatMap enc) := ⟨ns, fun n hn' => hn n (by simp [hn']), rfl⟩
      rw [List.flatMap_cons] at hl ⊢
      generalize ns.flatMap enc = R at hl hR
      rw [List.length_append] at hl
      have hpos := List.length_pos_iff.2 (enc_ne' hn0)
      have copy : ∀ a : List UInt8, (∀ b ∈ a, b ≠ 13) → endsL (a ++ R) = a ++ endsL R := by
        intro a
        induction a with
        | nil => intro _; rfl
        | cons c a iha =>
          intro h
          rw [List.cons_append]
          conv => lhs; unfold endsL
          rw [if_neg (h c (by simp)), iha (fun b hb => h b (by simp [hb]))]
          rfl
      by_cases h13 : n = 13
      · subst h13
        have e1 : enc 13 = [13] := by decide
        rw [e1, List.singleton_append]
        unfold endsL
        rw [if_pos rfl]
        split
        · exact ih R (by omega) hR
        · exact TxtOK.app (a := [10]) (TxtOK.low (.inr (.inr rfl))) (ih R (by omega) hR)
      · rw [copy (enc n) (fun b hb e => by
          subst e
          exact h13 ((enc_low hb (by decide)).2))]
        exact (TxtOK.one hn0).app (ih R (by omega) hR)
end Wb
