
/- A whole document, its declaration and its tokens; a remark put in ahead of a tag. No program in sight. -/
import Derived.Test.YtoahkpkkkjnngaaGreatDoorLxTok3
namespace Wb

/-- From behind a setting's name on: =, and one of some values in quotes. -/
def settingR (vals : List (List UInt8)) (fold : Bool) : Rd Unit :=
  bindR (spanR blkB) fun _ => bindR (litR [61]) fun _ => bindR (spanR blkB) fun _ => bindR byteR fun q => guardR (q == 34 || q == 39)
    (mapR (untilR [q]) fun v => if vals.contains (if fold then lowL v else v) then some () else none)
def declT3 : Rd Unit := bindR (spanR blkB) fun _ => litR [63, 62]
def standR : Rd Unit := bindR (litR [116, 97, 110, 100, 97, 108, 111, 110, 101]) fun _ => bindR (settingR [[121, 101, 115], [110, 111]] false) fun _ => declT3
def declT2 : Rd Unit := bindR (spanR blkB) fun bs => bindR byteR fun c =>
  if c = 63 then litR [62] else guardR (c == 115 && !(bs.isEmpty)) standR
def declT1 : Rd Unit := bindR (spanR blkB) fun bs => bindR byteR fun c =>
  if c = 63 then litR [62] else if c = 101 then guardR (!(bs.isEmpty)) (bindR (litR [110, 99, 111, 100, 105, 110, 103]) fun _ => bindR (settingR [[117, 116, 102, 45, 56]] true) fun _ => declT2)
  else guardR (c == 115 && !(bs.isEmpty)) standR
/-- The declaration with which a document begins. -/
def declR : Rd Unit := bindR (litR [60, 63, 120, 109, 108]) fun _ => bindR (spanR blkB) fun _ => bindR (litR [118, 101, 114, 115, 105, 111, 110]) fun _ => bindR (settingR [[49, 46, 48]] false) fun _ => declT1

theorem setting_takes (vals : List (List UInt8)) (fold : Bool) : Takes (settingR vals fold) := Takes.bindR fun _ => Takes.bindL (Takes.lit1 _ _)
theorem setting_loc (vals : List (List UInt8)) (fold : Bool) : Loc 0 (settingR vals fold) :=
  Loc.bind (Loc.span _) (fun _ => Loc.bind (Loc.lit _) (fun _ => Loc.bind (Loc.span _) (fun _ => Loc.bind Loc.byte (fun _ => Loc.guard _ (Loc.map _ (Loc.until _ (by simp)))) (.inl rfl))
    (.inr ⟨Nat.le_refl _, fun _ => Takes.bindL Takes.byte⟩)) (.inl rfl)) (.inr ⟨Nat.le_refl _, fun _ => Takes.bindL (Takes.lit1 _ _)⟩)
theorem declT3_loc : Loc 0 declT3 := Loc.bind (Loc.span _) (fun _ => Loc.lit _) (.inr ⟨Nat.le_refl _, fun _ => Takes.lit1 _ _⟩)
theorem stand_loc : Loc 0 standR := Loc.bind (Loc.lit _) (fun _ => Loc.bind (setting_loc _ _) (fun _ => declT3_loc) (.inl rfl)) (.inl rfl)
theorem declT2_loc : Loc 0 declT2 := by
  refine Loc.bind (Loc.span _) (fun bs => Loc.bind Loc.byte (fun c => ?_) (.inl rfl)) (.inr ⟨Nat.le_refl _, fun _ => Takes.bindL Takes.byte⟩)
  split
  · exact Loc.lit _
  · exact Loc.guard _ stand_loc
theorem declT1_loc : Loc 0 declT1 := by
  refine Loc.bind (Loc.span _) (fun bs => Loc.bind Loc.byte (fun c => ?_) (.inl rfl)) (.inr ⟨Nat.le_refl _, fun _ => Takes.bindL Takes.byte⟩)
  split
  · exact Loc.lit _
  · split
    · exact Loc.guard _ (Loc.bind (Loc.lit _) (fun _ => Loc.bind (setting_loc _ _) (fun _ => declT2_loc) (.inl rfl)) (.inl rfl))
    · exact Loc.guard _ stand_loc
theorem decl_loc : Loc 0 declR :=
  Loc.bind (Loc.lit _) (fun _ => Loc.bind (Loc.span _) (fun _ => Loc.bind (Loc.lit _) (fun _ => Loc.bind (setting_loc _ _) (fun _ => declT1_loc) (.inl rfl)) (.inl rfl))
    (.inr ⟨Nat.le_refl _, fun _ => Takes.bindL (Takes.lit1 _ _)⟩)) (.inl rfl)
theorem decl_six {l : List UInt8} {n : Nat} {u : Unit} (h : declR l = some (n, u)) : 6 ≤ n := by
  obtain ⟨n1, _, m, h1, h2, rfl⟩ := bindR_some h
  have h3 : n1 = 5 := by
    unfold litR at h1
    split at h1
    · simp only [Option.some.injEq, Prod.mk.injEq] at h1
      exact h1.1.symm
    · cases h1
  have h4 := Takes.bindR (f := spanR blkB) (fun _ => Takes.bindL (g := fun _ => bindR (settingR [[49, 46, 48]] false) fun _ => declT1) (Takes.lit1 118 [101, 114, 115, 105, 111, 110])) _ _ _ h2
  omega

/-- Does a declaration begin there? -/
def declQ (l : List UInt8) : Prop := l.take 5 = [60, 63, 120, 109, 108] ∧ ((l.drop 5).take 1).any blkB = true

/-- The document's tokens. -/
def DocIs (s : List UInt8) (ts : List (Nat × Tk)) : Prop :=
  s.length ≤ 32768 ∧ TxtOK s ∧ ((declQ s ∧ ∃ n, declR s = some (n, ()) ∧ tokL (s.length + 1) (s.drop n) n = some ts) ∨ (¬ declQ s ∧ tokL (s.length + 1) s 0 = some ts))

theorem declQ_put {P X B : List UInt8} (hB : B.take 1 = [60]) (hX : X.take 1 = [60]) (hX4 : X.take 4 ≠ [60, 63, 120, 109]) (hXl : 4 ≤ X.length) (h : declQ (P ++ (X ++ B))) : declQ (P ++ B) := by
  obtain ⟨h1, h2⟩ := h
  obtain ⟨b, rfl⟩ : ∃ b, B = 60 :: b := by
    cases B with
    | nil => cases hB
    | cons c b => simp at hB; exact ⟨b, by rw [hB]⟩
  obtain ⟨x, rfl⟩ : ∃ x, X = 60 :: x := by
    cases X with
    | nil => cases hX
    | cons c x => simp at hX; exact ⟨x, by rw [hX]⟩
  match P with
  | [] =>
    exfalso
    apply hX4
    have := congrArg (List.take 4) h1
    rw [List.take_take, List.nil_append, List.take_append_of_le_length (by simpa using hXl)] at this
    simpa using this
  | [p0] => simp at h1
  | [p0, p1] => simp at h1
  | [p0, p1, p2] => simp at h1
  | [p0, p1, p2, p3] => simp at h1
  | [p0, p1, p2, p3, p4] =>
    exfalso
    simp [blkB] at h2
  | p0 :: p1 :: p2 :: p3 :: p4 :: p5 :: p =>
    refine ⟨by simpa using h1, by simpa using h2⟩

/-- The byte at a tag's place. -/
theorem tok_at : ∀ (f : Nat) (l : List UInt8) (a : Nat) (ts : List (Nat × Tk)) (k : Nat) (t : Tk), tokL f l a = some ts → (a + k, t) ∈ ts → t.1 ≠ 4 → (l.drop k).take 1 = [60] := by
  intro f
  induction f with
  | zero =>
    intro l a ts k t h hm _
    rcases tokL_some h with ⟨_, rfl⟩ | ⟨f', _, _, _, h0, _⟩
    · simp at hm
    · omega
  | succ f ih =>
    intro l a ts k t h hm hk
    rcases tokL_some h with ⟨_, rfl⟩ | ⟨f', n, o, us, h0, hp, hr, hts⟩
    · simp at hm
    · obtain rfl : f' = f := by omega
      have hn := piece_takes hp
      have later : (a + k, t) ∈ us → (l.drop k).take 1 = [60] := by
        intro hmu
        have h1 := ((tokL_rise _ _ _ _ hr).1 _ hmu).1
        simp only at h1
        have := ih (l.drop n) (a + n) us (k - n) t hr (by rw [show a + n + (k - n) = a + k from by omega]; exact hmu) hk
        rw [List.drop_drop, show n + (k - n) = k from by omega] at this
        exact this
      cases o with
      | none => rw [hts] at hm; exact later hm
      | some x =>
        rw [hts] at hm
        rcases List.mem_cons.1 hm with h3 | h3
        · simp only [Prod.mk.injEq] at h3
          obtain rfl : k = 0 := by omega
          obtain ⟨kk, nm, at_, tx⟩ := x
          rw [h3.2] at hk
          exact piece_tag hp hk
        · exact later h3

theorem doc_put {s : List UInt8} {ts : List (Nat × Tk)} {a : Nat} {t : Tk} (h : DocIs s ts) (hm : (a, t) ∈ ts) (hk : t.1 ≠ 4)
    {X : List UInt8} (hX : X.take 1 = [60]) (hX4 : X.take 4 ≠ [60, 63, 120, 109]) (hXl : 4 ≤ X.length) (hXp : ∀ B, pieceR (X ++ B) = some (X.length, none)) (hXt : TxtOK X) (hlen : s.length + X.length ≤ 32768) :
    a < s.length ∧ ∃ us, DocIs (s.take a ++ (X ++ s.drop a)) us ∧ us.map (·.2) = ts.map (·.2) := by
  obtain ⟨h1, h2, h3⟩ := h
  have hlen' : (s.take a ++ (X ++ s.drop a)).length = s.length + X.length := by simp; omega
  have fin : (s.drop a).take 1 = [60] → ∀ us, ((declQ (s.take a ++ (X ++ s.drop a)) ∧ ∃ n, declR (s.take a ++ (X ++ s.drop a)) = some (n, ()) ∧ tokL (s.length + 2) ((s.take a ++ (X ++ s.drop a)).drop n) n = some us) ∨
      (¬ declQ (s.take a ++ (X ++ s.drop a)) ∧ tokL (s.length + 2) (s.take a ++ (X ++ s.drop a)) 0 = some us)) → us.map (·.2) = ts.map (·.2) →
      ∃ us, DocIs (s.take a ++ (X ++ s.drop a)) us ∧ us.map (·.2) = ts.map (·.2) := by
    intro hb us hu hue
    have hT : TxtOK (s.take a ++ (X ++ s.drop a)) := by
      have h4 : TxtOK (s.take a ++ s.drop a) := by rw [List.take_append_drop]; exact h2
      obtain ⟨h5, h6⟩ := h4.cut hb
      exact h5.app (hXt.app h6)
    refine ⟨us, ⟨by omega, hT, ?_⟩, hue⟩
    rcases hu with ⟨h5, n, h6, h7⟩ | ⟨h5, h6⟩
    · exact .inl ⟨h5, n, h6, tokL_more _ _ _ _ h7 _ (by omega)⟩
    · exact .inr ⟨h5, tokL_more _ _ _ _ h6 _ (by omega)⟩
  rcases h3 with ⟨hq, n, hd, ht⟩ | ⟨hq, ht⟩
  · have hr := (tokL_rise _ _ _ _ ht).1 _ hm
    simp only [List.length_drop] at hr
    obtain ⟨hnl, hloc⟩ := decl_loc _ _ _ hd
    have h6 := decl_six hd
    have hal : a < s.length := by omega
    have hb : (s.drop a).take 1 = [60] := by
      have := tok_at _ _ n ts (a - n) t ht (by rw [show n + (a - n) = a from by omega]; exact hm) hk
      rw [List.drop_drop, show n + (a - n) = a from by omega] at this
      exact this
    refine ⟨hal, ?_⟩
    have hta : (s.take a).length = a := by simp; omega
    have e0 : (s.take a ++ (X ++ s.drop a)).take a = s.take a := by
      rw [List.take_append_of_le_length (by omega), List.take_of_length_le (by omega)]
    have eat : ∀ m, m ≤ a → (s.take a ++ (X ++ s.drop a)).take m = s.take m := by
      intro m hm'
      have := congrArg (List.take m) e0
      rwa [List.take_take, List.take_take, Nat.min_eq_left hm'] at this
    have hq' : declQ (s.take a ++ (X ++ s.drop a)) := by
      refine ⟨by rw [eat 5 (by omega)]; exact hq.1, ?_⟩
      have e6 := congrArg (List.drop 5) (eat 6 (by omega))
      rw [List.drop_take, List.drop_take] at e6
      rw [e6]
      exact hq.2
    have hd' : declR (s.take a ++ (X ++ s.drop a)) = some (n, ()) := hloc _ (by rw [Nat.add_zero]; exact eat n (by omega))
    have hsplit : s.drop n = (s.take a).drop n ++ s.drop a := by
      conv => lhs; rw [← List.take_append_drop a s]
      rw [List.drop_append_of_le_length (by omega)]
    rw [hsplit] at ht
    obtain ⟨us, hu1, hu2⟩ := tokL_put X hX hXp _ ((s.take a).drop n) (s.drop a) n ts t ht (by rw [List.length_drop, hta, show n + (a - n) = a from by omega]; exact hm) hk
    refine fin hb us (.inl ⟨hq', n, hd', ?_⟩) hu2
    rw [List.drop_append_of_le_length (by omega)]
    exact hu1
  · have hr := (tokL_rise _ _ _ _ ht).1 _ hm
    simp only [Nat.zero_add] at hr
    have hal : a < s.length := hr.2
    have hb : (s.drop a).take 1 = [60] := tok_at _ _ 0 ts a t ht (by simpa using hm) hk
    refine ⟨hal, ?_⟩
    have hta : (s.take a).length = a := by simp; omega
    have hs : s.take a ++ s.drop a = s := List.take_append_drop a s
    have hq' : ¬ declQ (s.take a ++ (X ++ s.drop a)) := fun h => hq (by
      have := declQ_put hb hX hX4 hXl h
      rwa [hs] at this)
    have ht2 : tokL (s.length + 1) (s.take a ++ s.drop a) 0 = some ts := by rw [hs]; exact ht
    obtain ⟨us, hu1, hu2⟩ := tokL_put X hX hXp _ (s.take a) (s.drop a) 0 ts t ht2 (by rw [hta]; simpa using hm) hk
    exact fin hb us (.inr ⟨hq', hu1⟩) hu2

theorem doc_one {s : List UInt8} {ts us : List (Nat × Tk)} (h : DocIs s ts) (h' : DocIs s us) : ts = us := by
  obtain ⟨_, _, h3⟩ := h
  obtain ⟨_, _, h4⟩ := h'
  rcases h3 with ⟨hq, n, hd, ht⟩ | ⟨hq, ht⟩ <;> rcases h4 with ⟨hq', n', hd', ht'⟩ | ⟨hq', ht'⟩
  · rw [hd] at hd'
    simp only [Option.some.injEq, Prod.mk.injEq, and_true] at hd'
    subst hd'
    rw [ht] at ht'
    exact Option.some.inj ht'
  · exact absurd hq hq'
  · exact absurd hq' hq
  · rw [ht] at ht'
    exact Option.some.inj ht'
end Wb
