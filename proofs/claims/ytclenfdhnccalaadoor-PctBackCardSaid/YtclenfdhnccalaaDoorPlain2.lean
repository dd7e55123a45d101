
/- Plain facts on texts of signs: the first wrong place, names, trimming. -/
import Derived.Test.YtclenfdhnccalaaDoorPlain
namespace Wb

/-! ### The first place at which no sign stands -/
def chkL : Nat → List UInt8 → Int → Int
  | 0, _, _ => -1
  | _ + 1, [], _ => -1
  | f + 1, c :: l, base => if (dec (c :: l)).2 = 0 then base else chkL f ((c :: l).drop (dec (c :: l)).2.toNat) (base + (dec (c :: l)).2)
def chk (l : List UInt8) : Int := chkL l.length l 0

theorem flat_dec (n : Int) (ns : List Int) (r : List UInt8) (h : sgn n = true) : dec ((n :: ns).flatMap enc ++ r) = (n, slen n) := by
  rw [List.flatMap_cons, List.append_assoc]; exact dec_enc n h _

theorem enc_ne (n : Int) (h : sgn n = true) : enc n ≠ [] := by
  intro e
  have := enc_length n
  rw [e] at this
  unfold slen at this
  rw [if_pos h] at this
  simp at this
  repeat' split at this
  all_goals omega

theorem slen_one (n : Int) (h : sgn n = true) : 1 ≤ slen n := by
  unfold slen; rw [if_pos h]; repeat' split <;> omega

theorem flat_drop (n : Int) (ns : List Int) (r : List UInt8) : ((n :: ns).flatMap enc ++ r).drop (slen n).toNat = ns.flatMap enc ++ r := by
  rw [List.flatMap_cons, List.append_assoc]
  have := enc_length n
  rw [show (slen n).toNat = (enc n).length by omega, List.drop_left]

theorem dec_pair (l : List UInt8) : ∃ n k, dec l = (n, k) := ⟨(dec l).1, (dec l).2, rfl⟩

/-- Any bytes are signs, and then something that doesn't begin with one. -/
theorem form : ∀ (f : Nat) (l : List UInt8), l.length ≤ f → ∃ (ns : List Int) (r : List UInt8), (∀ n ∈ ns, sgn n = true) ∧ l = ns.flatMap enc ++ r ∧ (dec r).2 = 0
  | 0, l, h => ⟨[], l, by simp, by simp, by
      have : l = [] := List.eq_nil_of_length_eq_zero (by omega)
      subst this; rfl⟩
  | f + 1, l, h => by
    by_cases h0 : (dec l).2 = 0
    · exact ⟨[], l, by simp, by simp, h0⟩
    · obtain ⟨n, k, hd⟩ := dec_pair l
      rw [hd] at h0
      obtain ⟨h1, h2, rest, h3⟩ := dec_some l n k hd h0
      have hl := enc_length n
      have hs := slen_one n h1
      have hlen : l.length = (enc n).length + rest.length := by rw [h3]; simp
      obtain ⟨ns, r, a1, a2, a3⟩ := form f rest (by omega)
      refine ⟨n :: ns, r, ?_, ?_, a3⟩
      · intro m hm
        rcases List.mem_cons.1 hm with rfl | hm
        · exact h1
        · exact a1 m hm
      · rw [h3, List.flatMap_cons, List.append_assoc, ← a2]

theorem chkL_form : ∀ (ns : List Int) (r : List UInt8) (f : Nat) (base : Int), (∀ n ∈ ns, sgn n = true) → (dec r).2 = 0 → (ns.flatMap enc ++ r).length ≤ f →
    chkL f (ns.flatMap enc ++ r) base = if r = [] then -1 else base + (ns.flatMap enc).length
  | [], r, f, base, _, h, hf => by
    simp only [List.flatMap_nil, List.nil_append] at *
    cases r with
    | nil => cases f <;> rfl
    | cons c l =>
      cases f with
      | zero => simp at hf
      | succ f => simp [chkL, h]
  | n :: ns, r, f, base, hs, h, hf => by
    have h1 := hs n (by simp)
    have hd := flat_dec n ns r h1
    have hr := flat_drop n ns r
    have hsl := slen_one n h1
    have hel := enc_length n
    have hne : (n :: ns).flatMap enc ++ r ≠ [] := by
      intro e
      rw [e] at hd
      have := congrArg Prod.snd hd
      simp [dec] at this
      omega
    have hlen : ((n :: ns).flatMap enc ++ r).length = (enc n).length + (ns.flatMap enc ++ r).length := by
      simp
    rw [hlen] at hf
    have ih := chkL_form ns r
    generalize hL : (n :: ns).flatMap enc ++ r = L at *
    cases L with
    | nil => exact absurd rfl hne
    | cons c l =>
      cases f with
      | zero => omega
      | succ f =>
        unfold chkL
        rw [hd, if_neg (by show ¬ slen n = 0; omega)]
        show chkL f (List.drop (slen n).toNat (c :: l)) (base + slen n) = _
        rw [hr, ih f _ (fun m hm => hs m (by simp [hm])) h (by omega)]
        split
        · rfl
        · rw [List.flatMap_cons, List.length_append]; omega

theorem chk_form (ns : List Int) (r : List UInt8) (hs : ∀ n ∈ ns, sgn n = true) (h : (dec r).2 = 0) :
    chk (ns.flatMap enc ++ r) = if r = [] then -1 else ((ns.flatMap enc).length : Int) := by
  unfold chk
  rw [chkL_form ns r _ 0 hs h (Nat.le_refl _)]
  simp

theorem chk_bd (l : List UInt8) : chk l = -1 ∨ (0 ≤ chk l ∧ chk l < l.length) := by
  obtain ⟨ns, r, h1, h2, h3⟩ := form _ l (Nat.le_refl _)
  rw [h2, chk_form ns r h1 h3]
  by_cases hr : r = []
  · simp [hr]
  · rw [if_neg hr]
    have : 0 < r.length := List.length_pos_iff.2 hr
    right
    simp
    omega

theorem chk_cut (l : List UInt8) (h : 0 ≤ chk l) : chk (l.take (chk l).toNat) = -1 := by
  obtain ⟨ns, r, h1, h2, h3⟩ := form _ l (Nat.le_refl _)
  have hc := chk_form ns r h1 h3
  rw [← h2] at hc
  by_cases hr : r = []
  · rw [if_pos hr] at hc; omega
  · rw [if_neg hr] at hc
    rw [hc, Int.toNat_natCast]
    have := chk_form ns [] h1 rfl
    rw [if_pos rfl, List.append_nil] at this
    rw [← this]
    conv => lhs; rw [h2]
    rw [List.take_left]

theorem chk_two (s t : List UInt8) (h : chk s = -1) : chk (s ++ t) = if chk t < 0 then -1 else (s.length : Int) + chk t := by
  obtain ⟨ns, r, h1, h2, h3⟩ := form _ s (Nat.le_refl _)
  have hc := chk_form ns r h1 h3
  rw [← h2, h] at hc
  have hr : r = [] := by
    by_cases hr : r = []
    · exact hr
    · rw [if_neg hr] at hc; omega
  subst hr
  rw [List.append_nil] at h2
  obtain ⟨ns', r', h1', h2', h3'⟩ := form _ t (Nat.le_refl _)
  have hc' := chk_form ns' r' h1' h3'
  rw [← h2'] at hc'
  have hcc := chk_form (ns ++ ns') r' (by
    intro n hn
    rcases List.mem_append.1 hn with q | q
    · exact h1 n q
    · exact h1' n q) h3'
  have e : (ns ++ ns').flatMap enc ++ r' = s ++ t := by rw [List.flatMap_append, ← h2, List.append_assoc, ← h2']
  rw [e] at hcc
  rw [hcc, hc']
  by_cases hr' : r' = []
  · simp [hr']
  · rw [if_neg hr', if_neg hr', if_neg (by omega), List.flatMap_append, ← h2]
    simp

/-! ### Names -/
def nameL : Nat → List UInt8 → Bool
  | 0, _ => true
  | _ + 1, [] => true
  | f + 1, c :: l => if (dec (c :: l)).2 = 0 then false else partB (dec (c :: l)).1 && nameL f ((c :: l).drop (dec (c :: l)).2.toNat)
def nameB (l : List UInt8) : Bool :=
  decide (l.length ≤ 64) && (decide ((dec l).2 ≠ 0) && (startB (dec l).1 && nameL l.length (l.drop (dec l).2.toNat)))

theorem part_sgn (n : Int) (h : partB n = true) : sgn n = true := char_sgn n (part_char n h)
theorem start_sgn (n : Int) (h : startB n = true) : sgn n = true := part_sgn n (start_part n h)

theorem nameL_form : ∀ (ns : List Int) (f : Nat), (∀ n ∈ ns, sgn n = true) → (ns.flatMap enc).length ≤ f → nameL f (ns.flatMap enc) = ns.all partB
  | [], f, _, _ => by cases f <;> rfl
  | n :: ns, f, hs, hf => by
    have h1 := hs n (by simp)
    have hd := flat_dec n ns [] h1
    have hr := flat_drop n ns []
    rw [List.append_nil] at hd hr
    rw [List.append_nil] at hr
    have hsl := slen_one n h1
    have hel := enc_length n
    have hne : (n :: ns).flatMap enc ≠ [] := by
      intro e
      rw [e] at hd
      have := congrArg Prod.snd hd
      simp [dec] at this
      omega
    have hlen : ((n :: ns).flatMap enc).length = (enc n).length + (ns.flatMap enc).length := by simp
    rw [hlen] at hf
    have ih := nameL_form ns
    generalize hL : (n :: ns).flatMap enc = L at *
    cases L with
    | nil => exact absurd rfl hne
    | cons c l =>
      cases f with
      | zero => omega
      | succ f =>
        unfold nameL
        rw [hd, if_neg (by show ¬ slen n = 0; omega)]
        show (partB n && nameL f (List.drop (slen n).toNat (c :: l))) = _
        rw [hr, ih f (fun m hm => hs m (by simp [hm])) (by omega)]
        rfl

theorem nameL_cons (f : Nat) (c : UInt8) (l : List UInt8) (h : nameL (f + 1) (c :: l) = true) :
    (dec (c :: l)).2 ≠ 0 ∧ partB (dec (c :: l)).1 = true ∧ nameL f ((c :: l).drop (dec (c :: l)).2.toNat) = true := by
  unfold nameL at h
  by_cases h0 : (dec (c :: l)).2 = 0
  · rw [if_pos h0] at h; cases h
  · rw [if_neg h0, Bool.and_eq_true] at h
    exact ⟨h0, h.1, h.2⟩

/-- Where a name's rest is right it is signs. -/
theorem nameL_some (f : Nat) : ∀ (l : List UInt8), l.length ≤ f → nameL f l = true → ∃ ns : List Int, (∀ n ∈ ns, partB n = true) ∧ l = ns.flatMap enc := by
  induction f with
  | zero => exact fun l h _ => ⟨[], by simp, by simpa using List.eq_nil_of_length_eq_zero (by omega)⟩
  | succ f ih =>
    intro l h hn
    cases l with
    | nil => exact ⟨[], by simp, by simp⟩
    | cons c l =>
      obtain ⟨p1, p2, p3⟩ := nameL_cons f c l hn
      obtain ⟨n, k, hd⟩ := dec_pair (c :: l)
      rw [hd] at p1 p2 p3
      simp only at p1 p2 p3
      obtain ⟨h1, h2, rest, h3⟩ := dec_some _ n k hd p1
      have hl := enc_length n
      have hs := slen_one n h1
      have hrest : (c :: l).drop k.toNat = rest := by
        rw [h3, show k.toNat = (enc n).length by omega, List.drop_left]
      rw [hrest] at p3
      have hlen : (c :: l).length = (enc n).length + rest.length := by rw [h3]; simp
      obtain ⟨ns, a1, a2⟩ := ih rest (by omega) p3
      refine ⟨n :: ns, ?_, ?_⟩
      · intro m hm
        rcases List.mem_cons.1 hm with rfl | hm
        · exact p2
        · exact a1 m hm
      · rw [h3, List.flatMap_cons, ← a2]

theorem nameB_iff (l : List UInt8) : nameB l = true ↔ l.length ≤ 64 ∧ ∃ (n : Int) (ns : List Int), startB n = true ∧ (∀ m ∈ ns, partB m = true) ∧ l = (n :: ns).flatMap enc := by
  constructor
  · intro h
    obtain ⟨n, k, hd⟩ := dec_pair l
    unfold nameB at h
    rw [hd] at h
    simp only [Bool.and_eq_true, decide_eq_true_eq] at h
    obtain ⟨h1, h2, h3, h4⟩ := h
    obtain ⟨g1, g2, rest, g3⟩ := dec_some l n k hd h2
    have hl := enc_length n
    have hrest : l.drop k.toNat = rest := by
      rw [g3, show k.toNat = (enc n).length by omega, List.drop_left]
    rw [hrest] at h4
    have hlen : l.length = (enc n).length + rest.length := by rw [g3]; simp
    obtain ⟨ns, a1, a2⟩ := nameL_some _ rest (by omega) h4
    exact ⟨h1, n, ns, h3, a1, by rw [g3, List.flatMap_cons, ← a2]⟩
  · rintro ⟨h1, n, ns, h2, h3, h4⟩
    have hs := start_sgn n h2
    have hd := flat_dec n ns [] hs
    have hr := flat_drop n ns []
    rw [List.append_nil] at hd hr
    rw [List.append_nil] at hr
    rw [← h4] at hd hr
    have hsl := slen_one n hs
    unfold nameB
    rw [hd]
    simp only [Bool.and_eq_true, decide_eq_true_eq]
    refine ⟨h1, by omega, h2, ?_⟩
    rw [hr, nameL_form ns _ (fun m hm => part_sgn m (h3 m hm))]
    · simpa using h3
    · rw [h4, List.flatMap_cons, List.length_append]; omega

/-! ### Trimming -/
def blkU (c : UInt8) : Bool := blk c.toNat
def trimL (l : List UInt8) : List UInt8 := ((l.dropWhile blkU).reverse.dropWhile blkU).reverse

theorem dropWhile_idem (p : UInt8 → Bool) (l : List UInt8) : (l.dropWhile p).dropWhile p = l.dropWhile p := by
  induction l with
  | nil => rfl
  | cons c l ih =>
    by_cases h : p c
    · simp [h, ih]
    · simp [h]
end Wb
