/- Plain Plain2 LxPlain. -/
namespace Wb
def sgn (n : Int) : Bool := decide (0 ≤ n) && decide (n ≤ 1114111) && (decide (n < 55296) || decide (57343 < n))
theorem sgn_iff (n : Int) : sgn n = true ↔ 0 ≤ n ∧ n ≤ 1114111 ∧ (n < 55296 ∨ 57343 < n) := by
  simp [sgn, and_assoc]
def slen (n : Int) : Int := if sgn n = true then (if n < 128 then 1 else if n < 2048 then 2 else if n < 65536 then 3 else 4) else 0
def b8 (n : Int) : UInt8 := UInt8.ofNat n.toNat
theorem b8_of (c : UInt8) (n : Int) (h : (c.toNat : Int) = n) : b8 n = c := by
  subst h
  unfold b8
  simp
def enc (n : Int) : List UInt8 :=
  if sgn n = true then
    (if n < 128 then [b8 n]
    else if n < 2048 then [b8 (192 + n / 64), b8 (128 + n % 64)]
    else if n < 65536 then [b8 (224 + n / 4096), b8 (128 + n / 64 % 64), b8 (128 + n % 64)]
    else [b8 (240 + n / 262144), b8 (128 + n / 4096 % 64), b8 (128 + n / 64 % 64), b8 (128 + n % 64)])
  else []
theorem enc_length (n : Int) : ((enc n).length : Int) = slen n := by
  unfold enc slen
  split
  · split
    · rfl
    · split
      · rfl
      · split <;> rfl
  · rfl
def fsz (c : Int) : Int := if c < 128 then 1 else if c / 32 = 6 then 2 else if c / 16 = 14 then 3 else if c / 8 = 30 then 4 else 0
def fbt (c : Int) : Int := if c < 128 then c else if c / 32 = 6 then c % 32 else if c / 16 = 14 then c % 16 else if c / 8 = 30 then c % 8 else 0
theorem fsz_bd (c : Int) : 0 ≤ fsz c ∧ fsz c ≤ 4 := by unfold fsz; repeat' split <;> omega
def decN (r : Int) : Nat → List UInt8 → Option Int
  | 0, _ => some r
  | _ + 1, [] => none
  | k + 1, c :: l => if (c.toNat : Int) / 64 = 2 then decN (r * 64 + (c.toNat : Int) % 64) k l else none
def dec : List UInt8 → Int × Int
  | [] => (0, 0)
  | c :: l =>
    if fsz c.toNat = 0 then (0, 0) else
    match decN (fbt c.toNat) ((fsz c.toNat).toNat - 1) l with
    | none => (0, 0)
    | some r => if slen r = fsz c.toNat then (r, fsz c.toNat) else (0, 0)
theorem u8_lt (c : UInt8) : (c.toNat : Int) < 256 := by have := c.toNat_lt; omega
theorem slen_pos (n : Int) (h : slen n ≠ 0) : sgn n = true := by
  unfold slen at h
  split at h
  · assumption
  · exact absurd rfl h
theorem slen_bd (n : Int) : 0 ≤ slen n ∧ slen n ≤ 4 := by unfold slen; repeat' split <;> omega
theorem dec_some (l : List UInt8) (n k : Int) (h : dec l = (n, k)) (hk : k ≠ 0) : sgn n = true ∧ slen n = k ∧ ∃ rest, l = enc n ++ rest := by
  cases l with
  | nil => simp [dec] at h; omega
  | cons c l =>
    have hc := u8_lt c
    simp only [dec] at h
    by_cases h0 : fsz c.toNat = 0
    · rw [if_pos h0] at h; simp at h; omega
    · rw [if_neg h0] at h
      cases hd : decN (fbt c.toNat) ((fsz c.toNat).toNat - 1) l with
      | none => rw [hd] at h; simp at h; omega
      | some r =>
        rw [hd] at h
        simp only at h
        by_cases hl : slen r = fsz c.toNat
        · rw [if_pos hl] at h
          simp only [Prod.mk.injEq] at h
          obtain ⟨rfl, rfl⟩ := h
          have hs := slen_pos r (by omega)
          refine ⟨hs, hl, ?_⟩
          have hr := (sgn_iff r).1 hs
          unfold slen at hl
          rw [if_pos hs] at hl
          unfold enc
          rw [if_pos hs]
          by_cases c1 : (c.toNat : Int) < 128
          · have e1 : fsz c.toNat = 1 := by unfold fsz; rw [if_pos c1]
            have e2 : fbt c.toNat = c.toNat := by unfold fbt; rw [if_pos c1]
            rw [e1, e2] at hd
            simp [decN] at hd
            subst hd
            rw [if_pos c1]
            exact ⟨l, by rw [b8_of c _ rfl]; rfl⟩
          · by_cases c2 : (c.toNat : Int) / 32 = 6
            · have e1 : fsz c.toNat = 2 := by unfold fsz; rw [if_neg c1, if_pos c2]
              have e2 : fbt c.toNat = (c.toNat : Int) % 32 := by unfold fbt; rw [if_neg c1, if_pos c2]
              rw [e1, e2] at hd
              rw [e1] at hl
              have : (2 : Int).toNat - 1 = 1 := rfl
              rw [this] at hd
              cases l with
              | nil => simp [decN] at hd
              | cons x l =>
                have hx := u8_lt x
                simp only [decN] at hd
                split at hd
                · simp only [Option.some.injEq] at hd
                  have n1 : ¬ r < 128 := by intro q; rw [if_pos q] at hl; omega
                  have n2 : r < 2048 := by
                    rcases Int.lt_or_le r 2048 with q | q
                    · exact q
                    · rw [if_neg n1, if_neg (by omega)] at hl; split at hl <;> omega
                  rw [if_neg n1, if_pos n2, b8_of c (192 + r / 64) (by omega), b8_of x (128 + r % 64) (by omega)]
                  exact ⟨l, rfl⟩
                · cases hd
            · by_cases c3 : (c.toNat : Int) / 16 = 14
              · have e1 : fsz c.toNat = 3 := by unfold fsz; rw [if_neg c1, if_neg c2, if_pos c3]
                have e2 : fbt c.toNat = (c.toNat : Int) % 16 := by unfold fbt; rw [if_neg c1, if_neg c2, if_pos c3]
                rw [e1, e2] at hd
                rw [e1] at hl
                have : (3 : Int).toNat - 1 = 2 := rfl
                rw [this] at hd
                match l, hd with
                | [], hd => simp [decN] at hd
                | [x], hd => simp [decN] at hd
                | x :: y :: l, hd =>
                  have hx := u8_lt x
                  have hy := u8_lt y
                  simp only [decN] at hd
                  split at hd
                  · split at hd
                    · simp only [Option.some.injEq] at hd
                      have n1 : ¬ r < 128 := by intro q; rw [if_pos q] at hl; omega
                      have n2 : ¬ r < 2048 := by intro q; rw [if_neg n1, if_pos q] at hl; omega
                      have n3 : r < 65536 := by
                        rcases Int.lt_or_le r 65536 with q | q
                        · exact q
                        · rw [if_neg n1, if_neg n2, if_neg (by omega)] at hl; omega
                      rw [if_neg n1, if_neg n2, if_pos n3, b8_of c (224 + r / 4096) (by omega), b8_of x (128 + r / 64 % 64) (by omega), b8_of y (128 + r % 64) (by omega)]
                      exact ⟨l, rfl⟩
                    · cases hd
                  · cases hd
              · by_cases c4 : (c.toNat : Int) / 8 = 30
                · have e1 : fsz c.toNat = 4 := by unfold fsz; rw [if_neg c1, if_neg c2, if_neg c3, if_pos c4]
                  have e2 : fbt c.toNat = (c.toNat : Int) % 8 := by unfold fbt; rw [if_neg c1, if_neg c2, if_neg c3, if_pos c4]
                  rw [e1, e2] at hd
                  rw [e1] at hl
                  have : (4 : Int).toNat - 1 = 3 := rfl
                  rw [this] at hd
                  match l, hd with
                  | [], hd => simp [decN] at hd
                  | [x], hd => simp [decN] at hd
                  | [x, y], hd => simp [decN] at hd
                  | x :: y :: z :: l, hd =>
                    have hx := u8_lt x
                    have hy := u8_lt y
                    have hz := u8_lt z
                    simp only [decN] at hd
                    split at hd
                    · split at hd
                      · split at hd
                        · simp only [Option.some.injEq] at hd
                          have n1 : ¬ r < 128 := by intro q; rw [if_pos q] at hl; omega
                          have n2 : ¬ r < 2048 := by intro q; rw [if_neg n1, if_pos q] at hl; omega
                          have n3 : ¬ r < 65536 := by intro q; rw [if_neg n1, if_neg n2, if_pos q] at hl; omega
                          rw [if_neg n1, if_neg n2, if_neg n3, b8_of c (240 + r / 262144) (by omega), b8_of x (128 + r / 4096 % 64) (by omega), b8_of y (128 + r / 64 % 64) (by omega), b8_of z (128 + r % 64) (by omega)]
                          exact ⟨l, rfl⟩
                        · cases hd
                      · cases hd
                    · cases hd
                · exfalso
                  apply h0
                  unfold fsz
                  rw [if_neg c1, if_neg c2, if_neg c3, if_neg c4]
        · rw [if_neg hl] at h; simp at h; omega
end Wb
namespace Wb
def blk (c : Int) : Bool := c == 9 || c == 10 || c == 13 || c == 32
def inS (r : Int) (l : List (Int × Int)) : Bool := l.any fun x => decide (x.1 ≤ r) && decide (r ≤ x.2)
end Wb
namespace Wb
def signS : List (Int × Int) := [(0, 55295), (57344, 1114111)]
def charS : List (Int × Int) := [(9, 10), (13, 13), (32, 55295), (57344, 65533), (65536, 1114111)]
def startS : List (Int × Int) := [(65, 90), (97, 122), (95, 95), (192, 214), (216, 246), (248, 767), (880, 893), (895, 8191), (8204, 8205), (8304, 8591), (11264, 12271), (12289, 55295), (63744, 64975), (65008, 65533), (65536, 983039)]
def partS : List (Int × Int) := [(45, 46), (48, 57), (183, 183), (768, 879), (8255, 8256)]
def charB (r : Int) : Bool := inS r charS
def startB (r : Int) : Bool := inS r startS
def partB (r : Int) : Bool := startB r || inS r partS
theorem inS_sign (r : Int) : inS r signS = sgn r := by
  rw [Bool.eq_iff_iff, sgn_iff]
  simp [inS, signS]
  omega
theorem start_part (r : Int) (h : startB r = true) : partB r = true := by unfold partB; rw [h]; rfl
theorem char_sgn (r : Int) (h : charB r = true) : sgn r = true := by
  rw [sgn_iff]
  simp [inS, charB, charS] at h
  omega
end Wb
namespace Wb
def runeS (s : ByteArray) (at_ : Int) : Int × Int := if at_ < 0 ∨ (s.size : Int) ≤ at_ then (0, 0) else dec (s.data.toList.drop at_.toNat)
theorem drop_cons (s : ByteArray) (k : Nat) (h : k < s.size) : s.data.toList.drop k = s[k] :: s.data.toList.drop (k + 1) := by
  rw [List.drop_eq_getElem_cons (by simpa using h)]; rfl
def decZ (z b : Int) (l : List UInt8) : Int × Int :=
  if z = 0 then (0, 0) else
    match decN b (z.toNat - 1) l with
    | none => (0, 0)
    | some r => if slen r = z then (r, z) else (0, 0)
theorem dec_cons (c : UInt8) (l : List UInt8) : dec (c :: l) = decZ (fsz c.toNat) (fbt c.toNat) l := rfl
theorem runeS_in (s : ByteArray) (k : Nat) (h : k < s.size) : runeS s k = decZ (fsz s[k].toNat) (fbt s[k].toNat) (s.data.toList.drop (k + 1)) := by
  unfold runeS
  rw [if_neg (by omega), Int.toNat_natCast, drop_cons s k h, dec_cons]
theorem decN_short : ∀ (m : Nat) (r : Int) (l : List UInt8), l.length < m → decN r m l = none
  | 0, _, _, h => absurd h (by omega)
  | m + 1, r, [], _ => rfl
  | m + 1, r, c :: l, h => by
    unfold decN
    split
    · exact decN_short m _ l (by simpa using h)
    · rfl
theorem decZ_short (z b : Int) (l : List UInt8) (h : (l.length : Int) + 1 < z) : decZ z b l = (0, 0) := by
  unfold decZ
  rw [if_neg (by omega), decN_short _ _ _ (by omega)]
theorem decZ_some (z b r : Int) (l : List UInt8) (h : z ≠ 0) (hd : decN b (z.toNat - 1) l = some r) : decZ z b l = if slen r = z then (r, z) else (0, 0) := by
  unfold decZ
  rw [if_neg h, hd]
theorem decZ_none (z b : Int) (l : List UInt8) (h : z ≠ 0) (hd : decN b (z.toNat - 1) l = none) : decZ z b l = (0, 0) := by
  unfold decZ
  rw [if_neg h, hd]
theorem fbt_bd (c : Int) (h0 : 0 ≤ c) (h1 : c < 256) : 0 ≤ fbt c ∧ fbt c < 128 := by unfold fbt; repeat' split <;> omega
theorem decN_step (s : ByteArray) (r : Int) (m k : Nat) (h : k < s.size) :
    decN r (m + 1) (s.data.toList.drop k) = if (s[k].toNat : Int) / 64 = 2 then decN (r * 64 + (s[k].toNat : Int) % 64) m (s.data.toList.drop (k + 1)) else none := by
  rw [drop_cons s k h]; rfl
end Wb
namespace Wb
theorem rune_bad (s : ByteArray) (k j : Nat) (z b q : Int) (hj : (j : Int) + 1 < z) (hk : k + (j + 1) < s.size)
    (hd : decN b (z.toNat - 1) (s.data.toList.drop (k + 1)) = decN q (z.toNat - 1 - j) (s.data.toList.drop (k + 1 + j)))
    (hb : ¬ (s[k + (j + 1)].toNat : Int) / 64 = 2) : decZ z b (s.data.toList.drop (k + 1)) = (0, 0) := by
  refine decZ_none _ _ _ (by omega) (hd.trans ?_)
  obtain ⟨m, hm⟩ : ∃ m, z.toNat - 1 - j = m + 1 := ⟨z.toNat - 1 - j - 1, by omega⟩
  have e : k + 1 + j = k + (j + 1) := by omega
  rw [hm, e, decN_step s q m _ hk, if_neg hb]
theorem rune_step (s : ByteArray) (k j : Nat) (z b q : Int) (hj : (j : Int) + 1 < z) (hk : k + (j + 1) < s.size)
    (hd : decN b (z.toNat - 1) (s.data.toList.drop (k + 1)) = decN q (z.toNat - 1 - j) (s.data.toList.drop (k + 1 + j)))
    (hb : (s[k + (j + 1)].toNat : Int) / 64 = 2) :
    decN b (z.toNat - 1) (s.data.toList.drop (k + 1)) = decN (q * 64 + (s[k + (j + 1)].toNat : Int) % 64) (z.toNat - 1 - (j + 1)) (s.data.toList.drop (k + 1 + (j + 1))) := by
  rw [hd]
  obtain ⟨m, hm⟩ : ∃ m, z.toNat - 1 - j = m + 1 := ⟨z.toNat - 1 - j - 1, by omega⟩
  have e : k + 1 + j = k + (j + 1) := by omega
  have e2 : k + 1 + (j + 1) = k + (j + 1) + 1 := by omega
  have e3 : z.toNat - 1 - (j + 1) = m := by omega
  rw [hm, e, decN_step s q m _ hk, if_pos hb, e2, e3]
theorem rune_end (s : ByteArray) (k j : Nat) (z b q : Int) (hj : (j : Int) + 1 = z)
    (hd : decN b (z.toNat - 1) (s.data.toList.drop (k + 1)) = decN q (z.toNat - 1 - j) (s.data.toList.drop (k + 1 + j))) :
    decZ z b (s.data.toList.drop (k + 1)) = if slen q = z then (q, z) else (0, 0) := by
  refine decZ_some _ _ _ _ (by omega) (hd.trans ?_)
  have e : z.toNat - 1 - j = 0 := by omega
  rw [e]; rfl
theorem pow_bd (j : Nat) (h : j ≤ 2) (q : Int) (hq : q < 128 * 64 ^ j) : q < 524288 := by
  have : j = 0 ∨ j = 1 ∨ j = 2 := by omega
  rcases this with rfl | rfl | rfl <;> simp at hq <;> omega
theorem pow_next (j : Nat) (q c : Int) (hq : q < 128 * 64 ^ j) (hc : c < 64) : q * 64 + c < 128 * 64 ^ (j + 1) := by
  rw [Int.pow_succ]; omega
end Wb
namespace Wb
theorem dec_bd (l : List UInt8) : 0 ≤ (dec l).2 ∧ (dec l).2 ≤ 4 ∧ (dec l).2 ≤ l.length := by
  obtain ⟨n, k, hd⟩ : ∃ n k, dec l = (n, k) := ⟨_, _, rfl⟩
  rw [hd]
  show 0 ≤ k ∧ k ≤ 4 ∧ k ≤ l.length
  by_cases h : k = 0
  · omega
  · obtain ⟨h1, h2, rest, h3⟩ := dec_some l n k hd h
    have hb := slen_bd n
    have hl := enc_length n
    have : l.length = (enc n).length + rest.length := by rw [h3]; simp
    omega
end Wb
namespace Wb
end Wb
namespace Wb
def chkL : Nat → List UInt8 → Int → Int
  | 0, _, _ => -1
  | _ + 1, [], _ => -1
  | f + 1, c :: l, base => if (dec (c :: l)).2 = 0 then base else chkL f ((c :: l).drop (dec (c :: l)).2.toNat) (base + (dec (c :: l)).2)
def chk (l : List UInt8) : Int := chkL l.length l 0
theorem enc_ne (n : Int) (h : sgn n = true) : enc n ≠ [] := by
  intro e
  have := enc_length n
  rw [e] at this
  unfold slen at this
  rw [if_pos h] at this
  simp at this
  repeat' split at this
  all_goals omega
theorem dec_pair (l : List UInt8) : ∃ n k, dec l = (n, k) := ⟨(dec l).1, (dec l).2, rfl⟩
def nameL : Nat → List UInt8 → Bool
  | 0, _ => true
  | _ + 1, [] => true
  | f + 1, c :: l => if (dec (c :: l)).2 = 0 then false else partB (dec (c :: l)).1 && nameL f ((c :: l).drop (dec (c :: l)).2.toNat)
def nameB (l : List UInt8) : Bool :=
  decide (l.length ≤ 64) && (decide ((dec l).2 ≠ 0) && (startB (dec l).1 && nameL l.length (l.drop (dec l).2.toNat)))
end Wb
namespace Wb
def lowB (c : Int) : Int := if 65 ≤ c ∧ c ≤ 90 then c + 32 else c
def digV (c : Int) : Int := if 48 ≤ lowB c ∧ lowB c ≤ 57 then lowB c - 48 else if 97 ≤ lowB c ∧ lowB c ≤ 102 then lowB c - 87 else 99
def digL (base : Int) : Int → List UInt8 → Option Int
  | n, [] => some n
  | n, c :: l => if base ≤ digV c.toNat then none else digL base (n * base + digV c.toNat) l
def numL (base : Int) (l : List UInt8) : Option Int := if l = [] then none else digL base 0 l
theorem digV_nn (c : Int) : 0 ≤ digV c := by
  unfold digV
  split
  · omega
  · split <;> omega
def sLt : List UInt8 := [108, 116]
def sGt : List UInt8 := [103, 116]
def sAmp : List UInt8 := [97, 109, 112]
def sQuot : List UInt8 := [113, 117, 111, 116]
def sApos : List UInt8 := [97, 112, 111, 115]
def refN (t : List UInt8) : Option Int :=
  if t.take 2 = [35, 120] then numL 16 (t.drop 2) else if t.take 1 = [35] then numL 10 (t.drop 1) else none
def refV (t : List UInt8) : Option (List UInt8) :=
  if t = sLt then some [60] else if t = sGt then some [62] else if t = sAmp then some [38] else if t = sQuot then some [34] else if t = sApos then some [39]
  else match refN t with
    | some n => if charB n then some (enc n) else none
    | none => none
def semi : List UInt8 → Option (List UInt8 × List UInt8)
  | [] => none
  | c :: l => if c = 59 then some ([], l) else match semi l with
    | some (a, b) => some (c :: a, b)
    | none => none
theorem semi_none : ∀ (l : List UInt8), (∀ j (h : j < l.length), l[j] ≠ 59) → semi l = none
  | [], _ => rfl
  | c :: l, h => by
    unfold semi
    have h0 := h 0 (by simp)
    simp only [List.getElem_cons_zero] at h0
    rw [if_neg h0, semi_none l (fun j hj => by have := h (j + 1) (by simpa using hj); simpa using this)]
theorem semi_some : ∀ (l : List UInt8) (k : Nat) (hk : k < l.length), l[k] = 59 → (∀ j (h : j < k), l[j]'(by omega) ≠ 59) → semi l = some (l.take k, l.drop (k + 1))
  | c :: l, 0, _, h, _ => by
    simp only [List.getElem_cons_zero] at h
    unfold semi; rw [if_pos h]; rfl
  | c :: l, k + 1, hk, h, hj => by
    have h0 := hj 0 (by omega)
    simp only [List.getElem_cons_zero] at h0
    unfold semi
    rw [if_neg h0, semi_some l k (by simpa using hk) (by simpa using h) (fun j hjk => by have := hj (j + 1) (by omega); simpa using this)]
    rfl
def unL (attr : Bool) : Nat → List UInt8 → Nat → Except Nat (List UInt8)
  | 0, _, _ => .ok []
  | _ + 1, [], _ => .ok []
  | f + 1, c :: l, at_ =>
    if c = 38 then match semi l with
      | none => .error at_
      | some (t, r) => match refV t with
        | none => .error at_
        | some x => (unL attr f r (at_ + t.length + 2)).map (x ++ ·)
    else if c = 13 then
      if l.take 1 = [10] then (unL attr f (l.drop 1) (at_ + 2)).map ((if attr then 32 else 10) :: ·)
      else (unL attr f l (at_ + 1)).map ((if attr then 32 else 10) :: ·)
    else (unL attr f l (at_ + 1)).map ((if attr && (c == 9 || c == 10) then 32 else c) :: ·)
end Wb
