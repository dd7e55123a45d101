/- Plain Plain2 LxPlain. -/
namespace Wb
def sgn (n : Int) : Bool := decide (0 ≤ n) && decide (n ≤ 1114111) && (decide (n < 55296) || decide (57343 < n))
theorem sgn_iff (n : Int) : sgn n = true ↔ 0 ≤ n ∧ n ≤ 1114111 ∧ (n < 55296 ∨ 57343 < n) := by
  simp [sgn, and_assoc]
def slen (n : Int) : Int := if sgn n = true then (if n < 128 then 1 else if n < 2048 then 2 else if n < 65536 then 3 else 4) else 0
def b8 (n : Int) : UInt8 := UInt8.ofNat n.toNat
theorem b8_toNat (n : Int) (h0 : 0 ≤ n) (h1 : n < 256) : ((b8 n).toNat : Int) = n := by
  unfold b8
  rw [UInt8.toNat_ofNat']
  omega
theorem b8_of (c : UInt8) (n : Int) (h : (c.toNat : Int) = n) : b8 n = c := by
  subst h
  unfold b8
  simp
def enc (n : Int) : List UInt8 :=
  if sgn n = true then
    (if n < 128 then [b8 n]
    else if n < 2048 then [b8 (192 + n / 64), b8 (128 + n % 64)]
    else if n < 65536 then [b8 (224 + n / 4096), b8 (128 + n / 64 % 64), b8 (128 + n % 64)]
    else [b8 (240 + n / 262144), b8 (128 + n / 4096 % 64), b8 (128 + n / 64 % 64), b8 (128 + n % 64)])
  else []
theorem enc_length (n : Int) : ((enc n).length : Int) = slen n := by
  unfold enc slen
  split
  · split
    · rfl
    · split
      · rfl
      · split <;> rfl
  · rfl
def fsz (c : Int) : Int := if c < 128 then 1 else if c / 32 = 6 then 2 else if c / 16 = 14 then 3 else if c / 8 = 30 then 4 else 0
def fbt (c : Int) : Int := if c < 128 then c else if c / 32 = 6 then c % 32 else if c / 16 = 14 then c % 16 else if c / 8 = 30 then c % 8 else 0
theorem fsz_bd (c : Int) : 0 ≤ fsz c ∧ fsz c ≤ 4 := by unfold fsz; repeat' split <;> omega
def decN (r : Int) : Nat → List UInt8 → Option Int
  | 0, _ => some r
  | _ + 1, [] => none
  | k + 1, c :: l => if (c.toNat : Int) / 64 = 2 then decN (r * 64 + (c.toNat : Int) % 64) k l else none
def dec : List UInt8 → Int × Int
  | [] => (0, 0)
  | c :: l =>
    if fsz c.toNat = 0 then (0, 0) else
    match decN (fbt c.toNat) ((fsz c.toNat).toNat - 1) l with
    | none => (0, 0)
    | some r => if slen r = fsz c.toNat then (r, fsz c.toNat) else (0, 0)
theorem u8_lt (c : UInt8) : (c.toNat : Int) < 256 := by have := c.toNat_lt; omega
theorem dec_enc (n : Int) (h : sgn n = true) (rest : List UInt8) : dec (enc n ++ rest) = (n, slen n) := by
  have hs := (sgn_iff n).1 h
  unfold enc slen
  rw [if_pos h, if_pos h]
  by_cases h1 : n < 128
  · simp only [if_pos h1, List.cons_append, List.nil_append, dec]
    rw [b8_toNat n (by omega) (by omega)]
    have hf : fsz n = 1 := by unfold fsz; rw [if_pos h1]
    have hb : fbt n = n := by unfold fbt; rw [if_pos h1]
    have hl : slen n = 1 := by unfold slen; rw [if_pos h, if_pos h1]
    rw [hf, hb]
    simp [decN, hl]
  · by_cases h2 : n < 2048
    · simp only [if_neg h1, if_pos h2, List.cons_append, List.nil_append, dec]
      rw [b8_toNat (192 + n / 64) (by omega) (by omega)]
      have hf : fsz (192 + n / 64) = 2 := by unfold fsz; rw [if_neg (by omega), if_pos (by omega)]
      have hb : fbt (192 + n / 64) = n / 64 := by unfold fbt; rw [if_neg (by omega), if_pos (by omega)]; omega
      have hl : slen n = 2 := by unfold slen; rw [if_pos h, if_neg h1, if_pos h2]
      rw [hf, hb]
      have e : n / 64 * 64 + (128 + n % 64) % 64 = n := by omega
      simp only [show ((2 : Int).toNat - 1) = 1 from rfl, decN]
      rw [b8_toNat (128 + n % 64) (by omega) (by omega), if_neg (by omega), if_pos (by omega), e]
      simp [hl]
    · by_cases h3 : n < 65536
      · simp only [if_neg h1, if_neg h2, if_pos h3, List.cons_append, List.nil_append, dec]
        rw [b8_toNat (224 + n / 4096) (by omega) (by omega)]
        have hf : fsz (224 + n / 4096) = 3 := by unfold fsz; rw [if_neg (by omega), if_neg (by omega), if_pos (by omega)]
        have hb : fbt (224 + n / 4096) = n / 4096 := by unfold fbt; rw [if_neg (by omega), if_neg (by omega), if_pos (by omega)]; omega
        have hl : slen n = 3 := by unfold slen; rw [if_pos h, if_neg h1, if_neg h2, if_pos h3]
        rw [hf, hb]
        have e : (n / 4096 * 64 + (128 + n / 64 % 64) % 64) * 64 + (128 + n % 64) % 64 = n := by omega
        simp only [show ((3 : Int).toNat - 1) = 2 from rfl, decN]
        rw [b8_toNat (128 + n % 64) (by omega) (by omega), b8_toNat (128 + n / 64 % 64) (by omega) (by omega), if_neg (by omega), if_pos (by omega), if_pos (by omega), e]
        simp [hl]
      · simp only [if_neg h1, if_neg h2, if_neg h3, List.cons_append, List.nil_append, dec]
        rw [b8_toNat (240 + n / 262144) (by omega) (by omega)]
        have hf : fsz (240 + n / 262144) = 4 := by unfold fsz; rw [if_neg (by omega), if_neg (by omega), if_neg (by omega), if_pos (by omega)]
        have hb : fbt (240 + n / 262144) = n / 262144 := by unfold fbt; rw [if_neg (by omega), if_neg (by omega), if_neg (by omega), if_pos (by omega)]; omega
        have hl : slen n = 4 := by unfold slen; rw [if_pos h, if_neg h1, if_neg h2, if_neg h3]
        rw [hf, hb]
        have e : ((n / 262144 * 64 + (128 + n / 4096 % 64) % 64) * 64 + (128 + n / 64 % 64) % 64) * 64 + (128 + n % 64) % 64 = n := by omega
        simp only [show ((4 : Int).toNat - 1) = 3 from rfl, decN]
        rw [b8_toNat (128 + n % 64) (by omega) (by omega), b8_toNat (128 + n / 64 % 64) (by omega) (by omega), b8_toNat (128 + n / 4096 % 64) (by omega) (by omega), if_neg (by omega), if_pos (by omega), if_pos (by omega), if_pos (by omega), e]
        simp [hl]
theorem slen_pos (n : Int) (h : slen n ≠ 0) : sgn n = true := by
  unfold slen at h
  split at h
  · assumption
  · exact absurd rfl h
theorem slen_bd (n : Int) : 0 ≤ slen n ∧ slen n ≤ 4 := by unfold slen; repeat' split <;> omega
theorem dec_some (l : List UInt8) (n k : Int) (h : dec l = (n, k)) (hk : k ≠ 0) : sgn n = true ∧ slen n = k ∧ ∃ rest, l = enc n ++ rest := by
  cases l with
  | nil => simp [dec] at h; omega
  | cons c l =>
    have hc := u8_lt c
    simp only [dec] at h
    by_cases h0 : fsz c.toNat = 0
    · rw [if_pos h0] at h; simp at h; omega
    · rw [if_neg h0] at h
      cases hd : decN (fbt c.toNat) ((fsz c.toNat).toNat - 1) l with
      | none => rw [hd] at h; simp at h; omega
      | some r =>
        rw [hd] at h
        simp only at h
        by_cases hl : slen r = fsz c.toNat
        · rw [if_pos hl] at h
          simp only [Prod.mk.injEq] at h
          obtain ⟨rfl, rfl⟩ := h
          have hs := slen_pos r (by omega)
          refine ⟨hs, hl, ?_⟩
          have hr := (sgn_iff r).1 hs
          unfold slen at hl
          rw [if_pos hs] at hl
          unfold enc
          rw [if_pos hs]
          by_cases c1 : (c.toNat : Int) < 128
          · have e1 : fsz c.toNat = 1 := by unfold fsz; rw [if_pos c1]
            have e2 : fbt c.toNat = c.toNat := by unfold fbt; rw [if_pos c1]
            rw [e1, e2] at hd
            simp [decN] at hd
            subst hd
            rw [if_pos c1]
            exact ⟨l, by rw [b8_of c _ rfl]; rfl⟩
          · by_cases c2 : (c.toNat : Int) / 32 = 6
            · have e1 : fsz c.toNat = 2 := by unfold fsz; rw [if_neg c1, if_pos c2]
              have e2 : fbt c.toNat = (c.toNat : Int) % 32 := by unfold fbt; rw [if_neg c1, if_pos c2]
              rw [e1, e2] at hd
              rw [e1] at hl
              have : (2 : Int).toNat - 1 = 1 := rfl
              rw [this] at hd
              cases l with
              | nil => simp [decN] at hd
              | cons x l =>
                have hx := u8_lt x
                simp only [decN] at hd
                split at hd
                · simp only [Option.some.injEq] at hd
                  have n1 : ¬ r < 128 := by intro q; rw [if_pos q] at hl; omega
                  have n2 : r < 2048 := by
                    rcases Int.lt_or_le r 2048 with q | q
                    · exact q
                    · rw [if_neg n1, if_neg (by omega)] at hl; split at hl <;> omega
                  rw [if_neg n1, if_pos n2, b8_of c (192 + r / 64) (by omega), b8_of x (128 + r % 64) (by omega)]
                  exact ⟨l, rfl⟩
                · cases hd
            · by_cases c3 : (c.toNat : Int) / 16 = 14
              · have e1 : fsz c.toNat = 3 := by unfold fsz; rw [if_neg c1, if_neg c2, if_pos c3]
                have e2 : fbt c.toNat = (c.toNat : Int) % 16 := by unfold fbt; rw [if_neg c1, if_neg c2, if_pos c3]
                rw [e1, e2] at hd
                rw [e1] at hl
                have : (3 : Int).toNat - 1 = 2 := rfl
                rw [this] at hd
                match l, hd with
                | [], hd => simp [decN] at hd
                | [x], hd => simp [decN] at hd
                | x :: y :: l, hd =>
                  have hx := u8_lt x
                  have hy := u8_lt y
                  simp only [decN] at hd
                  split at hd
                  · split at hd
                    · simp only [Option.some.injEq] at hd
                      have n1 : ¬ r < 128 := by intro q; rw [if_pos q] at hl; omega
                      have n2 : ¬ r < 2048 := by intro q; rw [if_neg n1, if_pos q] at hl; omega
                      have n3 : r < 65536 := by
                        rcases Int.lt_or_le r 65536 with q | q
                        · exact q
                        · rw [if_neg n1, if_neg n2, if_neg (by omega)] at hl; omega
                      rw [if_neg n1, if_neg n2, if_pos n3, b8_of c (224 + r / 4096) (by omega), b8_of x (128 + r / 64 % 64) (by omega), b8_of y (128 + r % 64) (by omega)]
                      exact ⟨l, rfl⟩
                    · cases hd
                  · cases hd
              · by_cases c4 : (c.toNat : Int) / 8 = 30
                · have e1 : fsz c.toNat = 4 := by unfold fsz; rw [if_neg c1, if_neg c2, if_neg c3, if_pos c4]
                  have e2 : fbt c.toNat = (c.toNat : Int) % 8 := by unfold fbt; rw [if_neg c1, if_neg c2, if_neg c3, if_pos c4]
                  rw [e1, e2] at hd
                  rw [e1] at hl
                  have : (4 : Int).toNat - 1 = 3 := rfl
                  rw [this] at hd
                  match l, hd with
                  | [], hd => simp [decN] at hd
                  | [x], hd => simp [decN] at hd
                  | [x, y], hd => simp [decN] at hd
                  | x :: y :: z :: l, hd =>
                    have hx := u8_lt x
                    have hy := u8_lt y
                    have hz := u8_lt z
                    simp only [decN] at hd
                    split at hd
                    · split at hd
                      · split at hd
                        · simp only [Option.some.injEq] at hd
                          have n1 : ¬ r < 128 := by intro q; rw [if_pos q] at hl; omega
                          have n2 : ¬ r < 2048 := by intro q; rw [if_neg n1, if_pos q] at hl; omega
                          have n3 : ¬ r < 65536 := by intro q; rw [if_neg n1, if_neg n2, if_pos q] at hl; omega
                          rw [if_neg n1, if_neg n2, if_neg n3, b8_of c (240 + r / 262144) (by omega), b8_of x (128 + r / 4096 % 64) (by omega), b8_of y (128 + r / 64 % 64) (by omega), b8_of z (128 + r % 64) (by omega)]
                          exact ⟨l, rfl⟩
                        · cases hd
                      · cases hd
                    · cases hd
                · exfalso
                  apply h0
                  unfold fsz
                  rw [if_neg c1, if_neg c2, if_neg c3, if_neg c4]
        · rw [if_neg hl] at h; simp at h; omega
end Wb
namespace Wb
def blk (c : Int) : Bool := c == 9 || c == 10 || c == 13 || c == 32
def inS (r : Int) (l : List (Int × Int)) : Bool := l.any fun x => decide (x.1 ≤ r) && decide (r ≤ x.2)
end Wb
namespace Wb
def signS : List (Int × Int) := [(0, 55295), (57344, 1114111)]
def charS : List (Int × Int) := [(9, 10), (13, 13), (32, 55295), (57344, 65533), (65536, 1114111)]
def charR : List (Int × Int) := [(32, 55295), (57344, 65533), (65536, 1114111)]
def startS : List (Int × Int) := [(65, 90), (97, 122), (95, 95), (192, 214), (216, 246), (248, 767), (880, 893), (895, 8191), (8204, 8205), (8304, 8591), (11264, 12271), (12289, 55295), (63744, 64975), (65008, 65533), (65536, 983039)]
def partS : List (Int × Int) := [(45, 46), (48, 57), (183, 183), (768, 879), (8255, 8256)]
def partR : List (Int × Int) := [(48, 57), (183, 183), (768, 879), (8255, 8256)]
def charB (r : Int) : Bool := inS r charS
def startB (r : Int) : Bool := inS r startS
def partB (r : Int) : Bool := startB r || inS r partS
theorem inS_sign (r : Int) : inS r signS = sgn r := by
  rw [Bool.eq_iff_iff, sgn_iff]
  simp [inS, signS]
  omega
theorem charB_ref (r : Int) : charB r = (r == 9 || r == 10 || r == 13 || inS r charR) := by
  rw [Bool.eq_iff_iff]
  simp [inS, charB, charS, charR]
  omega
theorem partB_ref (r : Int) : partB r = (startB r || r == 45 || r == 46 || inS r partR) := by
  rw [Bool.eq_iff_iff]
  simp [partB, inS, partS, partR]
  cases startB r
  · simp; omega
  · simp
theorem start_part (r : Int) (h : startB r = true) : partB r = true := by unfold partB; rw [h]; rfl
theorem part_char (r : Int) (h : partB r = true) : charB r = true := by
  simp only [partB, startB, charB, inS, startS, partS, charS, List.any_cons, List.any_nil, Bool.or_eq_true, Bool.and_eq_true, decide_eq_true_eq, Bool.or_false] at h ⊢
  omega
theorem char_sgn (r : Int) (h : charB r = true) : sgn r = true := by
  rw [sgn_iff]
  simp [inS, charB, charS] at h
  omega
end Wb
namespace Wb
def runeS (s : ByteArray) (at_ : Int) : Int × Int := if at_ < 0 ∨ (s.size : Int) ≤ at_ then (0, 0) else dec (s.data.toList.drop at_.toNat)
theorem drop_cons (s : ByteArray) (k : Nat) (h : k < s.size) : s.data.toList.drop k = s[k] :: s.data.toList.drop (k + 1) := by
  rw [List.drop_eq_getElem_cons (by simpa using h)]; rfl
def decZ (z b : Int) (l : List UInt8) : Int × Int :=
  if z = 0 then (0, 0) else
    match decN b (z.toNat - 1) l with
    | none => (0, 0)
    | some r => if slen r = z then (r, z) else (0, 0)
theorem dec_cons (c : UInt8) (l : List UInt8) : dec (c :: l) = decZ (fsz c.toNat) (fbt c.toNat) l := rfl
theorem runeS_in (s : ByteArray) (k : Nat) (h : k < s.size) : runeS s k = decZ (fsz s[k].toNat) (fbt s[k].toNat) (s.data.toList.drop (k + 1)) := by
  unfold runeS
  rw [if_neg (by omega), Int.toNat_natCast, drop_cons s k h, dec_cons]
theorem decN_short : ∀ (m : Nat) (r : Int) (l : List UInt8), l.length < m → decN r m l = none
  | 0, _, _, h => absurd h (by omega)
  | m + 1, r, [], _ => rfl
  | m + 1, r, c :: l, h => by
    unfold decN
    split
    · exact decN_short m _ l (by simpa using h)
    · rfl
theorem decZ_short (z b : Int) (l : List UInt8) (h : (l.length : Int) + 1 < z) : decZ z b l = (0, 0) := by
  unfold decZ
  rw [if_neg (by omega), decN_short _ _ _ (by omega)]
theorem decZ_some (z b r : Int) (l : List UInt8) (h : z ≠ 0) (hd : decN b (z.toNat - 1) l = some r) : decZ z b l = if slen r = z then (r, z) else (0, 0) := by
  unfold decZ
  rw [if_neg h, hd]
theorem decZ_none (z b : Int) (l : List UInt8) (h : z ≠ 0) (hd : decN b (z.toNat - 1) l = none) : decZ z b l = (0, 0) := by
  unfold decZ
  rw [if_neg h, hd]
theorem fbt_bd (c : Int) (h0 : 0 ≤ c) (h1 : c < 256) : 0 ≤ fbt c ∧ fbt c < 128 := by unfold fbt; repeat' split <;> omega
theorem decN_step (s : ByteArray) (r : Int) (m k : Nat) (h : k < s.size) :
    decN r (m + 1) (s.data.toList.drop k) = if (s[k].toNat : Int) / 64 = 2 then decN (r * 64 + (s[k].toNat : Int) % 64) m (s.data.toList.drop (k + 1)) else none := by
  rw [drop_cons s k h]; rfl
end Wb
namespace Wb
theorem rune_bad (s : ByteArray) (k j : Nat) (z b q : Int) (hj : (j : Int) + 1 < z) (hk : k + (j + 1) < s.size)
    (hd : decN b (z.toNat - 1) (s.data.toList.drop (k + 1)) = decN q (z.toNat - 1 - j) (s.data.toList.drop (k + 1 + j)))
    (hb : ¬ (s[k + (j + 1)].toNat : Int) / 64 = 2) : decZ z b (s.data.toList.drop (k + 1)) = (0, 0) := by
  refine decZ_none _ _ _ (by omega) (hd.trans ?_)
  obtain ⟨m, hm⟩ : ∃ m, z.toNat - 1 - j = m + 1 := ⟨z.toNat - 1 - j - 1, by omega⟩
  have e : k + 1 + j = k + (j + 1) := by omega
  rw [hm, e, decN_step s q m _ hk, if_neg hb]
theorem rune_step (s : ByteArray) (k j : Nat) (z b q : Int) (hj : (j : Int) + 1 < z) (hk : k + (j + 1) < s.size)
    (hd : decN b (z.toNat - 1) (s.data.toList.drop (k + 1)) = decN q (z.toNat - 1 - j) (s.data.toList.drop (k + 1 + j)))
    (hb : (s[k + (j + 1)].toNat : Int) / 64 = 2) :
    decN b (z.toNat - 1) (s.data.toList.drop (k + 1)) = decN (q * 64 + (s[k + (j + 1)].toNat : Int) % 64) (z.toNat - 1 - (j + 1)) (s.data.toList.drop (k + 1 + (j + 1))) := by
  rw [hd]
  obtain ⟨m, hm⟩ : ∃ m, z.toNat - 1 - j = m + 1 := ⟨z.toNat - 1 - j - 1, by omega⟩
  have e : k + 1 + j = k + (j + 1) := by omega
  have e2 : k + 1 + (j + 1) = k + (j + 1) + 1 := by omega
  have e3 : z.toNat - 1 - (j + 1) = m := by omega
  rw [hm, e, decN_step s q m _ hk, if_pos hb, e2, e3]
theorem rune_end (s : ByteArray) (k j : Nat) (z b q : Int) (hj : (j : Int) + 1 = z)
    (hd : decN b (z.toNat - 1) (s.data.toList.drop (k + 1)) = decN q (z.toNat - 1 - j) (s.data.toList.drop (k + 1 + j))) :
    decZ z b (s.data.toList.drop (k + 1)) = if slen q = z then (q, z) else (0, 0) := by
  refine decZ_some _ _ _ _ (by omega) (hd.trans ?_)
  have e : z.toNat - 1 - j = 0 := by omega
  rw [e]; rfl
theorem pow_bd (j : Nat) (h : j ≤ 2) (q : Int) (hq : q < 128 * 64 ^ j) : q < 524288 := by
  have : j = 0 ∨ j = 1 ∨ j = 2 := by omega
  rcases this with rfl | rfl | rfl <;> simp at hq <;> omega
theorem pow_next (j : Nat) (q c : Int) (hq : q < 128 * 64 ^ j) (hc : c < 64) : q * 64 + c < 128 * 64 ^ (j + 1) := by
  rw [Int.pow_succ]; omega
end Wb
namespace Wb
def off (n : Nat) : Int := if n = 2 then 192 else if n = 3 then 224 else if n = 4 then 240 else 0
def val : List UInt8 → Int
  | [] => 0
  | c :: l => l.foldl (fun n x => n * 64 + (x.toNat : Int) - 128) ((c.toNat : Int) - off (l.length + 1))
theorem val_enc (n : Int) (h : sgn n = true) : val (enc n) = n := by
  have hs := (sgn_iff n).1 h
  unfold enc
  rw [if_pos h]
  by_cases h1 : n < 128
  · rw [if_pos h1]
    simp only [val, List.foldl_nil, List.length_nil, off]
    rw [b8_toNat n (by omega) (by omega)]
    simp
  · rw [if_neg h1]
    by_cases h2 : n < 2048
    · rw [if_pos h2]
      simp only [val, List.foldl_nil, List.foldl_cons, List.length_nil, List.length_cons, off]
      rw [b8_toNat _ (by omega) (by omega), b8_toNat _ (by omega) (by omega)]
      simp
      omega
    · rw [if_neg h2]
      by_cases h3 : n < 65536
      · rw [if_pos h3]
        simp only [val, List.foldl_nil, List.foldl_cons, List.length_nil, List.length_cons, off]
        rw [b8_toNat _ (by omega) (by omega), b8_toNat _ (by omega) (by omega), b8_toNat _ (by omega) (by omega)]
        simp
        omega
      · rw [if_neg h3]
        simp only [val, List.foldl_nil, List.foldl_cons, List.length_nil, List.length_cons, off]
        rw [b8_toNat _ (by omega) (by omega), b8_toNat _ (by omega) (by omega), b8_toNat _ (by omega) (by omega), b8_toNat _ (by omega) (by omega)]
        simp
        omega
theorem decZ_zero (z b : Int) (l : List UInt8) (h : (decZ z b l).2 = 0) : decZ z b l = (0, 0) := by
  unfold decZ at *
  by_cases hz : z = 0
  · rw [if_pos hz]
  · rw [if_neg hz] at h ⊢
    cases hd : decN b (z.toNat - 1) l with
    | none => rfl
    | some r =>
      rw [hd] at h
      simp only at h ⊢
      by_cases hl : slen r = z
      · rw [if_pos hl] at h; exact absurd h hz
      · rw [if_neg hl]
theorem dec_zero (l : List UInt8) (h : (dec l).2 = 0) : dec l = (0, 0) := by
  cases l with
  | nil => rfl
  | cons c l => rw [dec_cons] at h ⊢; exact decZ_zero _ _ _ h
theorem dec_bd (l : List UInt8) : 0 ≤ (dec l).2 ∧ (dec l).2 ≤ 4 ∧ (dec l).2 ≤ l.length := by
  obtain ⟨n, k, hd⟩ : ∃ n k, dec l = (n, k) := ⟨_, _, rfl⟩
  rw [hd]
  show 0 ≤ k ∧ k ≤ 4 ∧ k ≤ l.length
  by_cases h : k = 0
  · omega
  · obtain ⟨h1, h2, rest, h3⟩ := dec_some l n k hd h
    have hb := slen_bd n
    have hl := enc_length n
    have : l.length = (enc n).length + rest.length := by rw [h3]; simp
    omega
theorem hit (l : List UInt8) (m : Nat) (hm : m ≤ l.length) (hs : sgn (val (l.take m)) = true) (he : enc (val (l.take m)) = l.take m) : dec l = (val (l.take m), (m : Int)) := by
  have h := dec_enc _ hs (l.drop m)
  rw [he, List.take_append_drop] at h
  have hl := enc_length (val (l.take m))
  rw [he, List.length_take, Nat.min_eq_left hm] at hl
  rw [h, ← hl]
theorem miss (l : List UInt8) (m : Nat) (hn : (dec l).2 = (m : Int)) (hm : m ≠ 0) : sgn (val (l.take m)) = true ∧ enc (val (l.take m)) = l.take m := by
  obtain ⟨n, k, hd⟩ : ∃ n k, dec l = (n, k) := ⟨_, _, rfl⟩
  rw [hd] at hn
  simp only at hn
  subst hn
  obtain ⟨h1, h2, rest, h3⟩ := dec_some l n m hd (by omega)
  have hl := enc_length n
  have hlen : (enc n).length = m := by omega
  have ht : l.take m = enc n := by
    rw [h3, ← hlen, List.take_left]
  rw [ht, val_enc _ h1]
  exact ⟨h1, rfl⟩
end Wb
namespace Wb
def vstep (n : Int) (x : UInt8) : Int := n * 64 + (x.toNat : Int) - 128
theorem val_cons (s : ByteArray) (h : 0 < s.size) : val s.data.toList = (s.data.toList.drop 1).foldl vstep ((s[0].toNat : Int) - off s.size) := by
  have := drop_cons s 0 h
  rw [List.drop_zero] at this
  have hl : s.data.toList.length = s.size := by simp
  have hl2 : (s.data.toList.drop 1).length + 1 = s.size := by simp; omega
  rw [this]
  show List.foldl vstep ((s[0].toNat : Int) - off ((s.data.toList.drop 1).length + 1)) (s.data.toList.drop 1) = _
  rw [hl2]
  simp
theorem vals_next (s : ByteArray) (n0 : Int) (k : Nat) (h0 : 1 ≤ k) (h : k < s.size) :
    ((s.data.toList.drop 1).take k).foldl vstep n0 = ((s.data.toList.drop 1).take (k - 1)).foldl vstep n0 * 64 + (s[k].toNat : Int) - 128 := by
  obtain ⟨m, rfl⟩ : ∃ m, k = m + 1 := ⟨k - 1, by omega⟩
  have hl : m < (s.data.toList.drop 1).length := by simp; omega
  rw [List.take_succ_eq_append_getElem hl, List.foldl_append]
  simp [vstep]
  rfl
theorem vbd (k : Nat) (h : k ≤ 3) (n : Int) (h1 : -(300 * 100 ^ (k - 1)) ≤ n ∧ n ≤ 300 * 100 ^ (k - 1)) : -3000000 ≤ n ∧ n ≤ 3000000 := by
  have : k = 0 ∨ k = 1 ∨ k = 2 ∨ k = 3 := by omega
  rcases this with rfl | rfl | rfl | rfl <;> simp at h1 <;> omega
theorem vbd_next (k : Nat) (h0 : 1 ≤ k) (n c : Int) (h1 : -(300 * 100 ^ (k - 1)) ≤ n ∧ n ≤ 300 * 100 ^ (k - 1)) (hc : 0 ≤ c) (hc1 : c < 256) :
    -(300 * 100 ^ (k + 1 - 1)) ≤ n * 64 + c - 128 ∧ n * 64 + c - 128 ≤ 300 * 100 ^ (k + 1 - 1) := by
  obtain ⟨m, rfl⟩ : ∃ m, k = m + 1 := ⟨k - 1, by omega⟩
  have e : m + 1 + 1 - 1 = m + 1 := by omega
  have e2 : m + 1 - 1 = m := by omega
  rw [e, Int.pow_succ]
  rw [e2] at h1
  have hp : (0 : Int) < 100 ^ m := Int.pow_pos (by decide)
  generalize (100 : Int) ^ m = p at *
  omega
end Wb
namespace Wb
def chkL : Nat → List UInt8 → Int → Int
  | 0, _, _ => -1
  | _ + 1, [], _ => -1
  | f + 1, c :: l, base => if (dec (c :: l)).2 = 0 then base else chkL f ((c :: l).drop (dec (c :: l)).2.toNat) (base + (dec (c :: l)).2)
def chk (l : List UInt8) : Int := chkL l.length l 0
theorem flat_dec (n : Int) (ns : List Int) (r : List UInt8) (h : sgn n = true) : dec ((n :: ns).flatMap enc ++ r) = (n, slen n) := by
  rw [List.flatMap_cons, List.append_assoc]; exact dec_enc n h _
theorem enc_ne (n : Int) (h : sgn n = true) : enc n ≠ [] := by
  intro e
  have := enc_length n
  rw [e] at this
  unfold slen at this
  rw [if_pos h] at this
  simp at this
  repeat' split at this
  all_goals omega
theorem slen_one (n : Int) (h : sgn n = true) : 1 ≤ slen n := by
  unfold slen; rw [if_pos h]; repeat' split <;> omega
theorem flat_drop (n : Int) (ns : List Int) (r : List UInt8) : ((n :: ns).flatMap enc ++ r).drop (slen n).toNat = ns.flatMap enc ++ r := by
  rw [List.flatMap_cons, List.append_assoc]
  have := enc_length n
  rw [show (slen n).toNat = (enc n).length by omega, List.drop_left]
theorem dec_pair (l : List UInt8) : ∃ n k, dec l = (n, k) := ⟨(dec l).1, (dec l).2, rfl⟩
theorem form : ∀ (f : Nat) (l : List UInt8), l.length ≤ f → ∃ (ns : List Int) (r : List UInt8), (∀ n ∈ ns, sgn n = true) ∧ l = ns.flatMap enc ++ r ∧ (dec r).2 = 0
  | 0, l, h => ⟨[], l, by simp, by simp, by
      have : l = [] := List.eq_nil_of_length_eq_zero (by omega)
      subst this; rfl⟩
  | f + 1, l, h => by
    by_cases h0 : (dec l).2 = 0
    · exact ⟨[], l, by simp, by simp, h0⟩
    · obtain ⟨n, k, hd⟩ := dec_pair l
      rw [hd] at h0
      obtain ⟨h1, h2, rest, h3⟩ := dec_some l n k hd h0
      have hl := enc_length n
      have hs := slen_one n h1
      have hlen : l.length = (enc n).length + rest.length := by rw [h3]; simp
      obtain ⟨ns, r, a1, a2, a3⟩ := form f rest (by omega)
      refine ⟨n :: ns, r, ?_, ?_, a3⟩
      · intro m hm
        rcases List.mem_cons.1 hm with rfl | hm
        · exact h1
        · exact a1 m hm
      · rw [h3, List.flatMap_cons, List.append_assoc, ← a2]
theorem chkL_form : ∀ (ns : List Int) (r : List UInt8) (f : Nat) (base : Int), (∀ n ∈ ns, sgn n = true) → (dec r).2 = 0 → (ns.flatMap enc ++ r).length ≤ f →
    chkL f (ns.flatMap enc ++ r) base = if r = [] then -1 else base + (ns.flatMap enc).length
  | [], r, f, base, _, h, hf => by
    simp only [List.flatMap_nil, List.nil_append] at *
    cases r with
    | nil => cases f <;> rfl
    | cons c l =>
      cases f with
      | zero => simp at hf
      | succ f => simp [chkL, h]
  | n :: ns, r, f, base, hs, h, hf => by
    have h1 := hs n (by simp)
    have hd := flat_dec n ns r h1
    have hr := flat_drop n ns r
    have hsl := slen_one n h1
    have hel := enc_length n
    have hne : (n :: ns).flatMap enc ++ r ≠ [] := by
      intro e
      rw [e] at hd
      have := congrArg Prod.snd hd
      simp [dec] at this
      omega
    have hlen : ((n :: ns).flatMap enc ++ r).length = (enc n).length + (ns.flatMap enc ++ r).length := by
      simp
    rw [hlen] at hf
    have ih := chkL_form ns r
    generalize hL : (n :: ns).flatMap enc ++ r = L at *
    cases L with
    | nil => exact absurd rfl hne
    | cons c l =>
      cases f with
      | zero => omega
      | succ f =>
        unfold chkL
        rw [hd, if_neg (by show ¬ slen n = 0; omega)]
        show chkL f (List.drop (slen n).toNat (c :: l)) (base + slen n) = _
        rw [hr, ih f _ (fun m hm => hs m (by simp [hm])) h (by omega)]
        split
        · rfl
        · rw [List.flatMap_cons, List.length_append]; omega
theorem chk_form (ns : List Int) (r : List UInt8) (hs : ∀ n ∈ ns, sgn n = true) (h : (dec r).2 = 0) :
    chk (ns.flatMap enc ++ r) = if r = [] then -1 else ((ns.flatMap enc).length : Int) := by
  unfold chk
  rw [chkL_form ns r _ 0 hs h (Nat.le_refl _)]
  simp
theorem chk_bd (l : List UInt8) : chk l = -1 ∨ (0 ≤ chk l ∧ chk l < l.length) := by
  obtain ⟨ns, r, h1, h2, h3⟩ := form _ l (Nat.le_refl _)
  rw [h2, chk_form ns r h1 h3]
  by_cases hr : r = []
  · simp [hr]
  · rw [if_neg hr]
    have : 0 < r.length := List.length_pos_iff.2 hr
    right
    simp
    omega
def nameL : Nat → List UInt8 → Bool
  | 0, _ => true
  | _ + 1, [] => true
  | f + 1, c :: l => if (dec (c :: l)).2 = 0 then false else partB (dec (c :: l)).1 && nameL f ((c :: l).drop (dec (c :: l)).2.toNat)
def nameB (l : List UInt8) : Bool :=
  decide (l.length ≤ 64) && (decide ((dec l).2 ≠ 0) && (startB (dec l).1 && nameL l.length (l.drop (dec l).2.toNat)))
theorem part_sgn (n : Int) (h : partB n = true) : sgn n = true := char_sgn n (part_char n h)
theorem start_sgn (n : Int) (h : startB n = true) : sgn n = true := part_sgn n (start_part n h)
theorem nameL_form : ∀ (ns : List Int) (f : Nat), (∀ n ∈ ns, sgn n = true) → (ns.flatMap enc).length ≤ f → nameL f (ns.flatMap enc) = ns.all partB
  | [], f, _, _ => by cases f <;> rfl
  | n :: ns, f, hs, hf => by
    have h1 := hs n (by simp)
    have hd := flat_dec n ns [] h1
    have hr := flat_drop n ns []
    rw [List.append_nil] at hd hr
    rw [List.append_nil] at hr
    have hsl := slen_one n h1
    have hel := enc_length n
    have hne : (n :: ns).flatMap enc ≠ [] := by
      intro e
      rw [e] at hd
      have := congrArg Prod.snd hd
      simp [dec] at this
      omega
    have hlen : ((n :: ns).flatMap enc).length = (enc n).length + (ns.flatMap enc).length := by simp
    rw [hlen] at hf
    have ih := nameL_form ns
    generalize hL : (n :: ns).flatMap enc = L at *
    cases L with
    | nil => exact absurd rfl hne
    | cons c l =>
      cases f with
      | zero => omega
      | succ f =>
        unfold nameL
        rw [hd, if_neg (by show ¬ slen n = 0; omega)]
        show (partB n && nameL f (List.drop (slen n).toNat (c :: l))) = _
        rw [hr, ih f (fun m hm => hs m (by simp [hm])) (by omega)]
        rfl
theorem nameL_cons (f : Nat) (c : UInt8) (l : List UInt8) (h : nameL (f + 1) (c :: l) = true) :
    (dec (c :: l)).2 ≠ 0 ∧ partB (dec (c :: l)).1 = true ∧ nameL f ((c :: l).drop (dec (c :: l)).2.toNat) = true := by
  unfold nameL at h
  by_cases h0 : (dec (c :: l)).2 = 0
  · rw [if_pos h0] at h; cases h
  · rw [if_neg h0, Bool.and_eq_true] at h
    exact ⟨h0, h.1, h.2⟩
theorem nameL_some (f : Nat) : ∀ (l : List UInt8), l.length ≤ f → nameL f l = true → ∃ ns : List Int, (∀ n ∈ ns, partB n = true) ∧ l = ns.flatMap enc := by
  induction f with
  | zero => exact fun l h _ => ⟨[], by simp, by simpa using List.eq_nil_of_length_eq_zero (by omega)⟩
  | succ f ih =>
    intro l h hn
    cases l with
    | nil => exact ⟨[], by simp, by simp⟩
    | cons c l =>
      obtain ⟨p1, p2, p3⟩ := nameL_cons f c l hn
      obtain ⟨n, k, hd⟩ := dec_pair (c :: l)
      rw [hd] at p1 p2 p3
      simp only at p1 p2 p3
      obtain ⟨h1, h2, rest, h3⟩ := dec_some _ n k hd p1
      have hl := enc_length n
      have hs := slen_one n h1
      have hrest : (c :: l).drop k.toNat = rest := by
        rw [h3, show k.toNat = (enc n).length by omega, List.drop_left]
      rw [hrest] at p3
      have hlen : (c :: l).length = (enc n).length + rest.length := by rw [h3]; simp
      obtain ⟨ns, a1, a2⟩ := ih rest (by omega) p3
      refine ⟨n :: ns, ?_, ?_⟩
      · intro m hm
        rcases List.mem_cons.1 hm with rfl | hm
        · exact p2
        · exact a1 m hm
      · rw [h3, List.flatMap_cons, ← a2]
theorem nameB_iff (l : List UInt8) : nameB l = true ↔ l.length ≤ 64 ∧ ∃ (n : Int) (ns : List Int), startB n = true ∧ (∀ m ∈ ns, partB m = true) ∧ l = (n :: ns).flatMap enc := by
  constructor
  · intro h
    obtain ⟨n, k, hd⟩ := dec_pair l
    unfold nameB at h
    rw [hd] at h
    simp only [Bool.and_eq_true, decide_eq_true_eq] at h
    obtain ⟨h1, h2, h3, h4⟩ := h
    obtain ⟨g1, g2, rest, g3⟩ := dec_some l n k hd h2
    have hl := enc_length n
    have hrest : l.drop k.toNat = rest := by
      rw [g3, show k.toNat = (enc n).length by omega, List.drop_left]
    rw [hrest] at h4
    have hlen : l.length = (enc n).length + rest.length := by rw [g3]; simp
    obtain ⟨ns, a1, a2⟩ := nameL_some _ rest (by omega) h4
    exact ⟨h1, n, ns, h3, a1, by rw [g3, List.flatMap_cons, ← a2]⟩
  · rintro ⟨h1, n, ns, h2, h3, h4⟩
    have hs := start_sgn n h2
    have hd := flat_dec n ns [] hs
    have hr := flat_drop n ns []
    rw [List.append_nil] at hd hr
    rw [List.append_nil] at hr
    rw [← h4] at hd hr
    have hsl := slen_one n hs
    unfold nameB
    rw [hd]
    simp only [Bool.and_eq_true, decide_eq_true_eq]
    refine ⟨h1, by omega, h2, ?_⟩
    rw [hr, nameL_form ns _ (fun m hm => part_sgn m (h3 m hm))]
    · simpa using h3
    · rw [h4, List.flatMap_cons, List.length_append]; omega
def blkU (c : UInt8) : Bool := blk c.toNat
def trimL (l : List UInt8) : List UInt8 := ((l.dropWhile blkU).reverse.dropWhile blkU).reverse
end Wb
namespace Wb
def lowB (c : Int) : Int := if 65 ≤ c ∧ c ≤ 90 then c + 32 else c
def digV (c : Int) : Int := if 48 ≤ lowB c ∧ lowB c ≤ 57 then lowB c - 48 else if 97 ≤ lowB c ∧ lowB c ≤ 102 then lowB c - 87 else 99
def digL (base : Int) : Int → List UInt8 → Option Int
  | n, [] => some n
  | n, c :: l => if base ≤ digV c.toNat then none else digL base (n * base + digV c.toNat) l
def numL (base : Int) (l : List UInt8) : Option Int := if l = [] then none else digL base 0 l
theorem digV_nn (c : Int) : 0 ≤ digV c := by
  unfold digV
  split
  · omega
  · split <;> omega
def sLt : List UInt8 := [108, 116]
def sGt : List UInt8 := [103, 116]
def sAmp : List UInt8 := [97, 109, 112]
def sQuot : List UInt8 := [113, 117, 111, 116]
def sApos : List UInt8 := [97, 112, 111, 115]
def refN (t : List UInt8) : Option Int :=
  if t.take 2 = [35, 120] then numL 16 (t.drop 2) else if t.take 1 = [35] then numL 10 (t.drop 1) else none
def refV (t : List UInt8) : Option (List UInt8) :=
  if t = sLt then some [60] else if t = sGt then some [62] else if t = sAmp then some [38] else if t = sQuot then some [34] else if t = sApos then some [39]
  else match refN t with
    | some n => if charB n then some (enc n) else none
    | none => none
def semi : List UInt8 → Option (List UInt8 × List UInt8)
  | [] => none
  | c :: l => if c = 59 then some ([], l) else match semi l with
    | some (a, b) => some (c :: a, b)
    | none => none
theorem semi_none : ∀ (l : List UInt8), (∀ j (h : j < l.length), l[j] ≠ 59) → semi l = none
  | [], _ => rfl
  | c :: l, h => by
    unfold semi
    have h0 := h 0 (by simp)
    simp only [List.getElem_cons_zero] at h0
    rw [if_neg h0, semi_none l (fun j hj => by have := h (j + 1) (by simpa using hj); simpa using this)]
theorem semi_some : ∀ (l : List UInt8) (k : Nat) (hk : k < l.length), l[k] = 59 → (∀ j (h : j < k), l[j]'(by omega) ≠ 59) → semi l = some (l.take k, l.drop (k + 1))
  | c :: l, 0, _, h, _ => by
    simp only [List.getElem_cons_zero] at h
    unfold semi; rw [if_pos h]; rfl
  | c :: l, k + 1, hk, h, hj => by
    have h0 := hj 0 (by omega)
    simp only [List.getElem_cons_zero] at h0
    unfold semi
    rw [if_neg h0, semi_some l k (by simpa using hk) (by simpa using h) (fun j hjk => by have := hj (j + 1) (by omega); simpa using this)]
    rfl
def unL (attr : Bool) : Nat → List UInt8 → Nat → Except Nat (List UInt8)
  | 0, _, _ => .ok []
  | _ + 1, [], _ => .ok []
  | f + 1, c :: l, at_ =>
    if c = 38 then match semi l with
      | none => .error at_
      | some (t, r) => match refV t with
        | none => .error at_
        | some x => (unL attr f r (at_ + t.length + 2)).map (x ++ ·)
    else if c = 13 then
      if l.take 1 = [10] then (unL attr f (l.drop 1) (at_ + 2)).map ((if attr then 32 else 10) :: ·)
      else (unL attr f l (at_ + 1)).map ((if attr then 32 else 10) :: ·)
    else (unL attr f l (at_ + 1)).map ((if attr && (c == 9 || c == 10) then 32 else c) :: ·)
end Wb
