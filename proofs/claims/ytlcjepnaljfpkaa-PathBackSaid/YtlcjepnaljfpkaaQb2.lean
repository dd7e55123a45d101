/- Plain Plain2 QnPlain LxTok3 TrR PaQ TrG PaM. -/
import Derived.Laws.Strings
import Derived.Laws.Externs
import Derived.WalkSmall
import Derived.Test.YtlcjepnaljfpkaaQb1
namespace Wb
def sgn (n : Int) : Bool := decide (0 ≤ n) && decide (n ≤ 1114111) && (decide (n < 55296) || decide (57343 < n))
theorem sgn_iff (n : Int) : sgn n = true ↔ 0 ≤ n ∧ n ≤ 1114111 ∧ (n < 55296 ∨ 57343 < n) := by
  simp [sgn, and_assoc]
def slen (n : Int) : Int := if sgn n = true then (if n < 128 then 1 else if n < 2048 then 2 else if n < 65536 then 3 else 4) else 0
def b8 (n : Int) : UInt8 := UInt8.ofNat n.toNat
theorem b8_toNat (n : Int) (h0 : 0 ≤ n) (h1 : n < 256) : ((b8 n).toNat : Int) = n := by
  unfold b8
  rw [UInt8.toNat_ofNat']
  omega
theorem b8_of (c : UInt8) (n : Int) (h : (c.toNat : Int) = n) : b8 n = c := by
  subst h
  unfold b8
  simp
def enc (n : Int) : List UInt8 :=
  if sgn n = true then
    (if n < 128 then [b8 n]
    else if n < 2048 then [b8 (192 + n / 64), b8 (128 + n % 64)]
    else if n < 65536 then [b8 (224 + n / 4096), b8 (128 + n / 64 % 64), b8 (128 + n % 64)]
    else [b8 (240 + n / 262144), b8 (128 + n / 4096 % 64), b8 (128 + n / 64 % 64), b8 (128 + n % 64)])
  else []
theorem enc_length (n : Int) : ((enc n).length : Int) = slen n := by
  unfold enc slen
  split
  · split
    · rfl
    · split
      · rfl
      · split <;> rfl
  · rfl
def fsz (c : Int) : Int := if c < 128 then 1 else if c / 32 = 6 then 2 else if c / 16 = 14 then 3 else if c / 8 = 30 then 4 else 0
def fbt (c : Int) : Int := if c < 128 then c else if c / 32 = 6 then c % 32 else if c / 16 = 14 then c % 16 else if c / 8 = 30 then c % 8 else 0
theorem fsz_bd (c : Int) : 0 ≤ fsz c ∧ fsz c ≤ 4 := by unfold fsz; repeat' split <;> omega
def decN (r : Int) : Nat → List UInt8 → Option Int
  | 0, _ => some r
  | _ + 1, [] => none
  | k + 1, c :: l => if (c.toNat : Int) / 64 = 2 then decN (r * 64 + (c.toNat : Int) % 64) k l else none
def dec : List UInt8 → Int × Int
  | [] => (0, 0)
  | c :: l =>
    if fsz c.toNat = 0 then (0, 0) else
    match decN (fbt c.toNat) ((fsz c.toNat).toNat - 1) l with
    | none => (0, 0)
    | some r => if slen r = fsz c.toNat then (r, fsz c.toNat) else (0, 0)
theorem u8_lt (c : UInt8) : (c.toNat : Int) < 256 := by have := c.toNat_lt; omega
theorem dec_enc (n : Int) (h : sgn n = true) (rest : List UInt8) : dec (enc n ++ rest) = (n, slen n) := by
  have hs := (sgn_iff n).1 h
  unfold enc slen
  rw [if_pos h, if_pos h]
  by_cases h1 : n < 128
  · simp only [if_pos h1, List.cons_append, List.nil_append, dec]
    rw [b8_toNat n (by omega) (by omega)]
    have hf : fsz n = 1 := by unfold fsz; rw [if_pos h1]
    have hb : fbt n = n := by unfold fbt; rw [if_pos h1]
    have hl : slen n = 1 := by unfold slen; rw [if_pos h, if_pos h1]
    rw [hf, hb]
    simp [decN, hl]
  · by_cases h2 : n < 2048
    · simp only [if_neg h1, if_pos h2, List.cons_append, List.nil_append, dec]
      rw [b8_toNat (192 + n / 64) (by omega) (by omega)]
      have hf : fsz (192 + n / 64) = 2 := by unfold fsz; rw [if_neg (by omega), if_pos (by omega)]
      have hb : fbt (192 + n / 64) = n / 64 := by unfold fbt; rw [if_neg (by omega), if_pos (by omega)]; omega
      have hl : slen n = 2 := by unfold slen; rw [if_pos h, if_neg h1, if_pos h2]
      rw [hf, hb]
      have e : n / 64 * 64 + (128 + n % 64) % 64 = n := by omega
      simp only [show ((2 : Int).toNat - 1) = 1 from rfl, decN]
      rw [b8_toNat (128 + n % 64) (by omega) (by omega), if_neg (by omega), if_pos (by omega), e]
      simp [hl]
    · by_cases h3 : n < 65536
      · simp only [if_neg h1, if_neg h2, if_pos h3, List.cons_append, List.nil_append, dec]
        rw [b8_toNat (224 + n / 4096) (by omega) (by omega)]
        have hf : fsz (224 + n / 4096) = 3 := by unfold fsz; rw [if_neg (by omega), if_neg (by omega), if_pos (by omega)]
        have hb : fbt (224 + n / 4096) = n / 4096 := by unfold fbt; rw [if_neg (by omega), if_neg (by omega), if_pos (by omega)]; omega
        have hl : slen n = 3 := by unfold slen; rw [if_pos h, if_neg h1, if_neg h2, if_pos h3]
        rw [hf, hb]
        have e : (n / 4096 * 64 + (128 + n / 64 % 64) % 64) * 64 + (128 + n % 64) % 64 = n := by omega
        simp only [show ((3 : Int).toNat - 1) = 2 from rfl, decN]
        rw [b8_toNat (128 + n % 64) (by omega) (by omega), b8_toNat (128 + n / 64 % 64) (by omega) (by omega), if_neg (by omega), if_pos (by omega), if_pos (by omega), e]
        simp [hl]
      · simp only [if_neg h1, if_neg h2, if_neg h3, List.cons_append, List.nil_append, dec]
        rw [b8_toNat (240 + n / 262144) (by omega) (by omega)]
        have hf : fsz (240 + n / 262144) = 4 := by unfold fsz; rw [if_neg (by omega), if_neg (by omega), if_neg (by omega), if_pos (by omega)]
        have hb : fbt (240 + n / 262144) = n / 262144 := by unfold fbt; rw [if_neg (by omega), if_neg (by omega), if_neg (by omega), if_pos (by omega)]; omega
        have hl : slen n = 4 := by unfold slen; rw [if_pos h, if_neg h1, if_neg h2, if_neg h3]
        rw [hf, hb]
        have e : ((n / 262144 * 64 + (128 + n / 4096 % 64) % 64) * 64 + (128 + n / 64 % 64) % 64) * 64 + (128 + n % 64) % 64 = n := by omega
        simp only [show ((4 : Int).toNat - 1) = 3 from rfl, decN]
        rw [b8_toNat (128 + n % 64) (by omega) (by omega), b8_toNat (128 + n / 64 % 64) (by omega) (by omega), b8_toNat (128 + n / 4096 % 64) (by omega) (by omega), if_neg (by omega), if_pos (by omega), if_pos (by omega), if_pos (by omega), e]
        simp [hl]
theorem slen_pos (n : Int) (h : slen n ≠ 0) : sgn n = true := by
  unfold slen at h
  split at h
  · assumption
  · exact absurd rfl h
theorem slen_bd (n : Int) : 0 ≤ slen n ∧ slen n ≤ 4 := by unfold slen; repeat' split <;> omega
theorem dec_some (l : List UInt8) (n k : Int) (h : dec l = (n, k)) (hk : k ≠ 0) : sgn n = true ∧ slen n = k ∧ ∃ rest, l = enc n ++ rest := by
  cases l with
  | nil => simp [dec] at h; omega
  | cons c l =>
    have hc := u8_lt c
    simp only [dec] at h
    by_cases h0 : fsz c.toNat = 0
    · rw [if_pos h0] at h; simp at h; omega
    · rw [if_neg h0] at h
      cases hd : decN (fbt c.toNat) ((fsz c.toNat).toNat - 1) l with
      | none => rw [hd] at h; simp at h; omega
      | some r =>
        rw [hd] at h
        simp only at h
        by_cases hl : slen r = fsz c.toNat
        · rw [if_pos hl] at h
          simp only [Prod.mk.injEq] at h
          obtain ⟨rfl, rfl⟩ := h
          have hs := slen_pos r (by omega)
          refine ⟨hs, hl, ?_⟩
          have hr := (sgn_iff r).1 hs
          unfold slen at hl
          rw [if_pos hs] at hl
          unfold enc
          rw [if_pos hs]
          by_cases c1 : (c.toNat : Int) < 128
          · have e1 : fsz c.toNat = 1 := by unfold fsz; rw [if_pos c1]
            have e2 : fbt c.toNat = c.toNat := by unfold fbt; rw [if_pos c1]
            rw [e1, e2] at hd
            simp [decN] at hd
            subst hd
            rw [if_pos c1]
            exact ⟨l, by rw [b8_of c _ rfl]; rfl⟩
          · by_cases c2 : (c.toNat : Int) / 32 = 6
            · have e1 : fsz c.toNat = 2 := by unfold fsz; rw [if_neg c1, if_pos c2]
              have e2 : fbt c.toNat = (c.toNat : Int) % 32 := by unfold fbt; rw [if_neg c1, if_pos c2]
              rw [e1, e2] at hd
              rw [e1] at hl
              have : (2 : Int).toNat - 1 = 1 := rfl
              rw [this] at hd
              cases l with
              | nil => simp [decN] at hd
              | cons x l =>
                have hx := u8_lt x
                simp only [decN] at hd
                split at hd
                · simp only [Option.some.injEq] at hd
                  have n1 : ¬ r < 128 := by intro q; rw [if_pos q] at hl; omega
                  have n2 : r < 2048 := by
                    rcases Int.lt_or_le r 2048 with q | q
                    · exact q
                    · rw [if_neg n1, if_neg (by omega)] at hl; split at hl <;> omega
                  rw [if_neg n1, if_pos n2, b8_of c (192 + r / 64) (by omega), b8_of x (128 + r % 64) (by omega)]
                  exact ⟨l, rfl⟩
                · cases hd
            · by_cases c3 : (c.toNat : Int) / 16 = 14
              · have e1 : fsz c.toNat = 3 := by unfold fsz; rw [if_neg c1, if_neg c2, if_pos c3]
                have e2 : fbt c.toNat = (c.toNat : Int) % 16 := by unfold fbt; rw [if_neg c1, if_neg c2, if_pos c3]
                rw [e1, e2] at hd
                rw [e1] at hl
                have : (3 : Int).toNat - 1 = 2 := rfl
                rw [this] at hd
                match l, hd with
                | [], hd => simp [decN] at hd
                | [x], hd => simp [decN] at hd
                | x :: y :: l, hd =>
                  have hx := u8_lt x
                  have hy := u8_lt y
                  simp only [decN] at hd
                  split at hd
                  · split at hd
                    · simp only [Option.some.injEq] at hd
                      have n1 : ¬ r < 128 := by intro q; rw [if_pos q] at hl; omega
                      have n2 : ¬ r < 2048 := by intro q; rw [if_neg n1, if_pos q] at hl; omega
                      have n3 : r < 65536 := by
                        rcases Int.lt_or_le r 65536 with q | q
                        · exact q
                        · rw [if_neg n1, if_neg n2, if_neg (by omega)] at hl; omega
                      rw [if_neg n1, if_neg n2, if_pos n3, b8_of c (224 + r / 4096) (by omega), b8_of x (128 + r / 64 % 64) (by omega), b8_of y (128 + r % 64) (by omega)]
                      exact ⟨l, rfl⟩
                    · cases hd
                  · cases hd
              · by_cases c4 : (c.toNat : Int) / 8 = 30
                · have e1 : fsz c.toNat = 4 := by unfold fsz; rw [if_neg c1, if_neg c2, if_neg c3, if_pos c4]
                  have e2 : fbt c.toNat = (c.toNat : Int) % 8 := by unfold fbt; rw [if_neg c1, if_neg c2, if_neg c3, if_pos c4]
                  rw [e1, e2] at hd
                  rw [e1] at hl
                  have : (4 : Int).toNat - 1 = 3 := rfl
                  rw [this] at hd
                  match l, hd with
                  | [], hd => simp [decN] at hd
                  | [x], hd => simp [decN] at hd
                  | [x, y], hd => simp [decN] at hd
                  | x :: y :: z :: l, hd =>
                    have hx := u8_lt x
                    have hy := u8_lt y
                    have hz := u8_lt z
                    simp only [decN] at hd
                    split at hd
                    · split at hd
                      · split at hd
                        · simp only [Option.some.injEq] at hd
                          have n1 : ¬ r < 128 := by intro q; rw [if_pos q] at hl; omega
                          have n2 : ¬ r < 2048 := by intro q; rw [if_neg n1, if_pos q] at hl; omega
                          have n3 : ¬ r < 65536 := by intro q; rw [if_neg n1, if_neg n2, if_pos q] at hl; omega
                          rw [if_neg n1, if_neg n2, if_neg n3, b8_of c (240 + r / 262144) (by omega), b8_of x (128 + r / 4096 % 64) (by omega), b8_of y (128 + r / 64 % 64) (by omega), b8_of z (128 + r % 64) (by omega)]
                          exact ⟨l, rfl⟩
                        · cases hd
                      · cases hd
                    · cases hd
                · exfalso
                  apply h0
                  unfold fsz
                  rw [if_neg c1, if_neg c2, if_neg c3, if_neg c4]
        · rw [if_neg hl] at h; simp at h; omega
end Wb
namespace Wb
def inS (r : Int) (l : List (Int × Int)) : Bool := l.any fun x => decide (x.1 ≤ r) && decide (r ≤ x.2)
end Wb
namespace Wb
def signS : List (Int × Int) := [(0, 55295), (57344, 1114111)]
def charS : List (Int × Int) := [(9, 10), (13, 13), (32, 55295), (57344, 65533), (65536, 1114111)]
def startS : List (Int × Int) := [(65, 90), (97, 122), (95, 95), (192, 214), (216, 246), (248, 767), (880, 893), (895, 8191), (8204, 8205), (8304, 8591), (11264, 12271), (12289, 55295), (63744, 64975), (65008, 65533), (65536, 983039)]
def partS : List (Int × Int) := [(45, 46), (48, 57), (183, 183), (768, 879), (8255, 8256)]
def charB (r : Int) : Bool := inS r charS
def startB (r : Int) : Bool := inS r startS
def partB (r : Int) : Bool := startB r || inS r partS
theorem inS_sign (r : Int) : inS r signS = sgn r := by
  rw [Bool.eq_iff_iff, sgn_iff]
  simp [inS, signS]
  omega
theorem start_part (r : Int) (h : startB r = true) : partB r = true := by unfold partB; rw [h]; rfl
theorem char_sgn (r : Int) (h : charB r = true) : sgn r = true := by
  rw [sgn_iff]
  simp [inS, charB, charS] at h
  omega
end Wb
namespace Wb
def runeS (s : ByteArray) (at_ : Int) : Int × Int := if at_ < 0 ∨ (s.size : Int) ≤ at_ then (0, 0) else dec (s.data.toList.drop at_.toNat)
theorem drop_cons (s : ByteArray) (k : Nat) (h : k < s.size) : s.data.toList.drop k = s[k] :: s.data.toList.drop (k + 1) := by
  rw [List.drop_eq_getElem_cons (by simpa using h)]; rfl
def decZ (z b : Int) (l : List UInt8) : Int × Int :=
  if z = 0 then (0, 0) else
    match decN b (z.toNat - 1) l with
    | none => (0, 0)
    | some r => if slen r = z then (r, z) else (0, 0)
theorem dec_cons (c : UInt8) (l : List UInt8) : dec (c :: l) = decZ (fsz c.toNat) (fbt c.toNat) l := rfl
theorem runeS_in (s : ByteArray) (k : Nat) (h : k < s.size) : runeS s k = decZ (fsz s[k].toNat) (fbt s[k].toNat) (s.data.toList.drop (k + 1)) := by
  unfold runeS
  rw [if_neg (by omega), Int.toNat_natCast, drop_cons s k h, dec_cons]
theorem decN_short : ∀ (m : Nat) (r : Int) (l : List UInt8), l.length < m → decN r m l = none
  | 0, _, _, h => absurd h (by omega)
  | m + 1, r, [], _ => rfl
  | m + 1, r, c :: l, h => by
    unfold decN
    split
    · exact decN_short m _ l (by simpa using h)
    · rfl
theorem decZ_short (z b : Int) (l : List UInt8) (h : (l.length : Int) + 1 < z) : decZ z b l = (0, 0) := by
  unfold decZ
  rw [if_neg (by omega), decN_short _ _ _ (by omega)]
theorem decZ_some (z b r : Int) (l : List UInt8) (h : z ≠ 0) (hd : decN b (z.toNat - 1) l = some r) : decZ z b l = if slen r = z then (r, z) else (0, 0) := by
  unfold decZ
  rw [if_neg h, hd]
theorem decZ_none (z b : Int) (l : List UInt8) (h : z ≠ 0) (hd : decN b (z.toNat - 1) l = none) : decZ z b l = (0, 0) := by
  unfold decZ
  rw [if_neg h, hd]
theorem fbt_bd (c : Int) (h0 : 0 ≤ c) (h1 : c < 256) : 0 ≤ fbt c ∧ fbt c < 128 := by unfold fbt; repeat' split <;> omega
theorem decN_step (s : ByteArray) (r : Int) (m k : Nat) (h : k < s.size) :
    decN r (m + 1) (s.data.toList.drop k) = if (s[k].toNat : Int) / 64 = 2 then decN (r * 64 + (s[k].toNat : Int) % 64) m (s.data.toList.drop (k + 1)) else none := by
  rw [drop_cons s k h]; rfl
end Wb
namespace Wb
theorem rune_bad (s : ByteArray) (k j : Nat) (z b q : Int) (hj : (j : Int) + 1 < z) (hk : k + (j + 1) < s.size)
    (hd : decN b (z.toNat - 1) (s.data.toList.drop (k + 1)) = decN q (z.toNat - 1 - j) (s.data.toList.drop (k + 1 + j)))
    (hb : ¬ (s[k + (j + 1)].toNat : Int) / 64 = 2) : decZ z b (s.data.toList.drop (k + 1)) = (0, 0) := by
  refine decZ_none _ _ _ (by omega) (hd.trans ?_)
  obtain ⟨m, hm⟩ : ∃ m, z.toNat - 1 - j = m + 1 := ⟨z.toNat - 1 - j - 1, by omega⟩
  have e : k + 1 + j = k + (j + 1) := by omega
  rw [hm, e, decN_step s q m _ hk, if_neg hb]
theorem rune_step (s : ByteArray) (k j : Nat) (z b q : Int) (hj : (j : Int) + 1 < z) (hk : k + (j + 1) < s.size)
    (hd : decN b (z.toNat - 1) (s.data.toList.drop (k + 1)) = decN q (z.toNat - 1 - j) (s.data.toList.drop (k + 1 + j)))
    (hb : (s[k + (j + 1)].toNat : Int) / 64 = 2) :
    decN b (z.toNat - 1) (s.data.toList.drop (k + 1)) = decN (q * 64 + (s[k + (j + 1)].toNat : Int) % 64) (z.toNat - 1 - (j + 1)) (s.data.toList.drop (k + 1 + (j + 1))) := by
  rw [hd]
  obtain ⟨m, hm⟩ : ∃ m, z.toNat - 1 - j = m + 1 := ⟨z.toNat - 1 - j - 1, by omega⟩
  have e : k + 1 + j = k + (j + 1) := by omega
  have e2 : k + 1 + (j + 1) = k + (j + 1) + 1 := by omega
  have e3 : z.toNat - 1 - (j + 1) = m := by omega
  rw [hm, e, decN_step s q m _ hk, if_pos hb, e2, e3]
theorem rune_end (s : ByteArray) (k j : Nat) (z b q : Int) (hj : (j : Int) + 1 = z)
    (hd : decN b (z.toNat - 1) (s.data.toList.drop (k + 1)) = decN q (z.toNat - 1 - j) (s.data.toList.drop (k + 1 + j))) :
    decZ z b (s.data.toList.drop (k + 1)) = if slen q = z then (q, z) else (0, 0) := by
  refine decZ_some _ _ _ _ (by omega) (hd.trans ?_)
  have e : z.toNat - 1 - j = 0 := by omega
  rw [e]; rfl
theorem pow_bd (j : Nat) (h : j ≤ 2) (q : Int) (hq : q < 128 * 64 ^ j) : q < 524288 := by
  have : j = 0 ∨ j = 1 ∨ j = 2 := by omega
  rcases this with rfl | rfl | rfl <;> simp at hq <;> omega
theorem pow_next (j : Nat) (q c : Int) (hq : q < 128 * 64 ^ j) (hc : c < 64) : q * 64 + c < 128 * 64 ^ (j + 1) := by
  rw [Int.pow_succ]; omega
end Wb
namespace Wb
theorem dec_bd (l : List UInt8) : 0 ≤ (dec l).2 ∧ (dec l).2 ≤ 4 ∧ (dec l).2 ≤ l.length := by
  obtain ⟨n, k, hd⟩ : ∃ n k, dec l = (n, k) := ⟨_, _, rfl⟩
  rw [hd]
  show 0 ≤ k ∧ k ≤ 4 ∧ k ≤ l.length
  by_cases h : k = 0
  · omega
  · obtain ⟨h1, h2, rest, h3⟩ := dec_some l n k hd h
    have hb := slen_bd n
    have hl := enc_length n
    have : l.length = (enc n).length + rest.length := by rw [h3]; simp
    omega
end Wb
namespace Wb
end Wb
namespace Wb
def chkL : Nat → List UInt8 → Int → Int
  | 0, _, _ => -1
  | _ + 1, [], _ => -1
  | f + 1, c :: l, base => if (dec (c :: l)).2 = 0 then base else chkL f ((c :: l).drop (dec (c :: l)).2.toNat) (base + (dec (c :: l)).2)
def chk (l : List UInt8) : Int := chkL l.length l 0
theorem flat_dec (n : Int) (ns : List Int) (r : List UInt8) (h : sgn n = true) : dec ((n :: ns).flatMap enc ++ r) = (n, slen n) := by
  rw [List.flatMap_cons, List.append_assoc]; exact dec_enc n h _
theorem slen_one (n : Int) (h : sgn n = true) : 1 ≤ slen n := by
  unfold slen; rw [if_pos h]; repeat' split <;> omega
theorem flat_drop (n : Int) (ns : List Int) (r : List UInt8) : ((n :: ns).flatMap enc ++ r).drop (slen n).toNat = ns.flatMap enc ++ r := by
  rw [List.flatMap_cons, List.append_assoc]
  have := enc_length n
  rw [show (slen n).toNat = (enc n).length by omega, List.drop_left]
theorem dec_pair (l : List UInt8) : ∃ n k, dec l = (n, k) := ⟨(dec l).1, (dec l).2, rfl⟩
theorem form : ∀ (f : Nat) (l : List UInt8), l.length ≤ f → ∃ (ns : List Int) (r : List UInt8), (∀ n ∈ ns, sgn n = true) ∧ l = ns.flatMap enc ++ r ∧ (dec r).2 = 0
  | 0, l, h => ⟨[], l, by simp, by simp, by
      have : l = [] := List.eq_nil_of_length_eq_zero (by omega)
      subst this; rfl⟩
  | f + 1, l, h => by
    by_cases h0 : (dec l).2 = 0
    · exact ⟨[], l, by simp, by simp, h0⟩
    · obtain ⟨n, k, hd⟩ := dec_pair l
      rw [hd] at h0
      obtain ⟨h1, h2, rest, h3⟩ := dec_some l n k hd h0
      have hl := enc_length n
      have hs := slen_one n h1
      have hlen : l.length = (enc n).length + rest.length := by rw [h3]; simp
      obtain ⟨ns, r, a1, a2, a3⟩ := form f rest (by omega)
      refine ⟨n :: ns, r, ?_, ?_, a3⟩
      · intro m hm
        rcases List.mem_cons.1 hm with rfl | hm
        · exact h1
        · exact a1 m hm
      · rw [h3, List.flatMap_cons, List.append_assoc, ← a2]
theorem chkL_form : ∀ (ns : List Int) (r : List UInt8) (f : Nat) (base : Int), (∀ n ∈ ns, sgn n = true) → (dec r).2 = 0 → (ns.flatMap enc ++ r).length ≤ f →
    chkL f (ns.flatMap enc ++ r) base = if r = [] then -1 else base + (ns.flatMap enc).length
  | [], r, f, base, _, h, hf => by
    simp only [List.flatMap_nil, List.nil_append] at *
    cases r with
    | nil => cases f <;> rfl
    | cons c l =>
      cases f with
      | zero => simp at hf
      | succ f => simp [chkL, h]
  | n :: ns, r, f, base, hs, h, hf => by
    have h1 := hs n (by simp)
    have hd := flat_dec n ns r h1
    have hr := flat_drop n ns r
    have hsl := slen_one n h1
    have hel := enc_length n
    have hne : (n :: ns).flatMap enc ++ r ≠ [] := by
      intro e
      rw [e] at hd
      have := congrArg Prod.snd hd
      simp [dec] at this
      omega
    have hlen : ((n :: ns).flatMap enc ++ r).length = (enc n).length + (ns.flatMap enc ++ r).length := by
      simp
    rw [hlen] at hf
    have ih := chkL_form ns r
    generalize hL : (n :: ns).flatMap enc ++ r = L at *
    cases L with
    | nil => exact absurd rfl hne
    | cons c l =>
      cases f with
      | zero => omega
      | succ f =>
        unfold chkL
        rw [hd, if_neg (by show ¬ slen n = 0; omega)]
        show chkL f (List.drop (slen n).toNat (c :: l)) (base + slen n) = _
        rw [hr, ih f _ (fun m hm => hs m (by simp [hm])) h (by omega)]
        split
        · rfl
        · rw [List.flatMap_cons, List.length_append]; omega
theorem chk_form (ns : List Int) (r : List UInt8) (hs : ∀ n ∈ ns, sgn n = true) (h : (dec r).2 = 0) :
    chk (ns.flatMap enc ++ r) = if r = [] then -1 else ((ns.flatMap enc).length : Int) := by
  unfold chk
  rw [chkL_form ns r _ 0 hs h (Nat.le_refl _)]
  simp
theorem chk_bd (l : List UInt8) : chk l = -1 ∨ (0 ≤ chk l ∧ chk l < l.length) := by
  obtain ⟨ns, r, h1, h2, h3⟩ := form _ l (Nat.le_refl _)
  rw [h2, chk_form ns r h1 h3]
  by_cases hr : r = []
  · simp [hr]
  · rw [if_neg hr]
    have : 0 < r.length := List.length_pos_iff.2 hr
    right
    simp
    omega
def nameL : Nat → List UInt8 → Bool
  | 0, _ => true
  | _ + 1, [] => true
  | f + 1, c :: l => if (dec (c :: l)).2 = 0 then false else partB (dec (c :: l)).1 && nameL f ((c :: l).drop (dec (c :: l)).2.toNat)
def nameB (l : List UInt8) : Bool :=
  decide (l.length ≤ 64) && (decide ((dec l).2 ≠ 0) && (startB (dec l).1 && nameL l.length (l.drop (dec l).2.toNat)))
theorem nameL_form : ∀ (ns : List Int) (f : Nat), (∀ n ∈ ns, sgn n = true) → (ns.flatMap enc).length ≤ f → nameL f (ns.flatMap enc) = ns.all partB
  | [], f, _, _ => by cases f <;> rfl
  | n :: ns, f, hs, hf => by
    have h1 := hs n (by simp)
    have hd := flat_dec n ns [] h1
    have hr := flat_drop n ns []
    rw [List.append_nil] at hd hr
    rw [List.append_nil] at hr
    have hsl := slen_one n h1
    have hel := enc_length n
    have hne : (n :: ns).flatMap enc ≠ [] := by
      intro e
      rw [e] at hd
      have := congrArg Prod.snd hd
      simp [dec] at this
      omega
    have hlen : ((n :: ns).flatMap enc).length = (enc n).length + (ns.flatMap enc).length := by simp
    rw [hlen] at hf
    have ih := nameL_form ns
    generalize hL : (n :: ns).flatMap enc = L at *
    cases L with
    | nil => exact absurd rfl hne
    | cons c l =>
      cases f with
      | zero => omega
      | succ f =>
        unfold nameL
        rw [hd, if_neg (by show ¬ slen n = 0; omega)]
        show (partB n && nameL f (List.drop (slen n).toNat (c :: l))) = _
        rw [hr, ih f (fun m hm => hs m (by simp [hm])) (by omega)]
        rfl
end Wb
namespace Wb
open Go
def eqT (a b : ByteArray) : Bool := a.toList == b.toList
theorem eqT_iff (a b : ByteArray) : eqT a b = true ↔ a = b := by
  unfold eqT
  rw [ByteArray.toList_eq, ByteArray.toList_eq, beq_iff_eq]
  constructor
  · intro h
    cases a; cases b
    simp only at h
    rw [Array.toList_inj.1 h]
  · rintro rfl; rfl
theorem eqT_dec (a b : ByteArray) : eqT a b = decide (a = b) := by
  rw [Bool.eq_iff_iff, eqT_iff]; simp
theorem eqT_self (a : ByteArray) : eqT a a = true := (eqT_iff _ _).2 rfl
theorem toList_nil_iff (a : ByteArray) : a.toList = [] ↔ a = ⟨#[]⟩ := by
  rw [ByteArray.toList_eq]
  constructor
  · intro h; cases a; simp only at h; rw [Array.toList_eq_nil_iff.1 h]
  · rintro rfl; rfl
def sE : ByteArray := ⟨#[]⟩
def sXmlns : ByteArray := ⟨#[120, 109, 108, 110, 115]⟩
def sXMLNS : ByteArray := ⟨#[104, 116, 116, 112, 58, 47, 47, 119, 119, 119, 46, 119, 51, 46, 111, 114, 103, 47, 50, 48, 48, 48, 47, 120, 109, 108, 110, 115, 47]⟩
theorem empty_eq (p : ByteArray) : p.toList.isEmpty = eqT p sE := by
  unfold eqT
  rw [(toList_nil_iff sE).2 rfl]
  cases p.toList <;> rfl
theorem take_snoc {α : Type} (l : List α) (k : Nat) (x : α) (h : l[k]? = some x) : l.take (k + 1) = l.take k ++ [x] := by
  rw [List.take_add_one, h]; rfl
def eqP (a b : Pr) : Bool := eqT a.1 b.1 && eqT a.2 b.2
theorem eqP_iff (a b : Pr) : eqP a b = true ↔ a = b := by
  unfold eqP
  rw [Bool.and_eq_true, eqT_iff, eqT_iff]
  constructor
  · rintro ⟨h1, h2⟩; exact Prod.ext h1 h2
  · rintro rfl; exact ⟨rfl, rfl⟩
end Wb
namespace Wb
def TxtOK (l : List UInt8) : Prop := ∃ ns : List Int, (∀ n ∈ ns, charB n = true) ∧ l = ns.flatMap enc
end Wb
namespace Wb
def TxtB (s : ByteArray) : Prop := TxtOK s.data.toList
def nameOK (n : Pr) : Prop := nameB n.2.data.toList = true ∧ TxtB n.1 ∧ n.1 ≠ sXMLNS
def attrsOK (l : List Tr) : Prop := l.length ≤ 32 ∧ (l.map (·.1)).Pairwise (· ≠ ·) ∧ ∀ a ∈ l, nameOK a.1 ∧ a.1 ≠ (sE, sXmlns) ∧ TxtB a.2
mutual
/-- A node asz it must be that stands so deep, but for how many there are. -/
def okN : Nat → Nd → Prop
  | d, .mk k n asz ks t => (k = 1 ∧ d ≤ 24 ∧ t = sE ∧ nameOK n ∧ attrsOK asz ∧ okKs (d + 1) 0 ks) ∨ (k = 2 ∧ t ≠ sE ∧ TxtB t ∧ n = (sE, sE) ∧ asz = [] ∧ ks = [])
def okKs : Nat → Int → List Nd → Prop
  | _, _, [] => True
  | d, ahead, k :: ks => ¬ (ahead = 2 ∧ k.kind = 2) ∧ okN d k ∧ okKs d k.kind ks
end
theorem last_cases {α : Type} (l : List α) : l = [] ∨ ∃ m x, l = m ++ [x] := by
  rcases List.eq_nil_or_concat l with h | ⟨m, x, h⟩
  · exact .inl h
  · exact .inr ⟨m, x, by simpa using h⟩
end Wb
namespace Wb
theorem okN_el {d : Nat} {n : Nd} {p : Int} {k : Nd} (h : okN d n) (hk : n.kids[p.toNat]? = some k) : n.kind = 1 ∧ d ≤ 24 ∧ n.text = sE ∧ nameOK n.name ∧ attrsOK n.attrs ∧ okKs (d + 1) 0 n.kids := by
  obtain ⟨kd, nm, al, ks, t⟩ := n
  rw [okN] at h
  rcases h with h | ⟨_, _, _, _, _, h⟩
  · exact h
  · simp only [Nd.kids] at hk
    rw [h] at hk
    simp at hk
theorem okKs_in {d : Nat} : ∀ {ks : List Nd} {a : Int} {i : Nat} {k : Nd}, okKs d a ks → ks[i]? = some k → okN d k
  | [], _, i, k, _, hk => by simp at hk
  | x :: ks, a, 0, k, h, hk => by
    rw [okKs] at h
    simp only [List.getElem?_cons_zero, Option.some.injEq] at hk
    exact hk ▸ h.2.1
  | x :: ks, a, i + 1, k, h, hk => by
    rw [okKs] at h
    exact okKs_in h.2.2 (by simpa using hk)
theorem okKs_adj {d : Nat} : ∀ {ks : List Nd} {a : Int}, okKs d a ks → noAdj a ks
  | [], _, _ => trivial
  | k :: ks, a, h => by
    rw [okKs] at h
    exact ⟨h.1, okKs_adj h.2.2⟩
theorem noAdj_el : ∀ {ks : List Nd} {a b : Int}, noAdj a ks → b ≠ 2 → noAdj b ks
  | [], _, _, _, _ => trivial
  | _ :: _, _, _, h, hb => ⟨fun e => hb e.1, h.2⟩
theorem noAdj_set {x : Nd} (hx : x.kind = 1) : ∀ {ks : List Nd} {a : Int} (i : Nat), noAdj a ks → noAdj a (ks.set i x)
  | [], _, _, _ => trivial
  | k :: ks, a, 0, h => by
    rw [List.set_cons_zero]
    exact ⟨fun e => by omega, noAdj_el h.2 (by omega)⟩
  | k :: ks, a, i + 1, h => by
    rw [List.set_cons_succ]
    exact ⟨h.1, noAdj_set hx i h.2⟩
theorem atP_ok : ∀ (l : List Int) (d : Nat) (n e : Nd), okN d n → atP n l = some e → okN (d + l.length) e
  | [], d, n, e, h, ha => by simp only [atP, Option.some.injEq] at ha; exact ha ▸ h
  | p :: ps, d, n, e, h, ha => by
    rw [atP_cons] at ha
    by_cases hp : p < 0
    · rw [if_pos hp] at ha; cases ha
    rw [if_neg hp] at ha
    cases hk : n.kids[p.toNat]? with
    | none => rw [hk] at ha; cases ha
    | some k =>
      rw [hk] at ha
      have := atP_ok ps (d + 1) k e (okKs_in (okN_el h hk).2.2.2.2.2 hk) ha
      rw [List.length_cons, show d + (ps.length + 1) = d + 1 + ps.length from by omega]
      exact this
theorem costs_set : ∀ (ks : List Nd) (i : Nat) (k x : Nd), ks[i]? = some k → costNs (ks.set i x) + costN k = costNs ks + costN x ∧ costBs (ks.set i x) + costB k = costBs ks + costB x
  | [], i, k, x, h => by simp at h
  | y :: ks, 0, k, x, h => by
    simp only [List.getElem?_cons_zero, Option.some.injEq] at h
    subst h
    rw [List.set_cons_zero, costNs, costNs, costBs, costBs]
    omega
  | y :: ks, i + 1, k, x, h => by
    rw [List.set_cons_succ, costNs, costNs, costBs, costBs]
    have := costs_set ks i k x (by simpa using h)
    omega
theorem setP_cost : ∀ (l : List Int) (n x : Nd), costN (setP n l x) ≤ costN n + costN x ∧ costB (setP n l x) ≤ costB n + costB x
  | [], n, x => by simp only [setP]; omega
  | p :: ps, n, x => by
    rw [setP_cons]
    cases hk : n.kids[p.toNat]? with
    | none => simp only; omega
    | some k =>
      simp only
      have h1 := costs_set n.kids p.toNat k (setP k ps x) hk
      have h2 := setP_cost ps k x
      rw [costN_is (n.withKids _), costN_is n, costB_is (n.withKids _), costB_is n, Nd.kids_with, show ownB (n.withKids (n.kids.set p.toNat (setP k ps x))) = ownB n from rfl]
      omega
theorem setP_len (B : Nat) : ∀ (l : List Int) (n x : Nd), lenN B n → lenN B x → lenN B (setP n l x)
  | [], n, x, _, hx => hx
  | p :: ps, n, x, hn, hx => by
    rw [setP_cons]
    cases hk : n.kids[p.toNat]? with
    | none => exact hn
    | some k =>
      simp only
      obtain ⟨h1, h2, h3⟩ := (lenN_is B n).1 hn
      refine (lenN_is B _).2 ⟨h1, by rw [Nd.kids_with, List.length_set]; exact h2, fun y hy => ?_⟩
      rw [Nd.kids_with] at hy
      rcases List.mem_or_eq_of_mem_set hy with hy | rfl
      · exact h3 y hy
      · exact setP_len B ps k x (h3 k (List.mem_of_getElem? hk)) hx
end Wb
namespace Wb
open Go Go.RowKit
structure Keep (S : Nat → Prop) (w w' : World) : Prop where
  os : w'.os = w.os
  tape : w'.tape = w.tape
  output : w'.output = w.output
  size : w.heap.size ≤ w'.heap.size
  block : ∀ k, k < w.heap.size → ¬ S k → w'.heap[k]? = w.heap[k]?
section
variable {S S' : Nat → Prop} {w w' w2 : World}
theorem Keep.refl (S : Nat → Prop) (w : World) : Keep S w w := ⟨rfl, rfl, rfl, Nat.le_refl _, fun _ _ _ => rfl⟩
theorem Keep.trans (h : Keep S w w') (k : Keep S w' w2) : Keep S w w2 :=
  ⟨k.os.trans h.os, k.tape.trans h.tape, k.output.trans h.output, Nat.le_trans h.size k.size, fun i hi hs => (k.block i (Nat.lt_of_lt_of_le hi h.size) hs).trans (h.block i hi hs)⟩
theorem Keep.of_below (S : Nat → Prop) (h : Below w.heap.size w w') : Keep S w w' := ⟨h.os, h.tape, h.output, h.size, fun k hk _ => h.block k hk⟩
theorem Keep.setCell (h : Keep S w w') {p : Addr} (hp : S p.block) (u : Value) : Keep S w (w'.setCell p u) :=
  h.trans ⟨rfl, rfl, rfl, by simp [World.setCell], fun k _ hn => Below.heap_setCell _ _ _ _ (fun e => hn (by rw [e]; exact hp))⟩
theorem own_blk {base sz n : Nat} {e : TypeId} {v : Value} {xs : List Value} (h : w.ownsRow base e sz v n xs) (hb : ∀ k, v.ownBlock = some k → w'.heap[k]? = w.heap[k]?) : w'.ownsRow base e sz v n xs := by
  refine ⟨h.1, ?_⟩
  rcases h.2 with h2 | ⟨g, cap, cur, rfl, hbg, hg, rest⟩
  · exact .inl h2
  · exact .inr ⟨g, cap, cur, rfl, hbg, (hb g rfl).trans hg, rest⟩
theorem own_in {base sz n g : Nat} {e : TypeId} {v : Value} {xs : List Value} (h : w.ownsRow base e sz v n xs) (hv : v.ownBlock = some g) : base ≤ g ∧ g < w.heap.size := h.lt g hv
end
theorem flat_at {m : Nat} : ∀ {css : List (List Value)}, (∀ cs ∈ css, cs.length = m) → ∀ (i : Nat) (cs : List Value), css[i]? = some cs → ∀ j, j < m → css.flatten[i * m + j]? = cs[j]?
  | [], _, i, cs, h, _, _ => by simp at h
  | c :: css, hl, 0, cs, h, j, hj => by
    simp only [List.getElem?_cons_zero, Option.some.injEq] at h
    subst h
    rw [List.flatten_cons, Nat.zero_mul, Nat.zero_add, List.getElem?_append_left (by rw [hl c (by simp)]; exact hj)]
  | c :: css, hl, i + 1, cs, h, j, hj => by
    have := flat_at (css := css) (fun d hd => hl d (by simp [hd])) i cs (by simpa using h) j hj
    have hc := hl c (by simp)
    rw [List.flatten_cons, List.getElem?_append_right (by rw [hc, Nat.add_mul]; omega), ← this, hc]
    congr 1
    rw [Nat.add_mul]
    omega
section
variable {tN tE tB : TypeId} {S S' : Nat → Prop} {w w' : World} {base B : Nat} {ov kv : Value}
variable {rc : List Value}
theorem blk_in {w : World} {g : Nat} {o : Obj} (h : w.heap[g]? = some o) : g < w.heap.size := (Array.getElem?_eq_some_iff.1 h).1
end
end Wb
namespace Wb
open Go Go.RowKit
def ndC (n : Nd) (av kv : Value) : List Value := [.int .i64 n.kind, .string n.name.1, .string n.name.2, av, kv, .string n.text]
mutual
/-- A node that lies in blocks from lo on, below hi, apart from one another. -/
def ownC (TA TN : TypeId) (w : World) : Nd → List Value → Nat → Nat → Prop
  | .mk k n asz ks t, cs, lo, hi => ∃ av kv css, cs = ndC (.mk k n asz ks t) av kv ∧ w.ownsRow lo TA 3 av asz.length (cells3 asz) ∧ w.ownsRow lo TN 6 kv ks.length css.flatten ∧ css.length = ks.length ∧
      (∀ b, av.ownBlock = some b → b < hi ∧ kv.ownBlock ≠ some b) ∧ (∀ b, kv.ownBlock = some b → b < hi) ∧ kidsO TA TN w (fun b => av.ownBlock = some b ∨ kv.ownBlock = some b) ks css lo hi
def kidsO (TA TN : TypeId) (w : World) (X : Nat → Prop) : List Nd → List (List Value) → Nat → Nat → Prop
  | [], css, _, _ => css = []
  | n :: ns, css, lo, hi => ∃ cs rest l h, css = cs :: rest ∧ lo ≤ l ∧ l ≤ h ∧ h ≤ hi ∧ (∀ b, l ≤ b → b < h → ¬ X b) ∧ ownC TA TN w n cs l h ∧ kidsO TA TN w X ns rest h hi
end
section
variable {TA TN : TypeId} {w w' : World}
theorem ownC_iff (n : Nd) (cs : List Value) (lo hi : Nat) : ownC TA TN w n cs lo hi ↔ ∃ av kv css, cs = ndC n av kv ∧ w.ownsRow lo TA 3 av n.attrs.length (cells3 n.attrs) ∧ w.ownsRow lo TN 6 kv n.kids.length css.flatten ∧ css.length = n.kids.length ∧
      (∀ b, av.ownBlock = some b → b < hi ∧ kv.ownBlock ≠ some b) ∧ (∀ b, kv.ownBlock = some b → b < hi) ∧ kidsO TA TN w (fun b => av.ownBlock = some b ∨ kv.ownBlock = some b) n.kids css lo hi := by
  cases n with
  | mk k n asz ks t => rw [ownC]; rfl
theorem ownC_len {n : Nd} {cs : List Value} {lo hi : Nat} (h : ownC TA TN w n cs lo hi) : cs.length = 6 := by
  obtain ⟨av, kv, css, rfl, _⟩ := (ownC_iff n cs lo hi).1 h
  rfl
theorem kidsO_len {X : Nat → Prop} : ∀ {ks : List Nd} {css : List (List Value)} {lo hi : Nat}, kidsO TA TN w X ks css lo hi → css.length = ks.length ∧ ∀ cs ∈ css, cs.length = 6
  | [], css, lo, hi, h => by rw [kidsO] at h; subst h; simp
  | n :: ns, css, lo, hi, h => by
    rw [kidsO] at h
    obtain ⟨cs, rest, l, hh, rfl, _, _, _, _, h5, h6⟩ := h
    obtain ⟨h7, h8⟩ := kidsO_len h6
    refine ⟨by simp [h7], fun c hc => ?_⟩
    rcases List.mem_cons.1 hc with rfl | hc
    · exact ownC_len h5
    · exact h8 c hc
theorem kidsO_at {X : Nat → Prop} : ∀ {ks : List Nd} {css : List (List Value)} {lo hi : Nat}, kidsO TA TN w X ks css lo hi → ∀ (k : Nat) (n : Nd), ks[k]? = some n →
    ∃ cs l h, css[k]? = some cs ∧ lo ≤ l ∧ l ≤ h ∧ h ≤ hi ∧ (∀ b, l ≤ b → b < h → ¬ X b) ∧ ownC TA TN w n cs l h ∧
      ∀ (j : Nat) (m : Nd), j ≠ k → ks[j]? = some m → ∃ cs' l' h', css[j]? = some cs' ∧ lo ≤ l' ∧ h' ≤ hi ∧ (h' ≤ l ∨ h ≤ l') ∧ (∀ b, l' ≤ b → b < h' → ¬ X b) ∧ ownC TA TN w m cs' l' h'
  | [], css, lo, hi, h, k, n, hk => by simp at hk
  | n0 :: ns, css, lo, hi, h, k, n, hk => by
    rw [kidsO] at h
    obtain ⟨cs, rest, l, hh, rfl, h1, h2, h3, h4, h5, h6⟩ := h
    cases k with
    | zero =>
      simp only [List.getElem?_cons_zero, Option.some.injEq] at hk
      subst hk
      refine ⟨cs, l, hh, rfl, h1, h2, h3, h4, h5, fun j m hj hm => ?_⟩
      obtain ⟨j, rfl⟩ : ∃ i, j = i + 1 := ⟨j - 1, by omega⟩
      obtain ⟨cs', l', h', a1, a2, a3, a4, a5, a6, _⟩ := kidsO_at h6 j m (by simpa using hm)
      exact ⟨cs', l', h', by simpa using a1, by omega, a4, .inr a2, a5, a6⟩
    | succ k =>
      obtain ⟨cs', l', h', a1, a2, a3, a4, a5, a6, a7⟩ := kidsO_at h6 k n (by simpa using hk)
      refine ⟨cs', l', h', by simpa using a1, by omega, a3, a4, a5, a6, fun j m hj hm => ?_⟩
      cases j with
      | zero =>
        simp only [List.getElem?_cons_zero, Option.some.injEq] at hm
        subst hm
        exact ⟨cs, l, hh, rfl, h1, h3, .inl a2, h4, h5⟩
      | succ j =>
        obtain ⟨c2, l2, h2', b1, b2, b3, b4, b5, b6⟩ := a7 j m (by omega) (by simpa using hm)
        exact ⟨c2, l2, h2', by simpa using b1, by omega, b3, b4, b5, b6⟩
theorem ownC_keep (n : Nd) : ∀ (cs : List Value) (lo hi : Nat), (∀ b, lo ≤ b → b < hi → w'.heap[b]? = w.heap[b]?) → ownC TA TN w n cs lo hi → ownC TA TN w' n cs lo hi := by
  induction n using Nd.induct with
  | h n ih =>
    intro cs lo hi hk h
    obtain ⟨av, kv, css, e, h1, h2, h3, h4, h5, h6⟩ := (ownC_iff n cs lo hi).1 h
    refine (ownC_iff n cs lo hi).2 ⟨av, kv, css, e, own_blk h1 fun b hb => hk b (own_in h1 hb).1 (h4 b hb).1, own_blk h2 fun b hb => hk b (own_in h2 hb).1 (h5 b hb), h3, h4, h5, ?_⟩
    clear h h1 h2 h3 h4 h5 e
    have hk' : ∀ (ks : List Nd), (∀ k ∈ ks, k ∈ n.kids) → ∀ (css : List (List Value)) (l : Nat), lo ≤ l → kidsO TA TN w (fun b => av.ownBlock = some b ∨ kv.ownBlock = some b) ks css l hi → kidsO TA TN w' (fun b => av.ownBlock = some b ∨ kv.ownBlock = some b) ks css l hi := by
      intro ks
      induction ks with
      | nil => intro _ css l _ h; rw [kidsO] at h ⊢; exact h
      | cons x ks ihk =>
        intro hm css l hl h
        rw [kidsO] at h ⊢
        obtain ⟨c, rest, l1, h1, rfl, b1, b2, b3, b4, b5, b6⟩ := h
        exact ⟨c, rest, l1, h1, rfl, b1, b2, b3, b4, ih x (hm x (by simp)) c l1 h1 (fun b p q => hk b (by omega) (by omega)) b5, ihk (fun k hk => hm k (by simp [hk])) rest h1 (by omega) b6⟩
    exact hk' n.kids (fun _ h => h) css lo (Nat.le_refl _) h6
theorem kidsO_keep {X : Nat → Prop} : ∀ (ks : List Nd) (css : List (List Value)) (lo hi : Nat), (∀ b, lo ≤ b → b < hi → ¬ X b → w'.heap[b]? = w.heap[b]?) → kidsO TA TN w X ks css lo hi → kidsO TA TN w' X ks css lo hi
  | [], css, lo, hi, _, h => by rw [kidsO] at h ⊢; exact h
  | n :: ns, css, lo, hi, hk, h => by
    rw [kidsO] at h ⊢
    obtain ⟨c, rest, l1, h1, rfl, b1, b2, b3, b4, b5, b6⟩ := h
    exact ⟨c, rest, l1, h1, rfl, b1, b2, b3, b4, ownC_keep n c l1 h1 (fun b p q => hk b (by omega) (by omega) (b4 b p q)) b5, kidsO_keep ns rest h1 hi (fun b p q => hk b (by omega) q) b6⟩
theorem kidsO_mono {X Y : Nat → Prop} : ∀ (ks : List Nd) (css : List (List Value)) (lo hi lo' hi' : Nat), lo' ≤ lo → hi ≤ hi' → (∀ b, lo ≤ b → b < hi → Y b → X b) → kidsO TA TN w X ks css lo hi → kidsO TA TN w Y ks css lo' hi'
  | [], css, lo, hi, lo', hi', _, _, _, h => by rw [kidsO] at h ⊢; exact h
  | n :: ns, css, lo, hi, lo', hi', e1, e2, hk, h => by
    rw [kidsO] at h ⊢
    obtain ⟨c, rest, l1, h1, rfl, b1, b2, b3, b4, b5, b6⟩ := h
    exact ⟨c, rest, l1, h1, rfl, by omega, b2, by omega, fun b p q r => b4 b p q (hk b (by omega) (by omega) r), b5, kidsO_mono ns rest h1 hi h1 hi' (Nat.le_refl _) e2 (fun b p q => hk b (by omega) q) b6⟩
theorem kidsO_app {X : Nat → Prop} {n : Nd} {cs : List Value} {l h : Nat} (hn : ownC TA TN w n cs l h) (hX : ∀ b, l ≤ b → b < h → ¬ X b) (hlh : l ≤ h) : ∀ (ks : List Nd) (css : List (List Value)) (lo hi : Nat), lo ≤ hi → hi ≤ l → kidsO TA TN w X ks css lo hi → kidsO TA TN w X (ks ++ [n]) (css ++ [cs]) lo h
  | [], css, lo, hi, e0, e1, hk => by
    rw [kidsO] at hk
    subst hk
    rw [List.nil_append, List.nil_append, kidsO]
    exact ⟨cs, [], l, h, rfl, by omega, hlh, Nat.le_refl _, hX, hn, by rw [kidsO]⟩
  | m :: ns, css, lo, hi, e0, e1, hk => by
    rw [kidsO] at hk
    obtain ⟨c, rest, l1, h1, rfl, b1, b2, b3, b4, b5, b6⟩ := hk
    rw [List.cons_append, List.cons_append, kidsO]
    exact ⟨c, rest ++ [cs], l1, h1, rfl, b1, b2, by omega, b4, b5, kidsO_app hn hX hlh ns rest h1 hi b3 e1 b6⟩
theorem ownC_lohi {n : Nd} {cs : List Value} {lo hi lo' hi' : Nat} (h : ownC TA TN w n cs lo hi) (h1 : lo' ≤ lo) (h2 : hi ≤ hi') : ownC TA TN w n cs lo' hi' := by
  obtain ⟨av, kv, css, e, a1, a2, a3, a4, a5, a6⟩ := (ownC_iff n cs lo hi).1 h
  have up : ∀ {e : TypeId} {sz n : Nat} {v : Value} {xs : List Value}, w.ownsRow lo e sz v n xs → w.ownsRow lo' e sz v n xs := fun {e sz n v xs} h => by
    refine ⟨h.1, ?_⟩
    rcases h.2 with h | ⟨g, cap, cur, p, q, r⟩
    · exact .inl h
    · exact .inr ⟨g, cap, cur, p, by omega, r⟩
  exact (ownC_iff n cs lo' hi').2 ⟨av, kv, css, e, up a1, up a2, a3, fun b hb => ⟨Nat.lt_of_lt_of_le (a4 b hb).1 h2, (a4 b hb).2⟩, fun b hb => Nat.lt_of_lt_of_le (a5 b hb) h2, kidsO_mono _ _ _ _ _ _ h1 h2 (fun _ _ _ h => h) a6⟩
theorem ownC_node (n : Nd) : ∀ (cs : List Value) (lo hi : Nat), ownC TA TN w n cs lo hi → nodeC w n cs := by
  induction n using Nd.induct with
  | h n ih =>
    intro cs lo hi h
    obtain ⟨av, kv, css, e, h1, h2, h3, h4, h5, h6⟩ := (ownC_iff n cs lo hi).1 h
    obtain ⟨A, ca, hav⟩ := own_shape h1
    obtain ⟨K, ck, hkv⟩ := own_shape h2
    have hA : ∃ A' ca', av = .slice A' n.attrs.length ca' ∧ Sl3 w A' n.attrs := by
      rcases h1.2 with ⟨e1, e2⟩ | ⟨g, cap, cur, e1, _⟩
      · have : n.attrs = [] := List.eq_nil_of_length_eq_zero e2
        exact ⟨none, 0, by rw [e1, e2], by rw [this]; exact Sl3.nil _ _⟩
      · subst e1
        exact ⟨_, cap, rfl, Sl3.of_own h1⟩
    obtain ⟨A', ca', rfl, hA⟩ := hA
    have hlen := (kidsO_len h6).2
    have hK : ∃ K' ck', kv = .slice K' n.kids.length ck' ∧ SlN w K' n.kids := by
      rcases h2.2 with ⟨e1, e2⟩ | ⟨g, cap, cur, e1, _, hg, _⟩
      · have : n.kids = [] := List.eq_nil_of_length_eq_zero e2
        exact ⟨none, 0, by rw [e1, e2], .inl this⟩
      · subst e1
        refine ⟨_, cap, rfl, .inr ⟨_, rfl, blk_in hg, (kidsC_iff w _ _ 0).2 fun k m hm => ?_⟩⟩
        obtain ⟨c, l, hh, c1, _, _, _, _, c6, _⟩ := kidsO_at h6 k m hm
        refine ⟨c, fun j u hu => ?_, ih m (List.mem_of_getElem? hm) c l hh c6⟩
        rw [Nat.zero_add]
        have hj : j < 6 := by
          have := (List.getElem?_eq_some_iff.1 hu).1
          rw [ownC_len c6] at this; exact this
        exact h2.cells (g := g) rfl _ _ ((flat_at hlen k c c1 j hj).trans hu)
    obtain ⟨K', ck', rfl, hK⟩ := hK
    exact (nodeC_V w n cs).2 ⟨A', ca', K', ck', e, hA, hK⟩
end
end Wb
