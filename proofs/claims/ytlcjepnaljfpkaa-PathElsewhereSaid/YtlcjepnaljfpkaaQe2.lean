/- Plain Plain2 QnPlain TrG UtfA UtfB UtfD. -/
import Derived.Laws.Strings
import Derived.Laws.Externs
import Derived.WalkSmall
import Derived.Test.YtlcjepnaljfpkaaRows
import Derived.Laws.BytesString
import Derived.Test.YtlcjepnaljfpkaaQe1
namespace Wb
def sgn (n : Int) : Bool := decide (0 ≤ n) && decide (n ≤ 1114111) && (decide (n < 55296) || decide (57343 < n))
theorem sgn_iff (n : Int) : sgn n = true ↔ 0 ≤ n ∧ n ≤ 1114111 ∧ (n < 55296 ∨ 57343 < n) := by
  simp [sgn, and_assoc]
def slen (n : Int) : Int := if sgn n = true then (if n < 128 then 1 else if n < 2048 then 2 else if n < 65536 then 3 else 4) else 0
def b8 (n : Int) : UInt8 := UInt8.ofNat n.toNat
theorem b8_toNat (n : Int) (h0 : 0 ≤ n) (h1 : n < 256) : ((b8 n).toNat : Int) = n := by
  unfold b8
  rw [UInt8.toNat_ofNat']
  omega
theorem b8_of (c : UInt8) (n : Int) (h : (c.toNat : Int) = n) : b8 n = c := by
  subst h
  unfold b8
  simp
def enc (n : Int) : List UInt8 :=
  if sgn n = true then
    (if n < 128 then [b8 n]
    else if n < 2048 then [b8 (192 + n / 64), b8 (128 + n % 64)]
    else if n < 65536 then [b8 (224 + n / 4096), b8 (128 + n / 64 % 64), b8 (128 + n % 64)]
    else [b8 (240 + n / 262144), b8 (128 + n / 4096 % 64), b8 (128 + n / 64 % 64), b8 (128 + n % 64)])
  else []
theorem enc_length (n : Int) : ((enc n).length : Int) = slen n := by
  unfold enc slen
  split
  · split
    · rfl
    · split
      · rfl
      · split <;> rfl
  · rfl
def fsz (c : Int) : Int := if c < 128 then 1 else if c / 32 = 6 then 2 else if c / 16 = 14 then 3 else if c / 8 = 30 then 4 else 0
def fbt (c : Int) : Int := if c < 128 then c else if c / 32 = 6 then c % 32 else if c / 16 = 14 then c % 16 else if c / 8 = 30 then c % 8 else 0
theorem fsz_bd (c : Int) : 0 ≤ fsz c ∧ fsz c ≤ 4 := by unfold fsz; repeat' split <;> omega
def decN (r : Int) : Nat → List UInt8 → Option Int
  | 0, _ => some r
  | _ + 1, [] => none
  | k + 1, c :: l => if (c.toNat : Int) / 64 = 2 then decN (r * 64 + (c.toNat : Int) % 64) k l else none
def dec : List UInt8 → Int × Int
  | [] => (0, 0)
  | c :: l =>
    if fsz c.toNat = 0 then (0, 0) else
    match decN (fbt c.toNat) ((fsz c.toNat).toNat - 1) l with
    | none => (0, 0)
    | some r => if slen r = fsz c.toNat then (r, fsz c.toNat) else (0, 0)
theorem u8_lt (c : UInt8) : (c.toNat : Int) < 256 := by have := c.toNat_lt; omega
theorem dec_enc (n : Int) (h : sgn n = true) (rest : List UInt8) : dec (enc n ++ rest) = (n, slen n) := by
  have hs := (sgn_iff n).1 h
  unfold enc slen
  rw [if_pos h, if_pos h]
  by_cases h1 : n < 128
  · simp only [if_pos h1, List.cons_append, List.nil_append, dec]
    rw [b8_toNat n (by omega) (by omega)]
    have hf : fsz n = 1 := by unfold fsz; rw [if_pos h1]
    have hb : fbt n = n := by unfold fbt; rw [if_pos h1]
    have hl : slen n = 1 := by unfold slen; rw [if_pos h, if_pos h1]
    rw [hf, hb]
    simp [decN, hl]
  · by_cases h2 : n < 2048
    · simp only [if_neg h1, if_pos h2, List.cons_append, List.nil_append, dec]
      rw [b8_toNat (192 + n / 64) (by omega) (by omega)]
      have hf : fsz (192 + n / 64) = 2 := by unfold fsz; rw [if_neg (by omega), if_pos (by omega)]
      have hb : fbt (192 + n / 64) = n / 64 := by unfold fbt; rw [if_neg (by omega), if_pos (by omega)]; omega
      have hl : slen n = 2 := by unfold slen; rw [if_pos h, if_neg h1, if_pos h2]
      rw [hf, hb]
      have e : n / 64 * 64 + (128 + n % 64) % 64 = n := by omega
      simp only [show ((2 : Int).toNat - 1) = 1 from rfl, decN]
      rw [b8_toNat (128 + n % 64) (by omega) (by omega), if_neg (by omega), if_pos (by omega), e]
      simp [hl]
    · by_cases h3 : n < 65536
      · simp only [if_neg h1, if_neg h2, if_pos h3, List.cons_append, List.nil_append, dec]
        rw [b8_toNat (224 + n / 4096) (by omega) (by omega)]
        have hf : fsz (224 + n / 4096) = 3 := by unfold fsz; rw [if_neg (by omega), if_neg (by omega), if_pos (by omega)]
        have hb : fbt (224 + n / 4096) = n / 4096 := by unfold fbt; rw [if_neg (by omega), if_neg (by omega), if_pos (by omega)]; omega
        have hl : slen n = 3 := by unfold slen; rw [if_pos h, if_neg h1, if_neg h2, if_pos h3]
        rw [hf, hb]
        have e : (n / 4096 * 64 + (128 + n / 64 % 64) % 64) * 64 + (128 + n % 64) % 64 = n := by omega
        simp only [show ((3 : Int).toNat - 1) = 2 from rfl, decN]
        rw [b8_toNat (128 + n % 64) (by omega) (by omega), b8_toNat (128 + n / 64 % 64) (by omega) (by omega), if_neg (by omega), if_pos (by omega), if_pos (by omega), e]
        simp [hl]
      · simp only [if_neg h1, if_neg h2, if_neg h3, List.cons_append, List.nil_append, dec]
        rw [b8_toNat (240 + n / 262144) (by omega) (by omega)]
        have hf : fsz (240 + n / 262144) = 4 := by unfold fsz; rw [if_neg (by omega), if_neg (by omega), if_neg (by omega), if_pos (by omega)]
        have hb : fbt (240 + n / 262144) = n / 262144 := by unfold fbt; rw [if_neg (by omega), if_neg (by omega), if_neg (by omega), if_pos (by omega)]; omega
        have hl : slen n = 4 := by unfold slen; rw [if_pos h, if_neg h1, if_neg h2, if_neg h3]
        rw [hf, hb]
        have e : ((n / 262144 * 64 + (128 + n / 4096 % 64) % 64) * 64 + (128 + n / 64 % 64) % 64) * 64 + (128 + n % 64) % 64 = n := by omega
        simp only [show ((4 : Int).toNat - 1) = 3 from rfl, decN]
        rw [b8_toNat (128 + n % 64) (by omega) (by omega), b8_toNat (128 + n / 64 % 64) (by omega) (by omega), b8_toNat (128 + n / 4096 % 64) (by omega) (by omega), if_neg (by omega), if_pos (by omega), if_pos (by omega), if_pos (by omega), e]
        simp [hl]
theorem slen_pos (n : Int) (h : slen n ≠ 0) : sgn n = true := by
  unfold slen at h
  split at h
  · assumption
  · exact absurd rfl h
theorem slen_bd (n : Int) : 0 ≤ slen n ∧ slen n ≤ 4 := by unfold slen; repeat' split <;> omega
theorem dec_some (l : List UInt8) (n k : Int) (h : dec l = (n, k)) (hk : k ≠ 0) : sgn n = true ∧ slen n = k ∧ ∃ rest, l = enc n ++ rest := by
  cases l with
  | nil => simp [dec] at h; omega
  | cons c l =>
    have hc := u8_lt c
    simp only [dec] at h
    by_cases h0 : fsz c.toNat = 0
    · rw [if_pos h0] at h; simp at h; omega
    · rw [if_neg h0] at h
      cases hd : decN (fbt c.toNat) ((fsz c.toNat).toNat - 1) l with
      | none => rw [hd] at h; simp at h; omega
      | some r =>
        rw [hd] at h
        simp only at h
        by_cases hl : slen r = fsz c.toNat
        · rw [if_pos hl] at h
          simp only [Prod.mk.injEq] at h
          obtain ⟨rfl, rfl⟩ := h
          have hs := slen_pos r (by omega)
          refine ⟨hs, hl, ?_⟩
          have hr := (sgn_iff r).1 hs
          unfold slen at hl
          rw [if_pos hs] at hl
          unfold enc
          rw [if_pos hs]
          by_cases c1 : (c.toNat : Int) < 128
          · have e1 : fsz c.toNat = 1 := by unfold fsz; rw [if_pos c1]
            have e2 : fbt c.toNat = c.toNat := by unfold fbt; rw [if_pos c1]
            rw [e1, e2] at hd
            simp [decN] at hd
            subst hd
            rw [if_pos c1]
            exact ⟨l, by rw [b8_of c _ rfl]; rfl⟩
          · by_cases c2 : (c.toNat : Int) / 32 = 6
            · have e1 : fsz c.toNat = 2 := by unfold fsz; rw [if_neg c1, if_pos c2]
              have e2 : fbt c.toNat = (c.toNat : Int) % 32 := by unfold fbt; rw [if_neg c1, if_pos c2]
              rw [e1, e2] at hd
              rw [e1] at hl
              have : (2 : Int).toNat - 1 = 1 := rfl
              rw [this] at hd
              cases l with
              | nil => simp [decN] at hd
              | cons x l =>
                have hx := u8_lt x
                simp only [decN] at hd
                split at hd
                · simp only [Option.some.injEq] at hd
                  have n1 : ¬ r < 128 := by intro q; rw [if_pos q] at hl; omega
                  have n2 : r < 2048 := by
                    rcases Int.lt_or_le r 2048 with q | q
                    · exact q
                    · rw [if_neg n1, if_neg (by omega)] at hl; split at hl <;> omega
                  rw [if_neg n1, if_pos n2, b8_of c (192 + r / 64) (by omega), b8_of x (128 + r % 64) (by omega)]
                  exact ⟨l, rfl⟩
                · cases hd
            · by_cases c3 : (c.toNat : Int) / 16 = 14
              · have e1 : fsz c.toNat = 3 := by unfold fsz; rw [if_neg c1, if_neg c2, if_pos c3]
                have e2 : fbt c.toNat = (c.toNat : Int) % 16 := by unfold fbt; rw [if_neg c1, if_neg c2, if_pos c3]
                rw [e1, e2] at hd
                rw [e1] at hl
                have : (3 : Int).toNat - 1 = 2 := rfl
                rw [this] at hd
                match l, hd with
                | [], hd => simp [decN] at hd
                | [x], hd => simp [decN] at hd
                | x :: y :: l, hd =>
                  have hx := u8_lt x
                  have hy := u8_lt y
                  simp only [decN] at hd
                  split at hd
                  · split at hd
                    · simp only [Option.some.injEq] at hd
                      have n1 : ¬ r < 128 := by intro q; rw [if_pos q] at hl; omega
                      have n2 : ¬ r < 2048 := by intro q; rw [if_neg n1, if_pos q] at hl; omega
                      have n3 : r < 65536 := by
                        rcases Int.lt_or_le r 65536 with q | q
                        · exact q
                        · rw [if_neg n1, if_neg n2, if_neg (by omega)] at hl; omega
                      rw [if_neg n1, if_neg n2, if_pos n3, b8_of c (224 + r / 4096) (by omega), b8_of x (128 + r / 64 % 64) (by omega), b8_of y (128 + r % 64) (by omega)]
                      exact ⟨l, rfl⟩
                    · cases hd
                  · cases hd
              · by_cases c4 : (c.toNat : Int) / 8 = 30
                · have e1 : fsz c.toNat = 4 := by unfold fsz; rw [if_neg c1, if_neg c2, if_neg c3, if_pos c4]
                  have e2 : fbt c.toNat = (c.toNat : Int) % 8 := by unfold fbt; rw [if_neg c1, if_neg c2, if_neg c3, if_pos c4]
                  rw [e1, e2] at hd
                  rw [e1] at hl
                  have : (4 : Int).toNat - 1 = 3 := rfl
                  rw [this] at hd
                  match l, hd with
                  | [], hd => simp [decN] at hd
                  | [x], hd => simp [decN] at hd
                  | [x, y], hd => simp [decN] at hd
                  | x :: y :: z :: l, hd =>
                    have hx := u8_lt x
                    have hy := u8_lt y
                    have hz := u8_lt z
                    simp only [decN] at hd
                    split at hd
                    · split at hd
                      · split at hd
                        · simp only [Option.some.injEq] at hd
                          have n1 : ¬ r < 128 := by intro q; rw [if_pos q] at hl; omega
                          have n2 : ¬ r < 2048 := by intro q; rw [if_neg n1, if_pos q] at hl; omega
                          have n3 : ¬ r < 65536 := by intro q; rw [if_neg n1, if_neg n2, if_pos q] at hl; omega
                          rw [if_neg n1, if_neg n2, if_neg n3, b8_of c (240 + r / 262144) (by omega), b8_of x (128 + r / 4096 % 64) (by omega), b8_of y (128 + r / 64 % 64) (by omega), b8_of z (128 + r % 64) (by omega)]
                          exact ⟨l, rfl⟩
                        · cases hd
                      · cases hd
                    · cases hd
                · exfalso
                  apply h0
                  unfold fsz
                  rw [if_neg c1, if_neg c2, if_neg c3, if_neg c4]
        · rw [if_neg hl] at h; simp at h; omega
end Wb
namespace Wb
def inS (r : Int) (l : List (Int × Int)) : Bool := l.any fun x => decide (x.1 ≤ r) && decide (r ≤ x.2)
end Wb
namespace Wb
def signS : List (Int × Int) := [(0, 55295), (57344, 1114111)]
def charS : List (Int × Int) := [(9, 10), (13, 13), (32, 55295), (57344, 65533), (65536, 1114111)]
def startS : List (Int × Int) := [(65, 90), (97, 122), (95, 95), (192, 214), (216, 246), (248, 767), (880, 893), (895, 8191), (8204, 8205), (8304, 8591), (11264, 12271), (12289, 55295), (63744, 64975), (65008, 65533), (65536, 983039)]
def partS : List (Int × Int) := [(45, 46), (48, 57), (183, 183), (768, 879), (8255, 8256)]
def charB (r : Int) : Bool := inS r charS
def startB (r : Int) : Bool := inS r startS
def partB (r : Int) : Bool := startB r || inS r partS
theorem inS_sign (r : Int) : inS r signS = sgn r := by
  rw [Bool.eq_iff_iff, sgn_iff]
  simp [inS, signS]
  omega
theorem start_part (r : Int) (h : startB r = true) : partB r = true := by unfold partB; rw [h]; rfl
theorem char_sgn (r : Int) (h : charB r = true) : sgn r = true := by
  rw [sgn_iff]
  simp [inS, charB, charS] at h
  omega
end Wb
namespace Wb
def runeS (s : ByteArray) (at_ : Int) : Int × Int := if at_ < 0 ∨ (s.size : Int) ≤ at_ then (0, 0) else dec (s.data.toList.drop at_.toNat)
theorem drop_cons (s : ByteArray) (k : Nat) (h : k < s.size) : s.data.toList.drop k = s[k] :: s.data.toList.drop (k + 1) := by
  rw [List.drop_eq_getElem_cons (by simpa using h)]; rfl
def decZ (z b : Int) (l : List UInt8) : Int × Int :=
  if z = 0 then (0, 0) else
    match decN b (z.toNat - 1) l with
    | none => (0, 0)
    | some r => if slen r = z then (r, z) else (0, 0)
theorem dec_cons (c : UInt8) (l : List UInt8) : dec (c :: l) = decZ (fsz c.toNat) (fbt c.toNat) l := rfl
theorem runeS_in (s : ByteArray) (k : Nat) (h : k < s.size) : runeS s k = decZ (fsz s[k].toNat) (fbt s[k].toNat) (s.data.toList.drop (k + 1)) := by
  unfold runeS
  rw [if_neg (by omega), Int.toNat_natCast, drop_cons s k h, dec_cons]
theorem decN_short : ∀ (m : Nat) (r : Int) (l : List UInt8), l.length < m → decN r m l = none
  | 0, _, _, h => absurd h (by omega)
  | m + 1, r, [], _ => rfl
  | m + 1, r, c :: l, h => by
    unfold decN
    split
    · exact decN_short m _ l (by simpa using h)
    · rfl
theorem decZ_short (z b : Int) (l : List UInt8) (h : (l.length : Int) + 1 < z) : decZ z b l = (0, 0) := by
  unfold decZ
  rw [if_neg (by omega), decN_short _ _ _ (by omega)]
theorem decZ_some (z b r : Int) (l : List UInt8) (h : z ≠ 0) (hd : decN b (z.toNat - 1) l = some r) : decZ z b l = if slen r = z then (r, z) else (0, 0) := by
  unfold decZ
  rw [if_neg h, hd]
theorem decZ_none (z b : Int) (l : List UInt8) (h : z ≠ 0) (hd : decN b (z.toNat - 1) l = none) : decZ z b l = (0, 0) := by
  unfold decZ
  rw [if_neg h, hd]
theorem fbt_bd (c : Int) (h0 : 0 ≤ c) (h1 : c < 256) : 0 ≤ fbt c ∧ fbt c < 128 := by unfold fbt; repeat' split <;> omega
theorem decN_step (s : ByteArray) (r : Int) (m k : Nat) (h : k < s.size) :
    decN r (m + 1) (s.data.toList.drop k) = if (s[k].toNat : Int) / 64 = 2 then decN (r * 64 + (s[k].toNat : Int) % 64) m (s.data.toList.drop (k + 1)) else none := by
  rw [drop_cons s k h]; rfl
end Wb
namespace Wb
theorem rune_bad (s : ByteArray) (k j : Nat) (z b q : Int) (hj : (j : Int) + 1 < z) (hk : k + (j + 1) < s.size)
    (hd : decN b (z.toNat - 1) (s.data.toList.drop (k + 1)) = decN q (z.toNat - 1 - j) (s.data.toList.drop (k + 1 + j)))
    (hb : ¬ (s[k + (j + 1)].toNat : Int) / 64 = 2) : decZ z b (s.data.toList.drop (k + 1)) = (0, 0) := by
  refine decZ_none _ _ _ (by omega) (hd.trans ?_)
  obtain ⟨m, hm⟩ : ∃ m, z.toNat - 1 - j = m + 1 := ⟨z.toNat - 1 - j - 1, by omega⟩
  have e : k + 1 + j = k + (j + 1) := by omega
  rw [hm, e, decN_step s q m _ hk, if_neg hb]
theorem rune_step (s : ByteArray) (k j : Nat) (z b q : Int) (hj : (j : Int) + 1 < z) (hk : k + (j + 1) < s.size)
    (hd : decN b (z.toNat - 1) (s.data.toList.drop (k + 1)) = decN q (z.toNat - 1 - j) (s.data.toList.drop (k + 1 + j)))
    (hb : (s[k + (j + 1)].toNat : Int) / 64 = 2) :
    decN b (z.toNat - 1) (s.data.toList.drop (k + 1)) = decN (q * 64 + (s[k + (j + 1)].toNat : Int) % 64) (z.toNat - 1 - (j + 1)) (s.data.toList.drop (k + 1 + (j + 1))) := by
  rw [hd]
  obtain ⟨m, hm⟩ : ∃ m, z.toNat - 1 - j = m + 1 := ⟨z.toNat - 1 - j - 1, by omega⟩
  have e : k + 1 + j = k + (j + 1) := by omega
  have e2 : k + 1 + (j + 1) = k + (j + 1) + 1 := by omega
  have e3 : z.toNat - 1 - (j + 1) = m := by omega
  rw [hm, e, decN_step s q m _ hk, if_pos hb, e2, e3]
theorem rune_end (s : ByteArray) (k j : Nat) (z b q : Int) (hj : (j : Int) + 1 = z)
    (hd : decN b (z.toNat - 1) (s.data.toList.drop (k + 1)) = decN q (z.toNat - 1 - j) (s.data.toList.drop (k + 1 + j))) :
    decZ z b (s.data.toList.drop (k + 1)) = if slen q = z then (q, z) else (0, 0) := by
  refine decZ_some _ _ _ _ (by omega) (hd.trans ?_)
  have e : z.toNat - 1 - j = 0 := by omega
  rw [e]; rfl
theorem pow_bd (j : Nat) (h : j ≤ 2) (q : Int) (hq : q < 128 * 64 ^ j) : q < 524288 := by
  have : j = 0 ∨ j = 1 ∨ j = 2 := by omega
  rcases this with rfl | rfl | rfl <;> simp at hq <;> omega
theorem pow_next (j : Nat) (q c : Int) (hq : q < 128 * 64 ^ j) (hc : c < 64) : q * 64 + c < 128 * 64 ^ (j + 1) := by
  rw [Int.pow_succ]; omega
end Wb
namespace Wb
theorem dec_bd (l : List UInt8) : 0 ≤ (dec l).2 ∧ (dec l).2 ≤ 4 ∧ (dec l).2 ≤ l.length := by
  obtain ⟨n, k, hd⟩ : ∃ n k, dec l = (n, k) := ⟨_, _, rfl⟩
  rw [hd]
  show 0 ≤ k ∧ k ≤ 4 ∧ k ≤ l.length
  by_cases h : k = 0
  · omega
  · obtain ⟨h1, h2, rest, h3⟩ := dec_some l n k hd h
    have hb := slen_bd n
    have hl := enc_length n
    have : l.length = (enc n).length + rest.length := by rw [h3]; simp
    omega
end Wb
namespace Wb
end Wb
namespace Wb
def chkL : Nat → List UInt8 → Int → Int
  | 0, _, _ => -1
  | _ + 1, [], _ => -1
  | f + 1, c :: l, base => if (dec (c :: l)).2 = 0 then base else chkL f ((c :: l).drop (dec (c :: l)).2.toNat) (base + (dec (c :: l)).2)
def chk (l : List UInt8) : Int := chkL l.length l 0
theorem flat_dec (n : Int) (ns : List Int) (r : List UInt8) (h : sgn n = true) : dec ((n :: ns).flatMap enc ++ r) = (n, slen n) := by
  rw [List.flatMap_cons, List.append_assoc]; exact dec_enc n h _
theorem slen_one (n : Int) (h : sgn n = true) : 1 ≤ slen n := by
  unfold slen; rw [if_pos h]; repeat' split <;> omega
theorem flat_drop (n : Int) (ns : List Int) (r : List UInt8) : ((n :: ns).flatMap enc ++ r).drop (slen n).toNat = ns.flatMap enc ++ r := by
  rw [List.flatMap_cons, List.append_assoc]
  have := enc_length n
  rw [show (slen n).toNat = (enc n).length by omega, List.drop_left]
theorem dec_pair (l : List UInt8) : ∃ n k, dec l = (n, k) := ⟨(dec l).1, (dec l).2, rfl⟩
theorem form : ∀ (f : Nat) (l : List UInt8), l.length ≤ f → ∃ (ns : List Int) (r : List UInt8), (∀ n ∈ ns, sgn n = true) ∧ l = ns.flatMap enc ++ r ∧ (dec r).2 = 0
  | 0, l, h => ⟨[], l, by simp, by simp, by
      have : l = [] := List.eq_nil_of_length_eq_zero (by omega)
      subst this; rfl⟩
  | f + 1, l, h => by
    by_cases h0 : (dec l).2 = 0
    · exact ⟨[], l, by simp, by simp, h0⟩
    · obtain ⟨n, k, hd⟩ := dec_pair l
      rw [hd] at h0
      obtain ⟨h1, h2, rest, h3⟩ := dec_some l n k hd h0
      have hl := enc_length n
      have hs := slen_one n h1
      have hlen : l.length = (enc n).length + rest.length := by rw [h3]; simp
      obtain ⟨ns, r, a1, a2, a3⟩ := form f rest (by omega)
      refine ⟨n :: ns, r, ?_, ?_, a3⟩
      · intro m hm
        rcases List.mem_cons.1 hm with rfl | hm
        · exact h1
        · exact a1 m hm
      · rw [h3, List.flatMap_cons, List.append_assoc, ← a2]
theorem chkL_form : ∀ (ns : List Int) (r : List UInt8) (f : Nat) (base : Int), (∀ n ∈ ns, sgn n = true) → (dec r).2 = 0 → (ns.flatMap enc ++ r).length ≤ f →
    chkL f (ns.flatMap enc ++ r) base = if r = [] then -1 else base + (ns.flatMap enc).length
  | [], r, f, base, _, h, hf => by
    simp only [List.flatMap_nil, List.nil_append] at *
    cases r with
    | nil => cases f <;> rfl
    | cons c l =>
      cases f with
      | zero => simp at hf
      | succ f => simp [chkL, h]
  | n :: ns, r, f, base, hs, h, hf => by
    have h1 := hs n (by simp)
    have hd := flat_dec n ns r h1
    have hr := flat_drop n ns r
    have hsl := slen_one n h1
    have hel := enc_length n
    have hne : (n :: ns).flatMap enc ++ r ≠ [] := by
      intro e
      rw [e] at hd
      have := congrArg Prod.snd hd
      simp [dec] at this
      omega
    have hlen : ((n :: ns).flatMap enc ++ r).length = (enc n).length + (ns.flatMap enc ++ r).length := by
      simp
    rw [hlen] at hf
    have ih := chkL_form ns r
    generalize hL : (n :: ns).flatMap enc ++ r = L at *
    cases L with
    | nil => exact absurd rfl hne
    | cons c l =>
      cases f with
      | zero => omega
      | succ f =>
        unfold chkL
        rw [hd, if_neg (by show ¬ slen n = 0; omega)]
        show chkL f (List.drop (slen n).toNat (c :: l)) (base + slen n) = _
        rw [hr, ih f _ (fun m hm => hs m (by simp [hm])) h (by omega)]
        split
        · rfl
        · rw [List.flatMap_cons, List.length_append]; omega
theorem chk_form (ns : List Int) (r : List UInt8) (hs : ∀ n ∈ ns, sgn n = true) (h : (dec r).2 = 0) :
    chk (ns.flatMap enc ++ r) = if r = [] then -1 else ((ns.flatMap enc).length : Int) := by
  unfold chk
  rw [chkL_form ns r _ 0 hs h (Nat.le_refl _)]
  simp
theorem chk_bd (l : List UInt8) : chk l = -1 ∨ (0 ≤ chk l ∧ chk l < l.length) := by
  obtain ⟨ns, r, h1, h2, h3⟩ := form _ l (Nat.le_refl _)
  rw [h2, chk_form ns r h1 h3]
  by_cases hr : r = []
  · simp [hr]
  · rw [if_neg hr]
    have : 0 < r.length := List.length_pos_iff.2 hr
    right
    simp
    omega
def nameL : Nat → List UInt8 → Bool
  | 0, _ => true
  | _ + 1, [] => true
  | f + 1, c :: l => if (dec (c :: l)).2 = 0 then false else partB (dec (c :: l)).1 && nameL f ((c :: l).drop (dec (c :: l)).2.toNat)
def nameB (l : List UInt8) : Bool :=
  decide (l.length ≤ 64) && (decide ((dec l).2 ≠ 0) && (startB (dec l).1 && nameL l.length (l.drop (dec l).2.toNat)))
theorem nameL_form : ∀ (ns : List Int) (f : Nat), (∀ n ∈ ns, sgn n = true) → (ns.flatMap enc).length ≤ f → nameL f (ns.flatMap enc) = ns.all partB
  | [], f, _, _ => by cases f <;> rfl
  | n :: ns, f, hs, hf => by
    have h1 := hs n (by simp)
    have hd := flat_dec n ns [] h1
    have hr := flat_drop n ns []
    rw [List.append_nil] at hd hr
    rw [List.append_nil] at hr
    have hsl := slen_one n h1
    have hel := enc_length n
    have hne : (n :: ns).flatMap enc ≠ [] := by
      intro e
      rw [e] at hd
      have := congrArg Prod.snd hd
      simp [dec] at this
      omega
    have hlen : ((n :: ns).flatMap enc).length = (enc n).length + (ns.flatMap enc).length := by simp
    rw [hlen] at hf
    have ih := nameL_form ns
    generalize hL : (n :: ns).flatMap enc = L at *
    cases L with
    | nil => exact absurd rfl hne
    | cons c l =>
      cases f with
      | zero => omega
      | succ f =>
        unfold nameL
        rw [hd, if_neg (by show ¬ slen n = 0; omega)]
        show (partB n && nameL f (List.drop (slen n).toNat (c :: l))) = _
        rw [hr, ih f (fun m hm => hs m (by simp [hm])) (by omega)]
        rfl
end Wb
namespace Wb
open Go
def eqT (a b : ByteArray) : Bool := a.toList == b.toList
theorem eqT_iff (a b : ByteArray) : eqT a b = true ↔ a = b := by
  unfold eqT
  rw [ByteArray.toList_eq, ByteArray.toList_eq, beq_iff_eq]
  constructor
  · intro h
    cases a; cases b
    simp only at h
    rw [Array.toList_inj.1 h]
  · rintro rfl; rfl
theorem eqT_dec (a b : ByteArray) : eqT a b = decide (a = b) := by
  rw [Bool.eq_iff_iff, eqT_iff]; simp
theorem eqT_self (a : ByteArray) : eqT a a = true := (eqT_iff _ _).2 rfl
theorem toList_nil_iff (a : ByteArray) : a.toList = [] ↔ a = ⟨#[]⟩ := by
  rw [ByteArray.toList_eq]
  constructor
  · intro h; cases a; simp only at h; rw [Array.toList_eq_nil_iff.1 h]
  · rintro rfl; rfl
def sE : ByteArray := ⟨#[]⟩
def sXmlns : ByteArray := ⟨#[120, 109, 108, 110, 115]⟩
def sXMLNS : ByteArray := ⟨#[104, 116, 116, 112, 58, 47, 47, 119, 119, 119, 46, 119, 51, 46, 111, 114, 103, 47, 50, 48, 48, 48, 47, 120, 109, 108, 110, 115, 47]⟩
theorem empty_eq (p : ByteArray) : p.toList.isEmpty = eqT p sE := by
  unfold eqT
  rw [(toList_nil_iff sE).2 rfl]
  cases p.toList <;> rfl
theorem take_snoc {α : Type} (l : List α) (k : Nat) (x : α) (h : l[k]? = some x) : l.take (k + 1) = l.take k ++ [x] := by
  rw [List.take_add_one, h]; rfl
def eqP (a b : Pr) : Bool := eqT a.1 b.1 && eqT a.2 b.2
theorem eqP_iff (a b : Pr) : eqP a b = true ↔ a = b := by
  unfold eqP
  rw [Bool.and_eq_true, eqT_iff, eqT_iff]
  constructor
  · rintro ⟨h1, h2⟩; exact Prod.ext h1 h2
  · rintro rfl; exact ⟨rfl, rfl⟩
end Wb
namespace Wb
open Go Go.RowKit
structure Keep (S : Nat → Prop) (w w' : World) : Prop where
  os : w'.os = w.os
  tape : w'.tape = w.tape
  output : w'.output = w.output
  size : w.heap.size ≤ w'.heap.size
  block : ∀ k, k < w.heap.size → ¬ S k → w'.heap[k]? = w.heap[k]?
section
variable {S S' : Nat → Prop} {w w' w2 : World}
theorem Keep.refl (S : Nat → Prop) (w : World) : Keep S w w := ⟨rfl, rfl, rfl, Nat.le_refl _, fun _ _ _ => rfl⟩
theorem Keep.trans (h : Keep S w w') (k : Keep S w' w2) : Keep S w w2 :=
  ⟨k.os.trans h.os, k.tape.trans h.tape, k.output.trans h.output, Nat.le_trans h.size k.size, fun i hi hs => (k.block i (Nat.lt_of_lt_of_le hi h.size) hs).trans (h.block i hi hs)⟩
theorem Keep.of_below (S : Nat → Prop) (h : Below w.heap.size w w') : Keep S w w' := ⟨h.os, h.tape, h.output, h.size, fun k hk _ => h.block k hk⟩
theorem Keep.setCell (h : Keep S w w') {p : Addr} (hp : S p.block) (u : Value) : Keep S w (w'.setCell p u) :=
  h.trans ⟨rfl, rfl, rfl, by simp [World.setCell], fun k _ hn => Below.heap_setCell _ _ _ _ (fun e => hn (by rw [e]; exact hp))⟩
theorem own_blk {base sz n : Nat} {e : TypeId} {v : Value} {xs : List Value} (h : w.ownsRow base e sz v n xs) (hb : ∀ k, v.ownBlock = some k → w'.heap[k]? = w.heap[k]?) : w'.ownsRow base e sz v n xs := by
  refine ⟨h.1, ?_⟩
  rcases h.2 with h2 | ⟨g, cap, cur, rfl, hbg, hg, rest⟩
  · exact .inl h2
  · exact .inr ⟨g, cap, cur, rfl, hbg, (hb g rfl).trans hg, rest⟩
theorem own_in {base sz n g : Nat} {e : TypeId} {v : Value} {xs : List Value} (h : w.ownsRow base e sz v n xs) (hv : v.ownBlock = some g) : base ≤ g ∧ g < w.heap.size := h.lt g hv
end
theorem flat_at {m : Nat} : ∀ {css : List (List Value)}, (∀ cs ∈ css, cs.length = m) → ∀ (i : Nat) (cs : List Value), css[i]? = some cs → ∀ j, j < m → css.flatten[i * m + j]? = cs[j]?
  | [], _, i, cs, h, _, _ => by simp at h
  | c :: css, hl, 0, cs, h, j, hj => by
    simp only [List.getElem?_cons_zero, Option.some.injEq] at h
    subst h
    rw [List.flatten_cons, Nat.zero_mul, Nat.zero_add, List.getElem?_append_left (by rw [hl c (by simp)]; exact hj)]
  | c :: css, hl, i + 1, cs, h, j, hj => by
    have := flat_at (css := css) (fun d hd => hl d (by simp [hd])) i cs (by simpa using h) j hj
    have hc := hl c (by simp)
    rw [List.flatten_cons, List.getElem?_append_right (by rw [hc, Nat.add_mul]; omega), ← this, hc]
    congr 1
    rw [Nat.add_mul]
    omega
section
variable {tN tE tB : TypeId} {S S' : Nat → Prop} {w w' : World} {base B : Nat} {ov kv : Value}
variable {rc : List Value}
theorem blk_in {w : World} {g : Nat} {o : Obj} (h : w.heap[g]? = some o) : g < w.heap.size := (Array.getElem?_eq_some_iff.1 h).1
end
end Wb
namespace Go.Proofs.Ytlcjepnaljfpkaa
open Go.RowKit Wb
set_option maxHeartbeats 400000 in
theorem first_any (c : Int) (w : World) (h0 : 0 ≤ c) (h1 : c < 256) :
    Calls Try.prog 69 #[.int .u8 c] w fun e w' => e = .returned (.tuple #[.int .i64 (fsz c), .int .i32 (fbt c)]) ∧ w = w' := by
  have k31 := u8_and31 c h0 h1
  have k15 := u8_and15 c h0 h1
  have k7 := u8_and7 c h0 h1
  go_enter Try.func69, Try.ntmps69
  go_wp2
  all_goals
    go_ret2
    refine ⟨ret_ii ?_ ?_, rfl⟩
    all_goals
      try simp only [beq_iff_eq, beq_eq_false_iff_ne] at *
      first | unfold fsz | unfold fbt
      repeat (first | (rw [if_pos (by omega)]) | (rw [if_neg (by omega)]))
theorem inS_take (r : Int) (l : List (Int × Int)) (k : Nat) (h : k < l.length) (h0 : inS r (l.take k) = false) :
    inS r (l.take (k + 1)) = (decide (l[k].1 ≤ r) && decide (r ≤ l[k].2)) := by
  unfold inS at *
  rw [List.take_succ_eq_append_getElem h, List.any_append, h0]
  simp
theorem inS_mono (r : Int) (l : List (Int × Int)) (j : Nat) (h : true = inS r (l.take j)) : true = inS r l := by
  unfold inS at *
  have h := h.symm
  rw [List.any_eq_true] at h
  obtain ⟨x, hx, hp⟩ := h
  exact (List.any_eq_true.2 ⟨x, List.mem_of_mem_take hx, hp⟩).symm
set_option maxHeartbeats 400000 in
theorem within_any (r : Int) (l : List (Int × Int)) (b n : Nat) (w : World) (hn : l.length = n) (hn1 : n ≤ 1000) (hb : b < w.heap.size)
    (hc : ∀ k (h : k < l.length), w.cell? ⟨b, k * 2, none⟩ = some (.int .i32 l[k].1) ∧ w.cell? ⟨b, k * 2 + 1, none⟩ = some (.int .i32 l[k].2)) :
    Calls Try.prog 68 #[.int .i32 r, .slice (some ⟨b, 0, none⟩) n n] w fun e w' => e = .returned (.bool (inS r l)) ∧ Below w.heap.size w w' := by
  have HC := Lib.hid hc
  have HN := Lib.hid hn
  clear hc hn
  go_enter Try.func68, Try.ntmps68
  go_wp2
  go_loopw [9] (fun i wr => ∃ k : Nat, k ≤ n ∧ i = .int .i64 k ∧ Hid (inS r (l.take k) = false) ∧ Below w.heap.size w wr) (fun i _ => n - (intOf i).toNat)
  case atStart => exact ⟨0, Nat.zero_le _, rfl, rfl, Below.refl _ _⟩
  case round =>
    obtain ⟨k, hk, rfl, HI, hbel⟩ := hrel
    by_cases hlt : k < n
    · have hk' : k < l.length := by rw [HN.out]; exact hlt
      have hs := hbel.size
      obtain ⟨lo, hi, e1, e2, HS⟩ : ∃ lo hi, wr.cell? ⟨b, k * 2, none⟩ = some (.int .i32 lo) ∧ wr.cell? ⟨b, k * 2 + 1, none⟩ = some (.int .i32 hi) ∧ Hid (inS r (l.take (k + 1)) = (decide (lo ≤ r) && decide (r ≤ hi))) :=
        ⟨_, _, (hbel.cell (p := ⟨b, k * 2, none⟩) hb).trans (HC.out k hk').1, (hbel.cell (p := ⟨b, k * 2 + 1, none⟩) hb).trans (HC.out k hk').2, inS_take r l k hk' HI.out⟩
      go_wp2
      · go_ret
        refine ⟨ret_b (inS_mono r l (k + 1) ?_), hbel.alloc hs _⟩
        rw [HS.out]
        simp [*]
      all_goals
        go_roundw
        case rel => exact ⟨k + 1, by omega, by go_num, Lib.hid (by rw [HS.out]; simp; omega), hbel.alloc hs _⟩
        case measure => simp [intOf]; omega
    · go_wp2
      go_ret
      refine ⟨ret_b ?_, hbel⟩
      have HI' := HI.out
      rw [List.take_of_length_le (by rw [HN.out]; omega)] at HI'
      exact HI'.symm
end Go.Proofs.Ytlcjepnaljfpkaa
namespace Go.Proofs.Ytlcjepnaljfpkaa
open Go.RowKit Wb
def flatV (kd : IntKind) : List (Int × Int) → List Value
  | [] => []
  | x :: l => .int kd x.1 :: .int kd x.2 :: flatV kd l
theorem flatV_at (kd : IntKind) : ∀ (l : List (Int × Int)) (k : Nat) (h : k < l.length),
    (flatV kd l)[2 * k]? = some (.int kd l[k].1) ∧ (flatV kd l)[2 * k + 1]? = some (.int kd l[k].2)
  | [], k, h => absurd h (by simp)
  | x :: l, 0, _ => ⟨rfl, rfl⟩
  | x :: l, k + 1, h => by
    have := flatV_at kd l k (by simpa using h)
    simpa [flatV, Nat.mul_add] using this
theorem spans_at (kd : IntKind) (cs : Array Value) (T : TypeId) (w : World) (l : List (Int × Int)) (e : cs = (flatV kd l).toArray) (k : Nat) (h : k < l.length) :
    (w.alloc (.cells cs T)).cell? ⟨w.heap.size, k * 2, none⟩ = some (.int kd l[k].1) ∧ (w.alloc (.cells cs T)).cell? ⟨w.heap.size, k * 2 + 1, none⟩ = some (.int kd l[k].2) := by
  have hf := flatV_at kd l k h
  have hh := heap_alloc_new w (.cells cs T)
  rw [cell_of_row _ _ _ cs T (0, 0) hh, cell_of_row _ _ _ cs T (0, 0) hh, e]
  rw [Nat.mul_comm k 2]
  simpa using hf
theorem below_alloc_trans {w w' : World} {o : Obj} (h : Below (w.alloc o).heap.size (w.alloc o) w') : Below w.heap.size w w' :=
  ((Below.refl _ _).alloc (Nat.le_refl _) o).trans (h.mono (by simp))
set_option maxHeartbeats 400000 in
theorem char_any (r : Int) (w : World) :
    Calls Try.prog 62 #[.int .i32 r] w fun e w' => e = .returned (.bool (charB r)) ∧ Below w.heap.size w w' := by
  go_enter Try.func62, Try.ntmps62
  go_wp2_with fail
  refine (within_any r charS _ 5 _ rfl (by omega) (by simp) (spans_at .i32 _ _ w charS rfl)).mono ?_
  rintro e w' ⟨rfl, hb⟩
  go_wp2
  go_ret
  exact ⟨rfl, below_alloc_trans hb⟩
set_option maxHeartbeats 400000 in
theorem start_any (r : Int) (w : World) :
    Calls Try.prog 64 #[.int .i32 r] w fun e w' => e = .returned (.bool (startB r)) ∧ Below w.heap.size w w' := by
  go_enter Try.func64, Try.ntmps64
  go_wp2_with fail
  refine (within_any r startS _ 15 _ rfl (by omega) (by simp) (spans_at .i32 _ _ w startS rfl)).mono ?_
  rintro e w' ⟨rfl, hb⟩
  go_wp2
  go_ret
  exact ⟨rfl, below_alloc_trans hb⟩
set_option maxHeartbeats 400000 in
theorem part_any (r : Int) (w : World) :
    Calls Try.prog 65 #[.int .i32 r] w fun e w' => e = .returned (.bool (partB r)) ∧ Below w.heap.size w w' := by
  cases hs : startB r
  all_goals
    have HP := Lib.hid (show partB r = (startB r || inS r partS) from rfl)
    rw [hs] at HP
    have HS := Lib.hid hs
    clear hs
    go_enter Try.func65, Try.ntmps65
    go_wp2_with fail
    refine (start_any r _).mono ?_
    rw [HS.out]
    rintro e w1 ⟨rfl, hb1⟩
    go_wp2_with fail
  · refine (within_any r partS _ 5 _ rfl (by omega) (by simp) (spans_at .i32 _ _ w1 partS rfl)).mono ?_
    rintro e w' ⟨rfl, hb⟩
    go_wp2
    go_ret
    exact ⟨ret_b (by rw [HP.out]; simp), hb1.trans ((below_alloc_trans hb).mono hb1.size)⟩
  · go_ret
    exact ⟨ret_b (by rw [HP.out]; simp), hb1⟩
set_option maxHeartbeats 400000 in
theorem length_any (r : Int) (w : World) :
    Calls Try.prog 70 #[.int .i32 r] w fun e w' => e = .returned (.int .i64 (slen r)) ∧ Below w.heap.size w w' := by
  cases hs : sgn r
  all_goals
    have HL := Lib.hid (show slen r = if sgn r = true then (if r < 128 then 1 else if r < 2048 then 2 else if r < 65536 then 3 else 4) else 0 from rfl)
    rw [hs] at HL
    have HS := Lib.hid hs
    clear hs
    go_enter Try.func70, Try.ntmps70
    go_wp2_with fail
    refine (within_any r signS _ 2 _ rfl (by omega) (by simp) (spans_at .i32 _ _ w signS rfl)).mono ?_
    rw [inS_sign, HS.out]
    rintro e w1 ⟨rfl, hb1⟩
    go_wp2
    all_goals
      go_ret
      refine ⟨ret_i ?_, below_alloc_trans hb1⟩
      rw [HL.out]
      repeat (first | rfl | (rw [if_pos (by first | trivial | omega)]) | (rw [if_neg (by first | omega | decide)]))
end Go.Proofs.Ytlcjepnaljfpkaa
namespace Go.Proofs.Ytlcjepnaljfpkaa
open Go.RowKit Wb
set_option maxHeartbeats 400000 in
theorem rune_out (s : ByteArray) (i : Int) (w : World) (h : i < 0 ∨ (s.size : Int) ≤ i) (_hs : s.size ≤ 1000000000) :
    Calls Try.prog 63 #[.string s, .int .i64 i] w fun e w' => e = .returned (.tuple #[.int .i32 0, .int .i64 0]) ∧ Below w.heap.size w w' := by
  by_cases h0 : i < 0
  · clear h
    go_enter Try.func63, Try.ntmps63
    go_wp2
    go_ret2
    exact ⟨rfl, Below.refl _ _⟩
  · have h1 : (s.size : Int) ≤ i := by omega
    clear h
    go_enter Try.func63, Try.ntmps63
    go_wp2
    go_ret2
    exact ⟨rfl, Below.refl _ _⟩
theorem step_val (q c : Int) (h0 : 0 ≤ q) (h1 : q < 524288) (hc : 0 ≤ c) (hc1 : c < 256) :
    bits BinOp.or IntKind.i32 (wrap32 (q * 64)) (wrap32 (bits BinOp.and IntKind.u8 c 63)) = q * 64 + c % 64 := by
  rw [u8_and63 c hc hc1, show wrap32 (q * 64) = q * 64 from by unfold wrap32; omega, show wrap32 (c % 64) = c % 64 from by unfold wrap32; omega, i32_or64 q _ h0 (by omega) (by omega) (by omega)]
set_option maxHeartbeats 1000000 in
theorem rune_in (s : ByteArray) (k : Nat) (w : World) (h : k < s.size) (hs : s.size ≤ 1000000000) :
    Calls Try.prog 63 #[.string s, .int .i64 k] w fun e w' => e = .returned (.tuple #[.int .i32 (runeS s k).1, .int .i64 (runeS s k).2]) ∧ Below w.heap.size w w' := by
  have HR := Lib.hid (runeS_in s k h)
  go_enter Try.func63, Try.ntmps63
  go_wp2_with fail
  have hc := u8_lt s[k]
  have hz := fsz_bd s[k].toNat
  have hb := fbt_bd s[k].toNat (by omega) hc
  obtain ⟨hz0, hz4⟩ := hz
  obtain ⟨hb0, hb1⟩ := hb
  refine (first_any _ _ (by omega) hc).mono ?_
  clear hc
  generalize fsz (s[k].toNat : Int) = z at *
  generalize fbt (s[k].toNat : Int) = b at *
  rintro e w1 ⟨rfl, rfl⟩
  by_cases hz00 : z = 0
  · subst hz00
    go_wp2
    go_ret2
    refine ⟨?_, Below.refl _ _⟩
    rw [HR.out]; rfl
  · have hzz : (z == 0) = false := by simpa using hz00
    by_cases hlong : (s.size : Int) - k < z
    · go_wp2
      go_ret2
      refine ⟨?_, Below.refl _ _⟩
      rw [HR.out, decZ_short _ _ _ (by simp; omega)]; rfl
    · go_wp2
      go_loop [6, 4, 5] (fun i r z' => ∃ (j : Nat) (q : Int), (j : Int) + 1 ≤ z ∧ z' = .int .i64 z ∧ i = .int .i64 ((j : Int) + 1) ∧ r = .int .i32 q ∧ 0 ≤ q ∧ Hid (q < 128 * 64 ^ j) ∧
          Hid (decN b (z.toNat - 1) (s.data.toList.drop (k + 1)) = decN q (z.toNat - 1 - j) (s.data.toList.drop (k + 1 + j)))) (fun i _ _ => (z - intOf i).toNat)
      case atStart => exact ⟨0, b, by omega, rfl, rfl, rfl, hb0, Lib.hid (by omega), Lib.hid rfl⟩
      case round =>
        obtain ⟨j, q, hj, rfl, rfl, rfl, hq0, HB, HD⟩ := hrel
        by_cases hlt : (j : Int) + 1 < z
        · have hk' : k + (j + 1) < s.size := by omega
          go_wp2
          · have hbad : ((s[k + (j + 1)].toNat : Int) / 64 != 2) = true := by assumption
            go_ret2
            refine ⟨?_, Below.refl _ _⟩
            rw [HR.out, rune_bad s k j z b q hlt hk' HD.out (by simpa using hbad)]
            rfl
          · have hok : ((s[k + (j + 1)].toNat : Int) / 64 != 2) = false := by assumption
            have hok' : (s[k + (j + 1)].toNat : Int) / 64 = 2 := by simpa using hok
            have hc1 := u8_lt s[k + (j + 1)]
            have hq1 := pow_bd j (by omega) q HB.out
            have hv := step_val q s[k + (j + 1)].toNat hq0 hq1 (by omega) hc1
            go_round
            case rel => exact ⟨j + 1, q * 64 + (s[k + (j + 1)].toNat : Int) % 64, by omega, rfl, by go_num, by rw [hv], by omega, Lib.hid (pow_next j q _ HB.out (by omega)), Lib.hid (rune_step s k j z b q hlt hk' HD.out hok')⟩
            case measure => simp [intOf]; omega
        · have HE := Lib.hid (rune_end s k j z b q (by omega) HD.out)
          go_wp2_with fail
          refine (length_any q w).mono ?_
          by_cases hl : slen q = z
          · have HL := Lib.hid hl
            rw [hl]
            clear hl
            rintro e w1 ⟨rfl, hb1⟩
            go_wp2
            go_ret2
            refine ⟨?_, hb1⟩
            rw [HR.out, HE.out, if_pos HL.out]
            rfl
          · have HL := Lib.hid hl
            have hne : (slen q != z) = true := by simpa using hl
            clear hl
            rintro e w1 ⟨rfl, hb1⟩
            go_wp2
            go_ret2
            refine ⟨?_, hb1⟩
            rw [HR.out, HE.out, if_neg HL.out]
            rfl
theorem rune_any (s : ByteArray) (i : Int) (w : World) (hs : s.size ≤ 1000000000) :
    Calls Try.prog 63 #[.string s, .int .i64 i] w fun e w' => e = .returned (.tuple #[.int .i32 (runeS s i).1, .int .i64 (runeS s i).2]) ∧ Below w.heap.size w w' := by
  by_cases h : i < 0 ∨ (s.size : Int) ≤ i
  · have := rune_out s i w h hs
    unfold runeS
    rw [if_pos h]
    exact this
  · obtain ⟨k, rfl⟩ := Int.eq_ofNat_of_zero_le (by omega : 0 ≤ i)
    exact rune_in s k w (by omega) hs
end Go.Proofs.Ytlcjepnaljfpkaa
