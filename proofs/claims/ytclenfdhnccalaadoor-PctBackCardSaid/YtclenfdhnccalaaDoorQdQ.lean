
/- Pieces between bytes, plainly; what the loops over a text keep. No program in sight. -/
import Derived.Test.YtclenfdhnccalaaDoorQdP
namespace Wb
theorem pieceA_ne (by_ : UInt8) : ∀ (cur s : List UInt8), pieceA by_ cur s ≠ []
  | _, [] => by rw [pieceA]; simp
  | cur, c :: l => by
    rw [pieceA]
    split
    · simp
    · exact pieceA_ne by_ _ l
theorem joinB_cons (by_ : UInt8) (x : List UInt8) {l : List (List UInt8)} (h : l ≠ []) : joinB by_ (x :: l) = x ++ by_ :: joinB by_ l := by
  match l, h with
  | y :: r, _ => rfl
theorem piece_join (by_ : UInt8) : ∀ (cur s : List UInt8), joinB by_ (pieceA by_ cur s) = cur ++ s
  | cur, [] => by rw [pieceA]; exact (List.append_nil _).symm
  | cur, c :: l => by
    rw [pieceA]
    split
    · rename_i hc
      rw [joinB_cons by_ _ (pieceA_ne _ _ _), piece_join by_ [] l, hc]
      rfl
    · rw [piece_join by_ (cur ++ [c]) l, List.append_assoc]
      rfl
theorem piece_free (by_ : UInt8) : ∀ (cur s : List UInt8), by_ ∉ cur → ∀ x ∈ pieceA by_ cur s, by_ ∉ x
  | cur, [], h, x, hx => by
    rw [pieceA, List.mem_singleton] at hx
    rw [hx]
    exact h
  | cur, c :: l, h, x, hx => by
    rw [pieceA] at hx
    split at hx
    · rcases List.mem_cons.1 hx with rfl | hx
      · exact h
      · exact piece_free by_ [] l List.not_mem_nil x hx
    · rename_i hc
      refine piece_free by_ (cur ++ [c]) l ?_ x hx
      rw [List.mem_append, List.mem_singleton]
      exact fun hq => hq.elim h fun hq => hc hq.symm
theorem piece_len (by_ : UInt8) : ∀ (cur s : List UInt8), (pieceA by_ cur s).length ≤ s.length + 1
  | _, [] => by rw [pieceA]; simp
  | cur, c :: l => by
    rw [pieceA]
    have h1 := piece_len by_ [] l
    have h2 := piece_len by_ (cur ++ [c]) l
    split
    · simp only [List.length_cons]; omega
    · simp only [List.length_cons]; omega
theorem piece_size (by_ : UInt8) : ∀ (cur s : List UInt8), ∀ x ∈ pieceA by_ cur s, x.length ≤ cur.length + s.length
  | cur, [], x, hx => by
    rw [pieceA, List.mem_singleton] at hx
    subst hx
    simp
  | cur, c :: l, x, hx => by
    rw [pieceA] at hx
    rw [List.length_cons]
    split at hx
    · rcases List.mem_cons.1 hx with rfl | hx
      · omega
      · have := piece_size by_ [] l x hx
        rw [List.length_nil] at this
        omega
    · have := piece_size by_ (cur ++ [c]) l x hx
      rw [List.length_append, List.length_singleton] at this
      omega
/-- Put together up to a piece. -/
theorem join_snoc (by_ : UInt8) (y : List UInt8) : ∀ l : List (List UInt8), joinB by_ (l ++ [y]) = joinB by_ l ++ ((if l.length = 0 then [] else [by_]) ++ y)
  | [] => rfl
  | [x] => by
    show x ++ by_ :: y = x ++ ([by_] ++ y)
    rfl
  | x :: z :: r => by
    have h := join_snoc by_ y (z :: r)
    rw [List.cons_append, joinB_cons by_ x (by simp), h, joinB_cons by_ x (by simp), List.append_assoc]
    rfl
theorem join_take (by_ : UInt8) (l : List (List UInt8)) (i : Nat) (h : i < l.length) : joinB by_ (l.take (i + 1)) = joinB by_ (l.take i) ++ ((if i = 0 then [] else [by_]) ++ l[i]) := by
  rw [← List.take_append_getElem h, join_snoc, List.length_take]
  have : min i l.length = i := by omega
  rw [this]
theorem join_len (by_ : UInt8) : ∀ (l : List (List UInt8)) (i : Nat), (joinB by_ (l.take i)).length ≤ (joinB by_ l).length
  | [], i => by rw [List.take_nil]; exact Nat.le_refl _
  | [x], 0 => by simp [joinB]
  | [x], i + 1 => by rw [List.take_succ_cons, List.take_nil]; exact Nat.le_refl _
  | x :: y :: r, 0 => by simp [joinB]
  | x :: y :: r, 1 => by
    rw [List.take_succ_cons, List.take_zero, joinB_cons by_ x (l := y :: r) (by simp), List.length_append]
    show x.length ≤ _
    omega
  | x :: y :: r, i + 2 => by
    have := join_len by_ (y :: r) (i + 1)
    rw [List.take_succ_cons] at this
    rw [List.take_succ_cons, List.take_succ_cons, joinB_cons by_ x (by simp), joinB_cons by_ x (by simp), List.length_append, List.length_append, List.length_cons, List.length_cons]
    omega
/-! What a loop over the places of a text keeps: what was made, and what is to come of the rest. -/
theorem enc_step (keep s : List UInt8) (i : Nat) (h : i < s.length) : pctE keep (s.take (i + 1)) = pctE keep (s.take i) ++ pctC keep s[i] := by
  rw [← List.take_append_getElem h, pctE_append]
  congr 1
  unfold pctE
  rw [List.flatMap_singleton]
/-- Decoding: b is made, the rest from i on is to come. -/
def DecAt (s b : List UInt8) (i : Nat) : Prop := pctD s = (pctD (s.drop i)).map (b ++ ·)
theorem decAt_zero (s : List UInt8) : DecAt s [] 0 := by
  unfold DecAt
  rw [List.drop_zero]
  cases pctD s <;> rfl
theorem drop_at {s : List UInt8} {i : Nat} (h : i < s.length) : s.drop i = s[i] :: s.drop (i + 1) := List.drop_eq_getElem_cons h
theorem decAt_one {s b : List UInt8} {i : Nat} (hd : DecAt s b i) (h : i < s.length) (hc : s[i] ≠ 37) : DecAt s (b ++ [s[i]]) (i + 1) := by
  unfold DecAt at hd ⊢
  rw [hd, drop_at h, pctD_one _ hc, Option.map_map]
  congr 1
  funext x
  simp
theorem decAt_bad {s b : List UInt8} {i : Nat} (hd : DecAt s b i) (h : i < s.length) (hc : s[i] = 37) (hb : s.length ≤ i + 2 ∨ (∃ h2 : i + 2 < s.length, dgV s[i + 1] < 0 ∨ dgV s[i + 2] < 0)) : pctD s = none := by
  unfold DecAt at hd
  rw [hd, drop_at h, hc]
  rcases hb with hb | ⟨h2, hb⟩
  · rw [pctD_end (by rw [List.length_drop]; omega)]
    rfl
  · rw [drop_at (show i + 1 < s.length by omega), drop_at (show i + 1 + 1 < s.length by omega), pctD_esc, if_pos hb]
    rfl
theorem decAt_esc {s b : List UInt8} {i : Nat} (hd : DecAt s b i) (h : i + 2 < s.length) (hc : s[i] = 37) (h1 : 0 ≤ dgV s[i + 1]) (h2 : 0 ≤ dgV s[i + 2]) :
    DecAt s (b ++ [UInt8.ofNat (dgV s[i + 1] * 16 + dgV s[i + 2]).toNat]) (i + 3) := by
  unfold DecAt at hd ⊢
  rw [hd, drop_at (show i < s.length by omega), hc, drop_at (show i + 1 < s.length by omega), drop_at (show i + 1 + 1 < s.length by omega), pctD_esc, if_neg (by have h2 : 0 ≤ dgV s[i + 1 + 1] := h2; omega), Option.map_map]
  congr 1
  funext x
  simp
theorem decAt_end {s b : List UInt8} {i : Nat} (hd : DecAt s b i) (h : s.length ≤ i) : pctD s = some b := by
  unfold DecAt at hd
  rw [hd, List.drop_eq_nil_of_le h]
  show some (b ++ []) = some b
  rw [List.append_nil]
/-- Pieces: out is made, from stands the one that is under way, i comes next. -/
def PieAt (by_ : UInt8) (s : List UInt8) (out : List (List UInt8)) (fr i : Nat) : Prop := pieceF by_ s = out ++ pieceA by_ ((s.take i).drop fr) (s.drop i)
theorem pieAt_zero (by_ : UInt8) (s : List UInt8) : PieAt by_ s [] 0 0 := rfl
theorem pieAt_by {by_ : UInt8} {s : List UInt8} {out : List (List UInt8)} {fr i : Nat} (hp : PieAt by_ s out fr i) (h : i < s.length) (hc : s[i] = by_) : PieAt by_ s (out ++ [(s.take i).drop fr]) (i + 1) (i + 1) := by
  unfold PieAt at hp ⊢
  rw [hp, drop_at h, pieceA, if_pos hc, List.append_assoc]
  congr 1
  have : (s.take (i + 1)).drop (i + 1) = [] := List.drop_eq_nil_of_le (by rw [List.length_take]; omega)
  rw [this]
  rfl
theorem pieAt_go {by_ : UInt8} {s : List UInt8} {out : List (List UInt8)} {fr i : Nat} (hp : PieAt by_ s out fr i) (h : i < s.length) (hf : fr ≤ i) (hc : s[i] ≠ by_) : PieAt by_ s out fr (i + 1) := by
  unfold PieAt at hp ⊢
  rw [hp, drop_at h, pieceA, if_neg hc]
  congr 2
  rw [← List.take_append_getElem h, List.drop_append_of_le_length (by rw [List.length_take]; omega)]
theorem pieAt_end {by_ : UInt8} {s : List UInt8} {out : List (List UInt8)} {fr i : Nat} (hp : PieAt by_ s out fr i) (h : s.length ≤ i) : pieceF by_ s = out ++ [s.drop fr] := by
  unfold PieAt at hp
  rw [hp, List.drop_eq_nil_of_le h, List.take_of_length_le h]
  rfl
end Wb
