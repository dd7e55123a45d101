
/- Pieces cut at one byte as Go's library cuts them; which bytes an array of 256 bools keeps. No program in sight. -/
import Derived.Test.YtclenfdhnccalaaDoorQdE
import Derived.Lib.Split
import Derived.Lib.IndexBytes
namespace Wb
open Go
/-! Cut at one byte. -/
theorem pieceA_miss (c : UInt8) : ∀ (s cur : List UInt8), Lib.indexByte s c = -1 → pieceA c cur s = [cur ++ s]
  | [], cur, _ => by rw [pieceA, List.append_nil]
  | b :: l, cur, h => by
    rw [Lib.indexByte] at h
    rw [pieceA]
    split at h
    · cases h
    · rename_i hb
      have hbc : b ≠ c := by simpa using hb
      rw [if_neg hbc]
      have hl : Lib.indexByte l c = -1 := by
        split at h
        · rename_i h2; simpa using h2
        · have := Lib.indexByte_ge l c
          rename_i h2
          have h2 : Lib.indexByte l c ≠ -1 := by simpa using h2
          omega
      rw [pieceA_miss c l _ hl, List.append_assoc]
      rfl
theorem pieceA_hit (c : UInt8) : ∀ (s cur : List UInt8) (i : Nat), Lib.indexByte s c = i → pieceA c cur s = (cur ++ s.take i) :: pieceA c [] (s.drop (i + 1))
  | [], cur, i, h => by rw [Lib.indexByte] at h; omega
  | b :: l, cur, i, h => by
    rw [Lib.indexByte] at h
    rw [pieceA]
    split at h
    · rename_i hb
      have hbc : b = c := by simpa using hb
      obtain rfl : i = 0 := by omega
      rw [if_pos hbc, List.take_zero, List.append_nil]
      rfl
    · rename_i hb
      have hbc : b ≠ c := by simpa using hb
      rw [if_neg hbc]
      split at h
      · omega
      · rename_i h2
        have h2 : Lib.indexByte l c ≠ -1 := by simpa using h2
        have := Lib.indexByte_ge l c
        obtain ⟨k, rfl⟩ : ∃ k, i = k + 1 := ⟨i - 1, by omega⟩
        rw [pieceA_hit c l _ k (by omega), List.append_assoc]
        rfl
theorem split_piece (c : UInt8) : ∀ (n : Nat) (s : List UInt8), s.length ≤ n → Lib.split s [c] = pieceF c s
  | n, s, hn => by
    have hge := Lib.indexByte_ge s c
    by_cases h : Lib.indexByte s c = -1
    · have hi : Lib.index s [c] = -1 := by rw [Lib.index_one]; exact h
      unfold Lib.split
      rw [Lib.count_miss hi]
      show [s] = _
      unfold pieceF
      rw [pieceA_miss c s [] h]
      rfl
    · obtain ⟨i, hi⟩ : ∃ i : Nat, Lib.indexByte s c = i := ⟨(Lib.indexByte s c).toNat, by omega⟩
      have hi2 : Lib.index s [c] = i := by rw [Lib.index_one]; exact hi
      have hls : s ≠ [] := by
        rintro rfl
        rw [Lib.indexByte] at hi
        omega
      obtain ⟨m, rfl⟩ : ∃ m, n = m + 1 := ⟨n - 1, by
        cases s with
        | nil => exact absurd rfl hls
        | cons a r => rw [List.length_cons] at hn; omega⟩
      have hr := split_piece c m (s.drop (i + 1)) (by
        rw [List.length_drop]
        omega)
      unfold Lib.split at hr ⊢
      have hl : [c].length = 1 := rfl
      rw [Lib.count_hit (by simp) hi2, hl, Nat.add_comm 1, Lib.splitK, hi2, if_neg (by simp), hl]
      show s.take ((i : Int).toNat + 0) :: Lib.splitK [c] 0 (Lib.count (s.drop (i + 1)) [c]) (s.drop ((i : Int).toNat + 1)) = _
      rw [Int.toNat_natCast, hr]
      unfold pieceF
      rw [pieceA_hit c s [] i hi]
      rfl
theorem split_pieces (c : UInt8) (s : ByteArray) : Lib.splitB ⟨#[c]⟩ 0 (Lib.countB s ⟨#[c]⟩) s = piecesB c s := by
  have h := Lib.splitB_data ⟨#[c]⟩ 0 (Lib.countB s ⟨#[c]⟩) s
  have h2 : Lib.splitK (⟨#[c]⟩ : ByteArray).data.toList 0 (Lib.countB s ⟨#[c]⟩) s.data.toList = pieceF c s.data.toList := split_piece c _ s.data.toList (Nat.le_refl _)
  rw [h2] at h
  unfold piecesB
  rw [← h, List.map_map]
  have : ((fun l : List UInt8 => (⟨l.toArray⟩ : ByteArray)) ∘ fun x : ByteArray => x.data.toList) = id := by
    funext x
    simp
  rw [this, List.map_id]
theorem piece_cnt (c : UInt8) : ∀ (n : Nat) (s : List UInt8), s.length ≤ n → (pieceF c s).length = Lib.count s [c] + 1
  | n, s, hn => by
    have hge := Lib.indexByte_ge s c
    by_cases h : Lib.indexByte s c = -1
    · have hi : Lib.index s [c] = -1 := by rw [Lib.index_one]; exact h
      rw [Lib.count_miss hi]
      unfold pieceF
      rw [pieceA_miss c s [] h]
      rfl
    · obtain ⟨i, hi⟩ : ∃ i : Nat, Lib.indexByte s c = i := ⟨(Lib.indexByte s c).toNat, by omega⟩
      have hi2 : Lib.index s [c] = i := by rw [Lib.index_one]; exact hi
      have hls : s ≠ [] := by
        rintro rfl
        rw [Lib.indexByte] at hi
        omega
      obtain ⟨m, rfl⟩ : ∃ m, n = m + 1 := ⟨n - 1, by
        cases s with
        | nil => exact absurd rfl hls
        | cons a r => rw [List.length_cons] at hn; omega⟩
      have hr := piece_cnt c m (s.drop (i + 1)) (by
        rw [List.length_drop]
        omega)
      unfold pieceF at hr ⊢
      have hl : [c].length = 1 := rfl
      rw [pieceA_hit c s [] i hi, List.length_cons, hr, Lib.count_hit (by simp) hi2, hl]
      omega
theorem split_len (c : UInt8) (s : ByteArray) : (piecesB c s).length = Lib.countB s ⟨#[c]⟩ + 1 := by
  unfold piecesB
  rw [List.length_map, piece_cnt c _ s.data.toList (Nat.le_refl _)]
/-! An array of 256 bools. -/
def arrB (f : Nat → Bool) : Array Value := Array.ofFn (n := 256) fun i => .bool (f i.val)
theorem arrB_size (f : Nat → Bool) : (arrB f).size = 256 := by simp [arrB]
theorem arrB_at (f : Nat → Bool) {j : Nat} (h : j < 256) : (arrB f)[j]? = some (.bool (f j)) := by
  unfold arrB
  rw [Array.getElem?_ofFn, dif_pos h]
theorem arrB_congr {f g : Nat → Bool} (h : ∀ j, j < 256 → f j = g j) : arrB f = arrB g := by
  unfold arrB
  congr 1
  funext i
  rw [h i.val i.isLt]
theorem arrB_set (f : Nat → Bool) {i : Nat} (h : i < 256) (b : Bool) : (arrB f).setIfInBounds i (.bool b) = arrB fun j => if j = i then b else f j := by
  apply Array.ext_getElem?
  intro j
  rw [Array.getElem?_setIfInBounds]
  unfold arrB
  rw [Array.getElem?_ofFn, Array.getElem?_ofFn, Array.size_ofFn]
  by_cases hj : j < 256
  · rw [dif_pos hj, dif_pos hj]
    by_cases e : i = j
    · subst e
      simp [h]
    · have e2 : ¬ j = i := fun h => e h.symm
      simp [e, e2]
  · have : i ≠ j := by omega
    rw [dif_neg hj, dif_neg hj, if_neg this]
theorem arrB_one (f : Nat → Bool) : (arrB f).all (·.oneCell') = true := by
  rw [Array.all_eq_true_iff_forall_mem]
  intro v hv
  unfold arrB at hv
  rw [Array.mem_ofFn] at hv
  obtain ⟨i, rfl⟩ := hv
  rfl
theorem arrB_false : Array.replicate 256 (Value.bool false) = arrB fun _ => false := by
  apply Array.ext_getElem?
  intro j
  unfold arrB
  rw [Array.getElem?_replicate, Array.getElem?_ofFn]
  by_cases h : j < 256 <;> simp [h]
/-- Which bytes are plain, so far as the first i of them tell; which are kept besides, so far as the first i of keep tell; and all of it. -/
def fP (i j : Nat) : Bool := decide (j < i) && plC (UInt8.ofNat j)
def fK (keep : List UInt8) (i j : Nat) : Bool := plC (UInt8.ofNat j) || (keep.take i).contains (UInt8.ofNat j)
def fA (keep : List UInt8) (j : Nat) : Bool := if j = 37 then false else fK keep keep.length j
theorem fP_zero : arrB (fP 0) = Array.replicate 256 (Value.bool false) := by
  rw [arrB_false]
  exact arrB_congr fun j _ => by unfold fP; simp
theorem fP_step {i : Nat} (h : i < 256) : (arrB (fP i)).setIfInBounds i (.bool (plC (UInt8.ofNat i))) = arrB (fP (i + 1)) := by
  rw [arrB_set _ h]
  refine arrB_congr fun j hj => ?_
  by_cases e : j = i
  · subst e
    rw [if_pos rfl]
    unfold fP
    simp
  · rw [if_neg e]
    unfold fP
    congr 1
    rw [decide_eq_decide]
    omega
theorem fP_end (keep : List UInt8) : arrB (fP 256) = arrB (fK keep 0) := arrB_congr fun j hj => by unfold fP fK; simp [hj]
theorem fK_step {keep : List UInt8} {i : Nat} {c : UInt8} (h : keep[i]? = some c) : (arrB (fK keep i)).setIfInBounds c.toNat (.bool true) = arrB (fK keep (i + 1)) := by
  rw [arrB_set _ c.toNat_lt]
  refine arrB_congr fun j hj => ?_
  unfold fK
  rw [List.take_add_one, h]
  show _ = (plC _ || (keep.take i ++ [c]).contains _)
  rw [List.contains_append]
  by_cases e : j = c.toNat
  · subst e
    rw [if_pos rfl]
    simp
  · rw [if_neg e]
    have : ([c] : List UInt8).contains (UInt8.ofNat j) = false := by
      rw [List.contains_cons, List.contains_nil, Bool.or_false, beq_eq_false_iff_ne]
      intro h2
      apply e
      rw [← h2, UInt8.toNat_ofNat']
      omega
    rw [this, Bool.or_false]
theorem fA_step (keep : List UInt8) : (arrB (fK keep keep.length)).setIfInBounds 37 (.bool false) = arrB (fA keep) := by
  rw [arrB_set _ (by decide)]
  rfl
theorem fA_at (keep : List UInt8) (c : UInt8) : fA keep c.toNat = ((plC c || keep.contains c) && c != 37) := by
  unfold fA fK
  rw [List.take_of_length_le (Nat.le_refl _), UInt8.ofNat_toNat]
  by_cases e : c = 37
  · subst e
    simp
  · have : c.toNat ≠ 37 := fun h => e (by
      apply UInt8.toNat_inj.1
      rw [h]
      rfl)
    rw [if_neg this]
    have e2 : (c != 37) = true := by rw [bne_iff_ne]; exact e
    rw [e2, Bool.and_true]
end Wb
