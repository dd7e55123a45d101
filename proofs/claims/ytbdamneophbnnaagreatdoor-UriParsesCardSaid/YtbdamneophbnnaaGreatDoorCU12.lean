/- QdF QdG QdH Bld BldS. -/
import Derived.Deep.Draws
import Derived.Lib.Split
import Derived.Lib.IndexBytes
import Derived.Lib.Builder
import Derived.Lib.AppendStr
import Derived.Lib.UnsafeStr
import Derived.Test.YtbdamneophbnnaaGreatDoorCU7
import Derived.Test.YtbdamneophbnnaaGreatDoorCU8
import Derived.Test.YtbdamneophbnnaaGreatDoorCU11
namespace Wb
open Go
theorem pieceA_miss (c : UInt8) : ∀ (s cur : List UInt8), Lib.indexByte s c = -1 → pieceA c cur s = [cur ++ s]
  | [], cur, _ => by rw [pieceA, List.append_nil]
  | b :: l, cur, h => by
    rw [Lib.indexByte] at h
    rw [pieceA]
    split at h
    · cases h
    · rename_i hb
      have hbc : b ≠ c := by simpa using hb
      rw [if_neg hbc]
      have hl : Lib.indexByte l c = -1 := by
        split at h
        · rename_i h2; simpa using h2
        · have := Lib.indexByte_ge l c
          rename_i h2
          have h2 : Lib.indexByte l c ≠ -1 := by simpa using h2
          omega
      rw [pieceA_miss c l _ hl, List.append_assoc]
      rfl
theorem pieceA_hit (c : UInt8) : ∀ (s cur : List UInt8) (i : Nat), Lib.indexByte s c = i → pieceA c cur s = (cur ++ s.take i) :: pieceA c [] (s.drop (i + 1))
  | [], cur, i, h => by rw [Lib.indexByte] at h; omega
  | b :: l, cur, i, h => by
    rw [Lib.indexByte] at h
    rw [pieceA]
    split at h
    · rename_i hb
      have hbc : b = c := by simpa using hb
      obtain rfl : i = 0 := by omega
      rw [if_pos hbc, List.take_zero, List.append_nil]
      rfl
    · rename_i hb
      have hbc : b ≠ c := by simpa using hb
      rw [if_neg hbc]
      split at h
      · omega
      · rename_i h2
        have h2 : Lib.indexByte l c ≠ -1 := by simpa using h2
        have := Lib.indexByte_ge l c
        obtain ⟨k, rfl⟩ : ∃ k, i = k + 1 := ⟨i - 1, by omega⟩
        rw [pieceA_hit c l _ k (by omega), List.append_assoc]
        rfl
theorem split_piece (c : UInt8) : ∀ (n : Nat) (s : List UInt8), s.length ≤ n → Lib.split s [c] = pieceF c s
  | n, s, hn => by
    have hge := Lib.indexByte_ge s c
    by_cases h : Lib.indexByte s c = -1
    · have hi : Lib.index s [c] = -1 := by rw [Lib.index_one]; exact h
      unfold Lib.split
      rw [Lib.count_miss hi]
      show [s] = _
      unfold pieceF
      rw [pieceA_miss c s [] h]
      rfl
    · obtain ⟨i, hi⟩ : ∃ i : Nat, Lib.indexByte s c = i := ⟨(Lib.indexByte s c).toNat, by omega⟩
      have hi2 : Lib.index s [c] = i := by rw [Lib.index_one]; exact hi
      have hls : s ≠ [] := by
        rintro rfl
        rw [Lib.indexByte] at hi
        omega
      obtain ⟨m, rfl⟩ : ∃ m, n = m + 1 := ⟨n - 1, by
        cases s with
        | nil => exact absurd rfl hls
        | cons a r => rw [List.length_cons] at hn; omega⟩
      have hr := split_piece c m (s.drop (i + 1)) (by
        rw [List.length_drop]
        omega)
      unfold Lib.split at hr ⊢
      have hl : [c].length = 1 := rfl
      rw [Lib.count_hit (by simp) hi2, hl, Nat.add_comm 1, Lib.splitK, hi2, if_neg (by simp), hl]
      show s.take ((i : Int).toNat + 0) :: Lib.splitK [c] 0 (Lib.count (s.drop (i + 1)) [c]) (s.drop ((i : Int).toNat + 1)) = _
      rw [Int.toNat_natCast, hr]
      unfold pieceF
      rw [pieceA_hit c s [] i hi]
      rfl
theorem split_pieces (c : UInt8) (s : ByteArray) : Lib.splitB ⟨#[c]⟩ 0 (Lib.countB s ⟨#[c]⟩) s = pcsB c s := by
  have h := Lib.splitB_data ⟨#[c]⟩ 0 (Lib.countB s ⟨#[c]⟩) s
  have h2 : Lib.splitK (⟨#[c]⟩ : ByteArray).data.toList 0 (Lib.countB s ⟨#[c]⟩) s.data.toList = pieceF c s.data.toList := split_piece c _ s.data.toList (Nat.le_refl _)
  rw [h2] at h
  unfold pcsB
  rw [← h, List.map_map]
  have : ((fun l : List UInt8 => (⟨l.toArray⟩ : ByteArray)) ∘ fun x : ByteArray => x.data.toList) = id := by
    funext x
    simp
  rw [this, List.map_id]
theorem piece_cnt (c : UInt8) : ∀ (n : Nat) (s : List UInt8), s.length ≤ n → (pieceF c s).length = Lib.count s [c] + 1
  | n, s, hn => by
    have hge := Lib.indexByte_ge s c
    by_cases h : Lib.indexByte s c = -1
    · have hi : Lib.index s [c] = -1 := by rw [Lib.index_one]; exact h
      rw [Lib.count_miss hi]
      unfold pieceF
      rw [pieceA_miss c s [] h]
      rfl
    · obtain ⟨i, hi⟩ : ∃ i : Nat, Lib.indexByte s c = i := ⟨(Lib.indexByte s c).toNat, by omega⟩
      have hi2 : Lib.index s [c] = i := by rw [Lib.index_one]; exact hi
      have hls : s ≠ [] := by
        rintro rfl
        rw [Lib.indexByte] at hi
        omega
      obtain ⟨m, rfl⟩ : ∃ m, n = m + 1 := ⟨n - 1, by
        cases s with
        | nil => exact absurd rfl hls
        | cons a r => rw [List.length_cons] at hn; omega⟩
      have hr := piece_cnt c m (s.drop (i + 1)) (by
        rw [List.length_drop]
        omega)
      unfold pieceF at hr ⊢
      have hl : [c].length = 1 := rfl
      rw [pieceA_hit c s [] i hi, List.length_cons, hr, Lib.count_hit (by simp) hi2, hl]
      omega
theorem pcs_cnt (c : UInt8) (s : ByteArray) : (pcsB c s).length = Lib.countB s ⟨#[c]⟩ + 1 := by
  unfold pcsB
  rw [List.length_map, piece_cnt c _ s.data.toList (Nat.le_refl _)]
def arrB (f : Nat → Bool) : Array Value := Array.ofFn (n := 256) fun i => .bool (f i.val)
theorem arrB_size (f : Nat → Bool) : (arrB f).size = 256 := by simp [arrB]
theorem arrB_at (f : Nat → Bool) {j : Nat} (h : j < 256) : (arrB f)[j]? = some (.bool (f j)) := by
  unfold arrB
  rw [Array.getElem?_ofFn, dif_pos h]
theorem arrB_congr {f g : Nat → Bool} (h : ∀ j, j < 256 → f j = g j) : arrB f = arrB g := by
  unfold arrB
  congr 1
  funext i
  rw [h i.val i.isLt]
theorem arrB_set (f : Nat → Bool) {i : Nat} (h : i < 256) (b : Bool) : (arrB f).setIfInBounds i (.bool b) = arrB fun j => if j = i then b else f j := by
  apply Array.ext_getElem?
  intro j
  rw [Array.getElem?_setIfInBounds]
  unfold arrB
  rw [Array.getElem?_ofFn, Array.getElem?_ofFn, Array.size_ofFn]
  by_cases hj : j < 256
  · rw [dif_pos hj, dif_pos hj]
    by_cases e : i = j
    · subst e
      simp [h]
    · have e2 : ¬ j = i := fun h => e h.symm
      simp [e, e2]
  · have : i ≠ j := by omega
    rw [dif_neg hj, dif_neg hj, if_neg this]
theorem arrB_one (f : Nat → Bool) : (arrB f).all (·.oneCell') = true := by
  rw [Array.all_eq_true_iff_forall_mem]
  intro v hv
  unfold arrB at hv
  rw [Array.mem_ofFn] at hv
  obtain ⟨i, rfl⟩ := hv
  rfl
theorem arrB_false : Array.replicate 256 (Value.bool false) = arrB fun _ => false := by
  apply Array.ext_getElem?
  intro j
  unfold arrB
  rw [Array.getElem?_replicate, Array.getElem?_ofFn]
  by_cases h : j < 256 <;> simp [h]
def fP (i j : Nat) : Bool := decide (j < i) && plC (UInt8.ofNat j)
def fK (keep : List UInt8) (i j : Nat) : Bool := plC (UInt8.ofNat j) || (keep.take i).contains (UInt8.ofNat j)
def fA (keep : List UInt8) (j : Nat) : Bool := if j = 37 then false else fK keep keep.length j
theorem fP_zero : arrB (fP 0) = Array.replicate 256 (Value.bool false) := by
  rw [arrB_false]
  exact arrB_congr fun j _ => by unfold fP; simp
theorem fP_step {i : Nat} (h : i < 256) : (arrB (fP i)).setIfInBounds i (.bool (plC (UInt8.ofNat i))) = arrB (fP (i + 1)) := by
  rw [arrB_set _ h]
  refine arrB_congr fun j hj => ?_
  by_cases e : j = i
  · subst e
    rw [if_pos rfl]
    unfold fP
    simp
  · rw [if_neg e]
    unfold fP
    congr 1
    rw [decide_eq_decide]
    omega
theorem fP_end (keep : List UInt8) : arrB (fP 256) = arrB (fK keep 0) := arrB_congr fun j hj => by unfold fP fK; simp [hj]
theorem fK_step {keep : List UInt8} {i : Nat} {c : UInt8} (h : keep[i]? = some c) : (arrB (fK keep i)).setIfInBounds c.toNat (.bool true) = arrB (fK keep (i + 1)) := by
  rw [arrB_set _ c.toNat_lt]
  refine arrB_congr fun j hj => ?_
  unfold fK
  rw [List.take_add_one, h]
  show _ = (plC _ || (keep.take i ++ [c]).contains _)
  rw [List.contains_append]
  by_cases e : j = c.toNat
  · subst e
    rw [if_pos rfl]
    simp
  · rw [if_neg e]
    have : ([c] : List UInt8).contains (UInt8.ofNat j) = false := by
      rw [List.contains_cons, List.contains_nil, Bool.or_false, beq_eq_false_iff_ne]
      intro h2
      apply e
      rw [← h2, UInt8.toNat_ofNat']
      omega
    rw [this, Bool.or_false]
theorem fA_step (keep : List UInt8) : (arrB (fK keep keep.length)).setIfInBounds 37 (.bool false) = arrB (fA keep) := by
  rw [arrB_set _ (by decide)]
  rfl
theorem fA_at (keep : List UInt8) (c : UInt8) : fA keep c.toNat = ((plC c || keep.contains c) && c != 37) := by
  unfold fA fK
  rw [List.take_of_length_le (Nat.le_refl _), UInt8.ofNat_toNat]
  by_cases e : c = 37
  · subst e
    simp
  · have : c.toNat ≠ 37 := fun h => e (by
      apply UInt8.toNat_inj.1
      rw [h]
      rfl)
    rw [if_neg this]
    have e2 : (c != 37) = true := by rw [bne_iff_ne]; exact e
    rw [e2, Bool.and_true]
end Wb
namespace Wb
def escV (s : List UInt8) : UInt8 := match s with
  | a :: b :: _ => if dgV a < 0 ∨ dgV b < 0 then 0 else UInt8.ofNat (dgV a * 16 + dgV b).toNat
  | _ => 0
def escO (s : List UInt8) : Bool := match s with
  | a :: b :: _ => !decide (dgV a < 0 ∨ dgV b < 0)
  | _ => false
end Wb
namespace Go.Proofs.YtbdamneophbnnaaGreatDoor
open Go.RowKit Wb
set_option maxRecDepth 100000 in
set_option maxHeartbeats 4000000 in
theorem pplain_any (c : UInt8) (w : World) :
    Calls Tryz.prog 74 #[.int .u8 c.toNat] w fun e w' => e = .returned (.bool (plC c)) ∧ w = w' := by
  have hv : ∀ b : Bool, (plC c = b ↔ ((97 ≤ c.toNat ∧ c.toNat ≤ 122) ∨ (65 ≤ c.toNat ∧ c.toNat ≤ 90) ∨ (48 ≤ c.toNat ∧ c.toNat ≤ 57) ∨ c.toNat = 45 ∨ c.toNat = 46 ∨ c.toNat = 95 ∨ c.toNat = 126 ↔ b = true)) := by
    intro b
    unfold plC
    rw [Bool.eq_iff_iff]
    have e : ∀ d : UInt8, (c == d) = true ↔ c.toNat = d.toNat := fun d => by rw [beq_iff_eq, UInt8.toNat_inj]
    simp only [Bool.or_eq_true, Bool.and_eq_true, decide_eq_true_eq, or_assoc, e]
    rfl
  have hr : (plC c = true ∧ 97 ≤ c.toNat ∧ c.toNat ≤ 122) ∨ (plC c = true ∧ 65 ≤ c.toNat ∧ c.toNat ≤ 90) ∨ (plC c = true ∧ 48 ≤ c.toNat ∧ c.toNat ≤ 57) ∨
      (plC c = true ∧ (c.toNat = 45 ∨ c.toNat = 46 ∨ c.toNat = 95 ∨ c.toNat = 126)) ∨
      (plC c = false ∧ c.toNat < 48 ∧ c.toNat ≠ 45 ∧ c.toNat ≠ 46) ∨ (plC c = false ∧ 57 < c.toNat ∧ c.toNat < 65) ∨ (plC c = false ∧ 90 < c.toNat ∧ c.toNat < 97 ∧ c.toNat ≠ 95) ∨ (plC c = false ∧ 122 < c.toNat ∧ c.toNat ≠ 126) := by
    rw [hv true, hv false]
    simp only [Bool.false_eq_true, iff_false, iff_true]
    omega
  clear hv
  go_enter Tryz.func74, Tryz.ntmps74
  rcases hr with ⟨hr, h1, h2⟩ | ⟨hr, h1, h2⟩ | ⟨hr, h1, h2⟩ | ⟨hr, h1 | h1 | h1 | h1⟩ | ⟨hr, h1, h2, h3⟩ | ⟨hr, h1, h2⟩ | ⟨hr, h1, h2, h3⟩ | ⟨hr, h1, h2⟩
  all_goals
    rw [hr]
    clear hr
    go_wp2
    go_ret
  all_goals first
    | exact ⟨rfl, rfl⟩
    | (refine ⟨?_, rfl⟩; simp; omega)
    | (refine ⟨?_, rfl⟩; simp [h1])
def dgO (c : UInt8) : Bool := decide (0 ≤ dgV c)
def dgW (c : UInt8) : Int := if dgV c < 0 then 0 else dgV c
set_option maxRecDepth 100000 in
set_option maxHeartbeats 4000000 in
theorem pdigit_any (c : UInt8) (w : World) :
    Calls Tryz.prog 87 #[.int .u8 c.toNat] w fun e w' => e = .returned (.tuple #[.int .u8 (dgW c), .bool (dgO c)]) ∧ w = w' := by
  have hr : (dgW c = c.toNat - 48 ∧ dgO c = true ∧ 48 ≤ c.toNat ∧ c.toNat ≤ 57) ∨ (dgW c = c.toNat - 55 ∧ dgO c = true ∧ 65 ≤ c.toNat ∧ c.toNat ≤ 70) ∨ (dgW c = c.toNat - 87 ∧ dgO c = true ∧ 97 ≤ c.toNat ∧ c.toNat ≤ 102) ∨
      (dgW c = 0 ∧ dgO c = false ∧ c.toNat < 48) ∨ (dgW c = 0 ∧ dgO c = false ∧ 57 < c.toNat ∧ c.toNat < 65) ∨ (dgW c = 0 ∧ dgO c = false ∧ 70 < c.toNat ∧ c.toNat < 97) ∨ (dgW c = 0 ∧ dgO c = false ∧ 102 < c.toNat) := by
    have hd : (dgV c = c.toNat - 48 ∧ 48 ≤ c.toNat ∧ c.toNat ≤ 57) ∨ (dgV c = c.toNat - 55 ∧ 65 ≤ c.toNat ∧ c.toNat ≤ 70) ∨ (dgV c = c.toNat - 87 ∧ 97 ≤ c.toNat ∧ c.toNat ≤ 102) ∨
        (dgV c = -1 ∧ c.toNat < 48) ∨ (dgV c = -1 ∧ 57 < c.toNat ∧ c.toNat < 65) ∨ (dgV c = -1 ∧ 70 < c.toNat ∧ c.toNat < 97) ∨ (dgV c = -1 ∧ 102 < c.toNat) := by
      unfold dgV
      repeat' split
      all_goals omega
    unfold dgW dgO
    rcases hd with ⟨h, h1, h2⟩ | ⟨h, h1, h2⟩ | ⟨h, h1, h2⟩ | ⟨h, h1⟩ | ⟨h, h1, h2⟩ | ⟨h, h1, h2⟩ | ⟨h, h1⟩
    · refine .inl ⟨?_, ?_, h1, h2⟩
      · rw [if_neg (by omega)]; exact h
      · rw [decide_eq_true_eq]; omega
    · refine .inr (.inl ⟨?_, ?_, h1, h2⟩)
      · rw [if_neg (by omega)]; exact h
      · rw [decide_eq_true_eq]; omega
    · refine .inr (.inr (.inl ⟨?_, ?_, h1, h2⟩))
      · rw [if_neg (by omega)]; exact h
      · rw [decide_eq_true_eq]; omega
    all_goals have hz : (if dgV c < 0 then (0 : Int) else dgV c) = 0 ∧ decide (0 ≤ dgV c) = false := ⟨by rw [if_pos (by omega)], by rw [decide_eq_false_iff_not]; omega⟩
    · exact .inr (.inr (.inr (.inl ⟨hz.1, hz.2, h1⟩)))
    · exact .inr (.inr (.inr (.inr (.inl ⟨hz.1, hz.2, h1, h2⟩))))
    · exact .inr (.inr (.inr (.inr (.inr (.inl ⟨hz.1, hz.2, h1, h2⟩)))))
    · exact .inr (.inr (.inr (.inr (.inr (.inr ⟨hz.1, hz.2, h1⟩)))))
  have hk := c.toNat_lt
  go_enter Tryz.func87, Tryz.ntmps87
  rcases hr with ⟨hr, hq, h1, h2⟩ | ⟨hr, hq, h1, h2⟩ | ⟨hr, hq, h1, h2⟩ | ⟨hr, hq, h1⟩ | ⟨hr, hq, h1, h2⟩ | ⟨hr, hq, h1, h2⟩ | ⟨hr, hq, h1⟩
  all_goals
    rw [hr, hq]
    clear hr hq
    go_wp2
    go_ret2
  all_goals first
    | exact ⟨rfl, rfl⟩
    | (refine ⟨?_, rfl⟩; go_num)
end Go.Proofs.YtbdamneophbnnaaGreatDoor
namespace Wb
theorem esc_short {s : List UInt8} (h : s.length < 2) : escV s = 0 ∧ escO s = false := by
  match s, h with
  | [], _ => exact ⟨rfl, rfl⟩
  | [x], _ => exact ⟨rfl, rfl⟩
theorem esc_two {s : List UInt8} {a b : UInt8} (h : 2 ≤ s.length) (h0 : s[0] = a) (h1 : s[1] = b) : escV s = (if dgV a < 0 ∨ dgV b < 0 then 0 else UInt8.ofNat (dgV a * 16 + dgV b).toNat) ∧ escO s = !decide (dgV a < 0 ∨ dgV b < 0) := by
  match s, h with
  | x :: y :: r, _ =>
    subst h0
    subst h1
    exact ⟨rfl, rfl⟩
theorem u8_hl (x y : Nat) (hx : x < 16) (hy : y < 16) : Go.bits .or .u8 ((x : Int) * 16) (y : Int) = ((x * 16 + y : Nat) : Int) := by
  have := u8_or_base x 4 (x * 16) 16 (y : Int) rfl rfl (by omega) (by omega) (by omega)
  rw [show ((x : Int) * 16) = ((x * 16 : Nat) : Int) by omega, this]
  omega
end Wb
namespace Go.Proofs.YtbdamneophbnnaaGreatDoor
open Go.RowKit Wb
set_option maxRecDepth 100000 in
set_option maxHeartbeats 4000000 in
theorem pescaped_any (s : ByteArray) (w : World) :
    Calls Tryz.prog 58 #[.string s] w fun e w' => e = .returned (.tuple #[.int .u8 (escV s.data.toList).toNat, .bool (escO s.data.toList)]) ∧ w = w' := by
  by_cases h2 : s.size < 2
  · obtain ⟨e1, e2⟩ := esc_short (s := s.data.toList) (by simpa using h2)
    rw [e1, e2]
    clear e1 e2
    go_enter Tryz.func58, Tryz.ntmps58
    go_wp2
    go_ret2
    exact ⟨rfl, rfl⟩
  · have h2 : 2 ≤ s.size := by omega
    obtain ⟨a, ha⟩ : ∃ a, s[0] = a := ⟨_, rfl⟩
    obtain ⟨b, hb⟩ : ∃ b, s[1] = b := ⟨_, rfl⟩
    obtain ⟨e1, e2⟩ := esc_two (s := s.data.toList) (a := a) (b := b) (by simpa using h2) ha hb
    have h0 : 0 < s.size := by omega
    have h1 : 1 < s.size := by omega
    have d1 := fun v => pdigit_any a v
    have d2 := fun v => pdigit_any b v
    have b1 := dgV_bd a
    have b2 := dgV_bd b
    by_cases ha0 : dgV a < 0
    · rw [if_pos (.inl ha0)] at e1
      rw [decide_eq_true (.inl ha0)] at e2
      rw [show dgO a = false by unfold dgO; rw [decide_eq_false_iff_not]; omega] at d1
      rw [e1, e2]
      generalize dgW a = wa at *
      generalize dgW b = wb at *
      generalize dgO b = ob at *
      clear e1 e2 b1 b2 ha0
      have H2 := Lib.hid d2
      clear d2
      go_enter Tryz.func58, Tryz.ntmps58
      go_wp2_with fail
      (try rw [ha])
      refine (d1 _).mono ?_
      rintro e w2 ⟨rfl, rfl⟩
      clear d1
      go_wp2_with fail
      (try rw [hb])
      refine (H2.out _).mono ?_
      rintro e w2 ⟨rfl, rfl⟩
      clear H2
      go_wp2
      go_ret2
      exact ⟨rfl, rfl⟩
    · rw [show dgO a = true by unfold dgO; rw [decide_eq_true_eq]; omega] at d1
      by_cases hb0 : dgV b < 0
      · rw [if_pos (.inr hb0)] at e1
        rw [decide_eq_true (.inr hb0)] at e2
        rw [show dgO b = false by unfold dgO; rw [decide_eq_false_iff_not]; omega] at d2
        rw [e1, e2]
        generalize dgW a = wa at *
        generalize dgW b = wb at *
        clear e1 e2 b1 b2 ha0 hb0
        have H2 := Lib.hid d2
        clear d2
        go_enter Tryz.func58, Tryz.ntmps58
        go_wp2_with fail
        (try rw [ha])
        refine (d1 _).mono ?_
        rintro e w2 ⟨rfl, rfl⟩
        clear d1
        go_wp2_with fail
        (try rw [hb])
        refine (H2.out _).mono ?_
        rintro e w2 ⟨rfl, rfl⟩
        clear H2
        go_wp2
        go_ret2
        exact ⟨rfl, rfl⟩
      · rw [if_neg (by omega)] at e1
        rw [decide_eq_false (by omega)] at e2
        rw [show dgO b = true by unfold dgO; rw [decide_eq_true_eq]; omega] at d2
        obtain ⟨x, hx⟩ : ∃ x : Nat, dgV a = x := ⟨(dgV a).toNat, by omega⟩
        obtain ⟨y, hy⟩ : ∃ y : Nat, dgV b = y := ⟨(dgV b).toNat, by omega⟩
        rw [show dgW a = x by unfold dgW; rw [if_neg (by omega)]; exact hx] at d1
        rw [show dgW b = y by unfold dgW; rw [if_neg (by omega)]; exact hy] at d2
        have hx16 : x < 16 := by omega
        have hy16 : y < 16 := by omega
        have e3 : ((escV s.data.toList).toNat : Int) = ((x * 16 + y : Nat) : Int) := by
          rw [e1, hx, hy, UInt8.toNat_ofNat']
          omega
        rw [e2, e3]
        have hor := u8_hl x y hx16 hy16
        clear e1 e2 e3 b1 b2 ha0 hb0 hx hy
        have H2 := Lib.hid d2
        clear d2
        go_enter Tryz.func58, Tryz.ntmps58
        go_wp2_with fail
        (try rw [ha])
        refine (d1 _).mono ?_
        rintro e w2 ⟨rfl, rfl⟩
        clear d1
        go_wp2_with fail
        (try rw [hb])
        refine (H2.out _).mono ?_
        rintro e w2 ⟨rfl, rfl⟩
        clear H2
        go_wp2
        go_ret2
        refine ⟨?_, rfl⟩
        rfl
end Go.Proofs.YtbdamneophbnnaaGreatDoor
namespace Wb
open Go Go.RowKit
theorem own_blk' {w w' : World} {base sz n : Nat} {e : TypeId} {v : Value} {xs : List Value} (h : w.ownsRow base e sz v n xs) (hb : ∀ k, v.ownBlock = some k → w'.heap[k]? = w.heap[k]?) : w'.ownsRow base e sz v n xs := by
  refine ⟨h.1, ?_⟩
  rcases h.2 with h2 | ⟨g, cap, cur, rfl, hbg, hg, rest⟩
  · exact .inl h2
  · exact .inr ⟨g, cap, cur, rfl, hbg, (hb g rfl).trans hg, rest⟩
theorem own_in' {w : World} {base sz n g : Nat} {e : TypeId} {v : Value} {xs : List Value} (h : w.ownsRow base e sz v n xs) (hv : v.ownBlock = some g) : base ≤ g ∧ g < w.heap.size := h.lt g hv
theorem blk_in' {w : World} {g : Nat} {o : Obj} (h : w.heap[g]? = some o) : g < w.heap.size := (Array.getElem?_eq_some_iff.1 h).1
theorem isb_below' {T e : TypeId} {B b : Nat} {bs : List Value} {w w' : World} (h : Lib.IsBuilder T e B b bs w) (hb : Below w.heap.size w w') : Lib.IsBuilder T e B b bs w' := by
  have k : ∀ p, Lib.BuilderAt T e B b p bs w → Lib.BuilderAt T e B b p bs w' := by
    rintro p ⟨h1, v, h2, h3, h4⟩
    exact ⟨h1, v, still_block h2 hb, own_below h3 hb, h4⟩
  exact h.imp (k _) (k _)
end Wb
namespace Go.Proofs.YtbdamneophbnnaaGreatDoor
open Go.RowKit Wb
theorem qw_lies : liesAt Tryz.prog Tryz.prog.depth 89 (2 / Tryz.prog.cellsOf 89) 0 89 1 = true := by kernel_rfl
theorem qw_size : (Tryz.prog.info? 89).map (·.size) = some 2 := by kernel_rfl
theorem qw_byte : (Tryz.prog.info? 5).map (fun i => (i.zero, i.size, i.bytes)) = some (some (.int .u8 0), 1, 1) := by kernel_rfl
theorem qw_esc (x : Value) (w : World) : (callFunc 103 #[x]).run Tryz.prog w = .ok (.value x) w := by
  rw [run_callFunc_extern (P := Tryz.prog) (f := 103) (fn := Tryz.f103) (e := Extern.AbiNoEscape.same) (by kernel_rfl) (by kernel_rfl) (by kernel_rfl) (by kernel_rfl) (by kernel_rfl), Lib.run_noEscape]
  rfl
set_option maxHeartbeats 1000000 in
set_option maxRecDepth 100000 in
theorem qw_check {B b : Nat} {bs : List Value} {w : World} (h : Lib.IsBuilder 89 5 B b bs w) :
    Calls Tryz.prog 75 #[.pointer (some ⟨b, 0, none⟩)] w fun e w' => e = .returned (.tuple #[]) ∧ Lib.BuilderAt 89 5 B b (.pointer (some ⟨b, 0, none⟩)) bs w' ∧ Below B w w' := by
  obtain ⟨j, hj, hjs⟩ := Option.map_eq_some_iff.1 qw_size
  rcases h with ⟨h1, v, h2, h3, h4⟩ | ⟨h1, v, h2, h3, h4⟩
  · have h0 : w.cell? ⟨b, 0, none⟩ = some (.pointer none) := blk_cell h2 0
    have hfz := blk_free h2 0
    have hsh : w.shape? b = some (89, 2) := by simp [World.shape?, h2]
    have e1 : (convert 87 140 (.pointer (some ⟨b, 0, none⟩))).run Tryz.prog w = .ok (.pointer (some ⟨b, 0, none⟩)) w := Lib.run_to_unsafe w ⟨b, 0, none⟩ Tryz.underlying87 Tryz.underlying140 hj (by rw [hjs]; decide) hsh (by show 0 < 2; omega)
    have e2 : (convert 140 87 (.pointer (some ⟨b, 0, none⟩))).run Tryz.prog w = .ok (.pointer (some ⟨b, 0, none⟩)) w := Lib.run_from_unsafe w ⟨b, 0, none⟩ Tryz.underlying140 Tryz.underlying87 hj hsh qw_lies
    have e3 := qw_esc
    have hfin : Lib.BuilderAt 89 5 B b (.pointer (some ⟨b, 0, none⟩)) bs (w.setCell ⟨b, 0, none⟩ (.pointer (some ⟨b, 0, none⟩))) ∧ Below B w (w.setCell ⟨b, 0, none⟩ (.pointer (some ⟨b, 0, none⟩))) := by
      refine ⟨⟨h1, v, by simpa using blk_set h2 0 (.pointer (some ⟨b, 0, none⟩)), own_blk' h3 fun k hv => Below.heap_setCell _ _ _ _ (fun e => h4 (by rw [hv]; simpa using e)), h4⟩, (Below.refl B w).setCell (p := ⟨b, 0, none⟩) h1 _⟩
    have HF := Lib.hid hfin
    clear hfin h3 h4 hsh hj hjs h2
    go_enter Tryz.func75, Tryz.ntmps75
    go_wp2
    go_end0
    exact ⟨rfl, HF.out⟩
  · have h0 : w.cell? ⟨b, 0, none⟩ = some (.pointer (some ⟨b, 0, none⟩)) := blk_cell h2 0
    have hfin : Lib.BuilderAt 89 5 B b (.pointer (some ⟨b, 0, none⟩)) bs w ∧ Below B w w := ⟨⟨h1, v, h2, h3, h4⟩, Below.refl _ _⟩
    have HF := Lib.hid hfin
    have hpe := fun (v : World) => Lib.run_neq_ptr_same (P := Tryz.prog) v ⟨b, 0, none⟩ Tryz.underlying87 hj
    clear hfin h3 h4 hj hjs h2
    go_enter Tryz.func75, Tryz.ntmps75
    go_wp2
    go_end0
    exact ⟨rfl, HF.out⟩
set_option maxHeartbeats 2000000 in
set_option maxRecDepth 100000 in
theorem qwrite_any (B b : Nat) (bs : List Value) (s : ByteArray) (w : World) (h : Lib.IsBuilder 89 5 B b bs w) (hlen : bs.length + s.size ≤ 140737488355328) (_hBw : B ≤ w.heap.size) :
    Calls Tryz.prog 111 #[.pointer (some ⟨b, 0, none⟩), .string s] w fun e w' => (∃ v, e = .returned v) ∧ Lib.IsBuilder 89 5 B b (bs ++ Lib.strCells s) w' ∧ Below B w w' := by
  obtain ⟨i0, hi, hz0, hz1, hz2⟩ := info_parts qw_byte
  have hc := qw_check h
  clear h
  go_enter Tryz.func111, Tryz.ntmps111
  go_wp2_with fail
  refine hc.mono ?_
  rintro e w1 ⟨rfl, ⟨a1, v, a2, a3, a4⟩, hk1⟩
  have c0 : w1.cell? ⟨b, 0, none⟩ = some (.pointer (some ⟨b, 0, none⟩)) := blk_cell a2 0
  have c1 : w1.cell? ⟨b, 1, none⟩ = some v := blk_cell a2 1
  have hb1 := blk_in' a2
  have A2 := Lib.hid a2
  have A4 := Lib.hid a4
  have K1 := Lib.hid hk1
  have hm : bs.length + s.size ≤ maxLen := by unfold maxLen; omega
  have hbw : B ≤ w1.heap.size := by omega
  clear hc hk1 a2 a4
  go_wp2_with (at_builtin; refine Lib.wpList_append_own_string _ rfl _ _ 74 9 rfl B 5 i0 Tryz.underlying74 Tryz.underlying9 hi hz0 hz1 hz2 _ _ _ rfl a3 s rfl hm hlen hbw ?_)
  intro v' w2 hown' hgrow _
  obtain ⟨A, c, rfl⟩ := own_shape hown'
  have hne : some b ≠ v.ownBlock := fun e => A4.out e.symm
  have hb2 := grown_block A2.out hgrow hne
  have d0 : w2.cell? ⟨b, 0, none⟩ = some (.pointer (some ⟨b, 0, none⟩)) := blk_cell hb2 0
  have d1 : w2.cell? ⟨b, 1, none⟩ = some v := blk_cell hb2 1
  have f1 := blk_free hb2 1
  have hk2 : Below B w1 (w2.setCell ⟨b, 1, none⟩ (.slice A (bs.length + s.size) c)) :=
    ((Below.refl B w1).grown hgrow hbw (fun k hv => (own_in' a3 hv).1)).setCell (p := ⟨b, 1, none⟩) a1 _
  have hne2 : (Value.slice A (bs.length + s.size) c).ownBlock ≠ some b := by
    intro e
    rcases hown'.2 with ⟨h0, _⟩ | ⟨g, cap, cur, hv, _, hg, _⟩
    · rw [h0] at e; simp [Value.ownBlock] at e
    · rw [hv] at e
      simp only [Value.ownBlock, Option.some.injEq] at e
      subst e
      rw [hb2] at hg
      injection hg with hg
      injection hg with _ hg
      exact absurd hg (by decide)
  have hfin : Lib.IsBuilder 89 5 B b (bs ++ Lib.strCells s) (w2.setCell ⟨b, 1, none⟩ (.slice A (bs.length + s.size) c)) := by
    refine .inr ⟨a1, _, by simpa using blk_set hb2 1 (.slice A (bs.length + s.size) c), ?_, hne2⟩
    have := own_blk' (w' := w2.setCell ⟨b, 1, none⟩ (.slice A (bs.length + s.size) c)) hown' fun k hv => Below.heap_setCell _ _ _ _ (fun e => hne2 (by rw [hv]; simpa using e))
    rw [List.length_append, show (Lib.strCells s).length = s.size from by rw [Lib.strCells_eq, Lib.byteCells_length, ← Lib.size_eq]]
    exact this
  have HF := Lib.hid hfin
  have K2 := Lib.hid (K1.out.trans hk2)
  clear hfin hk2 hown' hgrow hb2 hne2 a3 hne
  go_wp2
  go_ret2
  exact ⟨⟨_, rfl⟩, HF.out, K2.out⟩
set_option maxHeartbeats 2000000 in
set_option maxRecDepth 100000 in
theorem qbyte_any (B b : Nat) (bs : List Value) (c : Int) (w : World) (h : Lib.IsBuilder 89 5 B b bs w) (hlen : bs.length + 1 ≤ 140737488355328) (_hBw : B ≤ w.heap.size) :
    Calls Tryz.prog 49 #[.pointer (some ⟨b, 0, none⟩), .int .u8 c] w fun e w' => (∃ v, e = .returned v) ∧ Lib.IsBuilder 89 5 B b (bs ++ [.int .u8 c]) w' ∧ Below B w w' := by
  obtain ⟨i0, hi, hz0, hz1, hz2⟩ := info_parts qw_byte
  have hc := qw_check h
  clear h
  go_enter Tryz.func49, Tryz.ntmps49
  go_wp2_with fail
  refine hc.mono ?_
  rintro e w1 ⟨rfl, ⟨hB, v, hbk, hown, hne⟩, hb1⟩
  have c0 : w1.cell? ⟨b, 0, none⟩ = some (.pointer (some ⟨b, 0, none⟩)) := blk_cell hbk 0
  have c1 : w1.cell? ⟨b, 1, none⟩ = some v := blk_cell hbk 1
  have hlt := blk_in' hbk
  have hbw : B ≤ w1.heap.size := by omega
  go_wp2_with (at_builtin; refine wpList_append_own _ rfl _ _ 74 rfl B 5 i0 (.int .u8 0) 1 1 Tryz.underlying74 hi hz0 hz1 hz2 rfl (by decide) _ _ _ rfl (hown.alloc _) ⟨w1.heap.size, 0, none⟩ 1 1 [.int .u8 c] rfl rfl ?c1 ?c2 ?c3 ?c4 ?c5 ?_)
  case c1 =>
    intro j u hj
    match j, hj with
    | 0, hj => simp at hj; subst hj; simp [Addr.add]
  case c2 => intro u hu; simp at hu; subst hu; rfl
  case c3 => unfold maxLen; omega
  case c4 => omega
  case c5 => simp; omega
  intro v' w2 hown' hgrow _
  have hb2 : w2.heap[b]? = some (.cells #[.pointer (some ⟨b, 0, none⟩), v] 89 (0, 0)) := by
    rw [hgrow.block b (by simp; omega) (fun e => hne e.symm), Lib.alloc_old w1 _ b hlt]
    exact hbk
  have d0 : w2.cell? ⟨b, 0, none⟩ = some (.pointer (some ⟨b, 0, none⟩)) := blk_cell hb2 0
  have d1 : w2.cell? ⟨b, 1, none⟩ = some v := blk_cell hb2 1
  have f1 := blk_free hb2 1
  obtain ⟨g, cap, rfl⟩ : ∃ g cap, v' = .slice (some ⟨g, 0, none⟩) (bs.length + 1) cap := by
    rcases hown'.2 with ⟨_, h0⟩ | ⟨g, cap, cur, hv, _⟩
    · omega
    · exact ⟨g, cap, hv⟩
  have hfin : Lib.IsBuilder 89 5 B b (bs ++ [.int .u8 c]) (w2.setCell ⟨b, 1, none⟩ (.slice (some ⟨g, 0, none⟩) (bs.length + 1) cap)) :=
    .inr (Lib.BuilderAt.put (T := 89) (e := 5) hB hb2 (bs' := bs ++ [.int .u8 c]) (by simpa using hown') (by decide))
  have HF := Lib.hid hfin
  have HK := Lib.hid (((hb1.alloc (by omega) _).grown hgrow (by simp; omega) (fun k hk => (hown.lt k hk).1)).setCell (p := ⟨b, 1, none⟩) hB (.slice (some ⟨g, 0, none⟩) (bs.length + 1) cap))
  clear hfin hown' hgrow hown hc
  go_wp2
  go_ret
  exact ⟨⟨_, rfl⟩, HF.out, HK.out⟩
end Go.Proofs.YtbdamneophbnnaaGreatDoor
namespace Wb
open Go Go.RowKit
theorem freeze_here {w : World} {g : Nat} {cur : Array Value} {t : TypeId} {fr : Nat × Nat} (h : w.heap[g]? = some (.cells cur t fr)) (n : Nat) : ∃ fr', (w.freeze ⟨g, 0, none⟩ n).heap[g]? = some (.cells cur t fr') := by
  unfold World.freeze
  split
  · exact ⟨fr, h⟩
  · refine ⟨(if fr.1 == fr.2 then (0, 0 + n) else (min fr.1 0, max fr.2 (0 + n))), ?_⟩
    simp only [Array.getElem?_modify, if_pos]
    rw [h]
    rfl
theorem freeze_else {w : World} {g k : Nat} (h : k ≠ g) (n : Nat) : (w.freeze ⟨g, 0, none⟩ n).heap[k]? = w.heap[k]? := by
  unfold World.freeze
  split
  · rfl
  · simp only [Array.getElem?_modify]
    rw [if_neg (fun e => h e.symm)]
end Wb
namespace Go.Proofs.YtbdamneophbnnaaGreatDoor
open Go.RowKit Wb
def ToldB (B b : Nat) (l : List UInt8) (w : World) : Prop := B ≤ b ∧ ∃ p v, w.heap[b]? = some (.cells #[p, v] 89 (0, 0)) ∧
  ((v = .slice none 0 0 ∧ l = []) ∨ ∃ g cap cur fr, v = .slice (some ⟨g, 0, none⟩) l.length cap ∧ B ≤ g ∧ g ≠ b ∧ w.heap[g]? = some (.cells cur 5 fr) ∧ l.length ≤ cap ∧ cap ≤ maxLen ∧ cur.size = cap ∧ cur.toList.take l.length = Lib.byteCells l)
theorem toldB_of {B b : Nat} {l : List UInt8} {w : World} (h : Lib.IsBuilder 89 5 B b (Lib.byteCells l) w) : ToldB B b l w := by
  obtain ⟨p, hB, v, hbk, hown, hne⟩ : ∃ p, Lib.BuilderAt 89 5 B b p (Lib.byteCells l) w := by
    rcases h with h | h
    · exact ⟨_, h⟩
    · exact ⟨_, h⟩
  rw [Lib.byteCells_length] at hown
  refine ⟨hB, p, v, hbk, ?_⟩
  rcases hown.2 with ⟨hv, hz⟩ | ⟨g, cap, cur, hv, hbg, hg, hnc, hcm, hcs, htake⟩
  · exact .inl ⟨hv, List.eq_nil_of_length_eq_zero hz⟩
  · refine .inr ⟨g, cap, cur, _, hv, hbg, ?_, hg, hnc, hcm, by omega, by rw [Nat.mul_one] at htake; exact htake⟩
    rintro rfl
    exact hne (by rw [hv]; rfl)
theorem ToldB.keep {B b : Nat} {l : List UInt8} {w w' : World} (h : ToldB B b l w) (hk : ∀ k, k < w.heap.size → w'.heap[k]? = w.heap[k]?) : ToldB B b l w' := by
  obtain ⟨h1, p, v, h2, h3⟩ := h
  refine ⟨h1, p, v, (hk b (Array.getElem?_eq_some_iff.1 h2).1).trans h2, ?_⟩
  rcases h3 with h3 | ⟨g, cap, cur, fr, a1, a2, a3, a4, a5⟩
  · exact .inl h3
  · exact .inr ⟨g, cap, cur, fr, a1, a2, a3, (hk g (Array.getElem?_eq_some_iff.1 a4).1).trans a4, a5⟩
theorem ToldB.below {B b : Nat} {l : List UInt8} {w w' : World} (h : ToldB B b l w) (hb : Below w.heap.size w w') : ToldB B b l w' := h.keep fun _ hk => hb.block _ hk
theorem ToldB.freeze {B b : Nat} {l : List UInt8} {w : World} (h : ToldB B b l w) {g : Nat} (hg : g ≠ b) (n : Nat) : ToldB B b l (w.freeze ⟨g, 0, none⟩ n) := by
  obtain ⟨h1, p, v, h2, h3⟩ := h
  refine ⟨h1, p, v, (freeze_else (fun e => hg e.symm) n).trans h2, ?_⟩
  rcases h3 with h3 | ⟨g', cap, cur, fr, a1, a2, a3, a4, a5⟩
  · exact .inl h3
  · by_cases e : g' = g
    · subst e
      obtain ⟨fr', hf⟩ := freeze_here a4 n
      exact .inr ⟨g', cap, cur, fr', a1, a2, a3, hf, a5⟩
    · exact .inr ⟨g', cap, cur, fr, a1, a2, a3, (freeze_else e n).trans a4, a5⟩
set_option maxHeartbeats 2000000 in
set_option maxRecDepth 100000 in
theorem told_string {B b : Nat} {l : List UInt8} {w : World} (h : ToldB B b l w) (hBw : B ≤ w.heap.size) :
    Calls Tryz.prog 50 #[.pointer (some ⟨b, 0, none⟩)] w fun e w' => e = .returned (.string ⟨l.toArray⟩) ∧ Below B w w' ∧ ToldB B b l w' := by
  have hUS := fun (W : World) (q : Option Addr) => Lib.run_unsafeString_none (P := Tryz.prog) W 119 3 9 q
  have hU0 : ∀ (W : World), (Builtin.unsafeSliceData_ #[74] 119 #[.slice none 0 0]).run Tryz.prog W = .ok (.pointer none) W := fun _ => rfl
  have HT := Lib.hid h
  obtain ⟨hBb, p, v, h2, h3⟩ := h
  have hbw := (Array.getElem?_eq_some_iff.1 h2).1
  have HTd : Hid (ToldB B b l w.drew) := Lib.hid HT.out
  rcases h3 with ⟨rfl, rfl⟩ | ⟨g, cap, cur, fr, rfl, hbg, hgb, hg, hnc, hcm, hcs, htake⟩
  · have c1 : w.drew.cell? ⟨b, 1, none⟩ = some (.slice none 0 0) := blk_cell (w := w.drew) h2 1
    clear HT h2
    go_enter Tryz.func50, Tryz.ntmps50
    go_wp2
    go_region
    all_goals (go_wp2; go_ret; exact ⟨rfl, Below.drew (Below.refl B w), HTd.out⟩)
  · by_cases h0 : l = []
    · subst h0
      by_cases hc0 : cap = 0
      · subst hc0
        have c1 : w.drew.cell? ⟨b, 1, none⟩ = some (.slice (some ⟨g, 0, none⟩) 0 0) := blk_cell (w := w.drew) h2 1
        have c0 : w.cell? ⟨b, 1, none⟩ = some (.slice (some ⟨g, 0, none⟩) 0 0) := c1
        have hSD : (Builtin.unsafeSliceData_ #[74] 119 #[.slice (some ⟨g, 0, none⟩) 0 0]).run Tryz.prog w.drew = .ok (.pointer (some ⟨w.drew.heap.size, 0, none⟩)) (w.drew.alloc (.view ⟨g, 0, none⟩ 5)) :=
          Lib.run_unsafeSliceData_zero w.drew _ _ 5 Tryz.underlying119 ⟨g, 0, none⟩ 0 (5, cur.size) (by have hg' : w.drew.heap[g]? = some (.cells cur 5 fr) := hg; simp [World.shape?, hg'])
        have c2 : (w.drew.alloc (.view ⟨g, 0, none⟩ 5)).cell? ⟨b, 1, none⟩ = some (.slice (some ⟨g, 0, none⟩) 0 0) := by
          have : (w.drew.alloc (.view ⟨g, 0, none⟩ 5)).heap[b]? = _ := (Lib.alloc_old w.drew _ b hbw).trans h2
          exact blk_cell this 1
        have c3 : (w.alloc (.view ⟨g, 0, none⟩ 5)).drew.cell? ⟨b, 1, none⟩ = some (.slice (some ⟨g, 0, none⟩) 0 0) := c2
        have HTa : Hid (ToldB B b [] (w.drew.alloc (.view ⟨g, 0, none⟩ 5))) := Lib.hid (HTd.out.keep fun k hk => Lib.alloc_old w.drew _ k hk)
        clear HT h2 hg hcs htake
        go_enter Tryz.func50, Tryz.ntmps50
        go_wp2
        go_region
        all_goals (go_wp2; go_ret; exact ⟨rfl, (Below.drew (Below.refl B w)).alloc hBw _, HTa.out⟩)
      · have c1 : w.drew.cell? ⟨b, 1, none⟩ = some (.slice (some ⟨g, 0, none⟩) 0 cap) := blk_cell (w := w.drew) h2 1
        have hSD : (Builtin.unsafeSliceData_ #[74] 119 #[.slice (some ⟨g, 0, none⟩) 0 cap]).run Tryz.prog w.drew = .ok (.pointer (some ⟨g, 0, none⟩)) w.drew :=
          Lib.run_unsafeSliceData_row _ _ _ _ _ _ hc0
        clear HT h2 hg hcs htake hc0 hcm hnc
        go_enter Tryz.func50, Tryz.ntmps50
        go_wp2
        go_region
        all_goals (go_wp2; go_ret; exact ⟨rfl, Below.drew (Below.refl B w), HTd.out⟩)
    · have hl0 : l.length ≠ 0 := by simpa using h0
      have c1 : w.drew.cell? ⟨b, 1, none⟩ = some (.slice (some ⟨g, 0, none⟩) l.length cap) := blk_cell (w := w.drew) h2 1
      have hSD : (Builtin.unsafeSliceData_ #[74] 119 #[.slice (some ⟨g, 0, none⟩) l.length cap]).run Tryz.prog w.drew = .ok (.pointer (some ⟨g, 0, none⟩)) w.drew :=
        Lib.run_unsafeSliceData_row _ _ _ _ _ _ (by omega)
      have hU2 : (Builtin.unsafeString_ #[119, 3] 9 #[.pointer (some ⟨g, 0, none⟩), .int .i64 l.length]).run Tryz.prog w.drew = .ok (.string ⟨l.toArray⟩) (w.drew.freeze ⟨g, 0, none⟩ l.length) := by
        refine Lib.run_unsafeString_row w.drew 119 3 9 5 Tryz.underlying119 (by kernel_rfl) g cur.size (by have hg' : w.drew.heap[g]? = some (.cells cur 5 fr) := hg; simp [World.shape?, hg']) l h0 (by omega) (by unfold maxLen at hcm; omega) ?_
        intro j x hx
        have hj := (List.getElem?_eq_some_iff.1 hx).1
        have e1 : (Lib.byteCells l)[j]? = some (.int .u8 x.toNat) := by simp [Lib.byteCells, hx]
        rw [← htake, List.getElem?_take, if_pos hj] at e1
        rw [Addr.add_lit, Nat.zero_add, cell_of_row w.drew g j cur 5 fr hg]
        simpa using e1
      have HTf : Hid (ToldB B b l (w.drew.freeze ⟨g, 0, none⟩ l.length)) := Lib.hid (HTd.out.freeze hgb _)
      clear HT h2 hg hcs htake hcm hnc hUS
      go_enter Tryz.func50, Tryz.ntmps50
      go_wp2
      go_region
      all_goals (go_wp2; go_ret; exact ⟨rfl, Lib.below_freeze (Below.drew (Below.refl B w)) (p := ⟨g, 0, none⟩) hbg _, HTf.out⟩)
end Go.Proofs.YtbdamneophbnnaaGreatDoor
