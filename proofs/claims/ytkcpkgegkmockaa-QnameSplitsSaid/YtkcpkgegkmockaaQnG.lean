
/- Contracts: comparing two slices that read alike; Few and FewRaw. -/
import Derived.Test.YtkcpkgegkmockaaQnF
namespace Go.Proofs.Ytkcpkgegkmockaa
open Go.RowKit Wb

set_option maxHeartbeats 1000000 in
theorem binds_same (A B : Option Addr) (l : List Pr) (c d : Nat) (w : World) (hl : l.length ≤ 1000000) (hA : Sl2 w A l) (hB : Sl2 w B l) :
    Calls Try.prog 15 #[.slice A l.length c, .slice B l.length d] w fun e w' => e = .returned (.bool true) ∧ Below w.heap.size w w' := by
  go_enter Try.func15, Try.ntmps15
  go_wp2
  go_loopw [5] (fun i wr => ∃ k : Nat, k ≤ l.length ∧ i = .int .i64 k ∧ Below w.heap.size w wr) (fun i _ => ((l.length : Int) - intOf i).toNat)
  case atStart => exact ⟨0, by omega, rfl, Below.refl _ _⟩
  case round =>
    obtain ⟨k, hk, rfl, hb⟩ := hrel
    by_cases h0 : k < l.length
    · obtain ⟨⟨x1, x2⟩, he⟩ : ∃ x, l[k]? = some x := ⟨l[k], List.getElem?_eq_getElem (by omega)⟩
      obtain ⟨ad, rfl, _, c1, c2⟩ := (hA.below hb).at_ he
      obtain ⟨bd, rfl, _, d1, d2⟩ := (hB.below hb).at_ he
      clear he
      go_wp2
      go_region
      go_wp2
      go_roundw
      case rel => exact ⟨k + 1, by omega, by go_num, hb.drew⟩
      case measure => simp [intOf]; omega
    · go_wp2
      go_ret
      exact ⟨rfl, hb⟩

set_option maxHeartbeats 1000000 in
theorem raws_same (A B : Option Addr) (l : List Pr) (c d : Nat) (w : World) (hl : l.length ≤ 1000000) (hA : Sl2 w A l) (hB : Sl2 w B l) :
    Calls Try.prog 25 #[.slice A l.length c, .slice B l.length d] w fun e w' => e = .returned (.bool true) ∧ Below w.heap.size w w' := by
  go_enter Try.func25, Try.ntmps25
  go_wp2
  go_loopw [5] (fun i wr => ∃ k : Nat, k ≤ l.length ∧ i = .int .i64 k ∧ Below w.heap.size w wr) (fun i _ => ((l.length : Int) - intOf i).toNat)
  case atStart => exact ⟨0, by omega, rfl, Below.refl _ _⟩
  case round =>
    obtain ⟨k, hk, rfl, hb⟩ := hrel
    by_cases h0 : k < l.length
    · obtain ⟨⟨x1, x2⟩, he⟩ : ∃ x, l[k]? = some x := ⟨l[k], List.getElem?_eq_getElem (by omega)⟩
      obtain ⟨ad, rfl, _, c1, c2⟩ := (hA.below hb).at_ he
      obtain ⟨bd, rfl, _, d1, d2⟩ := (hB.below hb).at_ he
      clear he
      go_wp2
      go_region
      go_wp2
      go_roundw
      case rel => exact ⟨k + 1, by omega, by go_num, hb.drew⟩
      case measure => simp [intOf]; omega
    · go_wp2
      go_ret
      exact ⟨rfl, hb⟩

set_option maxHeartbeats 1000000 in
theorem same_same (A B : Option Addr) (l : List Tr) (c d : Nat) (w : World) (hl : l.length ≤ 1000000) (hA : Sl3 w A l) (hB : Sl3 w B l) :
    Calls Try.prog 26 #[.slice A l.length c, .slice B l.length d] w fun e w' => e = .returned (.bool true) ∧ Below w.heap.size w w' := by
  go_enter Try.func26, Try.ntmps26
  go_wp2
  go_loopw [5] (fun i wr => ∃ k : Nat, k ≤ l.length ∧ i = .int .i64 k ∧ Below w.heap.size w wr) (fun i _ => ((l.length : Int) - intOf i).toNat)
  case atStart => exact ⟨0, by omega, rfl, Below.refl _ _⟩
  case round =>
    obtain ⟨k, hk, rfl, hb⟩ := hrel
    by_cases h0 : k < l.length
    · obtain ⟨⟨⟨x1, x2⟩, x3⟩, he⟩ : ∃ x, l[k]? = some x := ⟨l[k], List.getElem?_eq_getElem (by omega)⟩
      obtain ⟨ad, rfl, _, c1, c2, c3⟩ := (hA.below hb).at_ he
      obtain ⟨bd, rfl, _, d1, d2, d3⟩ := (hB.below hb).at_ he
      clear he
      go_wp2
      go_region
      go_wp2
      go_roundw
      case rel => exact ⟨k + 1, by omega, by go_num, hb.drew⟩
      case measure => simp [intOf]; omega
    · go_wp2
      go_ret
      exact ⟨rfl, hb⟩


def tot (l : List Pr) : Nat := (l.map fun x => x.1.size + x.2.size).sum

/-- What Few says where it says yes. -/
def FewPost (l : List Pr) (w : World) (e : Ending) (w' : World) : Prop :=
  Below w.heap.size w w' ∧ ∃ b, e = .returned (.bool b) ∧ (b = true → l.length + tot l < 3000)

theorem tot_step {l : List Pr} {k : Nat} {x : Pr} (h : l[k]? = some x) : tot (l.take (k + 1)) = tot (l.take k) + (x.1.size + x.2.size) := by
  rw [take_snoc l k x h]; simp [tot]

set_option maxHeartbeats 2000000 in
set_option maxRecDepth 100000 in
theorem few_any (A : Option Addr) (l : List Pr) (c : Nat) (w : World) (hA : Sl2 w A l) :
    Calls Try.prog 12 #[.slice A l.length c] w (FewPost l w) := by
  by_cases hlen : (l.length : Int) ≤ 3000
  · go_enter Try.func12, Try.ntmps12
    go_wp2
    go_loopw [3, 4] (fun n i wr => ∃ (k N : Nat), k ≤ l.length ∧ n = .int .i64 N ∧ i = .int .i64 k ∧ N ≤ 9000 ∧ Hid (N < 3000 → l.length + tot (l.take k) = N) ∧ Below w.heap.size w wr) (fun _ i _ => ((l.length : Int) - intOf i).toNat)
    case atStart => exact ⟨0, l.length, by omega, rfl, rfl, by omega, Lib.hid (fun _ => by simp [tot]), Below.refl _ _⟩
    case round =>
      obtain ⟨k, N, hk, rfl, rfl, hN, HT, hb⟩ := hrel
      by_cases h1 : (N : Int) < 3000
      · by_cases h0 : (k : Int) < l.length
        · obtain ⟨⟨x1, x2⟩, he⟩ : ∃ x, l[k]? = some x := ⟨l[k], List.getElem?_eq_getElem (by omega)⟩
          obtain ⟨ad, rfl, _, c1, c2⟩ := (hA.below hb).at_ he
          have HE := Lib.hid he
          clear he
          by_cases m1 : (x1.size : Int) ≤ 3000
          · by_cases m2 : (x2.size : Int) ≤ 3000
            · go_wp2
              go_region
              go_wp2
              go_roundw
              case rel => exact ⟨k + 1, N + x1.size + x2.size, by omega, by go_num, by go_num, by omega, Lib.hid (fun _ => by rw [tot_step HE.out, ← HT.out (by omega)]; simp only; omega), hb.drew⟩
              case measure => simp [intOf]; omega
            · go_wp2
              go_region
              go_wp2
              go_roundw
              case rel => exact ⟨k + 1, N + x1.size + 3000, by omega, by go_num, by go_num, by omega, Lib.hid (fun h => absurd h (by omega)), hb.drew⟩
              case measure => simp [intOf]; omega
          · by_cases m2 : (x2.size : Int) ≤ 3000
            · go_wp2
              go_region
              go_wp2
              go_roundw
              case rel => exact ⟨k + 1, N + 3000 + x2.size, by omega, by go_num, by go_num, by omega, Lib.hid (fun h => absurd h (by omega)), hb.drew⟩
              case measure => simp [intOf]; omega
            · go_wp2
              go_region
              go_wp2
              go_roundw
              case rel => exact ⟨k + 1, N + 3000 + 3000, by omega, by go_num, by go_num, by omega, Lib.hid (fun h => absurd h (by omega)), hb.drew⟩
              case measure => simp [intOf]; omega
        · have hd : decide ((N : Int) < 3000) = true := decide_eq_true h1
          go_wp2
          go_ret
          refine ⟨hb, _, rfl, fun _ => ?_⟩
          have := HT.out (by omega)
          rw [List.take_of_length_le (by omega)] at this
          omega
      · go_wp2
        all_goals
          go_ret
          exact ⟨hb, _, rfl, fun h => absurd h (by simp)⟩
  · go_enter Try.func12, Try.ntmps12
    go_wp2
    go_loopw [3, 4] (fun n i wr => n = .int .i64 3000 ∧ i = .int .i64 0 ∧ wr = w) (fun _ _ _ => 0)
    case atStart => exact ⟨rfl, rfl, rfl⟩
    case round =>
      obtain ⟨rfl, rfl, rfl⟩ := hrel
      go_wp2
      all_goals
        go_ret
        exact ⟨Below.refl _ _, _, rfl, fun h => absurd h (by simp)⟩

set_option maxHeartbeats 2000000 in
set_option maxRecDepth 100000 in
theorem fewRaw_any (A : Option Addr) (l : List Pr) (c : Nat) (w : World) (hA : Sl2 w A l) :
    Calls Try.prog 20 #[.slice A l.length c] w (FewPost l w) := by
  by_cases hlen : (l.length : Int) ≤ 3000
  · go_enter Try.func20, Try.ntmps20
    go_wp2
    go_loopw [3, 4] (fun n i wr => ∃ (k N : Nat), k ≤ l.length ∧ n = .int .i64 N ∧ i = .int .i64 k ∧ N ≤ 9000 ∧ Hid (N < 3000 → l.length + tot (l.take k) = N) ∧ Below w.heap.size w wr) (fun _ i _ => ((l.length : Int) - intOf i).toNat)
    case atStart => exact ⟨0, l.length, by omega, rfl, rfl, by omega, Lib.hid (fun _ => by simp [tot]), Below.refl _ _⟩
    case round =>
      obtain ⟨k, N, hk, rfl, rfl, hN, HT, hb⟩ := hrel
      by_cases h1 : (N : Int) < 3000
      · by_cases h0 : (k : Int) < l.length
        · obtain ⟨⟨x1, x2⟩, he⟩ : ∃ x, l[k]? = some x := ⟨l[k], List.getElem?_eq_getElem (by omega)⟩
          obtain ⟨ad, rfl, _, c1, c2⟩ := (hA.below hb).at_ he
          have HE := Lib.hid he
          clear he
          by_cases m1 : (x1.size : Int) ≤ 3000
          · by_cases m2 : (x2.size : Int) ≤ 3000
            · go_wp2
              go_region
              go_wp2
              go_roundw
              case rel => exact ⟨k + 1, N + x1.size + x2.size, by omega, by go_num, by go_num, by omega, Lib.hid (fun _ => by rw [tot_step HE.out, ← HT.out (by omega)]; simp only; omega), hb.drew⟩
              case measure => simp [intOf]; omega
            · go_wp2
              go_region
              go_wp2
              go_roundw
              case rel => exact ⟨k + 1, N + x1.size + 3000, by omega, by go_num, by go_num, by omega, Lib.hid (fun h => absurd h (by omega)), hb.drew⟩
              case measure => simp [intOf]; omega
          · by_cases m2 : (x2.size : Int) ≤ 3000
            · go_wp2
              go_region
              go_wp2
              go_roundw
              case rel => exact ⟨k + 1, N + 3000 + x2.size, by omega, by go_num, by go_num, by omega, Lib.hid (fun h => absurd h (by omega)), hb.drew⟩
              case measure => simp [intOf]; omega
            · go_wp2
              go_region
              go_wp2
              go_roundw
              case rel => exact ⟨k + 1, N + 3000 + 3000, by omega, by go_num, by go_num, by omega, Lib.hid (fun h => absurd h (by omega)), hb.drew⟩
              case measure => simp [intOf]; omega
        · have hd : decide ((N : Int) < 3000) = true := decide_eq_true h1
          go_wp2
          go_ret
          refine ⟨hb, _, rfl, fun _ => ?_⟩
          have := HT.out (by omega)
          rw [List.take_of_length_le (by omega)] at this
          omega
      · go_wp2
        all_goals
          go_ret
          exact ⟨hb, _, rfl, fun h => absurd h (by simp)⟩
  · go_enter Try.func20, Try.ntmps20
    go_wp2
    go_loopw [3, 4] (fun n i wr => n = .int .i64 3000 ∧ i = .int .i64 0 ∧ wr = w) (fun _ _ _ => 0)
    case atStart => exact ⟨rfl, rfl, rfl⟩
    case round =>
      obtain ⟨rfl, rfl, rfl⟩ := hrel
      go_wp2
      all_goals
        go_ret
        exact ⟨Below.refl _ _, _, rfl, fun h => absurd h (by simp)⟩

end Go.Proofs.Ytkcpkgegkmockaa
