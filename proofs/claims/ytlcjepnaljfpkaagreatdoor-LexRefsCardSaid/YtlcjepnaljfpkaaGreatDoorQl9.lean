/- LeG. -/
import Derived.Test.YtlcjepnaljfpkaaGreatDoorQl4
import Derived.Test.YtlcjepnaljfpkaaGreatDoorQl8
namespace Go.Proofs.YtlcjepnaljfpkaaGreatDoor
open Go.RowKit Wb
def foldZ : List Int := (List.range 128).map fun (i : Nat) => if i = 75 then 107 else if i = 83 then 115 else if i = 107 then 8490 else if i = 115 then 383 else if 65 ≤ i ∧ i ≤ 90 then (i : Int) + 32 else if 97 ≤ i ∧ i ≤ 122 then (i : Int) - 32 else (i : Int)
structure Gv (w : World) : Prop where
  sz : 11 ≤ w.heap.size
  ml : ∃ m, w.cell? ⟨6, 0, none⟩ = some (.int .i64 m)
  es : ∃ v, w.cell? ⟨9, 0, none⟩ = some v ∧ (v = .nilIface ∨ ∃ t p, v = .iface t p)
  er : ∃ v, w.cell? ⟨10, 0, none⟩ = some v ∧ (v = .nilIface ∨ ∃ t p, v = .iface t p)
  af : ∀ i : Nat, i < 128 → w.cell? ⟨1, i, none⟩ = some (.int .u16 (foldZ.getD i 0))
theorem Gv.keep {w w' : World} (h : Gv w) (hs : w.heap.size ≤ w'.heap.size) (hk : ∀ k, k < 11 → w'.heap[k]? = w.heap[k]?) : Gv w' := by
  have c : ∀ (g o : Nat), g < 11 → w'.cell? ⟨g, o, none⟩ = w.cell? ⟨g, o, none⟩ := fun g o hg => World.cell?_of_block (w := w) (hk g hg)
  obtain ⟨h0, h1, h2, h3, h4⟩ := h
  exact ⟨by omega, by rw [c _ _ (by decide)]; exact h1, by rw [c _ _ (by decide)]; exact h2, by rw [c _ _ (by decide)]; exact h3, fun i hi => by rw [c _ _ (by decide)]; exact h4 i hi⟩
theorem Gv.below {w w' : World} (h : Gv w) {B : Nat} (hB : 11 ≤ B) (hb : Below B w w') : Gv w' := h.keep hb.size (fun k hk => hb.block k (by omega))
theorem Gv.next {w w' : World} (h : Gv w) (hb : Below w.heap.size w w') : Gv w' := h.below h.sz hb
theorem Gv.alloc {w : World} (h : Gv w) (o : Obj) : Gv (w.alloc o) := h.next ((Below.refl _ w).alloc (Nat.le_refl _) o)
theorem Gv.drew {w : World} (h : Gv w) : Gv w.drew := h.next (Below.refl _ w).drew
theorem Gv.drewN {w : World} (h : Gv w) (n : Nat) : Gv (w.drewN n) := h.keep (Nat.le_refl _) (fun _ _ => rfl)
theorem Gv.setCell {w : World} (h : Gv w) {a : Addr} (ha : 11 ≤ a.block) (v : Value) : Gv (w.setCell a v) := h.below (B := 11) (Nat.le_refl _) ((Below.refl 11 w).setCell ha v)
def PuOut (o : Option Int) (e : Ending) : Prop :=
  match o with
  | some n => e = .returned (.tuple #[.int .u64 n, .nilIface])
  | none => ∃ v t p, e = .returned (.tuple #[.int .u64 v, .iface t p])
set_option maxRecDepth 100000 in
theorem ipu_none (b : Int) (w : World) :
    Calls Tryz.prog 168 #[.string ⟨#[]⟩, .int .i64 b, .int .i64 31] w fun e w' => PuIs none e ∧ Below w.heap.size w w' := by
  have he : (⟨#[]⟩ : ByteArray).toList.isEmpty = true := by rw [ByteArray.toList_eq]; rfl
  go_enter Tryz.func168, Tryz.ntmps168
  go_wp2
  go_ret2
  exact ⟨⟨_, _, rfl, .inr rfl⟩, Below.refl _ _⟩
theorem ipu_any (t : ByteArray) (b : Int) (hb : b = 10 ∨ b = 16) (hmax : t.size ≤ 1000000000) (w : World) :
    Calls Tryz.prog 168 #[.string t, .int .i64 b, .int .i64 31] w fun e w' => PuIs (puX b t.data.toList) e ∧ Below w.heap.size w w' := by
  by_cases h0 : t.size = 0
  · have ht : t = ⟨#[]⟩ := by
      apply ByteArray.ext
      exact Array.eq_empty_of_size_eq_zero h0
    subst ht
    have e : puX b (⟨#[]⟩ : ByteArray).data.toList = none := rfl
    rw [e]
    exact ipu_none b w
  · rcases hb with rfl | rfl
    · exact ipu10_any t h0 hmax w
    · exact ipu16_any t h0 hmax w
theorem pu_any (t : ByteArray) (b : Int) (hb : b = 10 ∨ b = 16) (hmax : t.size ≤ 1000000000) (w : World) (hG : Gv w) :
    Calls Tryz.prog 143 #[.string t, .int .i64 b, .int .i64 31] w fun e w' => PuOut (puX b t.data.toList) e ∧ Below w.heap.size w w' := by
  cases hp : puX b t.data.toList with
  | some n =>
    have HP := Lib.hid hp
    clear hp
    go_enter Tryz.func143, Tryz.ntmps143
    go_wp2_with fail
    refine (ipu_any t b hb hmax w).mono ?_
    rintro e w1 ⟨h1, hb1⟩
    rw [HP.out] at h1
    obtain rfl := h1
    go_wp2
    go_ret2
    exact ⟨rfl, hb1⟩
  | none =>
    have HP := Lib.hid hp
    clear hp
    go_enter Tryz.func143, Tryz.ntmps143
    go_wp2_with fail
    refine (ipu_any t b hb hmax w).mono ?_
    rintro e w1 ⟨h1, hb1⟩
    rw [HP.out] at h1
    obtain ⟨v, c, rfl, hc⟩ := h1
    have hG1 := hG.next hb1
    obtain ⟨vs, hs1, hs2⟩ := hG1.es
    obtain ⟨vr, hr1, hr2⟩ := hG1.er
    have hT : ∀ w2, w2 = w1 → Calls Tryz.prog 169 #[.string ⟨#[80, 97, 114, 115, 101, 85, 105, 110, 116]⟩, .string t, .int .i64 b, .int .i64 31, .iface 208 (.int .i64 c)] w2 fun e w' => (∃ N, e = .returned (.iface 210 (.pointer (some ⟨N, 0, none⟩)))) ∧ Below w1.heap.size w1 w' := by
      rintro w2 rfl
      rcases hc with rfl | rfl
      · exact (Tryz.strconv_toError_range _ t b 31 vr _ (by omega) hr1 hr2).mono fun e w' ⟨N, he, _, _, hb⟩ => ⟨⟨N, he⟩, hb⟩
      · exact (Tryz.strconv_toError_syntax _ t b 31 vs _ (by omega) hs1 hs2).mono fun e w' ⟨N, he, _, _, hb⟩ => ⟨⟨N, he⟩, hb⟩
    clear hs1 hs2 hr1 hr2
    go_wp2_with fail
    refine (hT _ rfl).mono ?_
    rintro e w3 ⟨⟨N, rfl⟩, hb3⟩
    go_wp2
    go_ret2
    exact ⟨⟨_, _, _, rfl⟩, hb1.trans (hb3.mono hb1.size)⟩
def numX (b : Int) (l : List UInt8) : List UInt8 :=
  match puX b l with
  | some n => if charB n = true then enc n else []
  | none => []
theorem numbered_any (t : ByteArray) (b : Int) (hb : b = 10 ∨ b = 16) (hmax : t.size ≤ 1000000000) (w : World) (hG : Gv w) :
    Calls Tryz.prog 119 #[.string t, .int .i64 b] w fun e w' => e = .returned (.string ⟨(numX b t.data.toList).toArray⟩) ∧ Below w.heap.size w w' := by
  cases hp : puX b t.data.toList with
  | none =>
    have e : numX b t.data.toList = [] := by unfold numX; rw [hp]
    rw [e]
    have HP := Lib.hid hp
    clear hp e
    go_enter Tryz.func119, Tryz.ntmps119
    go_wp2_with fail
    refine (pu_any t b hb hmax w hG).mono ?_
    rintro e w1 ⟨h1, hb1⟩
    rw [HP.out] at h1
    obtain ⟨v, tt, p, rfl⟩ := h1
    go_wp2
    go_ret
    exact ⟨rfl, hb1⟩
  | some n =>
    have hn : 0 ≤ n ∧ n ≤ 2147483647 := by
      unfold puX at hp
      cases hq : numL b t.data.toList with
      | none => rw [hq] at hp; cases hp
      | some m =>
        rw [hq] at hp
        simp only at hp
        split at hp
        · simp only [Option.some.injEq] at hp
          subst hp
          rename_i hm
          unfold numL at hq
          split at hq
          · cases hq
          · exact ⟨digL_ge b (by omega) _ 0 m (by omega) hq, hm⟩
        · cases hp
    obtain ⟨hn0, hn1⟩ := hn
    cases hc : charB n
    · have e : numX b t.data.toList = [] := by unfold numX; rw [hp]; simp only [hc]; rfl
      rw [e]
      have HP := Lib.hid hp
      have HC := Lib.hid hc
      clear hp e hc
      go_enter Tryz.func119, Tryz.ntmps119
      go_wp2_with fail
      refine (pu_any t b hb hmax w hG).mono ?_
      rintro e w1 ⟨h1, hb1⟩
      rw [HP.out] at h1
      obtain rfl := h1
      go_wp2_with fail
      refine (char_any n w1).mono ?_
      rw [HC.out]
      rintro e w2 ⟨rfl, hb2⟩
      go_wp2
      go_ret
      exact ⟨rfl, hb1.trans (hb2.mono hb1.size)⟩
    · have e : numX b t.data.toList = enc n := by unfold numX; rw [hp]; simp only [hc]; rfl
      rw [e]
      have HP := Lib.hid hp
      have HC := Lib.hid hc
      clear hp e hc
      go_enter Tryz.func119, Tryz.ntmps119
      go_wp2_with fail
      refine (pu_any t b hb hmax w hG).mono ?_
      rintro e w1 ⟨h1, hb1⟩
      rw [HP.out] at h1
      obtain rfl := h1
      go_wp2_with fail
      refine (char_any n w1).mono ?_
      rw [HC.out]
      rintro e w2 ⟨rfl, hb2⟩
      go_wp2_with fail
      refine (put_any n w2).mono ?_
      rintro e w3 ⟨rfl, hb3⟩
      go_wp2
      go_ret
      have h12 := hb1.trans (hb2.mono hb1.size)
      exact ⟨rfl, h12.trans (hb3.mono h12.size)⟩
end Go.Proofs.YtlcjepnaljfpkaaGreatDoor
