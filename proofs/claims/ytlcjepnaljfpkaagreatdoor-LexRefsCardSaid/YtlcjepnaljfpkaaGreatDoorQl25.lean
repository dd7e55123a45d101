/- LeZ. -/
import Derived.Lib.OthersKept
import Derived.Test.YtlcjepnaljfpkaaGreatDoorQl24
namespace Go.Proofs.YtlcjepnaljfpkaaGreatDoor
open Go.RowKit Wb Go.Lib
def ChkOut (m : Er Unit) (e : Ending) : Prop :=
  match m with
  | .ok _ => e = .returned (.tuple #[])
  | .error (p, c) => e = .panicked [flt p c]
set_option maxRecDepth 100000 in
set_option maxHeartbeats 1000000 in
theorem dcheck_any (s : ByteArray) (w : World) (hs : s.size ≤ 1000000000) :
    Calls Tryz.prog 38 #[.string s] w fun e w' => ChkOut (checkU s.data.toList) e ∧ Below w.heap.size w w' := by
  obtain ⟨r, hr⟩ : ∃ r, checkU s.data.toList = r := ⟨_, rfl⟩
  rw [hr]
  unfold checkU at hr
  rw [← Lib.size_eq] at hr
  by_cases h1 : 32768 < s.size
  · rw [if_pos h1] at hr
    have g1 : (32768 : Int) < (s.size : Int) := by omega
    have HR := Lib.hid hr
    clear hr h1
    go_enter Tryz.func38, Tryz.ntmps38
    go_wp2_with fail
    refine (fail_any 0 3 _).mono ?_
    rintro e w1 ⟨rfl, rfl⟩
    exact ⟨rfl, by rw [← HR.out]; rfl, Below.refl _ _⟩
  · rw [if_neg h1] at hr
    have g1 : ¬ ((32768 : Int) < (s.size : Int)) := by omega
    have hck := check_any s w hs
    obtain ⟨ck, hc⟩ : ∃ ck, chk s.data.toList = ck := ⟨_, rfl⟩
    rw [hc] at hr hck
    by_cases h2 : 0 ≤ ck
    · rw [if_pos h2] at hr
      have HR := Lib.hid hr
      clear hr h1 hc
      go_enter Tryz.func38, Tryz.ntmps38
      go_wp2_with fail
      refine hck.mono ?_
      rintro e w1 ⟨rfl, hb⟩
      go_wp2_with fail
      refine (fail_any ck 10 _).mono ?_
      rintro e w2 ⟨rfl, rfl⟩
      refine ⟨rfl, ?_, hb⟩
      rw [← HR.out]
      show _ = Ending.panicked [flt ((ck.toNat : Nat) : Int) _]
      rw [Int.toNat_of_nonneg h2]
      rfl
    · rw [if_neg h2] at hr
      have HR := Lib.hid hr
      clear hr h1 hc
      go_enter Tryz.func38, Tryz.ntmps38
      go_wp2_with fail
      refine hck.mono ?_
      rintro e w1 ⟨rfl, hb⟩
      have hit : (w1.iter s 0).heap[w1.heap.size]? = some (.stringIter s 0) := World.iter_heap w1 s 0
      have hb1 : Below w.heap.size w (w1.iter s 0) := hb.alloc hb.size _
      have hkb : w.heap.size ≤ w1.heap.size := hb.size
      have HIT := Lib.hid hit
      have HB1 := Lib.hid hb1
      clear hck hit hb1 hb
      go_wp2
      go_loopg [] s.size (fun g wx => ∃ pos : Nat, s.size ≤ pos + g ∧ wx.heap[w1.heap.size]? = some (.stringIter s pos) ∧ Below w.heap.size w wx ∧ Hid (badU s.size s.data.toList 0 = badU g (s.data.toList.drop pos) pos))
      case atStart => exact ⟨0, by omega, HIT.out, HB1.out, Lib.hid rfl⟩
      case round =>
        obtain ⟨pos, hpg, hk, hbw, HI⟩ := hrel
        have HBW := Lib.hid hbw
        have HKK := Lib.hid hk
        by_cases hp : pos < s.size
        · obtain ⟨g, rfl⟩ : ∃ g, gk = g + 1 := ⟨gk - 1, by omega⟩
          have hne : s.data.toList.drop pos ≠ [] := by
            intro e
            have := congrArg List.length e
            rw [List.length_drop, ← Lib.size_eq] at this
            simp at this
            omega
          have hnx := fun (ty : TypeId) => run_next_any_at (P := Tryz.prog) wr w1.heap.size s pos ty hk hp
          rw [decode_U s pos hp] at hnx
          have hi := HI.out
          rw [show badU (g + 1) (s.data.toList.drop pos) pos = if s.data.toList.drop pos = [] then none else if charB (decU (s.data.toList.drop pos)).1 = true then badU g ((s.data.toList.drop pos).drop (decU (s.data.toList.drop pos)).2) (pos + (decU (s.data.toList.drop pos)).2) else some pos from rfl, if_neg hne, List.drop_drop] at hi
          have hdp := decU_pos (s.data.toList.drop pos)
          generalize hR : (decU (s.data.toList.drop pos)).1 = R at *
          generalize hW : (decU (s.data.toList.drop pos)).2 = W at *
          have HI2 := Lib.hid hi
          have HI3 := Lib.hid (iterAt_heap wr w1.heap.size s pos (pos + W) hk)
          have HB3 := Lib.hid (below_iterAt HBW.out hkb s (pos + W))
          have HP := Lib.hid hp
          clear hi hk hbw hR hW hne HI hp
          cases hcb : charB (R : Int) with
          | true =>
            go_wp2_with fail
            refine (char_any (R : Int) _).mono ?_
            rintro e w3 ⟨rfl, hb3⟩
            rw [hcb]
            have HB4 := Lib.hid (HB3.out.trans (hb3.mono HB3.out.size))
            have HI4 := Lib.hid ((hb3.block _ (Array.getElem?_eq_some_iff.1 HI3.out).1).trans HI3.out)
            clear hnx hb3
            go_wp2
            go_roundg g
            case measure => omega
            case rel =>
              refine ⟨pos + W, by omega, HI4.out, HB4.out, ?_⟩
              have h := HI2.out
              rw [if_pos hcb] at h
              exact Lib.hid h
          | false =>
            go_wp2_with fail
            refine (char_any (R : Int) _).mono ?_
            rintro e w3 ⟨rfl, hb3⟩
            rw [hcb]
            have HB4 := Lib.hid (HB3.out.trans (hb3.mono HB3.out.size))
            clear hnx hb3
            go_wp2_with fail
            refine (fail_any (pos : Int) 11 _).mono ?_
            rintro e w4 ⟨rfl, rfl⟩
            refine ⟨rfl, ?_, HB4.out⟩
            have h := HI2.out
            rw [if_neg (by rw [hcb]; decide)] at h
            rw [← HR.out, h]
            rfl
        · have hnx := fun (ty : TypeId) => run_next_end_at (P := Tryz.prog) wr w1.heap.size s pos ty hk hp
          have hd : s.data.toList.drop pos = [] := List.drop_eq_nil_of_le (by rw [← Lib.size_eq]; omega)
          have hn : badU s.size s.data.toList 0 = none := by
            rw [HI.out, hd]
            cases gk <;> rfl
          have HN := Lib.hid hn
          clear hk hbw hd hn
          go_wp2
          go_end0
          exact ⟨by rw [← HR.out, HN.out]; rfl, HBW.out⟩
end Go.Proofs.YtlcjepnaljfpkaaGreatDoor
