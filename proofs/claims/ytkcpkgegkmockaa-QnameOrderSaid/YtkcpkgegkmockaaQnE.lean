
/- Contracts: what a name declares, on both sides. -/
import Derived.Test.YtkcpkgegkmockaaQnD
namespace Go.Proofs.Ytkcpkgegkmockaa
open Go.RowKit Wb

theorem fix_pre (s : ByteArray) : ((s.extract 0 6).toList == [120, 109, 108, 110, 115, 58]) = ((s.extract 0 6).toList == sXmlnsC) := rfl

set_option maxHeartbeats 400000 in
theorem hasPre_any (s : ByteArray) (w : World) (_hs : s.size ≤ 1000000000) :
    Calls Try.prog 56 #[.string s, .string ⟨#[120, 109, 108, 110, 115, 58]⟩] w fun e w' => e = .returned (.bool (preB s)) ∧ w = w' := by
  by_cases h : 6 ≤ s.size
  · cases hp : ((s.extract 0 6).toList == sXmlnsC)
    all_goals
      rw [preB_long h hp]
      have hq := (fix_pre s).trans hp
      clear hp
      have hi : (6 : Int) ≤ s.size := by omega
      go_enter Try.func56, Try.ntmps56
      go_wp2
      go_ret
      exact ⟨rfl, rfl⟩
  · rw [preB_short h]
    have hi : ¬ (6 : Int) ≤ s.size := by omega
    go_enter Try.func56, Try.ntmps56
    go_wp2
    go_ret
    exact ⟨rfl, rfl⟩

set_option maxHeartbeats 400000 in
theorem slcutPre_any (s : ByteArray) (w : World) (hs : s.size ≤ 1000000000) :
    Calls Try.prog 51 #[.string s, .string ⟨#[120, 109, 108, 110, 115, 58]⟩] w fun e w' =>
      e = .returned (.tuple #[.string (if preB s then s.extract 6 s.size else s), .bool (preB s)]) ∧ w = w' := by
  cases h : preB s
  · have H := Lib.hid h
    rw [if_neg (by decide)]
    clear h
    go_enter Try.func51, Try.ntmps51
    go_wp2_with fail
    refine (hasPre_any s w hs).mono ?_
    rw [H.out]
    rintro e w2 ⟨rfl, rfl⟩
    go_wp2
    go_ret2
    exact ⟨rfl, rfl⟩
  · have H := Lib.hid h
    rw [if_pos rfl]
    have hi : (6 : Int) ≤ s.size := by have := preB_size h; omega
    clear h
    go_enter Try.func51, Try.ntmps51
    go_wp2_with fail
    refine (hasPre_any s w hs).mono ?_
    rw [H.out]
    rintro e w2 ⟨rfl, rfl⟩
    go_wp2
    go_ret2
    exact ⟨rfl, rfl⟩

set_option maxHeartbeats 400000 in
theorem cutPre_any (s : ByteArray) (w : World) (hs : s.size ≤ 1000000000) :
    Calls Try.prog 42 #[.string s, .string ⟨#[120, 109, 108, 110, 115, 58]⟩] w fun e w' =>
      e = .returned (.tuple #[.string (if preB s then s.extract 6 s.size else s), .bool (preB s)]) ∧ w = w' := by
  generalize hx : (if preB s then s.extract 6 s.size else s) = x
  have HX := Lib.hid hx
  clear hx
  go_enter Try.func42, Try.ntmps42
  go_wp2_with fail
  refine (slcutPre_any s w hs).mono ?_
  rw [HX.out]
  rintro e w2 ⟨rfl, rfl⟩
  go_wp2
  go_ret2
  exact ⟨rfl, rfl⟩

set_option maxHeartbeats 400000 in
theorem declared_any (n : ByteArray) (w : World) (hs : n.size ≤ 1000000000) :
    Calls Try.prog 32 #[.string n] w fun e w' => e = .returned (.tuple #[.string (declE n).1, .bool (declE n).2.1, .int .i64 (declE n).2.2]) ∧ Below w.heap.size w w' := by
  have t1 : (n.toList == [120, 109, 108, 110, 115]) = eqT n sXmlns := lit_of n sXmlns _ rfl
  cases h1 : eqT n sXmlns
  · rw [h1] at t1
    cases h2 : preB n
    · rw [declE_4 h1 h2]
      have H2 : Hid ((if preB n then n.extract 6 n.size else n) = n) := by rw [h2]; exact rfl
      have H3 := Lib.hid h2
      clear h1 h2
      go_enter Try.func32, Try.ntmps32
      go_wp2_with fail
      refine (cutPre_any n w hs).mono ?_
      rw [H2.out, H3.out]
      rintro e w2 ⟨rfl, rfl⟩
      go_wp2
      go_ret3
      exact ⟨rfl, Below.refl _ _⟩
    · have H2 : Hid ((if preB n then n.extract 6 n.size else n) = n.extract 6 n.size) := by rw [h2]; exact rfl
      have H3 := Lib.hid h2
      have hsz : (n.extract 6 n.size).size ≤ 1000000000 := by simp; omega
      cases h4 : nameB (n.extract 6 n.size).data.toList
      · rw [declE_3 h1 h2 h4]
        have H4 := Lib.hid h4
        clear h1 h2 h4
        go_enter Try.func32, Try.ntmps32
        go_wp2_with fail
        refine (cutPre_any n w hs).mono ?_
        rw [H2.out, H3.out]
        rintro e w2 ⟨rfl, rfl⟩
        go_wp2_with fail
        refine (name_any _ _ hsz).mono ?_
        rw [H4.out]
        rintro e w2 ⟨rfl, hb⟩
        go_wp2
        go_ret3
        exact ⟨rfl, hb⟩
      · rw [declE_2 h1 h2 h4]
        have H4 := Lib.hid h4
        clear h1 h2 h4
        go_enter Try.func32, Try.ntmps32
        go_wp2_with fail
        refine (cutPre_any n w hs).mono ?_
        rw [H2.out, H3.out]
        rintro e w2 ⟨rfl, rfl⟩
        go_wp2_with fail
        refine (name_any _ _ hsz).mono ?_
        rw [H4.out]
        rintro e w2 ⟨rfl, hb⟩
        go_wp2
        go_ret3
        exact ⟨rfl, hb⟩
  · rw [h1] at t1
    rw [declE_1 h1]
    go_enter Try.func32, Try.ntmps32
    go_wp2
    go_ret3
    exact ⟨rfl, Below.refl _ _⟩

set_option maxHeartbeats 400000 in
theorem declares_any (n : ByteArray) (w : World) (_hs : n.size ≤ 1000000000) :
    Calls Try.prog 34 #[.string n] w fun e w' => e = .returned (.tuple #[.string (declB n).1, .bool (declB n).2]) ∧ Below w.heap.size w w' := by
  have t1 : (n.toList == [120, 109, 108, 110, 115]) = eqT n sXmlns := lit_of n sXmlns _ rfl
  cases h1 : eqT n sXmlns
  · rw [h1] at t1
    by_cases h : 6 ≤ n.size
    · have hi : (6 : Int) ≤ n.size := by omega
      cases hp : ((n.extract 0 6).toList == sXmlnsC)
      · rw [declB_3 h1 (preB_long h hp)]
        have hq := (fix_pre n).trans hp
        clear hp
        go_enter Try.func34, Try.ntmps34
        go_wp2
        go_ret2
        exact ⟨rfl, Below.refl _ _⟩
      · rw [declB_2 h1 (preB_long h hp)]
        have hq := (fix_pre n).trans hp
        clear hp
        go_enter Try.func34, Try.ntmps34
        go_wp2
        go_ret2
        exact ⟨rfl, Below.refl _ _⟩
    · have hi : ¬ (6 : Int) ≤ n.size := by omega
      rw [declB_3 h1 (preB_short h)]
      go_enter Try.func34, Try.ntmps34
      go_wp2
      go_ret2
      exact ⟨rfl, Below.refl _ _⟩
  · rw [h1] at t1
    rw [declB_1 h1]
    go_enter Try.func34, Try.ntmps34
    go_wp2
    go_ret2
    exact ⟨rfl, Below.refl _ _⟩
end Go.Proofs.Ytkcpkgegkmockaa
