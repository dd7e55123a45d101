
/- Contracts of the functions of strings that layer 2 calls, and of both sides' Split. -/
import Derived.Test.YtkcpkgegkmockaaUtfF
import Derived.Test.YtkcpkgegkmockaaQnPlain
namespace Go.Proofs.Ytkcpkgegkmockaa
open Go.RowKit Wb

theorem ixb (s : ByteArray) (c : Int) (w : World) : (callFunc 57 #[.string s, .int .u8 c]).run Try.prog w = .ok (.value (.int .i64 (firstIdx s c.toNat.toUInt8))) w := by
  rw [run_callFunc_extern (P := Try.prog) (f := 57) (fn := Try.f57) (e := Extern.BytealgIndexByte.indexByte) (by kernel_rfl) (by kernel_rfl) (by kernel_rfl) (by kernel_rfl) (by kernel_rfl), run_indexByte_string]
  rfl

theorem colon_self (s : ByteArray) (h : ([58] == s.toList) = true) : s = ⟨#[58]⟩ := by
  have : eqT ⟨#[58]⟩ s = true := by unfold eqT; rw [ByteArray.toList_eq ⟨#[58]⟩]; exact h
  exact ((eqT_iff _ _).1 this).symm

theorem first58 : firstIdx ⟨#[58]⟩ 58 = 0 := by
  rw [firstIdx_c', (cIx_some ⟨#[58]⟩ 0).2 ⟨by decide, by decide, fun i hi => absurd hi (by omega)⟩]
  rfl

set_option maxHeartbeats 400000 in
theorem sindex_any (s : ByteArray) (w : World) :
    Calls Try.prog 43 #[.string s, .string ⟨#[58]⟩] w fun e w' => e = .returned (.int .i64 (firstIdx s 58)) ∧ w = w' := by
  have hx := ixb
  go_enter Try.func43, Try.ntmps43
  go_wp2_with go_in
  · have h : ([58] == s.toList) = true := by assumption
    have HF : Hid (firstIdx s 58 = 0) := by rw [colon_self s h]; exact first58
    go_ret
    rw [HF.out]
    exact ⟨rfl, rfl⟩
  · go_ret
    exact ⟨rfl, rfl⟩

/-- What strings.Cut answers at a colon. -/
def cutB (s : ByteArray) : ByteArray × ByteArray × Bool :=
  match cIx s with
  | none => (s, sE, false)
  | some k => (s.extract 0 k, s.extract (k + 1) s.size, true)

set_option maxHeartbeats 400000 in
theorem slcut_any (s : ByteArray) (w : World) (hs : s.size ≤ 1000000000) :
    Calls Try.prog 35 #[.string s, .string ⟨#[58]⟩] w fun e w' => e = .returned (.tuple #[.string (cutB s).1, .string (cutB s).2.1, .bool (cutB s).2.2]) ∧ Below w.heap.size w w' := by
  rcases hc : cIx s with _ | k
  · have H : Hid (cutB s = (s, sE, false)) := by unfold cutB; rw [hc]; exact rfl
    have HF := Lib.hid (show firstIdx s 58 = -1 from by rw [firstIdx_c', hc])
    clear hc
    go_enter Try.func35, Try.ntmps35
    go_wp2_with fail
    refine (sindex_any s w).mono ?_
    rw [HF.out]
    rintro e w2 ⟨rfl, rfl⟩
    go_wp2
    go_ret3
    rw [H.out]
    exact ⟨rfl, Below.refl _ _⟩
  · have H : Hid (cutB s = (s.extract 0 k, s.extract (k + 1) s.size, true)) := by unfold cutB; rw [hc]; exact rfl
    have HF := Lib.hid (show firstIdx s 58 = (k : Int) from by rw [firstIdx_c', hc])
    have hk := ((cIx_some s k).1 hc).1
    clear hc
    go_enter Try.func35, Try.ntmps35
    go_wp2_with fail
    refine (sindex_any s w).mono ?_
    rw [HF.out]
    rintro e w2 ⟨rfl, rfl⟩
    go_wp2
    go_region
    go_wp2
    go_ret3
    rw [H.out]
    exact ⟨rfl, (Below.refl _ _).drew⟩

set_option maxHeartbeats 400000 in
theorem cut_any (s : ByteArray) (w : World) (hs : s.size ≤ 1000000000) :
    Calls Try.prog 27 #[.string s, .string ⟨#[58]⟩] w fun e w' => e = .returned (.tuple #[.string (cutB s).1, .string (cutB s).2.1, .bool (cutB s).2.2]) ∧ Below w.heap.size w w' := by
  go_enter Try.func27, Try.ntmps27
  go_wp2_with fail
  refine (slcut_any s w hs).mono ?_
  rintro e w2 ⟨rfl, hb⟩
  go_wp2
  go_ret3
  exact ⟨rfl, hb⟩

set_option maxHeartbeats 400000 in
theorem split_any (q : ByteArray) (w : World) (hs : q.size ≤ 1000000000) :
    Calls Try.prog 10 #[.string q] w fun e w' => e = .returned (.tuple #[.string (splitB q).1, .string (splitB q).2.1, .bool (splitB q).2.2]) ∧ Below w.heap.size w w' := by
  rcases hc : cIx q with _ | k
  · have HC : Hid (cutB q = (q, sE, false)) := by unfold cutB; rw [hc]; exact rfl
    cases hn : nameB q.data.toList
    · have HN := Lib.hid hn
      have H : Hid (splitB q = (sE, sE, false)) := by unfold splitB; rw [hc]; simp only [hn]; exact rfl
      rw [H.out]
      clear H hn hc
      go_enter Try.func10, Try.ntmps10
      go_wp2_with fail
      refine (cut_any q _ hs).mono ?_
      rw [HC.out]
      rintro e w2 ⟨rfl, hb⟩
      go_wp2_with fail
      refine (name_any q _ hs).mono ?_
      rw [HN.out]
      rintro e w3 ⟨rfl, hb2⟩
      replace hb := hb.trans (hb2.mono hb.size)
      clear hb2
      go_wp2
      go_ret3
      exact ⟨rfl, hb⟩
    · have HN := Lib.hid hn
      have H : Hid (splitB q = (sE, q, true)) := by unfold splitB; rw [hc]; simp only [hn]; exact rfl
      rw [H.out]
      clear H hn hc
      go_enter Try.func10, Try.ntmps10
      go_wp2_with fail
      refine (cut_any q _ hs).mono ?_
      rw [HC.out]
      rintro e w2 ⟨rfl, hb⟩
      go_wp2_with fail
      refine (name_any q _ hs).mono ?_
      rw [HN.out]
      rintro e w3 ⟨rfl, hb2⟩
      replace hb := hb.trans (hb2.mono hb.size)
      clear hb2
      go_wp2
      go_ret3
      exact ⟨rfl, hb⟩
  · have HC : Hid (cutB q = (q.extract 0 k, q.extract (k + 1) q.size, true)) := by unfold cutB; rw [hc]; exact rfl
    have hk := ((cIx_some q k).1 hc).1
    have h1 : (q.extract 0 k).size ≤ 1000000000 := by simp; omega
    have h2 : (q.extract (k + 1) q.size).size ≤ 1000000000 := by simp; omega
    have H : Hid (splitB q = if nameB (q.extract 0 k).data.toList && nameB (q.extract (k + 1) q.size).data.toList then (q.extract 0 k, q.extract (k + 1) q.size, true) else (sE, sE, false)) := by unfold splitB; rw [hc]; exact rfl
    clear hc
    rw [H.out]
    clear H hk
    generalize q.extract 0 k = a at *
    generalize q.extract (k + 1) q.size = c at *
    cases ha : nameB a.data.toList
    · have HA := Lib.hid ha
      clear ha
      rw [Bool.false_and, if_neg (by decide)]
      go_enter Try.func10, Try.ntmps10
      go_wp2_with fail
      refine (cut_any q _ hs).mono ?_
      rw [HC.out]
      rintro e w2 ⟨rfl, hb⟩
      go_wp2_with fail
      refine (name_any a _ h1).mono ?_
      rw [HA.out]
      rintro e w3 ⟨rfl, hb2⟩
      replace hb := hb.trans (hb2.mono hb.size)
      clear hb2
      go_wp2
      go_ret3
      exact ⟨rfl, hb⟩
    · have HA := Lib.hid ha
      clear ha
      rw [Bool.true_and]
      cases hd : nameB c.data.toList
      all_goals
        have HD := Lib.hid hd
        clear hd
      · rw [if_neg (by decide)]
        go_enter Try.func10, Try.ntmps10
        go_wp2_with fail
        refine (cut_any q _ hs).mono ?_
        rw [HC.out]
        rintro e w2 ⟨rfl, hb⟩
        go_wp2_with fail
        refine (name_any a _ h1).mono ?_
        rw [HA.out]
        rintro e w3 ⟨rfl, hb2⟩
        replace hb := hb.trans (hb2.mono hb.size)
        clear hb2
        go_wp2_with fail
        refine (name_any c _ h2).mono ?_
        rw [HD.out]
        rintro e w3 ⟨rfl, hb2⟩
        replace hb := hb.trans (hb2.mono hb.size)
        clear hb2
        go_wp2
        go_ret3
        exact ⟨rfl, hb⟩
      · rw [if_pos rfl]
        go_enter Try.func10, Try.ntmps10
        go_wp2_with fail
        refine (cut_any q _ hs).mono ?_
        rw [HC.out]
        rintro e w2 ⟨rfl, hb⟩
        go_wp2_with fail
        refine (name_any a _ h1).mono ?_
        rw [HA.out]
        rintro e w3 ⟨rfl, hb2⟩
        replace hb := hb.trans (hb2.mono hb.size)
        clear hb2
        go_wp2_with fail
        refine (name_any c _ h2).mono ?_
        rw [HD.out]
        rintro e w3 ⟨rfl, hb2⟩
        replace hb := hb.trans (hb2.mono hb.size)
        clear hb2
        go_wp2
        go_ret3
        exact ⟨rfl, hb⟩
end Go.Proofs.Ytkcpkgegkmockaa
