
/- The statements' own awake (layer 9); walks: PctEncodes, PctParts. -/
import Derived.Test.YtclenfdhnccalaaDoorQdL
namespace Wb
theorem decM (s : ByteArray) : ∃ t e, ((⟨(decP s.data.toList).1.toArray⟩ : ByteArray), (decP s.data.toList).2) = ((t, e) : ByteArray × Int) ∧ decP s.data.toList = (t.data.toList, e) ∧ t.size ≤ s.size := by
  refine ⟨_, _, rfl, by simp, ?_⟩
  have := decP_len s.data.toList
  show (decP s.data.toList).1.toArray.size ≤ s.size
  rw [List.size_toArray]
  simpa using this
end Wb
namespace Go.Proofs.YtclenfdhnccalaaDoor
open Go.RowKit Wb

set_option maxRecDepth 100000 in
set_option maxHeartbeats 4000000 in
theorem awake9 (w : World) (hG : GvM w) : Calls Tryd.prog 7 #[] w fun e w' => e = .returned (.bool true) ∧ Below w.heap.size w w' := by
  have h1 := fun v => decode_any (⟨#[37, 67, 51, 37, 97, 57]⟩ : ByteArray) v (by decide)
  rw [show decP (⟨#[37, 67, 51, 37, 97, 57]⟩ : ByteArray).data.toList = ([195, 169], 0) by decide +kernel] at h1
  have h2 := fun v => decode_any (⟨#[37, 52]⟩ : ByteArray) v (by decide)
  rw [show decP (⟨#[37, 52]⟩ : ByteArray).data.toList = ([], 32) by decide +kernel] at h2
  have h3 := fun v => encode_any (⟨#[97, 47, 98, 32, 99]⟩ : ByteArray) ⟨#[47]⟩ v (by decide) (by decide)
  rw [show pctE (⟨#[47]⟩ : ByteArray).data.toList (⟨#[97, 47, 98, 32, 99]⟩ : ByteArray).data.toList = [97, 47, 98, 37, 50, 48, 99] by decide +kernel] at h3
  have h4 := fun (v : World) (hb : Below w.heap.size w v) => pieces_any (⟨#[97, 47, 47, 98]⟩ : ByteArray) 47 v (by decide) (hG.next hb)
  have hl4 : (piecesB 47 (⟨#[97, 47, 47, 98]⟩ : ByteArray)).length = 3 := by decide +kernel
  generalize piecesB 47 (⟨#[97, 47, 47, 98]⟩ : ByteArray) = L4 at *
  have H2 := Lib.hid h2
  have H3 := Lib.hid h3
  have H4 := Lib.hid h4
  clear h2 h3 h4 hG
  go_enter Tryd.func7, Tryd.ntmps7
  go_wp2_with fail
  refine (h1 _).mono ?_
  rintro e w1 ⟨rfl, hb1⟩
  clear h1
  go_wp2_with fail
  refine (H2.out _).mono ?_
  rintro e w2 ⟨rfl, hb2⟩
  have HB2 := Lib.hid (hb1.trans (hb2.mono hb1.size))
  clear hb1 hb2 H2
  go_wp2_with fail
  refine (H3.out _).mono ?_
  rintro e w3 ⟨rfl, hb3⟩
  have HB3 := Lib.hid (HB2.out.trans (hb3.mono HB2.out.size))
  clear hb3 H3
  go_wp2_with fail
  refine (H4.out _ HB3.out).mono ?_
  rintro e w4 ⟨v, rfl, hown, hb4⟩
  have HB4 := Lib.hid (HB3.out.trans (hb4.mono HB3.out.size))
  obtain ⟨A, c, rfl⟩ := own_shape hown
  rw [hl4]
  clear hb4 H4 hown hl4
  go_wp2
  go_ret
  exact ⟨rfl, HB4.out⟩

set_option maxRecDepth 100000 in
set_option maxHeartbeats 4000000 in
theorem encodes_walk (s keep : ByteArray) (w : World) (hG : GvM w) :
    Calls Tryd.prog 3 #[.string s, .string keep] w fun e w' => e = .returned (.bool true) ∧ Below w.heap.size w w' := by
  have HG := Lib.hid hG
  clear hG
  go_enter Tryd.func3, Tryd.ntmps3
  go_wp2_with fail
  refine (awake9 w HG.out).mono ?_
  rintro e w1 ⟨rfl, hb1⟩
  by_cases h1 : s.size ≤ 10000
  · by_cases h2 : keep.size ≤ 1000
    · obtain ⟨t, c, e1, e2, hts⟩ := decM s
      have D := fun v => decode_any s v (by omega)
      have R := fun v => rdecode_any s v (by omega)
      have E1 := fun v => encode_any s keep v (by omega) (by omega)
      have E2 := fun v => rencode_any s keep v (by omega) (by omega)
      rw [Prod.mk.injEq] at e1
      rw [e1.1, e1.2] at D R
      generalize pctE keep.data.toList s.data.toList = pe at *
      clear e1 e2 hts
      go_wp2_with fail
      refine (D _).mono ?_
      rintro e w2 ⟨rfl, hb2⟩
      have HB2 := Lib.hid (hb1.trans (hb2.mono hb1.size))
      clear hb1 hb2 D
      go_wp2_with fail
      refine (R _).mono ?_
      rintro e w3 ⟨rfl, hb3⟩
      have HB3 := Lib.hid (HB2.out.trans (hb3.mono HB2.out.size))
      clear hb3 R
      go_wp2_with fail
      refine (E1 _).mono ?_
      rintro e w4 ⟨rfl, hb4⟩
      have HB4 := Lib.hid (HB3.out.trans (hb4.mono HB3.out.size))
      clear hb4 E1
      go_wp2_with fail
      refine (E2 _).mono ?_
      rintro e w5 ⟨rfl, hb5⟩
      have HB5 := Lib.hid (HB4.out.trans (hb5.mono HB4.out.size))
      clear hb5 E2
      go_wp2
      go_ret
      exact ⟨rfl, HB5.out⟩
    · have h3 : 1000 < keep.size := by omega
      go_wp2
      go_ret
      exact ⟨rfl, hb1⟩
  · have h3 : 10000 < s.size := by omega
    go_wp2
    go_ret
    exact ⟨rfl, hb1⟩
end Go.Proofs.YtclenfdhnccalaaDoor
