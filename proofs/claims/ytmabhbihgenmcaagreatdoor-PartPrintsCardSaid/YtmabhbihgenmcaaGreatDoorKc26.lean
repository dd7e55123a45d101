/- QcU. -/
import Derived.Test.YtmabhbihgenmcaaGreatDoorKc25
namespace Go.Proofs.YtmabhbihgenmcaaGreatDoor
open Go.RowKit Wb
theorem FewL.y {L : List PtV} (h : FewL L) : ∀ x ∈ L, PartY x := by
  intro x hx
  have h1 := totB_mem hx
  have h2 := h.2.1
  have h3 := h.2.2 x hx
  exact ⟨by omega, by omega⟩
set_option maxRecDepth 100000 in
set_option maxHeartbeats 8000000 in
theorem prints8_walk (b : ByteArray) (A : Option Addr) (L : List PtV) (c : Nat) (w : World) (hA : SlP w A L) (hG : GvP w) :
    Calls Tryz.prog 3 #[.string b, .slice A L.length c] w fun e w' => e = .returned (.bool true) ∧ Below w.heap.size w w' := by
  have HG := Lib.hid hG
  have HA := Lib.hid hA
  clear hG hA
  go_enter Tryz.func3, Tryz.ntmps3
  go_wp2_with fail
  refine (awake8 w HG.out).mono ?_
  rintro e w1 ⟨rfl, hb⟩
  have HB1 := Lib.hid hb
  have hfew := few8_any A L c w1 (HA.out.below hb)
  clear hb
  go_wp2_with fail
  refine hfew.mono ?_
  rintro e w2 ⟨hb, q, rfl, hfb⟩
  have HB2 := Lib.hid (HB1.out.trans (hb.mono HB1.out.size))
  clear hb hfew
  cases q
  · clear hfb
    go_wp2
    go_ret
    exact ⟨rfl, HB2.out⟩
  have hfe := hfb rfl
  clear hfb
  by_cases hb2 : (2000 : Int) < b.size
  · clear hfe
    go_wp2
    go_ret
    exact ⟨rfl, HB2.out⟩
  have hl60 := hfe.1
  obtain ⟨ch, hch⟩ := FewL.chose hfe
  have HZ := Lib.hid (FewL.z hfe)
  have HY := Lib.hid (FewL.y hfe)
  have HCH := Lib.hid hch
  obtain ⟨i0, hi, hz0, hz1, hz2⟩ := info_parts part_info
  have HOWN := Lib.hid (World.ownsRow_made (base := w2.heap.size) (e := 43) (size := 2) w2 #[] 0 (Nat.le_refl _) (Nat.zero_le _) (by simp))
  have HSA2 := Lib.hid (HA.out.below HB2.out)
  have HBA := Lib.hid ((Below.refl w2.heap.size w2).alloc (Nat.le_refl _) (.cells #[] 43))
  have HSL := Lib.hid (Sl.alloc HSA2.out.1 (.cells #[] 43))
  have hm1 : 0 + L.length ≤ maxLen := by unfold maxLen; omega
  have hm2 : (0 + L.length) * 40 ≤ 140737488355328 := by omega
  have hs : w2.heap.size ≤ (w2.alloc (.cells #[] 43)).heap.size := by simp
  obtain ⟨S, k, hS⟩ := StrOut.same (printM b.data.toList (ptsOf L))
  have HS := Lib.hid hS
  clear hS hch hfe
  go_wp2_with (at_builtin; refine wpList_append_sl _ rfl (.tmp 21) (.tmp 22) _ rfl w2.heap.size 43 i0 _ 2 40 Tryz.underlying22 hi hz0 hz1 hz2 rfl (by omega) _ 0 [] rfl HOWN.out A L.length c (cellsP L) rfl HSL.out (cellsP_one L) hm1 hm2 hs ?_)
  intro v5 w5 hown5 hg5 hat5
  have HB5 := Lib.hid (HBA.out.grown hg5 hs (fun k hk => by simp [Value.ownBlock] at hk; omega))
  have hown5 : w5.ownsRow w2.heap.size 43 2 v5 L.length (cellsP L) := by simpa using hown5
  obtain ⟨B, d, rfl⟩ := own_slice hown5
  have hSB : SlP w5 B L := ⟨Sl.of_own hown5, fun x hx => (HSA2.out.2 x hx).below HB5.out⟩
  have HW5 := Lib.hid (HB2.out.trans (HB5.out.mono HB2.out.size))
  have k1 := print8_any b B L d w5 (by omega) hSB hl60 HZ.out (HG.out.next HW5.out).1
  clear hown5 hg5 hat5 HOWN HSL HBA hs hm1 hm2 hSB HB5
  go_wp2_with fail
  refine k1.mono ?_
  rintro e w6 ⟨he, hb⟩
  obtain rfl := HS.out _ he
  have HW6 := Lib.hid (HW5.out.trans (hb.mono HW5.out.size))
  have k2 := rPrint8_any b A L c w6 (by omega) (HA.out.below HW6.out) hl60 HY.out
  clear hb k1 he
  go_wp2_with fail
  refine k2.mono ?_
  rintro e w7 ⟨he, hb⟩
  obtain rfl := HS.out _ he
  have HW7 := Lib.hid (HW6.out.trans (hb.mono HW6.out.size))
  have k3 := choose_any A L c ch w7 (HA.out.below HW7.out) hl60 HZ.out HCH.out (HG.out.next HW7.out)
  have k4 := fun (v : World) (hv : Below w.heap.size w v) => rchoose_any A L c ch v (HA.out.below hv) hl60 HZ.out HCH.out
  have q1 := beq_self_eq_true S.toList
  have q2 := beq_self_eq_true k
  clear hb k2 he
  generalize mkB (wbM ch) = bb at *
  have q3 := beq_self_eq_true bb.toList
  go_wp2_with fail
  refine k3.mono ?_
  rintro e w8 ⟨rfl, hb⟩
  have HW8 := Lib.hid (HW7.out.trans (hb.mono HW7.out.size))
  have k5 := k4 w8 HW8.out
  clear hb k3 k4
  go_wp2_with fail
  refine k5.mono ?_
  rintro e w9 ⟨rfl, hb⟩
  have HW9 := Lib.hid (HW8.out.trans (hb.mono HW8.out.size))
  clear hb k5
  go_wp2
  go_ret
  refine ⟨?_, HW9.out⟩
  first
  | rfl
  | simp
end Go.Proofs.YtmabhbihgenmcaaGreatDoor
