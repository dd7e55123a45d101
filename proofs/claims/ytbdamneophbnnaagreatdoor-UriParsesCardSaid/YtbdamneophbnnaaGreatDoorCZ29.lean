/- UkB SdH SdI UcF. -/
import Derived.Lib.Join
import Derived.Test.YtbdamneophbnnaaGreatDoorCZ21
import Derived.Test.YtbdamneophbnnaaGreatDoorCZ22
namespace Wb
def nodP (u : List UInt8) (l : List StV) : Except Int (List UInt8) :=
  match printS ⟨(spc11 u).toArray⟩ l with
  | .error e => .error e
  | .ok (t, q) => .ok (ssl11 ++ t ++ (if q = [] then [] else 63 :: q))
theorem bad_pr (us d : List UInt8) : bad11 us d = ((!decide (us = []) && !(nmU us && decide (chk us < 0))) || !(nmU d && decide (chk d < 0))) := by
  have h1 : tt11 ≠ [] := by decide
  have h2 : ∀ d : List UInt8, (d.length < 1) ↔ d = [] := fun d => by rw [← List.length_eq_zero_iff]; omega
  have h3 : chk [] < 0 := by decide +kernel
  unfold bad11 nmU
  by_cases a : us = []
  · subst a
    have n64 : ¬ 64 < ([] : List UInt8).length := by decide
    have nc : ¬ (0 : Int) ≤ chk [] := by omega
    by_cases b : d = []
    · subst b; simp
    · have hb : ¬ d.length < 1 := fun h => b ((h2 d).1 h)
      by_cases c : d = tt11
      · subst c; simp
      · by_cases e : d.length ≤ 64
        · have e' : ¬ 64 < d.length := by omega
          by_cases f : chk d < 0
          · have f' : ¬ 0 ≤ chk d := by omega
            simp [b, c, e, e', f, f', hb, h1.symm, nc]
          · have f' : 0 ≤ chk d := by omega
            simp [b, c, f, f']
        · have e' : 64 < d.length := by omega
          simp [e, e']
  · by_cases g : us = tt11
    · subst g; simp [h1]
    · by_cases i : us.length ≤ 64
      · have i' : ¬ 64 < us.length := by omega
        by_cases j : chk us < 0
        · have j' : ¬ 0 ≤ chk us := by omega
          by_cases b : d = []
          · subst b; simp
          · have hb : ¬ d.length < 1 := fun h => b ((h2 d).1 h)
            by_cases c : d = tt11
            · subst c; simp
            · by_cases e : d.length ≤ 64
              · have e' : ¬ 64 < d.length := by omega
                by_cases f : chk d < 0
                · have f' : ¬ 0 ≤ chk d := by omega
                  simp [a, b, c, e, e', f, f', hb, g, i, i', j, j']
                · have f' : 0 ≤ chk d := by omega
                  simp [b, c, f, f']
              · have e' : 64 < d.length := by omega
                simp [e, e']
        · have j' : 0 ≤ chk us := by omega
          simp [a, j, j']
      · have i' : 64 < us.length := by omega
        simp [a, i, i']
theorem nod_err {u : List UInt8} {l : List StV} {k : Int} (h : nodP u l = .error k) : printS ⟨(spc11 u).toArray⟩ l = .error k := by
  unfold nodP at h
  split at h
  · rename_i hx
    injection h with h; subst h; exact hx
  · cases h
theorem nod_nz {u : List UInt8} {l : List StV} {k : Int} (h : nodP u l = .error k) : k ≠ 0 := print_nz (nod_err h)
theorem nod_len {u : List UInt8} {l : List StV} {t : List UInt8} (hl : SzOK l) (h : nodP u l = .ok t) : t.length ≤ 3000000 := by
  unfold nodP at h
  split at h
  · cases h
  · rename_i a b hx
    injection h with h
    obtain ⟨h1, h2⟩ := print_size hx (by have := hl.1; omega) hl.2.2
    have e4 : ssl11.length = 4 := rfl
    rw [← h, List.length_append, List.length_append, e4]
    split
    · simp; omega
    · simp only [List.length_cons]; omega
theorem prt_nod {w : WhV} {t : List UInt8} (h : w.usage.data.toList ∈ usg11) (h2 : bad11 w.user.data.toList w.doc.data.toList = false) (h3 : w.node = true) (h4 : nodP w.usage.data.toList w.steps = .ok t) :
    prt11 w = fin11 (joinB 47 (pcs11 w.usage.data.toList w.user.data.toList w.doc.data.toList) ++ t) := by
  unfold nodP at h4
  split at h4
  · cases h4
  · rename_i a b hx
    injection h4 with h4
    rw [prt_node h h2 h3 hx, ← h4]
    congr 1
    simp
end Wb
namespace Go.Proofs.YtbdamneophbnnaaGreatDoor
open Go.RowKit Wb
theorem nod_form {S : ByteArray} {u : List UInt8} {l : List StV} (hS : ⟨(spc11 u).toArray⟩ = S) (hl : SzOK l) :
    ∃ (T Q : ByteArray) (pk : Int), PrintV (printS S l) = .tuple #[.string T, .string Q, .int .i64 pk] ∧ (pk ≠ 0 → nodP u l = .error pk) ∧ (pk = 0 → nodP u l = .ok (ssl11 ++ T.data.toList ++ (if Q.data.toList = [] then [] else 63 :: Q.data.toList))) ∧ T.size ≤ 1000000 ∧ Q.size ≤ 1000000 := by
  unfold nodP
  rw [hS]
  cases h : printS S l with
  | error k =>
    exact ⟨⟨#[]⟩, ⟨#[]⟩, k, rfl, fun _ => rfl, fun h0 => absurd h0 (print_nz h), by decide, by decide⟩
  | ok p =>
    obtain ⟨t, q⟩ := p
    obtain ⟨h1, h2⟩ := print_size h (by have := hl.1; omega) hl.2.2
    exact ⟨mkT t, mkT q, 0, rfl, fun h0 => absurd rfl h0, fun _ => (by simp only [mkT_list]), by rw [mkT_size]; exact h1, by rw [mkT_size]; exact h2⟩
end Go.Proofs.YtbdamneophbnnaaGreatDoor
namespace Go.Proofs.YtbdamneophbnnaaGreatDoor
open Go.RowKit Wb
set_option maxHeartbeats 16000000 in
set_option maxRecDepth 100000 in
theorem sright_any (A : Option Addr) (l : List StV) (c : Nat) (w : World) (hA : Sl9 w A l) (hl : l.length ≤ 1000000) :
    Calls Tryz.prog 76 #[.slice A l.length c] w fun e w' => e = .returned (.bool (shapeS l)) ∧ Below w.heap.size w w' := by
  have HA := Lib.hid hA
  clear hA
  go_enter Tryz.func76, Tryz.ntmps76
  go_wp2
  go_loopw [3, 4, 7] (fun _ _ v7 wr => ∃ i : Nat, i ≤ l.length ∧ v7 = .int .i64 i ∧ Hid (shapeL true l = shapeL (decide (i = 0)) (l.drop i)) ∧ Hid (Below w.heap.size w wr)) (fun _ _ v7 _ => l.length - (intOf v7).toNat)
  case atStart => exact ⟨0, by omega, rfl, Lib.hid (by simp), Lib.hid (Below.refl _ _)⟩
  case round =>
    obtain ⟨i, hi, rfl, HS, HB⟩ := hrel
    by_cases h0 : i < l.length
    · obtain ⟨x, hx⟩ : ∃ x, l[i]? = some x := ⟨l[i], List.getElem?_eq_getElem h0⟩
      have hdr : l.drop i = x :: l.drop (i + 1) := by
        rw [List.drop_eq_getElem_cons h0]
        rw [List.getElem?_eq_getElem h0] at hx
        injection hx with hx
        rw [hx]
      obtain ⟨ad, rfl, had, c0, cj⟩ := (HA.out.below HB.out).at_ hx
      have c1 := cj 1 _ (by omega) rfl
      have c2 := cj 2 _ (by omega) rfl
      have c3 := cj 3 _ (by omega) rfl
      have c4 := cj 4 _ (by omega) rfl
      have c5 := cj 5 _ (by omega) rfl
      have c6 := cj 6 _ (by omega) rfl
      have c7 := cj 7 _ (by omega) rfl
      have c8 := cj 8 _ (by omega) rfl
      clear cj
      have hemp : (l.drop (i + 1)).isEmpty = decide (i + 1 = l.length) := by
        rw [Bool.eq_iff_iff, List.isEmpty_iff, List.drop_eq_nil_iff, decide_eq_true_eq]
        omega
      obtain ⟨last, hlast⟩ : ∃ b, (!decide (i = 0) && (l.drop (i + 1)).isEmpty) = b := ⟨_, rfl⟩
      have hsh : shapeL true l = (shape1 last x && shapeL false (l.drop (i + 1))) := by rw [HS.out, hdr, shapeL, hlast]
      have hcase : (i = 0 ∧ last = false) ∨ (0 < i ∧ i + 1 = l.length ∧ last = true) ∨ (0 < i ∧ i + 1 ≠ l.length ∧ last = false) := by
        rw [hemp] at hlast
        by_cases e0 : i = 0
        · exact .inl ⟨e0, by rw [← hlast, decide_eq_true e0]; rfl⟩
        · by_cases e1 : i + 1 = l.length
          · exact .inr (.inl ⟨by omega, e1, by rw [← hlast, decide_eq_false e0, decide_eq_true e1]; rfl⟩)
          · exact .inr (.inr ⟨by omega, e1, by rw [← hlast, decide_eq_false e0, decide_eq_false e1]; rfl⟩)
      have hwr1 : IntKind.i64.wrap ((l.length : Int) - 1) = (l.length : Int) - 1 := by rw [IntKind.wrap_i64]; omega
      have hwr2 : IntKind.i64.wrap ((i : Int) + 1) = (i : Int) + 1 := by rw [IntKind.wrap_i64]; omega
      have hfacts : (decide ((0 : Int) < (i : Int)) = false ∧ ¬ (0 : Int) < (i : Int) ∧ last = false) ∨ (decide ((0 : Int) < (i : Int)) = true ∧ (0 : Int) < (i : Int) ∧ ((i : Int) == (l.length : Int) - 1) = true ∧ last = true) ∨ (decide ((0 : Int) < (i : Int)) = true ∧ (0 : Int) < (i : Int) ∧ ((i : Int) == (l.length : Int) - 1) = false ∧ last = false) := by
        rcases hcase with ⟨e0, e1⟩ | ⟨e0, e1, e2⟩ | ⟨e0, e1, e2⟩
        · exact .inl ⟨decide_eq_false (by omega), by omega, e1⟩
        · exact .inr (.inl ⟨decide_eq_true (by omega), by omega, by rw [beq_iff_eq]; omega, e2⟩)
        · exact .inr (.inr ⟨decide_eq_true (by omega), by omega, by rw [beq_eq_false_iff_ne]; omega, e2⟩)
      clear hcase hlast hemp
      obtain ⟨kind, any, ⟨n1, n2⟩, pos, by_, ⟨a1, a2⟩, val⟩ := x
      simp only at c0 c1 c2 c3 c4 c5 c6 c7 c8
      have hstep := fun v => rightStep_any kind any n1 n2 pos by_ a1 a2 val last v
      obtain ⟨b, hb⟩ : ∃ b, shape1 last ⟨kind, any, (n1, n2), pos, by_, (a1, a2), val⟩ = b := ⟨_, rfl⟩
      rw [hb] at hstep hsh
      have HQ := Lib.hid hsh
      clear hb hsh hdr hx HS
      go_upto_region 4 with fail
      have hxx := OwnB.new #[.int .i64 kind, .bool any, .string n1, .string n2, .int .i64 pos, .bool by_, .string a1, .string a2, .string val] 46 HB.out
      have HBn := Lib.hid (HB.out.alloc HB.out.size (.cells #[.int .i64 kind, .bool any, .string n1, .string n2, .int .i64 pos, .bool by_, .string a1, .string a2, .string val] 46))
      clear c0 c1 c2 c3 c4 c5 c6 c7 c8 had
      generalize wr.alloc (.cells #[.int .i64 kind, .bool any, .string n1, .string n2, .int .i64 pos, .bool by_, .string a1, .string a2, .string val] 46) = wx at *
      generalize wr.heap.size = g at *
      have y0 : wx.cell? ⟨g, 0, none⟩ = some (.int .i64 kind) := hxx.cell 0
      have y1 : wx.cell? ⟨g, 1, none⟩ = some (.bool any) := hxx.cell 1
      have y2 : wx.cell? ⟨g, 2, none⟩ = some (.string n1) := hxx.cell 2
      have y3 : wx.cell? ⟨g, 3, none⟩ = some (.string n2) := hxx.cell 3
      have y4 : wx.cell? ⟨g, 4, none⟩ = some (.int .i64 pos) := hxx.cell 4
      have y5 : wx.cell? ⟨g, 5, none⟩ = some (.bool by_) := hxx.cell 5
      have y6 : wx.cell? ⟨g, 6, none⟩ = some (.string a1) := hxx.cell 6
      have y7 : wx.cell? ⟨g, 7, none⟩ = some (.string a2) := hxx.cell 7
      have y8 : wx.cell? ⟨g, 8, none⟩ = some (.string val) := hxx.cell 8
      clear hxx HB
      rcases hfacts with ⟨hd1, hd2, rfl⟩ | ⟨hd1, hd3, hd2, rfl⟩ | ⟨hd1, hd3, hd2, rfl⟩
      · go_wp2_with fail
        refine (hstep _).mono ?_
        rintro e w2 ⟨rfl, hb2⟩
        have HB2 := Lib.hid (HBn.out.trans (hb2.mono HBn.out.size))
        clear hb2 hstep y0 y1 y2 y3 y4 y5 y6 y7 y8
        cases b with
        | false =>
          have hz : shapeS l = false := by
            unfold shapeS
            rw [HQ.out]
            rfl
          clear HQ
          go_wp2
          go_ret
          exact ⟨by rw [hz]; rfl, HB2.out⟩
        | true =>
          have HQ2 : Hid (shapeL true l = shapeL (decide (i + 1 = 0)) (l.drop (i + 1))) := Lib.hid (by
            rw [HQ.out, decide_eq_false (Nat.succ_ne_zero i), Bool.true_and])
          clear HQ
          go_wp2
          go_roundw
          case rel => exact ⟨i + 1, by omega, by go_num, HQ2, HB2⟩
          case measure => simp [intOf]; omega
      · go_wp2_with fail
        refine (hstep _).mono ?_
        rintro e w2 ⟨rfl, hb2⟩
        have HB2 := Lib.hid (HBn.out.trans (hb2.mono HBn.out.size))
        clear hb2 hstep y0 y1 y2 y3 y4 y5 y6 y7 y8
        cases b with
        | false =>
          have hz : shapeS l = false := by
            unfold shapeS
            rw [HQ.out]
            rfl
          clear HQ
          go_wp2
          go_ret
          exact ⟨by rw [hz]; rfl, HB2.out⟩
        | true =>
          have HQ2 : Hid (shapeL true l = shapeL (decide (i + 1 = 0)) (l.drop (i + 1))) := Lib.hid (by
            rw [HQ.out, decide_eq_false (Nat.succ_ne_zero i), Bool.true_and])
          clear HQ
          go_wp2
          go_roundw
          case rel => exact ⟨i + 1, by omega, by go_num, HQ2, HB2⟩
          case measure => simp [intOf]; omega
      · go_wp2_with fail
        refine (hstep _).mono ?_
        rintro e w2 ⟨rfl, hb2⟩
        have HB2 := Lib.hid (HBn.out.trans (hb2.mono HBn.out.size))
        clear hb2 hstep y0 y1 y2 y3 y4 y5 y6 y7 y8
        cases b with
        | false =>
          have hz : shapeS l = false := by
            unfold shapeS
            rw [HQ.out]
            rfl
          clear HQ
          go_wp2
          go_ret
          exact ⟨by rw [hz]; rfl, HB2.out⟩
        | true =>
          have HQ2 : Hid (shapeL true l = shapeL (decide (i + 1 = 0)) (l.drop (i + 1))) := Lib.hid (by
            rw [HQ.out, decide_eq_false (Nat.succ_ne_zero i), Bool.true_and])
          clear HQ
          go_wp2
          go_roundw
          case rel => exact ⟨i + 1, by omega, by go_num, HQ2, HB2⟩
          case measure => simp [intOf]; omega
    · have hend : i = l.length := by omega
      have hq : shapeL true l = true := by
        rw [HS.out, hend, List.drop_length]
        rfl
      have hz : shapeS l = (decide (1 ≤ l.length) && decide (l.length ≤ 16)) := by
        unfold shapeS
        rw [hq]
        rfl
      have hi0 : ¬ (i : Int) < (l.length : Int) := by omega
      clear hq hend h0 HS
      by_cases z1 : 1 ≤ l.length
      · have e1 : decide ((0 : Int) < (l.length : Int)) = true := decide_eq_true (by omega)
        have e1' : (0 : Int) < (l.length : Int) := by omega
        by_cases z2 : l.length ≤ 16
        · have e2 : decide ((l.length : Int) ≤ 16) = true := decide_eq_true (by omega)
          have HZ := Lib.hid (show shapeS l = true from by rw [hz, decide_eq_true z1, decide_eq_true z2]; rfl)
          clear z1 z2 hz
          go_wp2
          go_ret
          exact ⟨by rw [HZ.out]; rfl, HB.out⟩
        · have e2 : decide ((l.length : Int) ≤ 16) = false := decide_eq_false (by omega)
          have HZ := Lib.hid (show shapeS l = false from by rw [hz, decide_eq_true z1, decide_eq_false z2]; rfl)
          clear z1 z2 hz
          go_wp2
          go_ret
          exact ⟨by rw [HZ.out]; rfl, HB.out⟩
      · have e1 : decide ((0 : Int) < (l.length : Int)) = false := decide_eq_false (by omega)
        have e1' : ¬ (0 : Int) < (l.length : Int) := by omega
        have HZ := Lib.hid (show shapeS l = false from by rw [hz, decide_eq_false z1]; rfl)
        clear z1 hz
        go_wp2
        go_ret
        exact ⟨by rw [HZ.out]; rfl, HB.out⟩
end Go.Proofs.YtbdamneophbnnaaGreatDoor
namespace Wb
open Go
theorem join_B (c : UInt8) : ∀ xs : List (List UInt8), Lib.join xs [c] = joinB c xs
  | [] => rfl
  | [x] => by
    rw [Lib.join_one]
    rfl
  | x :: y :: l => by
    have ih := join_B c (y :: l)
    rw [joinB, ← ih]
    unfold Lib.join List.intercalate
    rfl
theorem stp_spB {x : StV} {space : ByteArray} {l l' : List ByteArray} {t : List UInt8} (h : stpT x space l = .ok (t, l')) (hl : SpB l) : SpB l' := by
  unfold stpT at h
  split at h
  · injection h with h
    injection h with _ h
    rw [← h]
    exact hl
  · split at h
    · split at h
      · cases h
      · rename_i t' l2 hn
        injection h with h
        injection h with _ h
        rw [← h]
        exact nameT_spB hn hl
    · split at h
      · cases h
      · rename_i t' l2 he
        have hl2 := (elem_len he hl.1).2 hl
        split at h
        · injection h with h
          injection h with _ h
          rw [← h]
          exact hl2
        · split at h
          · cases h
          · rename_i a l3 hn
            have hl3 := nameT_spB hn hl2
            split at h
            · cases h
            · injection h with h
              injection h with _ h
              rw [← h]
              exact hl3
end Wb
namespace Go.Proofs.YtbdamneophbnnaaGreatDoor
open Go.RowKit Wb
theorem PAt.grow {base g : Nat} {space : ByteArray} {sp : List ByteArray} {v8 v' : Value} {w w' : World} {o : Obj} (h : PAt base g space sp (fun k => v8.ownBlock = some k) w) (hne : v8.ownBlock ≠ some g) (hg : (w.alloc o).grownBy w' v8.ownBlock) (hat : v'.ownBlock = v8.ownBlock ∨ v'.ownBlock = some (w.heap.size + 1)) :
    PAt base g space sp (fun k => v'.ownBlock = some k) w' ∧ v'.ownBlock ≠ some g := by
  obtain ⟨v, h1, h2, h3, h4, h5⟩ := h
  have hb := (Below.refl w.heap.size w).alloc (Nat.le_refl _) o
  have hgl := (Array.getElem?_eq_some_iff.1 h1).1
  have hs : (w.alloc o).heap.size = w.heap.size + 1 := by simp
  have hne' : v'.ownBlock ≠ some g := by
    rcases hat with e | e
    · rw [e]; exact hne
    · rw [e]
      intro h
      injection h with h
      omega
  refine ⟨⟨v, grown_block (still_block h1 hb) hg (fun e => hne e.symm), ?_, h3, h4, fun k hk => ?_⟩, hne'⟩
  · refine (own_below h2 hb).kept hg ?_
    cases hv : v.ownBlock with
    | none => exact .inl rfl
    | some k =>
      refine .inr fun e => ?_
      exact h5 k e.symm hv
  · rcases hat with e | e
    · exact h5 k (by rw [← e]; exact hk)
    · intro hv
      have := (h2.lt k hv).2
      rw [e] at hk
      injection hk with hk
      omega
set_option maxHeartbeats 16000000 in
set_option maxRecDepth 100000 in
theorem sprint_any (space : ByteArray) (A : Option Addr) (l : List StV) (c : Nat) (w : World) (hA : Sl9 w A l) (hl : l.length ≤ 1000000) (hG : GvS w)
    (hsm : ∀ x ∈ l, x.name.1.size ≤ 60000 ∧ x.name.2.size ≤ 60000 ∧ x.attr.1.size ≤ 60000 ∧ x.attr.2.size ≤ 60000 ∧ x.val.size ≤ 60000) :
    Calls Tryz.prog 51 #[.string space, .slice A l.length c] w fun e w' => e = .returned (PrintV (printS space l)) ∧ Below w.heap.size w w' := by
  have hsh := sright_any A l c w hA hl
  have HA := Lib.hid hA
  obtain ⟨R, hR⟩ : ∃ R, PrintV (printS space l) = R := ⟨_, rfl⟩
  have HR := Lib.hid hR
  rw [hR]
  clear hR hA
  cases hs : shapeS l with
  | false =>
    have hfin : R = .tuple #[.string ⟨#[]⟩, .string ⟨#[]⟩, .int .i64 33] := by rw [← HR.out, printS_no hs]; rfl
    rw [hs] at hsh
    have HF := Lib.hid hfin
    clear hfin hs HR
    go_enter Tryz.func51, Tryz.ntmps51
    go_wp2_with fail
    refine hsh.mono ?_
    rintro e w1 ⟨rfl, hb1⟩
    clear hsh
    go_wp2
    go_ret3
    exact ⟨by rw [HF.out]; rfl, hb1⟩
  | true =>
    rw [hs] at hsh
    obtain ⟨hl1, hl16⟩ := shapeS_len hs
    have HSM : Hid (∀ x ∈ l, x.name.1.size ≤ 60000 ∧ x.name.2.size ≤ 60000 ∧ x.attr.1.size ≤ 60000 ∧ x.attr.2.size ≤ 60000 ∧ x.val.size ≤ 60000 ∧ x.pos ≤ 9999) := Lib.hid fun x hx => by
      obtain ⟨a1, a2, a3, a4, a5⟩ := hsm x hx
      exact ⟨a1, a2, a3, a4, a5, shapeS_pos hs x hx⟩
    have HS := Lib.hid hs
    have HG := Lib.hid (fun v (hb : Below w.heap.size w v) => hG.next hb)
    obtain ⟨i2, hk0, hu0, hu1, hu2⟩ := info_parts text_info
    clear hsm hs hl hG
    go_enter Tryz.func51, Tryz.ntmps51
    go_wp2_with fail
    refine hsh.mono ?_
    rintro e w1 ⟨rfl, hb1⟩
    have HP2 : Hid (PAt w.heap.size w1.heap.size space [] (fun k => (Value.slice none 0 0).ownBlock = some k) (w1.alloc (.cells #[.string space, .slice none 0 0] 122))) := Lib.hid ⟨_, heap_alloc_new w1 _, World.ownsRow_nil _ _ _ _, hb1.size, by simp [Value.ownBlock], fun k hk => by simp [Value.ownBlock] at hk⟩
    have HB2 := Lib.hid (hb1.alloc hb1.size (.cells #[.string space, .slice none 0 0] 122))
    have hw1 := hb1.size
    clear hsh hb1
    go_upto_region 4 with fail
    generalize w1.alloc (.cells #[.string space, .slice none 0 0] 122) = w2 at *
    generalize w1.heap.size = g at *
    have HR0 : Hid (w2.ownsRow w.heap.size 9 1 (.slice none 0 0) 0 []) := Lib.hid (World.ownsRow_nil _ _ _ _)
    go_wp2
    go_loopw [8, 10, 11, 12, 20] (fun v8 _ _ _ v20 wr => ∃ (i : Nat) (sp : List ByteArray) (ts : List (List UInt8)), i ≤ l.length ∧ v20 = .int .i64 i ∧ ts.length = i ∧ Hid (stpsT space l [] = contT ts (stpsT space (l.drop i) sp)) ∧ Hid (∀ t ∈ ts, t.length ≤ 1000000) ∧ Hid (SpB sp ∧ ∀ s ∈ sp, s.size ≤ 60000) ∧ Hid (wr.ownsRow w.heap.size 9 1 v8 i (cells1 (ts.map fun t => mkT (pctE [] t)))) ∧ Hid (PAt w.heap.size g space sp (fun k => v8.ownBlock = some k) wr) ∧ Hid (v8.ownBlock ≠ some g) ∧ Hid (Below w.heap.size w wr)) (fun _ _ _ _ v20 _ => l.length - (intOf v20).toNat)
    case atStart => exact ⟨0, [], [], by omega, rfl, rfl, Lib.hid (by rw [contT_nil, List.drop_zero]), Lib.hid (by simp), Lib.hid ⟨SpB.nil, by simp⟩, HR0, HP2, Lib.hid (by simp [Value.ownBlock]), HB2⟩
    case round =>
      clear HP2 HB2 HR0
      obtain ⟨i, sp, ts, hi, rfl, hts, HT, HTZ, HSP, HRW, HP, HNE, HB⟩ := hrel
      by_cases h0 : i < l.length
      · obtain ⟨x, hx⟩ : ∃ x, l[i]? = some x := ⟨l[i], List.getElem?_eq_getElem h0⟩
        have hdr : l.drop i = x :: l.drop (i + 1) := by
          rw [List.drop_eq_getElem_cons h0]
          rw [List.getElem?_eq_getElem h0] at hx
          injection hx with hx
          rw [hx]
        obtain ⟨ad, rfl, had, c0, cj⟩ := (HA.out.below HB.out).at_ hx
        have c1 := cj 1 _ (by omega) rfl
        have c2 := cj 2 _ (by omega) rfl
        have c3 := cj 3 _ (by omega) rfl
        have c4 := cj 4 _ (by omega) rfl
        have c5 := cj 5 _ (by omega) rfl
        have c6 := cj 6 _ (by omega) rfl
        have c7 := cj 7 _ (by omega) rfl
        have c8 := cj 8 _ (by omega) rfl
        clear cj
        have hxs := HSM.out x (List.mem_of_getElem? hx)
        have hstw := fun t l' (h : stpT x space sp = .ok (t, l')) => stp_w h HSP.out.1.1 hxs.2.2.2.2.2
        have hsts := fun t l' (h : stpT x space sp = .ok (t, l')) => stp_sp (M := 60000) h HSP.out.2 hxs.1 hxs.2.2.1
        have hwx : w9 x ≤ 500000 := by unfold w9; omega
        obtain ⟨kind, any, ⟨n1, n2⟩, pos, by_, ⟨a1, a2⟩, val⟩ := x
        simp only at c0 c1 c2 c3 c4 c5 c6 c7 c8
        obtain ⟨z1, z2, z3, z4, z5, z6⟩ := hxs
        simp only at z1 z2 z3 z4 z5 z6
        have hbx := HB.out.alloc HB.out.size (.cells #[.int .i64 kind, .bool any, .string n1, .string n2, .int .i64 pos, .bool by_, .string a1, .string a2, .string val] 46)
        have hxx := OwnB.new #[.int .i64 kind, .bool any, .string n1, .string n2, .int .i64 pos, .bool by_, .string a1, .string a2, .string val] 46 HB.out
        have hPx := HP.out.below ((Below.refl wr.heap.size wr).alloc (Nat.le_refl _) (.cells #[.int .i64 kind, .bool any, .string n1, .string n2, .int .i64 pos, .bool by_, .string a1, .string a2, .string val] 46))
        have hrx := HRW.out.alloc (.cells #[.int .i64 kind, .bool any, .string n1, .string n2, .int .i64 pos, .bool by_, .string a1, .string a2, .string val] 46)
        go_upto_region 8 with fail
        clear c0 c1 c2 c3 c4 c5 c6 c7 c8 had
        generalize wr.alloc (.cells #[.int .i64 kind, .bool any, .string n1, .string n2, .int .i64 pos, .bool by_, .string a1, .string a2, .string val] 46) = wx at *
        generalize wr.heap.size = gx at *
        have y0 : wx.cell? ⟨gx, 0, none⟩ = some (.int .i64 kind) := hxx.cell 0
        have y1 : wx.cell? ⟨gx, 1, none⟩ = some (.bool any) := hxx.cell 1
        have y2 : wx.cell? ⟨gx, 2, none⟩ = some (.string n1) := hxx.cell 2
        have y3 : wx.cell? ⟨gx, 3, none⟩ = some (.string n2) := hxx.cell 3
        have y4 : wx.cell? ⟨gx, 4, none⟩ = some (.int .i64 pos) := hxx.cell 4
        have y5 : wx.cell? ⟨gx, 5, none⟩ = some (.bool by_) := hxx.cell 5
        have y6 : wx.cell? ⟨gx, 6, none⟩ = some (.string a1) := hxx.cell 6
        have y7 : wx.cell? ⟨gx, 7, none⟩ = some (.string a2) := hxx.cell 7
        have y8 : wx.cell? ⟨gx, 8, none⟩ = some (.string val) := hxx.cell 8
        have hT : ∀ k, u8.ownBlock = some k → k < wx.heap.size ∧ k ≠ g := fun k hk => ⟨(hrx.lt k hk).2, fun e => HNE.out (by rw [hk, e])⟩
        have hstep := sstep_any w.heap.size g space kind any n1 n2 pos by_ a1 a2 val sp _ wx hPx hT HSP.out.1 (fun v hv => HG.out v (hbx.trans hv)) z1 z2 z3 z4 z5 z6
        obtain ⟨o, ho⟩ : ∃ o, stpT ⟨kind, any, (n1, n2), pos, by_, (a1, a2), val⟩ space sp = o := ⟨_, rfl⟩
        rw [ho] at hstep hstw hsts
        have HTT : Hid (stpsT space l [] = contT ts (stpsT space (⟨kind, any, (n1, n2), pos, by_, (a1, a2), val⟩ :: l.drop (i + 1)) sp)) := Lib.hid (by rw [← hdr]; exact HT.out)
        have HO := Lib.hid ho
        have HSB : Hid (∀ t l', o = .ok (t, l') → SpB l') := Lib.hid fun t l' h => stp_spB (ho.trans h) HSP.out.1
        clear ho HT hdr hx z1 z2 z3 z4 z5 z6 hPx hT hxx
        go_wp2_with fail
        refine hstep.mono ?_
        rintro e w3 ⟨hb3, hkp3, hge3, herr, hok⟩
        have HB3 := Lib.hid (hbx.trans hb3)
        have HRW3 := Lib.hid (own_blk' hrx (fun k hk => hkp3 k (hrx.lt k hk).2 hk))
        clear hb3 hkp3 hstep y0 y1 y2 y3 y4 y5 y6 y7 y8 hrx hbx
        cases o with
        | error kk =>
          obtain rfl := herr kk rfl
          have hk : kk ≠ 0 := stp_err HO.out
          have hfin : R = .tuple #[.string ⟨#[]⟩, .string ⟨#[]⟩, .int .i64 kk] := by
            have e := HTT.out
            rw [contT_bad ts HO.out] at e
            rw [← HR.out, printS_bad HS.out e]
            rfl
          have HF := Lib.hid hfin
          have hk2 : (kk == 0) = false := by simpa using hk
          clear hfin HTT HO herr hok hstw hsts hk
          go_wp2
          go_ret3
          exact ⟨by rw [HF.out]; rfl, HB3.out⟩
        | ok p =>
          obtain ⟨t, sp'⟩ := p
          obtain ⟨rfl, hP3⟩ := hok t sp' rfl
          have htw := (hstw t sp' rfl).1
          have htl : t.length ≤ 1000000 := by omega
          have HSP' : Hid (SpB sp' ∧ ∀ s ∈ sp', s.size ≤ 60000) := Lib.hid ⟨HSB.out t sp' rfl, hsts t sp' rfl⟩
          have henc : ∀ v, Calls Tryz.prog 28 #[.string (mkT t), .string ⟨#[]⟩] v fun e w' => e = .returned (.string (mkT (pctE [] t))) ∧ Below v.heap.size v w' := fun v => by
            have h := encode_any (mkT t) ⟨#[]⟩ v (by rw [mkT_size]; exact htl) (by decide)
            rw [mkT_list] at h
            exact h
          have HP3 := Lib.hid hP3
          have HTN : Hid (stpsT space l [] = contT (ts ++ [t]) (stpsT space (l.drop (i + 1)) sp')) := Lib.hid (by rw [HTT.out, contT_good ts HO.out])
          have HTZ2 : Hid (∀ x ∈ ts ++ [t], x.length ≤ 1000000) := Lib.hid fun x hx => by
            rcases List.mem_append.1 hx with hx | hx
            · exact HTZ.out x hx
            · rw [List.mem_singleton.1 hx]; exact htl
          have hcat : cells1 ((ts ++ [t]).map fun t => mkT (pctE [] t)) = cells1 (ts.map fun t => mkT (pctE [] t)) ++ [.string (mkT (pctE [] t))] := by simp [cells1]
          clear herr hok hstw hsts HTT HO hP3 htw htl HSP HSB hge3
          go_wp2_with fail
          refine (henc _).mono ?_
          rintro e w4 ⟨rfl, hb4⟩
          have HB4 := Lib.hid (HB3.out.trans (hb4.mono HB3.out.size))
          have HRW4 := Lib.hid (own_below HRW3.out hb4)
          have HP4 := Lib.hid (HP3.out.below hb4)
          clear hb4 henc HB3 HRW3 HP3
          generalize mkT (pctE [] t) = E at *
          have hra := HRW4.out.alloc (.cells #[.string E] 9)
          have hba := HB4.out.alloc HB4.out.size (.cells #[.string E] 9)
          have hsl : Sl (w4.alloc (.cells #[.string E] 9)) 1 (some ⟨w4.heap.size, 0, none⟩) 1 [.string E] := Sl.lit w4 1 [.string E] _ 1 rfl
          have hm : i + 1 ≤ maxLen := by unfold maxLen; omega
          have hsz : w.heap.size ≤ (w4.alloc (.cells #[.string E] 9)).heap.size := hba.size
          go_wp2_with (at_builtin; refine wpList_append_sl _ rfl _ _ _ rfl w.heap.size 9 i2 _ 1 16 Tryz.underlying54 hk0 hu0 hu1 hu2 rfl (by omega) _ i _ rfl hra (some ⟨w4.heap.size, 0, none⟩) 1 1 [.string E] rfl hsl (cells1_one [E]) hm (by omega) hsz ?_)
          intro v9 w9 hown9 hg9 hat9
          obtain ⟨hP9, hne9⟩ := HP4.out.grow HNE.out hg9 hat9
          have HP9 := Lib.hid hP9
          have HNE9 := Lib.hid hne9
          have HB9 := Lib.hid (hba.grown hg9 hsz (fun k hk => (HRW4.out.lt k hk).1))
          have HRW9 : Hid (w9.ownsRow w.heap.size 9 1 v9 (i + 1) (cells1 ((ts ++ [t]).map fun t => mkT (pctE [] t)))) := Lib.hid (by rw [hcat]; exact hown9)
          have hwr2 : IntKind.i64.wrap ((i : Int) + 1) = (i : Int) + 1 := by rw [IntKind.wrap_i64]; omega
          clear hown9 hg9 hat9 hP9 hne9 hra hba hsl hcat HRW4 HP4 HB4
          go_wp2
          go_roundw
          case rel => exact ⟨i + 1, sp', ts ++ [t], by omega, by go_num, by simp; omega, HTN, HTZ2, HSP', HRW9, HP9, HNE9, HB9⟩
          case measure => simp [intOf]; omega
      · have hend : i = l.length := by omega
        have hT := HT.out
        rw [hend, List.drop_length, contT_end] at hT
        have hfin : R = .tuple #[.string (mkT (joinB 47 (ts.map (pctE [])))), .string (mkT (pctE [] (queryT 0 sp))), .int .i64 0] := by
          rw [← HR.out, printS_ok HS.out hT]
          rfl
        have HF := Lib.hid hfin
        have hi0 : ¬ (i : Int) < (l.length : Int) := by omega
        obtain ⟨bk, cap, rfl, hcap, hbk⟩ : ∃ bk cap, u8 = .slice (some ⟨bk, 0, none⟩) i cap ∧ i ≤ cap ∧ bk < wr.heap.size := by
          rcases HRW.out.2 with ⟨_, hz⟩ | ⟨bk, cap, cur, hv, _, hbk, hcap, _⟩
          · omega
          · exact ⟨bk, cap, hv, hcap, (Array.getElem?_eq_some_iff.1 hbk).1⟩
        have hel : (ts.map fun t => mkT (pctE [] t)).length = i := by rw [List.length_map, hts]
        have hem : (ts.map fun t => mkT (pctE [] t)).map (·.data.toList) = ts.map (pctE []) := by
          rw [List.map_map]
          exact List.map_congr_left fun t _ => mkT_list _
        have hjl : (joinB 47 (ts.map (pctE []))).length ≤ 100000000 := by
          have h1 := join_size 47 (ts.map (pctE []))
          have h2 : ∀ ts : List (List UInt8), (∀ t ∈ ts, t.length ≤ 1000000) → ((ts.map (pctE [])).map List.length).sum ≤ ts.length * 3000000 := by
            intro ts
            induction ts with
            | nil => intro _; simp
            | cons t r ih =>
              intro h
              have e1 := ih fun x hx => h x (by simp [hx])
              have e2 := h t (by simp)
              have e3 := pctE_len [] t
              simp only [List.map_cons, List.sum_cons, List.length_cons]
              omega
          have h3 := h2 ts HTZ.out
          rw [List.length_map] at h1
          have h4 : ts.length * 3000000 ≤ 16 * 3000000 := Nat.mul_le_mul_right _ (by omega)
          omega
        have hjn := Tryz.strings_Join bk 0 cap (ts.map fun t => mkT (pctE [] t)) ⟨#[47]⟩ wr (fun j x hx => by
            have hcl := HRW.out.cells (g := bk) rfl j (.string x) (by unfold cells1; rw [List.getElem?_map, hx]; rfl)
            rw [Nat.zero_add]
            have e : (⟨bk, 0, none⟩ : Addr).add j = ⟨bk, j, none⟩ := by unfold Addr.add; split <;> simp_all
            rw [← e]
            exact hcl) hbk (by rw [hel]; omega) (by rw [hel]; exact hcap) (by
            rw [hem, show (⟨#[47]⟩ : ByteArray).data.toList = [47] from rfl, join_B]
            omega)
        rw [hem, hel, show (⟨#[47]⟩ : ByteArray).data.toList = [47] from rfl, join_B] at hjn
        have hjn : Calls Tryz.prog 78 #[.slice (some ⟨bk, 0, none⟩) i cap, .string ⟨#[47]⟩] wr fun e w' => e = .returned (.string (mkT (joinB 47 (ts.map (pctE []))))) ∧ Below wr.heap.size wr w' := hjn
        have hqu := fun v hv => squery_any w.heap.size g space sp (fun _ => False) v hv HSP.out.1.1 HSP.out.2
        have hql := query_len6 sp 0 (by have := HSP.out.1.1; omega) HSP.out.2
        have hql2 : (queryT 0 sp).length ≤ 1000000 := by have := HSP.out.1.1; omega
        have henc : ∀ v, Calls Tryz.prog 28 #[.string (mkT (queryT 0 sp)), .string ⟨#[]⟩] v fun e w' => e = .returned (.string (mkT (pctE [] (queryT 0 sp)))) ∧ Below v.heap.size v w' := fun v => by
          have h := encode_any (mkT (queryT 0 sp)) ⟨#[]⟩ v (by rw [mkT_size]; exact hql2) (by decide)
          rw [mkT_list] at h
          exact h
        have HQU := Lib.hid hqu
        have HEN := Lib.hid henc
        clear hfin hT HT hend hem hel hqu hql hql2 henc HR h0 hcap hbk hjl
        generalize mkT (joinB 47 (ts.map (pctE []))) = J at *
        generalize mkT (pctE [] (queryT 0 sp)) = EQ at *
        go_wp2_with fail
        refine hjn.mono ?_
        rintro e w5 ⟨rfl, hb5⟩
        have HB5 := Lib.hid (HB.out.trans (hb5.mono HB.out.size))
        have HP5 := Lib.hid (HP.out.below hb5)
        clear hb5 hjn
        go_wp2_with fail
        refine (HQU.out _ (HP5.out.sub (T' := fun _ => False) fun _ h => h.elim)).mono ?_
        rintro e w6 ⟨rfl, hb6⟩
        have HB6 := Lib.hid (HB5.out.trans (hb6.mono HB5.out.size))
        clear hb6 HQU
        go_wp2_with fail
        refine (HEN.out _).mono ?_
        rintro e w7 ⟨rfl, hb7⟩
        go_wp2
        go_ret3
        exact ⟨by rw [HF.out]; rfl, HB6.out.trans (hb7.mono HB6.out.size)⟩
end Go.Proofs.YtbdamneophbnnaaGreatDoor
namespace Wb
open Go
end Wb
namespace Go.Proofs.YtbdamneophbnnaaGreatDoor
open Go.RowKit Wb
end Go.Proofs.YtbdamneophbnnaaGreatDoor
