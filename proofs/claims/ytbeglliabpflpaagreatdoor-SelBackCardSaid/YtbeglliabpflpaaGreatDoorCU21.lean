/- SbH SbG SbI SbJ SbK. -/
import Derived.Test.YtbeglliabpflpaaGreatDoorCU6
import Derived.Test.YtbeglliabpflpaaGreatDoorCU11
import Derived.Test.YtbeglliabpflpaaGreatDoorCU12
import Derived.Test.YtbeglliabpflpaaGreatDoorCU20
namespace Wb
def siz9 (x : StV) : Nat := x.name.1.size + x.name.2.size + x.attr.1.size + x.attr.2.size + x.val.size
def tot10 (l : List StV) : Nat := (l.map siz9).sum
theorem tot10_step {l : List StV} {k : Nat} {x : StV} (h : l[k]? = some x) : tot10 (l.take (k + 1)) = tot10 (l.take k) + siz9 x := by
  have hk : k < l.length := (List.getElem?_eq_some_iff.1 h).1
  have he : l[k] = x := (List.getElem?_eq_some_iff.1 h).2
  unfold tot10
  rw [List.take_succ_eq_append_getElem hk, he]
  simp
theorem tot10_mem : ∀ {l : List StV} {x : StV}, x ∈ l → siz9 x ≤ tot10 l
  | [], x, h => by simp at h
  | y :: l, x, h => by
    have e : tot10 (y :: l) = siz9 y + tot10 l := rfl
    rw [e]
    rcases List.mem_cons.1 h with rfl | h
    · omega
    · have := tot10_mem h
      omega
theorem min5 (s : ByteArray) : ∃ m : Nat, min (s.size : Int) 5000 = (m : Int) ∧ m ≤ 5000 ∧ (m < 5000 → m = s.size) := by
  refine ⟨min s.size 5000, by omega, by omega, by omega⟩
end Wb
namespace Go.Proofs.YtbeglliabpflpaaGreatDoor
open Go.RowKit Wb
def FewPost10 (l : List StV) (w : World) (e : Ending) (w' : World) : Prop :=
  Below w.heap.size w w' ∧ ∃ b, e = .returned (.bool b) ∧ (b = true → l.length + tot10 l < 5000)
set_option maxRecDepth 100000 in
set_option maxHeartbeats 4000000 in
theorem rssame_eq (A B : Option Addr) (l : List StV) (ca cb : Nat) (w : World) (hA : Sl9 w A l) (hB : Sl9 w B l) (hl : l.length ≤ 1000000) :
    Calls Tryz.prog 16 #[.slice A l.length ca, .slice B l.length cb] w fun e w' => e = .returned (.bool true) ∧ Below w.heap.size w w' := by
  have HA := Lib.hid hA
  have HB := Lib.hid hB
  clear hA hB
  go_enter Tryz.func16, Tryz.ntmps16
  go_wp2
  go_loopw [5] (fun vi wr => ∃ i : Nat, i ≤ l.length ∧ vi = .int .i64 i ∧ Hid (Below w.heap.size w wr)) (fun vi _ => ((l.length : Int) - intOf vi).toNat)
  case atStart => exact ⟨0, by omega, rfl, Lib.hid (Below.refl _ _)⟩
  case round =>
    obtain ⟨i, hi, rfl, HW⟩ := hrel
    by_cases h0 : i < l.length
    · obtain ⟨x, hx⟩ : ∃ x, l[i]? = some x := ⟨l[i], List.getElem?_eq_getElem h0⟩
      obtain ⟨ad, rfl, had, c0, cj⟩ := (HA.out.below HW.out).at_ hx
      obtain ⟨bd, rfl, hbd, e0, ej⟩ := (HB.out.below HW.out).at_ hx
      have c1 := cj 1 _ (by omega) rfl
      have c2 := cj 2 _ (by omega) rfl
      have c3 := cj 3 _ (by omega) rfl
      have c4 := cj 4 _ (by omega) rfl
      have c5 := cj 5 _ (by omega) rfl
      have c6 := cj 6 _ (by omega) rfl
      have c7 := cj 7 _ (by omega) rfl
      have c8 := cj 8 _ (by omega) rfl
      have e1 := ej 1 _ (by omega) rfl
      have e2 := ej 2 _ (by omega) rfl
      have e3 := ej 3 _ (by omega) rfl
      have e4 := ej 4 _ (by omega) rfl
      have e5 := ej 5 _ (by omega) rfl
      have e6 := ej 6 _ (by omega) rfl
      have e7 := ej 7 _ (by omega) rfl
      have e8 := ej 8 _ (by omega) rfl
      have hi0 : (0 : Int) ≤ (i : Int) := by omega
      have hi1 : (i : Int) < (l.length : Int) := by omega
      clear hx had hbd HA HB cj ej
      obtain ⟨kind, any, ⟨n1, n2⟩, pos, by_, ⟨a1, a2⟩, val⟩ := x
      simp only at c0 c1 c2 c3 c4 c5 c6 c7 c8 e0 e1 e2 e3 e4 e5 e6 e7 e8
      go_wp2_with fail
      go_region
      go_wp2
      go_roundw
      case rel => exact ⟨i + 1, by omega, by go_num, Lib.hid HW.out.drew⟩
      case measure => simp [intOf]; omega
    · go_wp2
      go_ret
      exact ⟨rfl, HW.out⟩
set_option maxHeartbeats 8000000 in
set_option maxRecDepth 100000 in
theorem few10_any (A : Option Addr) (l : List StV) (c : Nat) (w : World) (hA : Sl9 w A l) :
    Calls Tryz.prog 11 #[.slice A l.length c] w (FewPost10 l w) := by
  have HA := Lib.hid hA
  clear hA
  by_cases hlen : (l.length : Int) ≤ 5000
  · go_enter Tryz.func11, Tryz.ntmps11
    go_wp2
    go_loopw [3, 4] (fun n i wr => ∃ (k N : Nat), k ≤ l.length ∧ n = .int .i64 N ∧ i = .int .i64 k ∧ N ≤ 30000 ∧ Hid (N < 5000 → l.length + tot10 (l.take k) = N) ∧ Hid (Below w.heap.size w wr)) (fun _ i _ => ((l.length : Int) - intOf i).toNat)
    case atStart => exact ⟨0, l.length, by omega, by rw [show min (l.length : Int) 5000 = (l.length : Int) from by omega], rfl, by omega, Lib.hid (fun _ => by simp [tot10]), Lib.hid (Below.refl _ _)⟩
    case round =>
      obtain ⟨k, N, hk, rfl, rfl, hN, HT, HB⟩ := hrel
      by_cases h1 : (N : Int) < 5000
      · by_cases h0 : (k : Int) < l.length
        · obtain ⟨x, hx⟩ : ∃ x, l[k]? = some x := ⟨l[k], List.getElem?_eq_getElem (by omega)⟩
          obtain ⟨ad, rfl, had, c0, cj⟩ := (HA.out.below HB.out).at_ hx
          have c1 := cj 1 _ (by omega) rfl
          have c2 := cj 2 _ (by omega) rfl
          have c3 := cj 3 _ (by omega) rfl
          have c4 := cj 4 _ (by omega) rfl
          have c5 := cj 5 _ (by omega) rfl
          have c6 := cj 6 _ (by omega) rfl
          have c7 := cj 7 _ (by omega) rfl
          have c8 := cj 8 _ (by omega) rfl
          clear cj
          obtain ⟨m1, q1, b1, s1⟩ := min5 x.name.1
          obtain ⟨m2, q2, b2, s2⟩ := min5 x.name.2
          obtain ⟨m3, q3, b3, s3⟩ := min5 x.attr.1
          obtain ⟨m4, q4, b4, s4⟩ := min5 x.attr.2
          obtain ⟨m5, q5, b5, s5⟩ := min5 x.val
          have HN : Hid (N + m1 + m2 + m3 + m4 + m5 < 5000 → l.length + tot10 (l.take (k + 1)) = N + m1 + m2 + m3 + m4 + m5) := Lib.hid fun h => by
            have t1 := HT.out (by omega)
            have u1 := s1 (by omega)
            have u2 := s2 (by omega)
            have u3 := s3 (by omega)
            have u4 := s4 (by omega)
            have u5 := s5 (by omega)
            rw [tot10_step hx]
            unfold siz9
            omega
          clear hx HT s1 s2 s3 s4 s5
          obtain ⟨kind, any, ⟨n1, n2⟩, pos, by_, ⟨a1, a2⟩, val⟩ := x
          simp only at c0 c1 c2 c3 c4 c5 c6 c7 c8 q1 q2 q3 q4 q5
          have h1b : decide ((N : Int) < 5000) = true := decide_eq_true h1
          go_upto_region 6 with fail
          have hnew := heap_alloc_new wr (.cells #[.int .i64 kind, .bool any, .string n1, .string n2, .int .i64 pos, .bool by_, .string a1, .string a2, .string val] 47)
          have HBn := Lib.hid (HB.out.alloc HB.out.size (.cells #[.int .i64 kind, .bool any, .string n1, .string n2, .int .i64 pos, .bool by_, .string a1, .string a2, .string val] 47))
          clear c0 c1 c2 c3 c4 c5 c6 c7 c8
          generalize wr.alloc (.cells #[.int .i64 kind, .bool any, .string n1, .string n2, .int .i64 pos, .bool by_, .string a1, .string a2, .string val] 47) = wx at *
          generalize wr.heap.size = g at *
          have c2 : wx.cell? ⟨g, 2, none⟩ = some (.string n1) := blk_cell hnew 2
          have c3 : wx.cell? ⟨g, 3, none⟩ = some (.string n2) := blk_cell hnew 3
          have c6 : wx.cell? ⟨g, 6, none⟩ = some (.string a1) := blk_cell hnew 6
          have c7 : wx.cell? ⟨g, 7, none⟩ = some (.string a2) := blk_cell hnew 7
          have c8 : wx.cell? ⟨g, 8, none⟩ = some (.string val) := blk_cell hnew 8
          clear hnew HB
          go_wp2
          go_roundw
          case rel => exact ⟨k + 1, N + m1 + m2 + m3 + m4 + m5, by omega, by go_num, by go_num, by omega, HN, HBn⟩
          case measure => simp [intOf]; omega
        · have hd : decide ((N : Int) < 5000) = true := decide_eq_true h1
          go_wp2
          go_ret
          refine ⟨HB.out, _, rfl, fun _ => ?_⟩
          have := HT.out (by omega)
          rw [List.take_of_length_le (by omega)] at this
          omega
      · go_wp2
        all_goals
          go_ret
          exact ⟨HB.out, _, rfl, fun h => absurd h (by simp)⟩
  · go_enter Tryz.func11, Tryz.ntmps11
    go_wp2
    go_loopw [3, 4] (fun n i wr => n = .int .i64 5000 ∧ i = .int .i64 0 ∧ wr = w) (fun _ _ _ => 0)
    case atStart => exact ⟨by rw [show min (l.length : Int) 5000 = 5000 from by omega], rfl, rfl⟩
    case round =>
      obtain ⟨rfl, rfl, rfl⟩ := hrel
      go_wp2
      all_goals
        go_ret
        exact ⟨Below.refl _ _, _, rfl, fun h => absurd h (by simp)⟩
end Go.Proofs.YtbeglliabpflpaaGreatDoor
namespace Go.Proofs.YtbeglliabpflpaaGreatDoor
open Go.RowKit Wb
def PrintV (o : Except Int (List UInt8 × List UInt8)) : Value := .tuple #[.string (mkT (prV o).2.1), .string (mkT (prV o).2.2), .int .i64 (prV o).1]
set_option maxRecDepth 100000 in
set_option maxHeartbeats 8000000 in
theorem rsprint_any (space : ByteArray) (A : Option Addr) (l : List StV) (c : Nat) (w : World) (hA : Sl9 w A l) (hl : l.length ≤ 1000000)
    (hsm : ∀ x ∈ l, x.name.1.size ≤ 50000 ∧ x.name.2.size ≤ 50000 ∧ x.attr.1.size ≤ 50000 ∧ x.attr.2.size ≤ 50000 ∧ x.val.size ≤ 50000) :
    Calls Tryz.prog 13 #[.string space, .slice A l.length c] w fun e w' => e = .returned (PrintV (printS space l)) ∧ Below w.heap.size w w' := by
  have hsh := rshape_any A l c w hA hl
  have HA := Lib.hid hA
  obtain ⟨R, hR⟩ : ∃ R, PrintV (printS space l) = R := ⟨_, rfl⟩
  have HR := Lib.hid hR
  rw [hR]
  clear hR hA
  cases hs : shapeS l with
  | false =>
    have hfin : R = .tuple #[.string ⟨#[]⟩, .string ⟨#[]⟩, .int .i64 33] := by rw [← HR.out, printS_no hs]; rfl
    rw [hs] at hsh
    have HF := Lib.hid hfin
    clear hfin hs HR
    go_enter Tryz.func13, Tryz.ntmps13
    go_wp2_with fail
    refine hsh.mono ?_
    rintro e w1 ⟨rfl, hb1⟩
    clear hsh
    go_wp2
    go_ret3
    exact ⟨by rw [HF.out]; rfl, hb1⟩
  | true =>
    rw [hs] at hsh
    have hl16 := (shapeS_len hs).2
    have HSM : Hid (∀ x ∈ l, StSm x) := Lib.hid fun x hx => by
      obtain ⟨a1, a2, a3, a4, a5⟩ := hsm x hx
      exact ⟨a1, a2, a3, a4, a5, shapeS_pos hs x hx⟩
    have HS := Lib.hid hs
    clear hsm hs hl
    go_enter Tryz.func13, Tryz.ntmps13
    go_wp2_with fail
    refine hsh.mono ?_
    rintro e w1 ⟨rfl, hb1⟩
    have HB1 := Lib.hid hb1
    clear hsh hb1
    go_wp2
    go_loopw [7, 8, 10, 11, 12, 13] (fun v7 v8 v10 _ _ _ wr => ∃ (i : Nat) (C : Option Addr) (k : Nat) (sp : List ByteArray) (S : ByteArray), i ≤ l.length ∧ v10 = .int .i64 i ∧ v7 = .slice C sp.length k ∧ v8 = .string S ∧ S.size ≤ i * 3000001 ∧ Hid (∃ ts : List (List UInt8), ts.length = i ∧ S = mkT (joinB 47 (ts.map (pctE []))) ∧ stpsT space l [] = contT ts (stpsT space (l.drop i) sp)) ∧ Hid (SpSm sp) ∧ Hid (Sl1 wr C sp) ∧ Hid (Below w.heap.size w wr)) (fun _ _ v10 _ _ _ _ => l.length - (intOf v10).toNat)
    case atStart => exact ⟨0, none, 0, [], ⟨#[]⟩, by omega, rfl, rfl, rfl, by decide, Lib.hid ⟨[], rfl, rfl, by rw [contT_nil, List.drop_zero]⟩, Lib.hid SpSm.nil, Lib.hid (Sl.nil _ 1 _), HB1⟩
    case round =>
      obtain ⟨i, C, k, sp, S, hi, rfl, rfl, rfl, hSz, HT, HP, HC, HB⟩ := hrel
      by_cases h0 : i < l.length
      · obtain ⟨x, hx⟩ : ∃ x, l[i]? = some x := ⟨l[i], List.getElem?_eq_getElem h0⟩
        have hdr : l.drop i = x :: l.drop (i + 1) := by
          rw [List.drop_eq_getElem_cons h0]
          rw [List.getElem?_eq_getElem h0] at hx
          injection hx with hx
          rw [hx]
        have hxs := HSM.out x (List.mem_of_getElem? hx)
        obtain ⟨ad, rfl, had, c0, cj⟩ := (HA.out.below HB.out).at_ hx
        have c1 := cj 1 _ (by omega) rfl
        have c2 := cj 2 _ (by omega) rfl
        have c3 := cj 3 _ (by omega) rfl
        have c4 := cj 4 _ (by omega) rfl
        have c5 := cj 5 _ (by omega) rfl
        have c6 := cj 6 _ (by omega) rfl
        have c7 := cj 7 _ (by omega) rfl
        have c8 := cj 8 _ (by omega) rfl
        clear cj
        obtain ⟨kind, any, ⟨n1, n2⟩, pos, by_, ⟨a1, a2⟩, val⟩ := x
        simp only at c0 c1 c2 c3 c4 c5 c6 c7 c8
        obtain ⟨z1, z2, z3, z4, z5, z6⟩ := hxs
        simp only at z1 z2 z3 z4 z5 z6
        have hstep := rstep_any kind any n1 n2 pos by_ a1 a2 val space C sp k wr HC.out HP.out.1 (by omega) (by omega) (by omega) (by omega) (by omega) z6
        have hsz : ∀ t l', stpT ⟨kind, any, (n1, n2), pos, by_, (a1, a2), val⟩ space sp = .ok (t, l') → t.length ≤ 1000000 ∧ SpSm l' := fun t l' h => stp_sm h HP.out ⟨z1, z2, z3, z4, z5, z6⟩
        clear z1 z2 z3 z4 z5 z6
        obtain ⟨o, ho⟩ : ∃ o, stpT ⟨kind, any, (n1, n2), pos, by_, (a1, a2), val⟩ space sp = o := ⟨_, rfl⟩
        rw [ho] at hstep hsz
        have HTT : Hid (∃ ts : List (List UInt8), ts.length = i ∧ S = mkT (joinB 47 (ts.map (pctE []))) ∧ stpsT space l [] = contT ts (stpsT space (⟨kind, any, (n1, n2), pos, by_, (a1, a2), val⟩ :: l.drop (i + 1)) sp)) := Lib.hid (by rw [← hdr]; exact HT.out)
        have HO := Lib.hid ho
        clear ho HT hdr hx
        cases o with
        | error kk =>
          have hk : kk ≠ 0 := stp_err HO.out
          have hfin : R = .tuple #[.string ⟨#[]⟩, .string ⟨#[]⟩, .int .i64 kk] := by
            obtain ⟨ts, _, _, e⟩ := HTT.out
            rw [contT_bad ts HO.out] at e
            rw [← HR.out, printS_bad HS.out e]
            rfl
          have HF := Lib.hid hfin
          clear hfin hsz HTT HO
          go_wp2_with fail
          refine hstep.mono ?_
          rintro e w2 ⟨hb2, he, -⟩
          obtain ⟨u1, u2, rfl⟩ := he kk rfl
          have HB2 := Lib.hid (HB.out.trans (hb2.mono HB.out.size))
          clear hb2 he hstep
          have hk2 : (kk == 0) = false := by simpa using hk
          go_wp2
          go_ret3
          exact ⟨by rw [HF.out]; rfl, HB2.out⟩
        | ok p =>
          obtain ⟨t, sp'⟩ := p
          obtain ⟨ht, hsp'⟩ := hsz t sp' rfl
          have HP' := Lib.hid hsp'
          clear hsz hsp'
          have henc : ∀ v, Calls Tryz.prog 34 #[.string (mkT t), .string ⟨#[]⟩] v fun e w' => e = .returned (.string (mkT (pctE [] t))) ∧ Below v.heap.size v w' := fun v => by
            have h := rencode_any (mkT t) ⟨#[]⟩ v (by rw [mkT_size]; exact ht) (by decide)
            rw [mkT_list] at h
            exact h
          have hez : (mkT (pctE [] t)).size ≤ 3000000 := by
            have := pctE_len [] t
            rw [mkT_size]
            omega
          have HNEW : Hid (∃ ts : List (List UInt8), ts.length = i + 1 ∧ S ++ (if i = 0 then ⟨#[]⟩ else ⟨#[47]⟩) ++ mkT (pctE [] t) = mkT (joinB 47 (ts.map (pctE []))) ∧ stpsT space l [] = contT ts (stpsT space (l.drop (i + 1)) sp')) := Lib.hid (by
            obtain ⟨ts, e1, e2, e3⟩ := HTT.out
            refine ⟨ts ++ [t], by simp [e1], ?_, by rw [e3, contT_good ts HO.out]⟩
            rw [e2, List.map_append, List.map_cons, List.map_nil, join_snoc, List.length_map, e1]
            split
            · rw [show (⟨#[]⟩ : ByteArray) = mkT [] from rfl, mkT_app, mkT_app]
              simp
            · rw [show (⟨#[47]⟩ : ByteArray) = mkT [47] from rfl, mkT_app, mkT_app]
              simp)
          have HEN := Lib.hid henc
          have HEZ := Lib.hid hez
          clear HTT HO henc ht
          generalize mkT (pctE [] t) = E at *
          by_cases hi0 : i = 0
          · have hi0b : decide (0 < i) = false := by simpa using hi0
            have hi0c : ¬ (0 : Int) < (i : Int) := by omega
            have HNEW2 : Hid (∃ ts : List (List UInt8), ts.length = i + 1 ∧ S ++ E = mkT (joinB 47 (ts.map (pctE []))) ∧ stpsT space l [] = contT ts (stpsT space (l.drop (i + 1)) sp')) := Lib.hid (by
              have := HNEW.out
              rw [if_pos hi0, show S ++ (⟨#[]⟩ : ByteArray) = S from ByteArray.append_empty] at this
              exact this)
            clear HNEW hi0
            have g1 : ¬ 9223372036854775807 < S.size + E.size := by omega
            go_wp2_with fail
            refine hstep.mono ?_
            rintro e w2 ⟨hb2, -, he⟩
            obtain ⟨C', k', rfl, hC'⟩ := he t sp' rfl
            have HB2 := Lib.hid (HB.out.trans (hb2.mono HB.out.size))
            have HC' := Lib.hid hC'
            clear hb2 he hstep hC'
            go_wp2_with fail
            refine (HEN.out _).mono ?_
            rintro e w3 ⟨rfl, hb3⟩
            have HB3 := Lib.hid (HB2.out.trans (hb3.mono HB2.out.size))
            have HC3 := Lib.hid (HC'.out.below hb3)
            clear hb3
            go_wp2
            go_roundw
            case rel => exact ⟨i + 1, C', k', sp', S ++ E, by omega, by go_num, rfl, rfl, by rw [ByteArray.size_append]; omega, HNEW2, HP', HC3, HB3⟩
            case measure => simp [intOf]; omega
          · have HNEW2 : Hid (∃ ts : List (List UInt8), ts.length = i + 1 ∧ S ++ ⟨#[47]⟩ ++ E = mkT (joinB 47 (ts.map (pctE []))) ∧ stpsT space l [] = contT ts (stpsT space (l.drop (i + 1)) sp')) := Lib.hid (by
              have := HNEW.out
              rw [if_neg hi0] at this
              exact this)
            clear HNEW
            have hi1 : (0 : Int) < (i : Int) := by omega
            have g0 : ¬ 9223372036854775807 < S.size + 1 := by omega
            have g1 : ¬ 9223372036854775807 < S.size + 1 + E.size := by omega
            go_wp2_with fail
            refine hstep.mono ?_
            rintro e w2 ⟨hb2, -, he⟩
            obtain ⟨C', k', rfl, hC'⟩ := he t sp' rfl
            have HB2 := Lib.hid (HB.out.trans (hb2.mono HB.out.size))
            have HC' := Lib.hid hC'
            clear hb2 he hstep hC'
            go_wp2_with fail
            refine (HEN.out _).mono ?_
            rintro e w3 ⟨rfl, hb3⟩
            have HB3 := Lib.hid (HB2.out.trans (hb3.mono HB2.out.size))
            have HC3 := Lib.hid (HC'.out.below hb3)
            clear hb3
            go_wp2
            go_roundw
            case rel => exact ⟨i + 1, C', k', sp', S ++ ⟨#[47]⟩ ++ E, by omega, by go_num, rfl, rfl, by rw [ByteArray.size_append, ByteArray.size_append]; have : (⟨#[47]⟩ : ByteArray).size = 1 := rfl; omega, HNEW2, HP', HC3, HB3⟩
            case measure => simp [intOf]; omega
      · have hend : i = l.length := by omega
        obtain ⟨ts, _, hS, hT⟩ := HT.out
        rw [hend, List.drop_length, contT_end] at hT
        have hfin : R = .tuple #[.string S, .string (mkT (pctE [] (queryT 0 sp))), .int .i64 0] := by
          rw [← HR.out, printS_ok HS.out hT, hS]
          rfl
        have HF := Lib.hid hfin
        clear hfin hS hT HT hend HR
        have hp16 := HP.out.1
        have hql : (queryT 0 sp).length ≤ 1000000 := by
          have := query_len sp 0 (by omega) HP.out.2
          omega
        have HEN : Hid (∀ v, Calls Tryz.prog 34 #[.string (mkT (queryT 0 sp)), .string ⟨#[]⟩] v fun e w' => e = .returned (.string (mkT (pctE [] (queryT 0 sp)))) ∧ Below v.heap.size v w') := Lib.hid fun v => by
          have h := rencode_any (mkT (queryT 0 sp)) ⟨#[]⟩ v (by rw [mkT_size]; exact hql) (by decide)
          rw [mkT_list] at h
          exact h
        clear hql
        go_wp2
        go_loopw [9, 14] (fun v9 v14 wr => ∃ (j : Nat) (Q : ByteArray), j ≤ sp.length ∧ v14 = .int .i64 j ∧ v9 = .string Q ∧ Hid (Q = mkT (queryT 0 (sp.take j))) ∧ Hid (Sl1 wr C sp) ∧ Hid (Below w.heap.size w wr)) (fun _ v14 _ => sp.length - (intOf v14).toNat)
        case atStart => exact ⟨0, ⟨#[]⟩, by omega, rfl, rfl, Lib.hid rfl, HC, HB⟩
        case round =>
          obtain ⟨j, Q, hj, rfl, rfl, HQ, HC2, HB2⟩ := hrel
          by_cases h1 : j < sp.length
          · obtain ⟨s, hs⟩ : ∃ s, sp[j]? = some s := ⟨sp[j], List.getElem?_eq_getElem h1⟩
            have hsz := HP.out.2 s (List.mem_of_getElem? hs)
            obtain ⟨sa, rfl, hsa, cs⟩ := HC2.out.at_ hs
            have hqz : Q.size ≤ 1000000 := by
              have := query_len (sp.take j) 0 (by rw [List.length_take]; omega) fun x hx => HP.out.2 x (List.mem_of_mem_take hx)
              rw [List.length_take] at this
              rw [HQ.out, mkT_size]
              omega
            have hdz : (mkT (dgN (j + 1))).size ≤ 2 := by rw [mkT_size]; exact dgN_le _ 2 (by omega)
            have hdg : ∀ v, Calls Tryz.prog 35 #[.int .i64 ((j : Int) + 1)] v fun e w' => e = .returned (.string (mkT (dgN (j + 1)))) ∧ Below v.heap.size v w' := fun v => sdigits_any (j + 1) v (by omega) (by omega)
            have HNEW : Hid (((((Q ++ ⟨#[120, 109, 108, 110, 115, 40, 110]⟩) ++ mkT (dgN (j + 1))) ++ ⟨#[61]⟩) ++ s) ++ ⟨#[41]⟩ = mkT (queryT 0 (sp.take (j + 1)))) := Lib.hid (by
              have es : s = mkT s.data.toList := (to_list s).symm
              rw [query_more sp 0 j s hs, HQ.out, Nat.zero_add, num_dgN (by omega)]
              conv => lhs; arg 1; arg 2; rw [es]
              rw [show (⟨#[120, 109, 108, 110, 115, 40, 110]⟩ : ByteArray) = mkT [120, 109, 108, 110, 115, 40, 110] from rfl, show (⟨#[61]⟩ : ByteArray) = mkT [61] from rfl, show (⟨#[41]⟩ : ByteArray) = mkT [41] from rfl, mkT_app, mkT_app, mkT_app, mkT_app, mkT_app]
              simp [sBindK])
            have HDG := Lib.hid hdg
            clear hdg HQ
            have hj0 : (0 : Int) ≤ (j : Int) := by omega
            have hj1 : (j : Int) < (sp.length : Int) := by omega
            have hwr : IntKind.i64.wrap ((j : Int) + 1) = (j : Int) + 1 := by rw [IntKind.wrap_i64]; omega
            generalize mkT (dgN (j + 1)) = D at *
            have g1 : ¬ 9223372036854775807 < Q.size + 7 := by omega
            have g2 : ¬ 9223372036854775807 < Q.size + 7 + D.size := by omega
            have g3 : ¬ 9223372036854775807 < Q.size + 7 + D.size + 1 := by omega
            have g4 : ¬ 9223372036854775807 < Q.size + 7 + D.size + 1 + s.size := by omega
            have g5 : ¬ 9223372036854775807 < Q.size + 7 + D.size + 1 + s.size + 1 := by omega
            have HCP := Lib.hid (fun (v : World) (h : Below wr.heap.size wr v) => (show v.cell? (sa.add j) = some (.string s) from (h.cell (by rw [add_block]; exact hsa)).trans cs))
            have HSL := Lib.hid (fun (v : World) (h : Below wr.heap.size wr v) => HC2.out.below h)
            clear hs cs hsa hqz hsz hdz
            go_wp2_with fail
            (try simp only [List.append])
            refine wp_region_held_drew (S := (fun v => v.cell? (sa.add j) = some (.string s))) (by kernel_rfl) (HCP.out _ (Below.refl _ wr).drew) (fun hHeld => ?_)
            refine takeW 0 ?_
            refine takeW 1 ?_
            refine takeW 2 ?_
            refine takeW 3 ?_
            (try simp only [Act.put, List.setIfInBounds_toArray, List.set_cons_zero, List.set_cons_succ])
            refine takeW 7 ?_
            refine takeW 8 ?_
            refine takeW 9 ?_
            refine takeW 10 ?_
            (try simp only [Act.put, List.setIfInBounds_toArray, List.set_cons_zero, List.set_cons_succ])
            refine wpAnyH_ready (rs := [4]) (by kernel_rfl) (by simp) ?_
            refine AllReadyH.cons rfl (fun K2 hK2 => ?_) AllReadyH.nil
            go_simp
            (try rw [hwr])
            refine (HDG.out _).mono ?_
            rintro e w7 ⟨rfl, hb7⟩
            have HB7 : Hid (Below wr.heap.size wr w7) := Lib.hid (by have hd : Below wr.heap.size wr wr.drew := (Below.refl _ wr).drew; exact hd.trans (hb7.mono hd.size))
            clear hb7
            refine hK2.out _ _ (HCP.out _ HB7.out) (fun hHeld2 => ?_)
            (try simp only [Act.put, List.setIfInBounds_toArray, List.set_cons_zero, List.set_cons_succ])
            refine takeW 5 ?_
            refine takeW 6 ?_
            refine takeW 11 ?_
            refine takeW 12 ?_
            (try simp only [Act.put, List.setIfInBounds_toArray, List.set_cons_zero, List.set_cons_succ])
            refine takeW 13 ?_
            (try simp only [Act.put, List.setIfInBounds_toArray, List.set_cons_zero, List.set_cons_succ])
            refine wpAnyH_done (by kernel_rfl) ?_ _
            go_wp2_with fail
            go_roundw
            case rel => exact ⟨j + 1, _, by omega, by go_num, rfl, HNEW, Lib.hid (HSL.out _ HB7.out), Lib.hid (HB2.out.trans (HB7.out.mono HB2.out.size))⟩
            case measure => simp [intOf]; omega
          · have hend : j = sp.length := by omega
            have hQ : Q = mkT (queryT 0 sp) := by
              have := HQ.out
              rw [hend, List.take_length] at this
              exact this
            subst hQ
            clear hend HQ
            generalize mkT (queryT 0 sp) = Q at *
            go_wp2_with fail
            refine (HEN.out _).mono ?_
            rintro e w8 ⟨rfl, hb8⟩
            go_wp2
            go_ret3
            exact ⟨by rw [HF.out]; rfl, HB2.out.trans (hb8.mono HB2.out.size)⟩
end Go.Proofs.YtbeglliabpflpaaGreatDoor
namespace Wb
def sUrnD : ByteArray := ⟨#[117, 114, 110, 58, 100]⟩
def sUrnX : ByteArray := ⟨#[117, 114, 110, 58, 120]⟩
def aw1 : List StV := [⟨1, false, (sUrnD, ⟨#[97]⟩), 0, false, nE, sE⟩, ⟨1, false, (sUrnD, ⟨#[98]⟩), 2, false, nE, sE⟩, ⟨2, false, (sE, ⟨#[99]⟩), 0, false, nE, sE⟩]
theorem aw_p1 : parseS [97, 47, 98, 91, 50, 93, 47, 64, 99] sUrnD [] = .ok aw1 := by kernel_rfl
theorem aw_p2 : parseS [98, 91, 64, 112, 58, 120, 61, 49, 93] sE [] = .error 33 := by kernel_rfl
theorem aw_b : bindsP [120, 109, 108, 110, 115, 40, 112, 61, 117, 114, 110, 58, 120, 41] = ([(⟨#[112]⟩, sUrnX)], 0) := by kernel_rfl
def aw4 : StV := ⟨1, false, (sUrnX, ⟨#[97]⟩), 0, false, nE, sE⟩
theorem aw_r : printS sUrnD [aw4] = .ok ([110, 49, 37, 51, 65, 97], [120, 109, 108, 110, 115, 37, 50, 56, 110, 49, 37, 51, 68, 117, 114, 110, 37, 51, 65, 120, 37, 50, 57]) := by kernel_rfl
end Wb
namespace Go.Proofs.YtbeglliabpflpaaGreatDoor
open Go.RowKit Wb
def StepsOut (o : Except Int (List StV)) (w : World) (e : Ending) (w' : World) : Prop :=
  Below w.heap.size w w' ∧ ((∀ k, o = .error k → e = .returned (.tuple #[.slice none 0 0, .int .i64 k])) ∧
    ∀ l, o = .ok l → ∃ C k, e = .returned (.tuple #[.slice C l.length k, .int .i64 0]) ∧ Sl9 w' C l)
def PBc (w : World) : Prop := ∀ (q : ByteArray) (v : World), Below w.heap.size w v → q.size ≤ 1000000 → Calls Tryz.prog 8 #[.string q] v (BindsOut (bindsP q.data.toList) v)
def PAc (w : World) : Prop := ∀ (s space : ByteArray) (B : Option Addr) (binds : List Pr) (c : Nat) (v : World), Below w.heap.size w v → Sl2 v B binds → s.size ≤ 1000000 → space.size ≤ 1000000 → binds.length ≤ 100000 → (∀ b ∈ binds, b.1.size ≤ 1000000 ∧ b.2.size ≤ 1000000) →
  Calls Tryz.prog 15 #[.string s, .string space, .slice B binds.length c] v (StepsOut (parseS s.data.toList space binds) v)
def PRc (w : World) : Prop := ∀ (space : ByteArray) (A : Option Addr) (l : List StV) (c : Nat) (v : World), Below w.heap.size w v → Sl9 v A l → space.size ≤ 1000000 → l.length ≤ 1000000 →
  (∀ x ∈ l, x.name.1.size ≤ 60000 ∧ x.name.2.size ≤ 60000 ∧ x.attr.1.size ≤ 60000 ∧ x.attr.2.size ≤ 60000 ∧ x.val.size ≤ 60000) →
  Calls Tryz.prog 12 #[.string space, .slice A l.length c] v fun e w' => e = .returned (PrintV (printS space l)) ∧ Below v.heap.size v w'
set_option maxRecDepth 100000 in
set_option maxHeartbeats 8000000 in
theorem awake10 (w : World) (hB : PBc w) (hP : PAc w) (hR : PRc w) : Calls Tryz.prog 7 #[] w fun e w' => e = .returned (.bool true) ∧ Below w.heap.size w w' := by
  have h1 := fun (v : World) (hb : Below w.heap.size w v) => hP (⟨#[97, 47, 98, 91, 50, 93, 47, 64, 99]⟩ : ByteArray) sUrnD none [] 0 v hb (Sl2.nil _ _) (by decide) (by decide) (by decide) (fun b h => by simp at h)
  have h2 := fun (v : World) (hb : Below w.heap.size w v) => hB (⟨#[120, 109, 108, 110, 115, 40, 112, 61, 117, 114, 110, 58, 120, 41]⟩ : ByteArray) v hb (by decide)
  have h3 := fun (v : World) (hb : Below w.heap.size w v) => hP (⟨#[98, 91, 64, 112, 58, 120, 61, 49, 93]⟩ : ByteArray) sE none [] 0 v hb (Sl2.nil _ _) (by decide) (by decide) (by decide) (fun b h => by simp at h)
  have h4 := fun (v : World) (A : Option Addr) (c : Nat) (hb : Below w.heap.size w v) (hA : Sl9 v A [aw4]) => hR sUrnD A [aw4] c v hb hA (by decide) (by decide) (fun x h => by rw [List.mem_singleton.1 h]; decide)
  rw [show (⟨#[97, 47, 98, 91, 50, 93, 47, 64, 99]⟩ : ByteArray).data.toList = [97, 47, 98, 91, 50, 93, 47, 64, 99] from rfl, aw_p1] at h1
  rw [show (⟨#[120, 109, 108, 110, 115, 40, 112, 61, 117, 114, 110, 58, 120, 41]⟩ : ByteArray).data.toList = [120, 109, 108, 110, 115, 40, 112, 61, 117, 114, 110, 58, 120, 41] from rfl, aw_b] at h2
  rw [show (⟨#[98, 91, 64, 112, 58, 120, 61, 49, 93]⟩ : ByteArray).data.toList = [98, 91, 64, 112, 58, 120, 61, 49, 93] from rfl, aw_p2] at h3
  rw [aw_r] at h4
  have H2 := Lib.hid h2
  have H3 := Lib.hid h3
  have H4 := Lib.hid h4
  clear h2 h3 h4 hB hP hR
  go_enter Tryz.func7, Tryz.ntmps7
  go_wp2_with fail
  refine (h1 _ (Below.refl _ _)).mono ?_
  rintro e w1 ⟨hb1, -, he⟩
  obtain ⟨C1, k1, rfl, hC1⟩ := he _ rfl
  have HB1 := Lib.hid hb1
  have HC1 := Lib.hid hC1
  clear hb1 he hC1 h1
  go_wp2_with fail
  refine (H2.out _ HB1.out).mono ?_
  rintro e w2 ⟨C2, k2, rfl, hC2, hb2⟩
  have HB2 := Lib.hid (HB1.out.trans (hb2.mono HB1.out.size))
  have HC12 := Lib.hid (HC1.out.below hb2)
  have HC2 := Lib.hid hC2
  clear hb2 hC2 H2 HC1
  go_wp2_with fail
  refine (H3.out _ HB2.out).mono ?_
  rintro e w3 ⟨hb3, he, -⟩
  obtain rfl := he _ rfl
  have HB3 := Lib.hid (HB2.out.trans (hb3.mono HB2.out.size))
  have HC13 := Lib.hid (HC12.out.below hb3)
  have HC23 := Lib.hid (HC2.out.below hb3)
  clear hb3 he H3 HC12 HC2
  go_wp2_with fail
  (try rw [show sUrnD = (⟨#[117, 114, 110, 58, 100]⟩ : ByteArray) from rfl])
  have hc4 : ∀ v : World, Sl9 (v.alloc (.cells (cells9L [aw4]).toArray 47)) (some ⟨v.heap.size, 0, none⟩) [aw4] := fun v => Sl.lit v 9 (cells9L [aw4]) 47 1 rfl
  have hb4 := HB3.out.alloc HB3.out.size (.cells (cells9L [aw4]).toArray 47)
  refine (H4.out _ _ _ hb4 (hc4 _)).mono ?_
  rintro e w4 ⟨rfl, hb5⟩
  have HB4 := Lib.hid (hb4.trans (hb5.mono hb4.size))
  have hx := (Below.refl w3.heap.size w3).alloc (Nat.le_refl _) (.cells (cells9L [aw4]).toArray 47)
  have HX := hx.trans (hb5.mono hx.size)
  have A1 := HC13.out.below HX
  have A2 := HC23.out.below HX
  obtain ⟨ad, rfl, -, c00, c0j⟩ := A1.at_ (k := 0) (x := ⟨1, false, (sUrnD, ⟨#[97]⟩), 0, false, nE, sE⟩) rfl
  obtain ⟨ad', e', -, c10, c1j⟩ := A1.at_ (k := 1) (x := ⟨1, false, (sUrnD, ⟨#[98]⟩), 2, false, nE, sE⟩) rfl
  injection e' with e'
  subst e'
  obtain ⟨ad', e', -, c20, c2j⟩ := A1.at_ (k := 2) (x := ⟨2, false, (sE, ⟨#[99]⟩), 0, false, nE, sE⟩) rfl
  injection e' with e'
  subst e'
  obtain ⟨bd, rfl, -, d0, d1⟩ := A2.at_ (k := 0) (x := (⟨#[112]⟩, sUrnX)) rfl
  have f2 : w4.cell? ⟨ad.block, ad.off + 2, none⟩ = some (.string sUrnD) := c0j 2 _ (by omega) rfl
  have f3 : w4.cell? ⟨ad.block, ad.off + 2 + 1, none⟩ = some (.string ⟨#[97]⟩) := c0j 3 _ (by omega) rfl
  have g4 : w4.cell? ⟨ad.block, ad.off + 9 + 4, none⟩ = some (.int .i64 2) := c1j 4 _ (by omega) rfl
  have k1c : w4.cell? ⟨ad.block, ad.off + 18, none⟩ = some (.int .i64 2) := c20
  have k2 : w4.cell? ⟨ad.block, ad.off + 18 + 2, none⟩ = some (.string sE) := c2j 2 _ (by omega) rfl
  have k3 : w4.cell? ⟨ad.block, ad.off + 18 + 2 + 1, none⟩ = some (.string ⟨#[99]⟩) := c2j 3 _ (by omega) rfl
  have d2 : w4.cell? ⟨bd.block, bd.off + 1, none⟩ = some (.string sUrnX) := d1
  have hl : aw1.length = 3 := rfl
  rw [hl]
  rw [show PrintV (.ok ([110, 49, 37, 51, 65, 97], [120, 109, 108, 110, 115, 37, 50, 56, 110, 49, 37, 51, 68, 117, 114, 110, 37, 51, 65, 120, 37, 50, 57])) = .tuple #[.string ⟨#[110, 49, 37, 51, 65, 97]⟩, .string ⟨#[120, 109, 108, 110, 115, 37, 50, 56, 110, 49, 37, 51, 68, 117, 114, 110, 37, 51, 65, 120, 37, 50, 57]⟩, .int .i64 0] from rfl]
  simp only [show sUrnD = (⟨#[117, 114, 110, 58, 100]⟩ : ByteArray) from rfl, show sUrnX = (⟨#[117, 114, 110, 58, 120]⟩ : ByteArray) from rfl, show sE = (⟨#[]⟩ : ByteArray) from rfl] at f2 f3 g4 k2 k3 d2
  clear c00 c10 c20 d0 d1 c0j c1j c2j A1 A2 HX hx hb4 hb5 hc4 H4 HC13 HC23 hl
  go_wp2
  go_ret
  exact ⟨rfl, HB4.out⟩
end Go.Proofs.YtbeglliabpflpaaGreatDoor
namespace Wb
theorem bindsP_len {q : List UInt8} : (bindsP q).1.length ≤ 16 := by
  obtain ⟨l, e, h⟩ : ∃ l e, bindsP q = (l, e) := ⟨_, _, rfl⟩
  rw [h]
  show l.length ≤ 16
  by_cases h0 : e = 0
  · subst h0
    exact (bindsP_ok h).choose_spec.2.2
  · have := bindsP_bad q (by rw [h]; exact h0)
    rw [h] at this
    simp only at this
    rw [this]
    decide
end Wb
namespace Go.Proofs.YtbeglliabpflpaaGreatDoor
open Go.RowKit Wb
set_option maxRecDepth 100000 in
set_option maxHeartbeats 4000000 in
theorem selbinds_walk (q : ByteArray) (w : World) (hB : PBc w) (hP : PAc w) (hR : PRc w) :
    Calls Tryz.prog 3 #[.string q] w fun e w' => e = .returned (.bool true) ∧ Below w.heap.size w w' := by
  have ha := awake10 w hB hP hR
  by_cases h0 : 5000 < q.size
  · clear hB hP hR
    go_enter Tryz.func3, Tryz.ntmps3
    go_wp2_with fail
    refine ha.mono ?_
    rintro e w1 ⟨rfl, hb1⟩
    clear ha
    go_wp2
    go_ret
    exact ⟨rfl, hb1⟩
  · have h2 := fun (v : World) (hb : Below w.heap.size w v) => hB q v hb (by omega)
    have h3 := fun (v : World) => rbinds_any q v (by omega)
    have hl := bindsP_len (q := q.data.toList)
    obtain ⟨m, k, hm⟩ : ∃ m k, bindsP q.data.toList = (m, k) := ⟨_, _, rfl⟩
    rw [hm] at h2 h3 hl
    have H2 := Lib.hid h2
    have H3 := Lib.hid h3
    clear h2 h3 hB hP hR hm
    go_enter Tryz.func3, Tryz.ntmps3
    go_wp2_with fail
    refine ha.mono ?_
    rintro e w1 ⟨rfl, hb1⟩
    have HB1 := Lib.hid hb1
    clear ha hb1
    go_wp2_with fail
    refine (H2.out _ HB1.out).mono ?_
    rintro e w2 ⟨C2, k2, rfl, hC2, hb2⟩
    have HB2 := Lib.hid (HB1.out.trans (hb2.mono HB1.out.size))
    have HC2 := Lib.hid hC2
    clear hb2 hC2 H2
    go_wp2_with fail
    refine (H3.out _).mono ?_
    rintro e w3 ⟨C3, k3, rfl, hC3, hb3⟩
    have HB3 := Lib.hid (HB2.out.trans (hb3.mono HB2.out.size))
    have HC23 := Lib.hid (HC2.out.below hb3)
    have HC3 := Lib.hid hC3
    clear hb3 hC3 H3 HC2
    go_wp2_with fail
    refine (binds_same _ _ m _ _ _ (by omega) HC23.out HC3.out).mono ?_
    rintro e w4 ⟨rfl, hb4⟩
    go_wp2
    go_ret
    exact ⟨rfl, HB3.out.trans (hb4.mono HB3.out.size)⟩
end Go.Proofs.YtbeglliabpflpaaGreatDoor
namespace Go.Proofs.YtbeglliabpflpaaGreatDoor
open Go.RowKit Wb
theorem step9_info : (Tryz.prog.info? 47).map (fun i => (i.zero, i.size, i.bytes)) = some (some (.agg #[.int .i64 0, .bool false, .string ⟨#[]⟩, .string ⟨#[]⟩, .int .i64 0, .bool false, .string ⟨#[]⟩, .string ⟨#[]⟩, .string ⟨#[]⟩]), 9, 112) := by kernel_rfl
set_option maxRecDepth 100000 in
set_option maxHeartbeats 4000000 in
theorem selprints_walk (space : ByteArray) (A : Option Addr) (l : List StV) (c : Nat) (w : World) (hA : Sl9 w A l) (hB : PBc w) (hP : PAc w) (hR : PRc w) :
    Calls Tryz.prog 4 #[.string space, .slice A l.length c] w fun e w' => e = .returned (.bool true) ∧ Below w.heap.size w w' := by
  have ha := awake10 w hB hP hR
  have HR := Lib.hid hR
  have HA := Lib.hid hA
  clear hA hB hP hR
  by_cases h0 : (2000 : Int) < space.size
  · clear HR HA
    go_enter Tryz.func4, Tryz.ntmps4
    go_wp2_with fail
    refine ha.mono ?_
    rintro e w1 ⟨rfl, hb1⟩
    clear ha
    go_wp2
    go_ret
    exact ⟨rfl, hb1⟩
  go_enter Tryz.func4, Tryz.ntmps4
  go_wp2_with fail
  refine ha.mono ?_
  rintro e w1 ⟨rfl, hb1⟩
  have HB1 := Lib.hid hb1
  have hfew := few10_any A l c w1 (HA.out.below hb1)
  clear ha hb1
  go_wp2_with fail
  refine hfew.mono ?_
  rintro e w2 ⟨hb, b, rfl, hfb⟩
  have HB2 := Lib.hid (HB1.out.trans (hb.mono HB1.out.size))
  clear hb hfew
  cases b
  · clear hfb
    go_wp2
    go_ret
    exact ⟨rfl, HB2.out⟩
  have hfe := hfb rfl
  clear hfb
  have hl5 : l.length < 5000 := by omega
  have hsp : space.size ≤ 1000000 := by omega
  have HSZ := Lib.hid (fun (x : StV) (hx : x ∈ l) => (show x.name.1.size ≤ 50000 ∧ x.name.2.size ≤ 50000 ∧ x.attr.1.size ≤ 50000 ∧ x.attr.2.size ≤ 50000 ∧ x.val.size ≤ 50000 from by have := tot10_mem hx; unfold siz9 at this; omega))
  clear hfe
  obtain ⟨i0, hi, hz0, hz1, hz2⟩ := info_parts step9_info
  have HOWN := Lib.hid (World.ownsRow_made (base := w2.heap.size) (e := 47) (size := 9) w2 #[] 0 (Nat.le_refl _) (Nat.zero_le _) (by simp))
  have HA2 := Lib.hid (HA.out.below HB2.out)
  have HSL := Lib.hid (Sl.alloc HA2.out (.cells #[] 47))
  have HBA := Lib.hid ((Below.refl w2.heap.size w2).alloc (Nat.le_refl _) (.cells #[] 47))
  have hm1 : 0 + l.length ≤ maxLen := by unfold maxLen; omega
  have hm2 : (0 + l.length) * 112 ≤ 140737488355328 := by omega
  have hs : w2.heap.size ≤ (w2.alloc (.cells #[] 47)).heap.size := by simp
  go_wp2_with (at_builtin; refine wpList_append_sl _ rfl (.tmp 23) (.tmp 24) _ rfl w2.heap.size 47 i0 _ 9 112 Tryz.underlying31 hi hz0 hz1 hz2 rfl (by omega) _ 0 [] rfl HOWN.out A l.length c (cells9L l) rfl HSL.out (cells9L_one l) hm1 hm2 hs ?_)
  intro v5 w5 hown5 hg5 hat5
  have HB5 := Lib.hid (HBA.out.grown hg5 hs (fun k hk => by simp [Value.ownBlock] at hk; omega))
  have hown5 : w5.ownsRow w2.heap.size 47 9 v5 l.length (cells9L l) := by simpa using hown5
  obtain ⟨B, d, rfl⟩ := own_shape hown5
  have hSB : Sl9 w5 B l := Sl.of_own hown5
  have HW5 := Lib.hid (HB2.out.trans (HB5.out.mono HB2.out.size))
  have k1 := HR.out space B l d w5 HW5.out hSB hsp (by omega) (fun x hx => by have := HSZ.out x hx; omega)
  have HA5 := Lib.hid (HA.out.below HW5.out)
  clear hown5 hg5 hat5 HOWN HSL HBA hs hm1 hm2 hSB HB5 HA2
  unfold PrintV at k1
  have k2 := fun (v : World) (hA : Sl9 v A l) => rsprint_any space A l c v hA (by omega) HSZ.out
  unfold PrintV at k2
  obtain ⟨x, y, z, hxyz⟩ : ∃ x y z, prV (printS space l) = (x, y, z) := ⟨_, _, _, rfl⟩
  rw [hxyz] at k1 k2
  have K2 := Lib.hid k2
  simp only at k1
  clear k2 hxyz
  generalize hty : mkT y = ty at *
  generalize htz : mkT z = tz at *
  have q1 := beq_self_eq_true ty.toList
  have q2 := beq_self_eq_true tz.toList
  have q3 := beq_self_eq_true x
  clear hty htz
  go_wp2_with fail
  refine k1.mono ?_
  rintro e w6 ⟨rfl, hb⟩
  have HW6 := Lib.hid (HW5.out.trans (hb.mono HW5.out.size))
  have HA6 := Lib.hid (HA5.out.below hb)
  clear hb k1
  go_wp2_with fail
  refine (K2.out _ HA6.out).mono ?_
  rintro e w7 ⟨rfl, hb⟩
  have HW7 := Lib.hid (HW6.out.trans (hb.mono HW6.out.size))
  clear hb K2
  go_wp2
  go_ret
  refine ⟨?_, HW7.out⟩
  first
  | rfl
  | simp
end Go.Proofs.YtbeglliabpflpaaGreatDoor
