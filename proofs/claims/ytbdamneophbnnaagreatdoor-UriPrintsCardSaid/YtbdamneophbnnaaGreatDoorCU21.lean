/- SbG UcD UaB. -/
import Derived.Test.YtbdamneophbnnaaGreatDoorCU5
import Derived.Test.YtbdamneophbnnaaGreatDoorCU11
import Derived.Test.YtbdamneophbnnaaGreatDoorCU18
import Derived.Test.YtbdamneophbnnaaGreatDoorCU19
import Derived.Test.YtbdamneophbnnaaGreatDoorCU20
namespace Go.Proofs.YtbdamneophbnnaaGreatDoor
open Go.RowKit Wb
def PrintV (o : Except Int (List UInt8 × List UInt8)) : Value := .tuple #[.string (mkT (prV o).2.1), .string (mkT (prV o).2.2), .int .i64 (prV o).1]
set_option maxRecDepth 100000 in
set_option maxHeartbeats 8000000 in
theorem rsprint_any (space : ByteArray) (A : Option Addr) (l : List StV) (c : Nat) (w : World) (hA : Sl9 w A l) (hl : l.length ≤ 1000000)
    (hsm : ∀ x ∈ l, x.name.1.size ≤ 50000 ∧ x.name.2.size ≤ 50000 ∧ x.attr.1.size ≤ 50000 ∧ x.attr.2.size ≤ 50000 ∧ x.val.size ≤ 50000) :
    Calls Tryz.prog 32 #[.string space, .slice A l.length c] w fun e w' => e = .returned (PrintV (printS space l)) ∧ Below w.heap.size w w' := by
  have hsh := rshape_any A l c w hA hl
  have HA := Lib.hid hA
  obtain ⟨R, hR⟩ : ∃ R, PrintV (printS space l) = R := ⟨_, rfl⟩
  have HR := Lib.hid hR
  rw [hR]
  clear hR hA
  cases hs : shapeS l with
  | false =>
    have hfin : R = .tuple #[.string ⟨#[]⟩, .string ⟨#[]⟩, .int .i64 33] := by rw [← HR.out, printS_no hs]; rfl
    rw [hs] at hsh
    have HF := Lib.hid hfin
    clear hfin hs HR
    go_enter Tryz.func32, Tryz.ntmps32
    go_wp2_with fail
    refine hsh.mono ?_
    rintro e w1 ⟨rfl, hb1⟩
    clear hsh
    go_wp2
    go_ret3
    exact ⟨by rw [HF.out]; rfl, hb1⟩
  | true =>
    rw [hs] at hsh
    have hl16 := (shapeS_len hs).2
    have HSM : Hid (∀ x ∈ l, StSm x) := Lib.hid fun x hx => by
      obtain ⟨a1, a2, a3, a4, a5⟩ := hsm x hx
      exact ⟨a1, a2, a3, a4, a5, shapeS_pos hs x hx⟩
    have HS := Lib.hid hs
    clear hsm hs hl
    go_enter Tryz.func32, Tryz.ntmps32
    go_wp2_with fail
    refine hsh.mono ?_
    rintro e w1 ⟨rfl, hb1⟩
    have HB1 := Lib.hid hb1
    clear hsh hb1
    go_wp2
    go_loopw [7, 8, 10, 11, 12, 13] (fun v7 v8 v10 _ _ _ wr => ∃ (i : Nat) (C : Option Addr) (k : Nat) (sp : List ByteArray) (S : ByteArray), i ≤ l.length ∧ v10 = .int .i64 i ∧ v7 = .slice C sp.length k ∧ v8 = .string S ∧ S.size ≤ i * 3000001 ∧ Hid (∃ ts : List (List UInt8), ts.length = i ∧ S = mkT (joinB 47 (ts.map (pctE []))) ∧ stpsT space l [] = contT ts (stpsT space (l.drop i) sp)) ∧ Hid (SpSm sp) ∧ Hid (Sl1 wr C sp) ∧ Hid (Below w.heap.size w wr)) (fun _ _ v10 _ _ _ _ => l.length - (intOf v10).toNat)
    case atStart => exact ⟨0, none, 0, [], ⟨#[]⟩, by omega, rfl, rfl, rfl, by decide, Lib.hid ⟨[], rfl, rfl, by rw [contT_nil, List.drop_zero]⟩, Lib.hid SpSm.nil, Lib.hid (Sl.nil _ 1 _), HB1⟩
    case round =>
      obtain ⟨i, C, k, sp, S, hi, rfl, rfl, rfl, hSz, HT, HP, HC, HB⟩ := hrel
      by_cases h0 : i < l.length
      · obtain ⟨x, hx⟩ : ∃ x, l[i]? = some x := ⟨l[i], List.getElem?_eq_getElem h0⟩
        have hdr : l.drop i = x :: l.drop (i + 1) := by
          rw [List.drop_eq_getElem_cons h0]
          rw [List.getElem?_eq_getElem h0] at hx
          injection hx with hx
          rw [hx]
        have hxs := HSM.out x (List.mem_of_getElem? hx)
        obtain ⟨ad, rfl, had, c0, cj⟩ := (HA.out.below HB.out).at_ hx
        have c1 := cj 1 _ (by omega) rfl
        have c2 := cj 2 _ (by omega) rfl
        have c3 := cj 3 _ (by omega) rfl
        have c4 := cj 4 _ (by omega) rfl
        have c5 := cj 5 _ (by omega) rfl
        have c6 := cj 6 _ (by omega) rfl
        have c7 := cj 7 _ (by omega) rfl
        have c8 := cj 8 _ (by omega) rfl
        clear cj
        obtain ⟨kind, any, ⟨n1, n2⟩, pos, by_, ⟨a1, a2⟩, val⟩ := x
        simp only at c0 c1 c2 c3 c4 c5 c6 c7 c8
        obtain ⟨z1, z2, z3, z4, z5, z6⟩ := hxs
        simp only at z1 z2 z3 z4 z5 z6
        have hstep := rstep_any kind any n1 n2 pos by_ a1 a2 val space C sp k wr HC.out HP.out.1 (by omega) (by omega) (by omega) (by omega) (by omega) z6
        have hsz : ∀ t l', stpT ⟨kind, any, (n1, n2), pos, by_, (a1, a2), val⟩ space sp = .ok (t, l') → t.length ≤ 1000000 ∧ SpSm l' := fun t l' h => stp_sm h HP.out ⟨z1, z2, z3, z4, z5, z6⟩
        clear z1 z2 z3 z4 z5 z6
        obtain ⟨o, ho⟩ : ∃ o, stpT ⟨kind, any, (n1, n2), pos, by_, (a1, a2), val⟩ space sp = o := ⟨_, rfl⟩
        rw [ho] at hstep hsz
        have HTT : Hid (∃ ts : List (List UInt8), ts.length = i ∧ S = mkT (joinB 47 (ts.map (pctE []))) ∧ stpsT space l [] = contT ts (stpsT space (⟨kind, any, (n1, n2), pos, by_, (a1, a2), val⟩ :: l.drop (i + 1)) sp)) := Lib.hid (by rw [← hdr]; exact HT.out)
        have HO := Lib.hid ho
        clear ho HT hdr hx
        cases o with
        | error kk =>
          have hk : kk ≠ 0 := stp_err HO.out
          have hfin : R = .tuple #[.string ⟨#[]⟩, .string ⟨#[]⟩, .int .i64 kk] := by
            obtain ⟨ts, _, _, e⟩ := HTT.out
            rw [contT_bad ts HO.out] at e
            rw [← HR.out, printS_bad HS.out e]
            rfl
          have HF := Lib.hid hfin
          clear hfin hsz HTT HO
          go_wp2_with fail
          refine hstep.mono ?_
          rintro e w2 ⟨hb2, he, -⟩
          obtain ⟨u1, u2, rfl⟩ := he kk rfl
          have HB2 := Lib.hid (HB.out.trans (hb2.mono HB.out.size))
          clear hb2 he hstep
          have hk2 : (kk == 0) = false := by simpa using hk
          go_wp2
          go_ret3
          exact ⟨by rw [HF.out]; rfl, HB2.out⟩
        | ok p =>
          obtain ⟨t, sp'⟩ := p
          obtain ⟨ht, hsp'⟩ := hsz t sp' rfl
          have HP' := Lib.hid hsp'
          clear hsz hsp'
          have henc : ∀ v, Calls Tryz.prog 31 #[.string (mkT t), .string ⟨#[]⟩] v fun e w' => e = .returned (.string (mkT (pctE [] t))) ∧ Below v.heap.size v w' := fun v => by
            have h := rencode_any (mkT t) ⟨#[]⟩ v (by rw [mkT_size]; exact ht) (by decide)
            rw [mkT_list] at h
            exact h
          have hez : (mkT (pctE [] t)).size ≤ 3000000 := by
            have := pctE_len [] t
            rw [mkT_size]
            omega
          have HNEW : Hid (∃ ts : List (List UInt8), ts.length = i + 1 ∧ S ++ (if i = 0 then ⟨#[]⟩ else ⟨#[47]⟩) ++ mkT (pctE [] t) = mkT (joinB 47 (ts.map (pctE []))) ∧ stpsT space l [] = contT ts (stpsT space (l.drop (i + 1)) sp')) := Lib.hid (by
            obtain ⟨ts, e1, e2, e3⟩ := HTT.out
            refine ⟨ts ++ [t], by simp [e1], ?_, by rw [e3, contT_good ts HO.out]⟩
            rw [e2, List.map_append, List.map_cons, List.map_nil, join_snoc, List.length_map, e1]
            split
            · rw [show (⟨#[]⟩ : ByteArray) = mkT [] from rfl, mkT_app, mkT_app]
              simp
            · rw [show (⟨#[47]⟩ : ByteArray) = mkT [47] from rfl, mkT_app, mkT_app]
              simp)
          have HEN := Lib.hid henc
          have HEZ := Lib.hid hez
          clear HTT HO henc ht
          generalize mkT (pctE [] t) = E at *
          by_cases hi0 : i = 0
          · have hi0b : decide (0 < i) = false := by simpa using hi0
            have hi0c : ¬ (0 : Int) < (i : Int) := by omega
            have HNEW2 : Hid (∃ ts : List (List UInt8), ts.length = i + 1 ∧ S ++ E = mkT (joinB 47 (ts.map (pctE []))) ∧ stpsT space l [] = contT ts (stpsT space (l.drop (i + 1)) sp')) := Lib.hid (by
              have := HNEW.out
              rw [if_pos hi0, show S ++ (⟨#[]⟩ : ByteArray) = S from ByteArray.append_empty] at this
              exact this)
            clear HNEW hi0
            have g1 : ¬ 9223372036854775807 < S.size + E.size := by omega
            go_wp2_with fail
            refine hstep.mono ?_
            rintro e w2 ⟨hb2, -, he⟩
            obtain ⟨C', k', rfl, hC'⟩ := he t sp' rfl
            have HB2 := Lib.hid (HB.out.trans (hb2.mono HB.out.size))
            have HC' := Lib.hid hC'
            clear hb2 he hstep hC'
            go_wp2_with fail
            refine (HEN.out _).mono ?_
            rintro e w3 ⟨rfl, hb3⟩
            have HB3 := Lib.hid (HB2.out.trans (hb3.mono HB2.out.size))
            have HC3 := Lib.hid (HC'.out.below hb3)
            clear hb3
            go_wp2
            go_roundw
            case rel => exact ⟨i + 1, C', k', sp', S ++ E, by omega, by go_num, rfl, rfl, by rw [ByteArray.size_append]; omega, HNEW2, HP', HC3, HB3⟩
            case measure => simp [intOf]; omega
          · have HNEW2 : Hid (∃ ts : List (List UInt8), ts.length = i + 1 ∧ S ++ ⟨#[47]⟩ ++ E = mkT (joinB 47 (ts.map (pctE []))) ∧ stpsT space l [] = contT ts (stpsT space (l.drop (i + 1)) sp')) := Lib.hid (by
              have := HNEW.out
              rw [if_neg hi0] at this
              exact this)
            clear HNEW
            have hi1 : (0 : Int) < (i : Int) := by omega
            have g0 : ¬ 9223372036854775807 < S.size + 1 := by omega
            have g1 : ¬ 9223372036854775807 < S.size + 1 + E.size := by omega
            go_wp2_with fail
            refine hstep.mono ?_
            rintro e w2 ⟨hb2, -, he⟩
            obtain ⟨C', k', rfl, hC'⟩ := he t sp' rfl
            have HB2 := Lib.hid (HB.out.trans (hb2.mono HB.out.size))
            have HC' := Lib.hid hC'
            clear hb2 he hstep hC'
            go_wp2_with fail
            refine (HEN.out _).mono ?_
            rintro e w3 ⟨rfl, hb3⟩
            have HB3 := Lib.hid (HB2.out.trans (hb3.mono HB2.out.size))
            have HC3 := Lib.hid (HC'.out.below hb3)
            clear hb3
            go_wp2
            go_roundw
            case rel => exact ⟨i + 1, C', k', sp', S ++ ⟨#[47]⟩ ++ E, by omega, by go_num, rfl, rfl, by rw [ByteArray.size_append, ByteArray.size_append]; have : (⟨#[47]⟩ : ByteArray).size = 1 := rfl; omega, HNEW2, HP', HC3, HB3⟩
            case measure => simp [intOf]; omega
      · have hend : i = l.length := by omega
        obtain ⟨ts, _, hS, hT⟩ := HT.out
        rw [hend, List.drop_length, contT_end] at hT
        have hfin : R = .tuple #[.string S, .string (mkT (pctE [] (queryT 0 sp))), .int .i64 0] := by
          rw [← HR.out, printS_ok HS.out hT, hS]
          rfl
        have HF := Lib.hid hfin
        clear hfin hS hT HT hend HR
        have hp16 := HP.out.1
        have hql : (queryT 0 sp).length ≤ 1000000 := by
          have := query_len sp 0 (by omega) HP.out.2
          omega
        have HEN : Hid (∀ v, Calls Tryz.prog 31 #[.string (mkT (queryT 0 sp)), .string ⟨#[]⟩] v fun e w' => e = .returned (.string (mkT (pctE [] (queryT 0 sp)))) ∧ Below v.heap.size v w') := Lib.hid fun v => by
          have h := rencode_any (mkT (queryT 0 sp)) ⟨#[]⟩ v (by rw [mkT_size]; exact hql) (by decide)
          rw [mkT_list] at h
          exact h
        clear hql
        go_wp2
        go_loopw [9, 14] (fun v9 v14 wr => ∃ (j : Nat) (Q : ByteArray), j ≤ sp.length ∧ v14 = .int .i64 j ∧ v9 = .string Q ∧ Hid (Q = mkT (queryT 0 (sp.take j))) ∧ Hid (Sl1 wr C sp) ∧ Hid (Below w.heap.size w wr)) (fun _ v14 _ => sp.length - (intOf v14).toNat)
        case atStart => exact ⟨0, ⟨#[]⟩, by omega, rfl, rfl, Lib.hid rfl, HC, HB⟩
        case round =>
          obtain ⟨j, Q, hj, rfl, rfl, HQ, HC2, HB2⟩ := hrel
          by_cases h1 : j < sp.length
          · obtain ⟨s, hs⟩ : ∃ s, sp[j]? = some s := ⟨sp[j], List.getElem?_eq_getElem h1⟩
            have hsz := HP.out.2 s (List.mem_of_getElem? hs)
            obtain ⟨sa, rfl, hsa, cs⟩ := HC2.out.at_ hs
            have hqz : Q.size ≤ 1000000 := by
              have := query_len (sp.take j) 0 (by rw [List.length_take]; omega) fun x hx => HP.out.2 x (List.mem_of_mem_take hx)
              rw [List.length_take] at this
              rw [HQ.out, mkT_size]
              omega
            have hdz : (mkT (dgN (j + 1))).size ≤ 2 := by rw [mkT_size]; exact dgN_le _ 2 (by omega)
            have hdg : ∀ v, Calls Tryz.prog 56 #[.int .i64 ((j : Int) + 1)] v fun e w' => e = .returned (.string (mkT (dgN (j + 1)))) ∧ Below v.heap.size v w' := fun v => sdigits_any (j + 1) v (by omega) (by omega)
            have HNEW : Hid (((((Q ++ ⟨#[120, 109, 108, 110, 115, 40, 110]⟩) ++ mkT (dgN (j + 1))) ++ ⟨#[61]⟩) ++ s) ++ ⟨#[41]⟩ = mkT (queryT 0 (sp.take (j + 1)))) := Lib.hid (by
              have es : s = mkT s.data.toList := (to_list s).symm
              rw [query_more sp 0 j s hs, HQ.out, Nat.zero_add, num_dgN (by omega)]
              conv => lhs; arg 1; arg 2; rw [es]
              rw [show (⟨#[120, 109, 108, 110, 115, 40, 110]⟩ : ByteArray) = mkT [120, 109, 108, 110, 115, 40, 110] from rfl, show (⟨#[61]⟩ : ByteArray) = mkT [61] from rfl, show (⟨#[41]⟩ : ByteArray) = mkT [41] from rfl, mkT_app, mkT_app, mkT_app, mkT_app, mkT_app]
              simp [sBindK])
            have HDG := Lib.hid hdg
            clear hdg HQ
            have hj0 : (0 : Int) ≤ (j : Int) := by omega
            have hj1 : (j : Int) < (sp.length : Int) := by omega
            have hwr : IntKind.i64.wrap ((j : Int) + 1) = (j : Int) + 1 := by rw [IntKind.wrap_i64]; omega
            generalize mkT (dgN (j + 1)) = D at *
            have g1 : ¬ 9223372036854775807 < Q.size + 7 := by omega
            have g2 : ¬ 9223372036854775807 < Q.size + 7 + D.size := by omega
            have g3 : ¬ 9223372036854775807 < Q.size + 7 + D.size + 1 := by omega
            have g4 : ¬ 9223372036854775807 < Q.size + 7 + D.size + 1 + s.size := by omega
            have g5 : ¬ 9223372036854775807 < Q.size + 7 + D.size + 1 + s.size + 1 := by omega
            have HCP := Lib.hid (fun (v : World) (h : Below wr.heap.size wr v) => (show v.cell? (sa.add j) = some (.string s) from (h.cell (by rw [add_block]; exact hsa)).trans cs))
            have HSL := Lib.hid (fun (v : World) (h : Below wr.heap.size wr v) => HC2.out.below h)
            clear hs cs hsa hqz hsz hdz
            go_wp2_with fail
            (try simp only [List.append])
            refine wp_region_held_drew (S := (fun v => v.cell? (sa.add j) = some (.string s))) (by kernel_rfl) (HCP.out _ (Below.refl _ wr).drew) (fun hHeld => ?_)
            refine takeW 0 ?_
            refine takeW 1 ?_
            refine takeW 2 ?_
            refine takeW 3 ?_
            (try simp only [Act.put, List.setIfInBounds_toArray, List.set_cons_zero, List.set_cons_succ])
            refine takeW 7 ?_
            refine takeW 8 ?_
            refine takeW 9 ?_
            refine takeW 10 ?_
            (try simp only [Act.put, List.setIfInBounds_toArray, List.set_cons_zero, List.set_cons_succ])
            refine wpAnyH_ready (rs := [4]) (by kernel_rfl) (by simp) ?_
            refine AllReadyH.cons rfl (fun K2 hK2 => ?_) AllReadyH.nil
            go_simp
            (try rw [hwr])
            refine (HDG.out _).mono ?_
            rintro e w7 ⟨rfl, hb7⟩
            have HB7 : Hid (Below wr.heap.size wr w7) := Lib.hid (by have hd : Below wr.heap.size wr wr.drew := (Below.refl _ wr).drew; exact hd.trans (hb7.mono hd.size))
            clear hb7
            refine hK2.out _ _ (HCP.out _ HB7.out) (fun hHeld2 => ?_)
            (try simp only [Act.put, List.setIfInBounds_toArray, List.set_cons_zero, List.set_cons_succ])
            refine takeW 5 ?_
            refine takeW 6 ?_
            refine takeW 11 ?_
            refine takeW 12 ?_
            (try simp only [Act.put, List.setIfInBounds_toArray, List.set_cons_zero, List.set_cons_succ])
            refine takeW 13 ?_
            (try simp only [Act.put, List.setIfInBounds_toArray, List.set_cons_zero, List.set_cons_succ])
            refine wpAnyH_done (by kernel_rfl) ?_ _
            go_wp2_with fail
            go_roundw
            case rel => exact ⟨j + 1, _, by omega, by go_num, rfl, HNEW, Lib.hid (HSL.out _ HB7.out), Lib.hid (HB2.out.trans (HB7.out.mono HB2.out.size))⟩
            case measure => simp [intOf]; omega
          · have hend : j = sp.length := by omega
            have hQ : Q = mkT (queryT 0 sp) := by
              have := HQ.out
              rw [hend, List.take_length] at this
              exact this
            subst hQ
            clear hend HQ
            generalize mkT (queryT 0 sp) = Q at *
            go_wp2_with fail
            refine (HEN.out _).mono ?_
            rintro e w8 ⟨rfl, hb8⟩
            go_wp2
            go_ret3
            exact ⟨by rw [HF.out]; rfl, HB2.out.trans (hb8.mono HB2.out.size)⟩
end Go.Proofs.YtbdamneophbnnaaGreatDoor
namespace Go.Proofs.YtbdamneophbnnaaGreatDoor
open Go.RowKit Wb
def P11V (o : Except Int (List UInt8)) : Value :=
  match o with
  | .ok s => .tuple #[.string ⟨s.toArray⟩, .int .i64 0]
  | .error k => .tuple #[.string ⟨#[]⟩, .int .i64 k]
def P11Out (o : Except Int (List UInt8)) (w : World) (e : Ending) (w' : World) : Prop := e = .returned (P11V o) ∧ Below w.heap.size w w'
theorem P11Out.bad {o : Except Int (List UInt8)} {k : Int} {w w' : World} (h : o = .error k) (hb : Below w.heap.size w w') : P11Out o w (.returned (.tuple #[.string ⟨#[]⟩, .int .i64 k])) w' := by
  subst h
  exact ⟨rfl, hb⟩
set_option maxHeartbeats 8000000 in
set_option maxRecDepth 100000 in
theorem rprint11_bad (u us d r : ByteArray) (nd : Bool) (A C : Option Addr) (l : List StV) (m : List Pr) (ca cc : Nat) (w : World)
    (hu : u.size ≤ 1000000) (hus : us.size ≤ 1000000) (hd : d.size ≤ 1000000) (hbad : u.data.toList ∈ usg11 → bad11 us.data.toList d.data.toList = true) :
    Calls Tryz.prog 14 #[.agg #[.string u, .string us, .string d, .bool nd, .slice A l.length ca, .string r, .slice C m.length cc]] w (P11Out (prt11 ⟨u, us, d, nd, l, r, m⟩) w) := by
  obtain ⟨o, ho⟩ : ∃ o, prt11 ⟨u, us, d, nd, l, r, m⟩ = o := ⟨_, rfl⟩
  rw [ho]
  have hsp := fun v => rspace_any u v (by omega)
  by_cases h1 : u.data.toList ∈ usg11
  · have hne : spc11 u.data.toList ≠ [] := fun e => (spc_nil.1 e) h1
    obtain ⟨S, hS⟩ : ∃ S : ByteArray, ⟨(spc11 u.data.toList).toArray⟩ = S := ⟨_, rfl⟩
    rw [hS] at hsp
    have hSe : S.toList.isEmpty = false := by
      rw [← hS, ByteArray.toList_eq]
      simpa using hne
    have hSn : ¬ S = ⟨#[]⟩ := fun e => by
      rw [e] at hS
      apply hne
      have := congrArg (fun b : ByteArray => b.data.toList) hS
      simpa using this
    have HSP := Lib.hid hsp
    clear hsp hne
    have hck1 := Lib.hid (fun v => rcheck_any us v (by omega))
    have hck2 := Lib.hid (fun v => rcheck_any d v (by omega))
    have hb := hbad h1
    clear hbad
    have HE : Hid (o = .error 4) := Lib.hid (ho.symm.trans (prt_bad h1 hb))
    have hcs := (bad_iff us d).1 hb
    clear ho h1 hb hS
    by_cases q1 : us = ⟨#[126, 126]⟩
    · subst q1
      clear hcs
      go_enter Tryz.func14, Tryz.ntmps14
      go_wp2_with fail
      refine (HSP.out _).mono ?_
      rintro e w2 ⟨rfl, rfl⟩
      go_wp2
      go_ret2
      exact .bad HE.out ((Below.refl _ _).alloc (Nat.le_refl _) _)
    · have e1 : (us.toList == [126, 126]) = false := (lit_of us _ _ rfl).trans (eqT_false.2 q1)
      replace hcs := hcs.resolve_left q1
      by_cases q2 : d = ⟨#[126, 126]⟩
      · subst q2
        clear hcs
        go_enter Tryz.func14, Tryz.ntmps14
        go_wp2_with fail
        refine (HSP.out _).mono ?_
        rintro e w2 ⟨rfl, rfl⟩
        go_wp2
        go_ret2
        exact .bad HE.out ((Below.refl _ _).alloc (Nat.le_refl _) _)
      · have e2 : (d.toList == [126, 126]) = false := (lit_of d _ _ rfl).trans (eqT_false.2 q2)
        replace hcs := hcs.resolve_left q2
        by_cases q3 : 64 < us.size
        · have i3 : (64 : Int) < us.size := by omega
          clear hcs
          go_enter Tryz.func14, Tryz.ntmps14
          go_wp2_with fail
          refine (HSP.out _).mono ?_
          rintro e w2 ⟨rfl, rfl⟩
          go_wp2
          go_ret2
          exact .bad HE.out ((Below.refl _ _).alloc (Nat.le_refl _) _)
        · have i3 : ¬ (64 : Int) < us.size := by omega
          replace hcs := hcs.resolve_left q3
          by_cases q4 : d.size < 1
          · have i4 : (d.size : Int) < 1 := by omega
            clear hcs
            go_enter Tryz.func14, Tryz.ntmps14
            go_wp2_with fail
            refine (HSP.out _).mono ?_
            rintro e w2 ⟨rfl, rfl⟩
            go_wp2
            go_ret2
            exact .bad HE.out ((Below.refl _ _).alloc (Nat.le_refl _) _)
          · have i4 : ¬ (d.size : Int) < 1 := by omega
            replace hcs := hcs.resolve_left q4
            by_cases q5 : 64 < d.size
            · have i5 : (64 : Int) < d.size := by omega
              clear hcs
              go_enter Tryz.func14, Tryz.ntmps14
              go_wp2_with fail
              refine (HSP.out _).mono ?_
              rintro e w2 ⟨rfl, rfl⟩
              go_wp2
              go_ret2
              exact .bad HE.out ((Below.refl _ _).alloc (Nat.le_refl _) _)
            · have i5 : ¬ (64 : Int) < d.size := by omega
              replace hcs := hcs.resolve_left q5
              by_cases q6 : 0 ≤ chk us.data.toList
              · clear hcs
                go_enter Tryz.func14, Tryz.ntmps14
                go_wp2_with fail
                refine (HSP.out _).mono ?_
                rintro e w2 ⟨rfl, rfl⟩
                go_wp2_with fail
                refine (hck1.out _).mono ?_
                rintro e w3 ⟨rfl, hb⟩
                have HB := Lib.hid hb
                clear hb
                go_wp2
                go_ret2
                exact .bad HE.out (below_alloc_trans HB.out)
              · have i6 : ¬ (0 : Int) ≤ chk us.data.toList := q6
                replace hcs := hcs.resolve_left q6
                have i7 : (0 : Int) ≤ chk d.data.toList := hcs
                go_enter Tryz.func14, Tryz.ntmps14
                go_wp2_with fail
                refine (HSP.out _).mono ?_
                rintro e w2 ⟨rfl, rfl⟩
                go_wp2_with fail
                refine (hck1.out _).mono ?_
                rintro e w3 ⟨rfl, hb⟩
                have k2 : w3.cell? ⟨w.heap.size, 2, none⟩ = some (.string d) := blk_cell (kept_block hb) 2
                have HB := Lib.hid hb
                clear hb
                go_wp2_with fail
                refine (hck2.out _).mono ?_
                rintro e w4 ⟨rfl, hb⟩
                have HC := Lib.hid hb
                clear hb
                go_wp2
                go_ret2
                exact .bad HE.out (below_alloc_trans (HB.out.trans (HC.out.mono HB.out.size)))
  · have HE : Hid (o = .error 34) := Lib.hid (ho.symm.trans (prt_usage h1))
    have hnil : spc11 u.data.toList = [] := spc_nil.2 h1
    rw [hnil] at hsp
    clear ho h1 hnil hbad
    go_enter Tryz.func14, Tryz.ntmps14
    go_wp2_with fail
    refine (hsp _).mono ?_
    rintro e w2 ⟨rfl, rfl⟩
    go_wp2
    go_ret2
    exact .bad HE.out ((Below.refl _ _).alloc (Nat.le_refl _) _)
end Go.Proofs.YtbdamneophbnnaaGreatDoor
namespace Wb
open Go
theorem pctE_no {s : List UInt8} : ∀ c ∈ pctE [] s, c ≠ 47 ∧ c ≠ 63 := by
  intro c hc
  rcases pctE_mem [] s c hc with h | rfl | h
  · refine ⟨?_, ?_⟩ <;> (rintro rfl; revert h; decide)
  · exact ⟨by decide, by decide⟩
  · simp at h
theorem usg_no : ∀ u ∈ usg11, ∀ c ∈ u, c ≠ 47 ∧ c ≠ 63 := by decide
theorem usg_tt : ∀ u ∈ usg11, u ≠ tt11 ∧ u ≠ [] := by decide
theorem pctE_tt {s : List UInt8} (h : pctE [] s = tt11) : s = tt11 := by
  have hb := pct_back [] s
  rw [h] at hb
  have : pctD tt11 = some tt11 := by decide +kernel
  rw [this] at hb
  exact (Option.some.inj hb).symm
theorem pcs_free {u us d : List UInt8} (hu : u ∈ usg11) : (∀ y ∈ pcs11 u us d, ∀ c ∈ y, c ≠ 47 ∧ c ≠ 63) ∧ pcs11 u us d ≠ [] := by
  unfold pcs11
  split
  · refine ⟨fun y hy c hc => ?_, by simp⟩
    simp only [List.mem_cons, List.not_mem_nil, or_false] at hy
    rcases hy with rfl | rfl | rfl | rfl
    · simp at hc
    · exact usg_no _ hu c hc
    · revert c; decide
    · exact pctE_no c hc
  · refine ⟨fun y hy c hc => ?_, by simp⟩
    simp only [List.mem_cons, List.not_mem_nil, or_false] at hy
    rcases hy with rfl | rfl | rfl | rfl | rfl
    · simp at hc
    · exact usg_no _ hu c hc
    · revert c; decide
    · exact pctE_no c hc
    · exact pctE_no c hc
theorem join_no {L : List (List UInt8)} (h : ∀ y ∈ L, ∀ c ∈ y, c ≠ 47 ∧ c ≠ 63) : ∀ c ∈ joinB 47 L, c ≠ 63 := by
  induction L with
  | nil => intro c hc; simp [joinB] at hc
  | cons x L ih =>
    intro c hc
    cases L with
    | nil =>
      rw [joinB] at hc
      exact (h x (by simp) c hc).2
    | cons y L =>
      rw [joinB] at hc
      rcases List.mem_append.1 hc with hc | hc
      · exact (h x (by simp) c hc).2
      · rcases List.mem_cons.1 hc with rfl | hc
        · decide
        · exact ih (fun z hz => h z (by simp [hz])) c hc
theorem frm_pcs {u us d : List UInt8} : frm11 (pcs11 u us d) = some (u, if us = [] then none else some (pctE [] us), pctE [] d) := by
  unfold pcs11
  by_cases h : us = []
  · rw [if_pos h, if_pos h]
    rfl
  · rw [if_neg h, if_neg h]
    rfl
theorem idx_pcs {u us d : List UInt8} (hu : u ∈ usg11) (h1 : us ≠ tt11) (h2 : d ≠ tt11) : Lib.index (joinB 47 (pcs11 u us d)) ssl11 = -1 ∧ ∀ t, Lib.index (joinB 47 (pcs11 u us d) ++ ssl11 ++ t) ssl11 = ((joinB 47 (pcs11 u us d)).length : Int) := by
  have hf := (pcs_free (us := us) (d := d) hu).1
  have htt : ∀ y ∈ (pcs11 u us d).drop 1, y ≠ tt11 := by
    unfold pcs11
    split
    · intro y hy
      simp only [List.drop_succ_cons, List.drop_zero, List.mem_cons, List.not_mem_nil, or_false] at hy
      rcases hy with rfl | rfl | rfl
      · exact (usg_tt _ hu).1
      · decide
      · exact fun e => h2 (pctE_tt e)
    · intro y hy
      simp only [List.drop_succ_cons, List.drop_zero, List.mem_cons, List.not_mem_nil, or_false] at hy
      rcases hy with rfl | rfl | rfl | rfl
      · exact (usg_tt _ hu).1
      · decide
      · exact fun e => h1 (pctE_tt e)
      · exact fun e => h2 (pctE_tt e)
  obtain ⟨x, L, e⟩ : ∃ x L, pcs11 u us d = x :: L := by
    unfold pcs11
    split <;> exact ⟨_, _, rfl⟩
  rw [e] at hf htt ⊢
  exact idx_join x L (fun y hy c hc => (hf y hy c hc).1) htt
theorem cut_sel {u us d t : List UInt8} (hu : u ∈ usg11) (h1 : us ≠ tt11) (h2 : d ≠ tt11) : sel11 (joinB 47 (pcs11 u us d) ++ ssl11 ++ t) = (joinB 47 (pcs11 u us d), some t) := by
  have h := (idx_pcs (d := d) hu h1 h2).2 t
  unfold sel11
  rw [h, if_pos (by omega)]
  have e4 : ssl11.length = 4 := rfl
  rw [List.append_assoc, Int.toNat_natCast, List.take_left, ← List.drop_drop, List.drop_left]
  rfl
theorem cut_nosel {u us d : List UInt8} (hu : u ∈ usg11) (h1 : us ≠ tt11) (h2 : d ≠ tt11) : sel11 (joinB 47 (pcs11 u us d)) = (joinB 47 (pcs11 u us d), none) := by
  have h := (idx_pcs (d := d) hu h1 h2).1
  unfold sel11
  rw [h, if_neg (by omega)]
theorem que_some {a q : List UInt8} (h : ∀ c ∈ a, c ≠ 63) : que11 (a ++ 63 :: q) = (a, some q) := by
  unfold que11
  rw [cutC_at q h]
theorem que_none {a : List UInt8} (h : ∀ c ∈ a, c ≠ 63) : que11 a = (a, none) := by
  unfold que11
  rw [cutC_none h]
theorem bad_facts {us d : List UInt8} (h : bad11 us d = false) : us ≠ tt11 ∧ d ≠ tt11 ∧ us.length ≤ 64 ∧ 1 ≤ d.length ∧ d.length ≤ 64 ∧ chk us < 0 ∧ chk d < 0 := by
  unfold bad11 at h
  simp only [Bool.or_eq_false_iff, decide_eq_false_iff_not] at h
  obtain ⟨⟨⟨⟨⟨⟨a1, a2⟩, a3⟩, a4⟩, a5⟩, a6⟩, a7⟩ := h
  exact ⟨a1, a2, by omega, by omega, by omega, by omega, by omega⟩
theorem usr_back {us : List UInt8} (h : chk us < 0) : usr11 (if us = [] then none else some (pctE [] us)) = (us, 0) := by
  by_cases e : us = []
  · rw [if_pos e, e]
    rfl
  · rw [if_neg e]
    unfold usr11
    simp only
    rw [decP_back, if_neg (by omega)]
theorem ok_back {us d : List UInt8} (h : bad11 us d = false) : ok11 (if us = [] then none else some (pctE [] us)) us d = true := by
  obtain ⟨a1, a2, a3, a4, a5, _, _⟩ := bad_facts h
  unfold ok11
  rw [decide_eq_true a4, decide_eq_true a5, decide_eq_true a3, decide_eq_false a1, decide_eq_false a2]
  by_cases e : us = []
  · simp [e]
  · simp [e]
theorem bin_nil : bindsP [] = ([], 0) := by kernel_rfl
theorem uri_back {w : WhV} {s : List UInt8} (h : prt11 w = .ok s) :
    ∃ v, uri11 s = .ok v ∧ v.usage = w.usage ∧ v.user = w.user ∧ v.doc = w.doc ∧ v.node = w.node ∧ (w.node = true → v.steps = w.steps) ∧ prt11 v = .ok s := by
  have hp := h
  unfold prt11 at h
  split at h
  · cases h
  rename_i hu
  have hu : w.usage.data.toList ∈ usg11 := Decidable.byContradiction hu
  split at h
  · cases h
  rename_i hb
  have hb : bad11 w.user.data.toList w.doc.data.toList = false := by simpa using hb
  obtain ⟨a1, a2, a3, a4, a5, a6, a7⟩ := bad_facts hb
  have hfr := frm_pcs (u := w.usage.data.toList) (us := w.user.data.toList) (d := w.doc.data.toList)
  have hub := usr_back a6
  have hok := ok_back hb
  have hdd : decP (pctE [] w.doc.data.toList) = (w.doc.data.toList, 0) := by rw [decP_back, if_neg (by omega)]
  obtain ⟨pf, pn⟩ := pcs_free (us := w.user.data.toList) (d := w.doc.data.toList) hu
  have hpp : pieceF 47 (joinB 47 (pcs11 w.usage.data.toList w.user.data.toList w.doc.data.toList)) = pcs11 w.usage.data.toList w.user.data.toList w.doc.data.toList := join_pieces _ pn fun x hx hc => (pf x hx 47 hc).1 rfl
  have hj := join_no pf
  have es := to_list w.usage
  have eu := to_list w.user
  have ed := to_list w.doc
  cases hnd : w.node with
  | false =>
    rw [hnd, if_neg (by decide)] at h
    unfold fin11 at h
    split at h
    · cases h
    rename_i hl
    injection h with h
    subst h
    refine ⟨⟨w.usage, w.user, w.doc, false, [], sE, []⟩, ?_, rfl, rfl, rfl, rfl, (fun e => by cases e), ?_⟩
    · unfold uri11
      rw [if_neg hl, que_none hj]
      simp only
      rw [cut_nosel hu a1 a2]
      simp only
      rw [hpp, hfr]
      simp only
      rw [if_neg (by simp), if_neg (by simpa using hu), hub, hdd]
      simp only [ne_eq, not_true_eq_false, if_false]
      rw [hok, if_neg (by decide), es, eu, ed]
    · unfold prt11 at hp ⊢
      rw [hnd] at hp
      exact hp
  | true =>
    rw [hnd, if_pos rfl] at h
    cases hps : printS ⟨(spc11 w.usage.data.toList).toArray⟩ w.steps with
    | error e => rw [hps] at h; cases h
    | ok tq =>
      obtain ⟨t, q⟩ := tq
      rw [hps] at h
      simp only at h
      have hfin : ∀ {S : List UInt8}, fin11 S = .ok s → S = s ∧ ¬ 512 < S.length := fun {S} h => by
        unfold fin11 at h
        split at h
        · cases h
        · rename_i hl
          injection h with h
          exact ⟨h, hl⟩
      obtain ⟨h, hl⟩ := hfin h
      obtain ⟨b, hb1, hb2⟩ := print_back hps
      have ht : ∀ c ∈ t, c ≠ 63 := by
        unfold printS at hps
        split at hps
        · cases hps
        · split at hps
          · cases hps
          · injection hps with hps
            injection hps with hps _
            rw [← hps]
            exact join_no fun y hy c hc => by
              obtain ⟨z, _, rfl⟩ := List.mem_map.1 hy
              exact pctE_no c hc
      have hh : ∀ c ∈ joinB 47 (pcs11 w.usage.data.toList w.user.data.toList w.doc.data.toList) ++ ssl11 ++ t, c ≠ 63 := by
        intro c hc
        rcases List.mem_append.1 hc with hc | hc
        · rcases List.mem_append.1 hc with hc | hc
          · exact hj c hc
          · exact (show ∀ c ∈ ssl11, c ≠ 63 by decide) c hc
        · exact ht c hc
      have hqq : (que11 s).1 = joinB 47 (pcs11 w.usage.data.toList w.user.data.toList w.doc.data.toList) ++ ssl11 ++ t ∧ (que11 s).2.getD [] = q := by
        rw [← h]
        by_cases hq : q = []
        · rw [if_pos hq, List.append_nil, que_none hh, hq]
          exact ⟨rfl, rfl⟩
        · rw [if_neg hq, que_some hh]
          exact ⟨rfl, rfl⟩
      have hl' : ¬ 512 < s.length := by rw [← h]; exact hl
      refine ⟨⟨w.usage, w.user, w.doc, true, w.steps, ⟨t.toArray⟩, b⟩, ?_, rfl, rfl, rfl, rfl, fun _ => rfl, ?_⟩
      · unfold uri11
        rw [if_neg hl', hqq.1, cut_sel hu a1 a2]
        simp only
        rw [hpp, hfr]
        simp only
        rw [if_neg (by simp), if_neg (by simpa using hu), hub, hdd]
        simp only [ne_eq, not_true_eq_false, if_false]
        rw [hok, if_neg (by decide), hqq.2, hb1]
        simp only [not_true_eq_false, if_false]
        rw [hb2, es, eu, ed]
      · unfold prt11 at hp ⊢
        rw [hnd] at hp
        exact hp
theorem uri_plain {s : List UInt8} {w : WhV} {e : Int} (h : uri11 s = .ok w) (hn : w.node = false) (hp : prt11 w = .error e) : e = 3 := by
  unfold uri11 at h
  split at h
  · cases h
  split at h
  · cases h
  rename_i u x d hf
  split at h
  · cases h
  split at h
  · cases h
  rename_i hu
  split at h
  · cases h
  rename_i hx
  split at h
  · cases h
  rename_i hd
  split at h
  · cases h
  rename_i hok
  have hu : u ∈ usg11 := Decidable.byContradiction hu
  have hck : chk (usr11 x).1 < 0 ∧ chk (decP d).1 < 0 := by
    have dd : ∀ y : List UInt8, (decP y).2 = 0 → chk (decP y).1 < 0 := fun y hy => by
      have := (decP_ok (s := y) (a := (decP y).1) (e := (decP y).2) rfl hy).2
      omega
    refine ⟨?_, dd d (Decidable.byContradiction hd)⟩
    cases x with
    | none => show chk [] < 0; decide
    | some y => exact dd y (Decidable.byContradiction hx)
  have hb : bad11 (usr11 x).1 (decP d).1 = false := by
    have hok : ok11 x (usr11 x).1 (decP d).1 = true := by simpa using hok
    unfold ok11 at hok
    simp only [Bool.and_eq_true, decide_eq_true_eq, Bool.not_eq_true', decide_eq_false_iff_not] at hok
    obtain ⟨⟨⟨⟨⟨b1, b2⟩, b3⟩, b4⟩, b5⟩, b6⟩ := hok
    unfold bad11
    rw [decide_eq_false b6, decide_eq_false b5, decide_eq_false (by omega), decide_eq_false (by omega), decide_eq_false (by omega), decide_eq_false (by omega), decide_eq_false (by omega)]
    rfl
  split at h
  · injection h with h
    subst h
    unfold prt11 at hp
    simp only at hp
    rw [if_neg (by simpa using hu), if_neg (by rw [hb]; decide), if_neg (by decide)] at hp
    unfold fin11 at hp
    split at hp
    · injection hp with hp
      exact hp.symm
    · cases hp
  · split at h
    · cases h
    · split at h
      · cases h
      · injection h with h
        subst h
        cases hn
end Wb
