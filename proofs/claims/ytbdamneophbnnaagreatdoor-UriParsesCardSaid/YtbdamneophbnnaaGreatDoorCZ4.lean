/- QnB QnC QnD QnF QnG. -/
import Derived.Test.YtbdamneophbnnaaGreatDoorCZ1
import Derived.Test.YtbdamneophbnnaaGreatDoorCZ3
namespace Go.Proofs.YtbdamneophbnnaaGreatDoor
open Go.RowKit Wb
theorem colon_at (q : ByteArray) (k : Nat) (h : k < q.size) (ht : ((q[k].toNat : Int) == 58) = true) (HN : ∀ j, j < k → q[j]! ≠ 58) : cIx q = some k := by
  refine (cIx_some q k).2 ⟨h, ?_, HN⟩
  rw [getElem!_pos q k h]
  have : (q[k].toNat : Int) = 58 := by simpa using ht
  have : q[k].toNat = 58 := by omega
  exact UInt8.toNat_inj.1 (by simpa using this)
theorem colon_not (q : ByteArray) (k : Nat) (h : k < q.size) (ht : ((q[k].toNat : Int) == 58) = false) (HN : ∀ j, j < k → q[j]! ≠ 58) : ∀ j, j < k + 1 → q[j]! ≠ 58 := by
  intro j hj
  by_cases e : j = k
  · subst e
    rw [getElem!_pos q j h]
    intro he
    rw [he] at ht
    simp at ht
  · exact HN j (by omega)
set_option maxHeartbeats 1000000 in
theorem rsplit_any (q : ByteArray) (w : World) (hs : q.size ≤ 1000000000) :
    Calls Tryz.prog 68 #[.string q] w fun e w' => e = .returned (.tuple #[.string (splitB q).1, .string (splitB q).2.1, .bool (splitB q).2.2]) ∧ Below w.heap.size w w' := by
  go_enter Tryz.func68, Tryz.ntmps68
  go_wp2
  go_loop [5] (fun i => ∃ k : Nat, k ≤ q.size ∧ i = .int .i64 k ∧ Hid (∀ j, j < k → q[j]! ≠ 58)) (fun i => ((q.size : Int) - intOf i).toNat)
  case atStart => exact ⟨0, by omega, rfl, Lib.hid (fun j hj => absurd hj (by omega))⟩
  case round =>
    obtain ⟨k, hk, rfl, HN⟩ := hrel
    by_cases hlt : k < q.size
    · go_wp2_with fail
      · have ht : ((q[k].toNat : Int) == 58) = true := by assumption
        have HC := Lib.hid (colon_at q k hlt ht HN.out)
        clear ht HN
        have h1 : (q.extract 0 k).size ≤ 1000000000 := by simp; omega
        have h2 : (q.extract (k + 1) q.size).size ≤ 1000000000 := by simp; omega
        go_region
        go_wp2_with fail
        cases ha : nameB (q.extract 0 k).data.toList
        · have HA := Lib.hid ha
          have H := Lib.hid (splitB_half HC.out ha)
          clear ha
          refine (rname_any _ _ h1).mono ?_
          rw [HA.out]
          rintro e w3 ⟨rfl, hb⟩
          replace hb := of_drew hb
          go_wp2
          go_ret3
          rw [H.out]
          exact ⟨rfl, hb⟩
        · have HA := Lib.hid ha
          clear ha
          refine (rname_any _ _ h1).mono ?_
          rw [HA.out]
          rintro e w3 ⟨rfl, hb⟩
          replace hb := of_drew hb
          go_wp2_with fail
          cases hd : nameB (q.extract (k + 1) q.size).data.toList
          all_goals
            have HD := Lib.hid hd
            have H := Lib.hid (splitB_some HC.out HA.out hd)
            clear hd
            refine (rname_any _ _ h2).mono ?_
            rw [HD.out]
            rintro e w3 ⟨rfl, hb2⟩
            replace hb := hb.trans (hb2.mono hb.size)
            clear hb2
            go_wp2
            go_ret3
            rw [H.out]
            exact ⟨rfl, hb⟩
      · have ht : ((q[k].toNat : Int) == 58) = false := by assumption
        have HN' := Lib.hid (colon_not q k hlt ht HN.out)
        go_round
        case rel => exact ⟨k + 1, by omega, by go_num, HN'⟩
        case measure => simp [intOf]; omega
    · have HC : Hid (cIx q = none) := (cIx_none q).2 (fun j hj => HN.out j (by omega))
      clear HN
      go_wp2_with fail
      cases ha : nameB q.data.toList
      all_goals
        have HA := Lib.hid ha
        have H := Lib.hid (splitB_none HC.out ha)
        clear ha
        refine (rname_any _ _ hs).mono ?_
        rw [HA.out]
        rintro e w3 ⟨rfl, hb⟩
        go_wp2
        go_ret3
        rw [H.out]
        exact ⟨rfl, hb⟩
end Go.Proofs.YtbdamneophbnnaaGreatDoor
namespace Go.Proofs.YtbdamneophbnnaaGreatDoor
open Go.RowKit Wb
set_option maxHeartbeats 1000000 in
theorem rfind_any (A : Option Addr) (l : List Pr) (c : Nat) (p : ByteArray) (w : World) (hl : l.length ≤ 1000000000) (hA : Sl2 w A l) :
    Calls Tryz.prog 69 #[.slice A l.length c, .string p] w fun e w' => e = .returned (.tuple #[.string (findB l p).1, .bool (findB l p).2]) ∧ w = w' := by
  have t2 : (p.toList == [120, 109, 108]) = eqT p sXmlQ := lit_of p sXmlQ _ rfl
  cases hx : eqT p sXmlQ
  · rw [hx] at t2
    go_enter Tryz.func69, Tryz.ntmps69
    go_wp2
    go_loop [6, 7, 8] (fun s o i => ∃ (k : Nat) (r : ByteArray × Bool), k ≤ l.length ∧ i = .int .i64 k ∧ s = .string r.1 ∧ o = .bool r.2 ∧
        Hid (r = (match lastB (l.take k) p with | some s => (s, true) | none => (sE, eqT p sE)))) (fun _ _ i => ((l.length : Int) - intOf i).toNat)
    case atStart => exact ⟨0, (sE, eqT p sE), by omega, rfl, rfl, by rw [← empty_eq], Lib.hid rfl⟩
    case round =>
      obtain ⟨k, ⟨r1, r2⟩, hk, rfl, rfl, rfl, HR⟩ := hrel
      by_cases h0 : k < l.length
      · obtain ⟨⟨x1, x2⟩, he⟩ : ∃ x, l[k]? = some x := ⟨l[k], List.getElem?_eq_getElem (by omega)⟩
        obtain ⟨ad, rfl, _, c1, c2⟩ := hA.at_ he
        have HE := Lib.hid he
        clear he
        cases hq : (x1.toList == p.toList)
        · go_wp2
          go_round
          case rel => exact ⟨k + 1, (r1, r2), by omega, by go_num, rfl, rfl, Lib.hid (by rw [lastB_miss HE.out hq]; exact HR.out)⟩
          case measure => simp [intOf]; omega
        · go_wp2
          go_round
          case rel => exact ⟨k + 1, (x2, true), by omega, by go_num, rfl, rfl, Lib.hid (by rw [lastB_hit HE.out hq])⟩
          case measure => simp [intOf]; omega
      · have H : Hid (findB l p = (r1, r2)) := by
          have h1 := HR.out
          rw [List.take_of_length_le (by omega)] at h1
          rw [h1]
          unfold findB
          rw [hx]
          exact rfl
        clear hx HR
        go_wp2
        go_ret2
        rw [H.out]
        exact ⟨rfl, rfl⟩
  · rw [hx] at t2
    rw [findB_xml hx]
    go_enter Tryz.func69, Tryz.ntmps69
    go_wp2
    go_ret2
    exact ⟨rfl, rfl⟩
end Go.Proofs.YtbdamneophbnnaaGreatDoor
namespace Go.Proofs.YtbdamneophbnnaaGreatDoor
open Go.RowKit Wb
set_option maxHeartbeats 1000000 in
theorem rresolve_any (A : Option Addr) (l : List Pr) (c : Nat) (q : ByteArray) (attr : Bool) (w : World) (hl : l.length ≤ 1000000000) (hq : q.size ≤ 1000000000) (hA : Sl2 w A l) :
    Calls Tryz.prog 45 #[.slice A l.length c, .string q, .bool attr] w fun e w' =>
      e = .returned (.tuple #[.agg #[.string (resB l q attr).1.1, .string (resB l q attr).1.2], .int .i64 (resB l q attr).2]) ∧ Below w.heap.size w w' := by
  obtain ⟨n1, n2, er, hr⟩ : ∃ n1 n2 er, resB l q attr = ((n1, n2), er) := ⟨_, _, _, rfl⟩
  have HR := Lib.hid hr
  rw [hr]
  clear hr
  obtain ⟨p, lo, ok, hsp⟩ : ∃ p lo ok, splitB q = (p, lo, ok) := ⟨_, _, _, rfl⟩
  have HS := Lib.hid hsp
  clear hsp
  have t1 : (p.toList == [120, 109, 108, 110, 115]) = eqT p sXmlns := lit_of p sXmlns _ rfl
  obtain ⟨b1, k1⟩ : ∃ b, eqT p sXmlns = b := ⟨_, rfl⟩
  obtain ⟨e1, h1⟩ : ∃ b, eqT p sE = b := ⟨_, rfl⟩
  obtain ⟨s, fo, hf⟩ : ∃ s fo, findB l p = (s, fo) := ⟨_, _, rfl⟩
  have HF := Lib.hid hf
  have HK := Lib.hid k1
  have H1 := Lib.hid h1
  rw [k1] at t1
  clear k1 hf h1
  go_enter Tryz.func45, Tryz.ntmps45
  go_wp2_with fail
  refine (rsplit_any q _ hq).mono ?_
  rw [HS.out]
  rintro e w2 ⟨rfl, hb⟩
  have HB := Lib.hid (kept_block hb)
  have hA2 := hA.below (of_alloc hb)
  replace hb := of_alloc hb
  have c0 := blk_cell HB.out 0
  have c1 := blk_cell HB.out 1
  have f0 := blk_free HB.out 0
  have f1 := blk_free HB.out 1
  simp only [List.getElem?_toArray, List.getElem?_cons_zero, List.getElem?_cons_succ] at c0 c1
  cases ok
  · obtain ⟨r1, r2, r3⟩ := res_end HR.out (resB_bad attr HS.out)
    clear HR HS HF HK H1 t1
    subst r1 r2 r3
    go_wp2
    refine bodyPost_ret (results_cell2 rfl _ _ w.heap.size _ _ _ rfl (blk_set (blk_set HB.out 0 _) 1 _) Tryz.underlying44 rfl name_info) rfl ?_
    exact ⟨rfl, (hb.setCell (Nat.le_refl _) _).setCell (Nat.le_refl _) _⟩
  · by_cases ha : (attr && e1) = true
    · obtain ⟨rfl, rfl⟩ : attr = true ∧ e1 = true := by simpa using ha
      obtain ⟨r1, r2, r3⟩ := res_end HR.out (resB_bare HS.out H1.out)
      have hp0 := nil_of p H1.out
      clear HR HS HF HK H1 t1 ha
      subst r1 r2 r3
      go_wp2
      refine bodyPost_ret (results_cell2 rfl _ _ w.heap.size _ _ _ rfl (blk_set (blk_set HB.out 0 _) 1 _) Tryz.underlying44 rfl name_info) rfl ?_
      exact ⟨rfl, (hb.setCell (Nat.le_refl _) _).setCell (Nat.le_refl _) _⟩
    · have ha' : (attr && eqT p sE) = false := by rw [H1.out]; simpa using ha
      have HX := Lib.hid (HR.out.symm.trans (resB_full HS.out ha' HF.out HK.out))
      have hor : (attr = false ∧ e1 = true ∧ b1 = false) ∨ (attr = false ∧ e1 = false) ∨ (attr = true ∧ e1 = false) := by
        cases e1
        · cases attr <;> simp
        · left
          have hz := eqT_nil p H1.out
          refine ⟨by simpa using ha, rfl, ?_⟩
          rw [← HK.out, hz]
          exact eqT_false.2 (by decide)
      clear HR HS HK ha' ha
      rcases hor with ⟨rfl, rfl, rfl⟩ | ⟨rfl, rfl⟩ | ⟨rfl, rfl⟩
      · have hp0 := nil_of p H1.out
        clear t1
        go_wp2_with fail
        refine (rfind_any A l c p _ hl hA2).mono ?_
        rw [HF.out]
        rintro e w3 ⟨rfl, rfl⟩
        cases fo
        all_goals
          obtain ⟨r1, r2, r3⟩ := res_end rfl HX.out
          clear HX HF H1
          subst r1 r2 r3
          go_wp2
          refine bodyPost_ret (results_cell2 rfl _ _ w.heap.size _ _ _ rfl (blk_set (blk_set HB.out 0 _) 1 _) Tryz.underlying44 rfl name_info) rfl ?_
          exact ⟨rfl, (hb.setCell (Nat.le_refl _) _).setCell (Nat.le_refl _) _⟩
      all_goals
        have hp0 := ne_nil p H1.out
        have hp1 := ne_empty p H1.out
        go_wp2_with fail
        refine (rfind_any A l c p _ hl hA2).mono ?_
        rw [HF.out]
        rintro e w3 ⟨rfl, rfl⟩
        cases fo
        · obtain ⟨r1, r2, r3⟩ := res_end rfl HX.out
          clear HX HF H1
          subst r1 r2 r3
          go_wp2
          refine bodyPost_ret (results_cell2 rfl _ _ w.heap.size _ _ _ rfl (blk_set (blk_set HB.out 0 _) 1 _) Tryz.underlying44 rfl name_info) rfl ?_
          exact ⟨rfl, (hb.setCell (Nat.le_refl _) _).setCell (Nat.le_refl _) _⟩
        · cases b1
          all_goals
            obtain ⟨r1, r2, r3⟩ := res_end rfl HX.out
            clear HX HF H1
            subst r1 r2 r3
            go_wp2
            refine bodyPost_ret (results_cell2 rfl _ _ w.heap.size _ _ _ rfl (blk_set (blk_set HB.out 0 _) 1 _) Tryz.underlying44 rfl name_info) rfl ?_
            exact ⟨rfl, (hb.setCell (Nat.le_refl _) _).setCell (Nat.le_refl _) _⟩
end Go.Proofs.YtbdamneophbnnaaGreatDoor
namespace Go.Proofs.YtbdamneophbnnaaGreatDoor
open Go.RowKit Wb
theorem AddPost.okR {l : List Pr} {p s : ByteArray} {w w' : World} {C : Option Addr} {k : Nat} (h : bindB p s = 0) (hb : Below w.heap.size w w') (hC : Sl2 w' C (l ++ [(p, s)])) (hF : Fresh w.heap.size C) :
    AddPost l p s w (.returned (.tuple #[.slice C (l ++ [(p, s)]).length k, .int .i64 0])) w' := by
  have := AddPost.ok (k := k) h hb hC hF
  simpa using this
set_option maxHeartbeats 4000000 in
set_option maxRecDepth 100000 in
theorem radd_any (A : Option Addr) (l : List Pr) (c : Nat) (p s : ByteArray) (w : World) (hl : l.length ≤ 1000000) (hp : p.size ≤ 1000000000) (hA : Sl2 w A l) :
    Calls Tryz.prog 44 #[.slice A l.length c, .string p, .string s] w (AddPost l p s w) := by
  have t1 : (p.toList == [120, 109, 108, 110, 115]) = eqT p sXmlns := lit_of p sXmlns _ rfl
  have t2 : (p.toList == [120, 109, 108]) = eqT p sXmlQ := lit_of p sXmlQ _ rfl
  have t3 : (s.toList == [104, 116, 116, 112, 58, 47, 47, 119, 119, 119, 46, 119, 51, 46, 111, 114, 103, 47, 88, 77, 76, 47, 49, 57, 57, 56, 47, 110, 97, 109, 101, 115, 112, 97, 99, 101]) = eqT s sXML := lit_of s sXML _ rfl
  have t4 : (s.toList == [104, 116, 116, 112, 58, 47, 47, 119, 119, 119, 46, 119, 51, 46, 111, 114, 103, 47, 50, 48, 48, 48, 47, 120, 109, 108, 110, 115, 47]) = eqT s sXMLNS := lit_of s sXMLNS _ rfl
  obtain ⟨b1, k1⟩ : ∃ b, eqT p sXmlns = b := ⟨_, rfl⟩
  obtain ⟨b2, k2⟩ : ∃ b, eqT p sXmlQ = b := ⟨_, rfl⟩
  obtain ⟨b3, k3⟩ : ∃ b, eqT s sXML = b := ⟨_, rfl⟩
  obtain ⟨b4, k4⟩ : ∃ b, eqT s sXMLNS = b := ⟨_, rfl⟩
  obtain ⟨n, hn⟩ : ∃ b, nameB p.data.toList = b := ⟨_, rfl⟩
  obtain ⟨e1, h1⟩ : ∃ b, eqT p sE = b := ⟨_, rfl⟩
  obtain ⟨e5, h5⟩ : ∃ b, eqT s sE = b := ⟨_, rfl⟩
  have HB := Lib.hid (bind_fact p s h1 hn k1 k2 k3 k4 h5)
  have z1 : e1 = true → b1 = false ∧ b2 = false := by
    rintro rfl
    have := eqT_nil p h1
    subst this
    exact ⟨k1.symm.trans (eqT_false.2 (by decide)), k2.symm.trans (eqT_false.2 (by decide))⟩
  have z2 : e5 = true → b3 = false ∧ b4 = false := by
    rintro rfl
    have := eqT_nil s h5
    subst this
    exact ⟨k3.symm.trans (eqT_false.2 (by decide)), k4.symm.trans (eqT_false.2 (by decide))⟩
  have z3 : b3 = false ∨ b4 = false := by
    cases hb3 : b3
    · left; rfl
    · right
      rw [hb3] at k3
      rw [← k4, (eqT_iff _ _).1 k3]
      exact eqT_false.2 sXML_ne
  rw [k1] at t1; rw [k2] at t2; rw [k3] at t3; rw [k4] at t4
  clear k1 k2 k3 k4
  have HN := Lib.hid hn
  clear hn
  obtain ⟨i0, hi, hz0, hz1, hz2⟩ := info_parts bind_info
  cases e1
  · have hp0 := ne_nil p h1
    have hp1 := ne_empty p h1
    clear h1 z1
    go_enter Tryz.func44, Tryz.ntmps44
    go_wp2_with fail
    refine (rname_any _ _ hp).mono ?_
    rw [HN.out]
    rintro e w3 ⟨rfl, hb⟩
    cases n
    · go_wp2
      go_ret2
      exact AddPost.bad HB.out (by decide) hb
    · cases e5
      · have hs0 := ne_nil s h5
        have hs1 := ne_empty s h5
        clear h5 z2
        rcases z3 with rfl | rfl
        · cases b1 <;> cases b2 <;> cases b4 <;> (
            have e0 : World.ownsRow (w3.alloc (.cells #[] 80)) w.heap.size 80 2 (.slice (some ⟨w3.heap.size, 0, none⟩) 0 0) 0 [] := World.ownsRow_lit w3 #[] 0 hb.size (Nat.zero_le _) rfl
            go_wp2_with (first
              | (at_builtin; refine wpList_append_sl _ rfl (.tmp 36) (.tmp 37) _ rfl w.heap.size 80 i0 _ 2 32 Tryz.underlying24 hi hz0 hz1 hz2 rfl (by omega) _ 0 [] rfl e0 A l.length c (cells2 l) rfl ((hA.below hb).alloc _) (cells2_one l) (by simp only [maxLen]; omega) (by omega) (hb.alloc hb.size _).size ?_; intro v2 w4 hown2 hg2 hat2; have hb2 : Below w.heap.size w w4 := (hb.alloc hb.size _).grown hg2 (hb.alloc hb.size _).size (fun k hk => (e0.lt k hk).1); clear hg2 hat2 e0)
              | (at_builtin; refine wpList_append_sl _ rfl (.tmp 38) (.tmp 42) _ rfl w.heap.size 80 i0 _ 2 32 Tryz.underlying24 hi hz0 hz1 hz2 rfl (by omega) v2 (0 + l.length) ([] ++ cells2 l) rfl (hown2.alloc _) (some ⟨w4.heap.size, 0, none⟩) 1 1 [.string p, .string s] rfl (Sl.lit w4 2 [.string p, .string s] _ 1 rfl) (cells2_one [(p, s)]) (by simp only [maxLen]; omega) (by omega) (hb2.alloc hb2.size _).size ?_; intro v3 w5 hown3 hg3 hat3; have hb3 : Below w.heap.size w w5 := (hb2.alloc hb2.size _).grown hg3 (hb2.alloc hb2.size _).size (fun k hk => (hown2.lt k hk).1)))
            go_ret2
            first
              | exact AddPost.bad HB.out (by decide) hb
              | (obtain ⟨C, k, rfl, hC, hF⟩ := own2 (l ++ [(p, s)]) hown3 (by simp) (by simp [cells2])
                 exact AddPost.okR HB.out hb3 hC hF))
        · cases b1 <;> cases b2 <;> cases b3 <;> (
            have e0 : World.ownsRow (w3.alloc (.cells #[] 80)) w.heap.size 80 2 (.slice (some ⟨w3.heap.size, 0, none⟩) 0 0) 0 [] := World.ownsRow_lit w3 #[] 0 hb.size (Nat.zero_le _) rfl
            go_wp2_with (first
              | (at_builtin; refine wpList_append_sl _ rfl (.tmp 36) (.tmp 37) _ rfl w.heap.size 80 i0 _ 2 32 Tryz.underlying24 hi hz0 hz1 hz2 rfl (by omega) _ 0 [] rfl e0 A l.length c (cells2 l) rfl ((hA.below hb).alloc _) (cells2_one l) (by simp only [maxLen]; omega) (by omega) (hb.alloc hb.size _).size ?_; intro v2 w4 hown2 hg2 hat2; have hb2 : Below w.heap.size w w4 := (hb.alloc hb.size _).grown hg2 (hb.alloc hb.size _).size (fun k hk => (e0.lt k hk).1); clear hg2 hat2 e0)
              | (at_builtin; refine wpList_append_sl _ rfl (.tmp 38) (.tmp 42) _ rfl w.heap.size 80 i0 _ 2 32 Tryz.underlying24 hi hz0 hz1 hz2 rfl (by omega) v2 (0 + l.length) ([] ++ cells2 l) rfl (hown2.alloc _) (some ⟨w4.heap.size, 0, none⟩) 1 1 [.string p, .string s] rfl (Sl.lit w4 2 [.string p, .string s] _ 1 rfl) (cells2_one [(p, s)]) (by simp only [maxLen]; omega) (by omega) (hb2.alloc hb2.size _).size ?_; intro v3 w5 hown3 hg3 hat3; have hb3 : Below w.heap.size w w5 := (hb2.alloc hb2.size _).grown hg3 (hb2.alloc hb2.size _).size (fun k hk => (hown2.lt k hk).1)))
            go_ret2
            first
              | exact AddPost.bad HB.out (by decide) hb
              | (obtain ⟨C, k, rfl, hC, hF⟩ := own2 (l ++ [(p, s)]) hown3 (by simp) (by simp [cells2])
                 exact AddPost.okR HB.out hb3 hC hF))
      · have hs0 := nil_of s h5
        clear h5 t3 t4
        obtain ⟨rfl, rfl⟩ := z2 rfl
        cases b1 <;> cases b2 <;> (go_wp2; go_ret2; exact AddPost.bad HB.out (by decide) hb)
  · have hp0 := nil_of p h1
    clear h1 t1 t2
    obtain ⟨rfl, rfl⟩ := z1 rfl
    have hb : Below w.heap.size w w := Below.refl _ _
    cases e5
    · have hs0 := ne_nil s h5
      have hs1 := ne_empty s h5
      clear h5 z2 z1
      rcases z3 with rfl | rfl
      · cases b4 <;> (
          go_enter Tryz.func44, Tryz.ntmps44
          have e0 : World.ownsRow (w.alloc (.cells #[] 80)) w.heap.size 80 2 (.slice (some ⟨w.heap.size, 0, none⟩) 0 0) 0 [] := World.ownsRow_lit w #[] 0 hb.size (Nat.zero_le _) rfl
          go_wp2_with (first
            | (at_builtin; refine wpList_append_sl _ rfl (.tmp 36) (.tmp 37) _ rfl w.heap.size 80 i0 _ 2 32 Tryz.underlying24 hi hz0 hz1 hz2 rfl (by omega) _ 0 [] rfl e0 A l.length c (cells2 l) rfl ((hA.below hb).alloc _) (cells2_one l) (by simp only [maxLen]; omega) (by omega) (hb.alloc hb.size _).size ?_; intro v2 w4 hown2 hg2 hat2; have hb2 : Below w.heap.size w w4 := (hb.alloc hb.size _).grown hg2 (hb.alloc hb.size _).size (fun k hk => (e0.lt k hk).1); clear hg2 hat2 e0)
            | (at_builtin; refine wpList_append_sl _ rfl (.tmp 38) (.tmp 42) _ rfl w.heap.size 80 i0 _ 2 32 Tryz.underlying24 hi hz0 hz1 hz2 rfl (by omega) v2 (0 + l.length) ([] ++ cells2 l) rfl (hown2.alloc _) (some ⟨w4.heap.size, 0, none⟩) 1 1 [.string p, .string s] rfl (Sl.lit w4 2 [.string p, .string s] _ 1 rfl) (cells2_one [(p, s)]) (by simp only [maxLen]; omega) (by omega) (hb2.alloc hb2.size _).size ?_; intro v3 w5 hown3 hg3 hat3; have hb3 : Below w.heap.size w w5 := (hb2.alloc hb2.size _).grown hg3 (hb2.alloc hb2.size _).size (fun k hk => (hown2.lt k hk).1)))
          go_ret2
          first
            | exact AddPost.bad HB.out (by decide) hb
            | (obtain ⟨C, k, rfl, hC, hF⟩ := own2 (l ++ [(p, s)]) hown3 (by simp) (by simp [cells2])
               exact AddPost.okR HB.out hb3 hC hF))
      · cases b3 <;> (
          go_enter Tryz.func44, Tryz.ntmps44
          have e0 : World.ownsRow (w.alloc (.cells #[] 80)) w.heap.size 80 2 (.slice (some ⟨w.heap.size, 0, none⟩) 0 0) 0 [] := World.ownsRow_lit w #[] 0 hb.size (Nat.zero_le _) rfl
          go_wp2_with (first
            | (at_builtin; refine wpList_append_sl _ rfl (.tmp 36) (.tmp 37) _ rfl w.heap.size 80 i0 _ 2 32 Tryz.underlying24 hi hz0 hz1 hz2 rfl (by omega) _ 0 [] rfl e0 A l.length c (cells2 l) rfl ((hA.below hb).alloc _) (cells2_one l) (by simp only [maxLen]; omega) (by omega) (hb.alloc hb.size _).size ?_; intro v2 w4 hown2 hg2 hat2; have hb2 : Below w.heap.size w w4 := (hb.alloc hb.size _).grown hg2 (hb.alloc hb.size _).size (fun k hk => (e0.lt k hk).1); clear hg2 hat2 e0)
            | (at_builtin; refine wpList_append_sl _ rfl (.tmp 38) (.tmp 42) _ rfl w.heap.size 80 i0 _ 2 32 Tryz.underlying24 hi hz0 hz1 hz2 rfl (by omega) v2 (0 + l.length) ([] ++ cells2 l) rfl (hown2.alloc _) (some ⟨w4.heap.size, 0, none⟩) 1 1 [.string p, .string s] rfl (Sl.lit w4 2 [.string p, .string s] _ 1 rfl) (cells2_one [(p, s)]) (by simp only [maxLen]; omega) (by omega) (hb2.alloc hb2.size _).size ?_; intro v3 w5 hown3 hg3 hat3; have hb3 : Below w.heap.size w w5 := (hb2.alloc hb2.size _).grown hg3 (hb2.alloc hb2.size _).size (fun k hk => (hown2.lt k hk).1)))
          go_ret2
          first
            | exact AddPost.bad HB.out (by decide) hb
            | (obtain ⟨C, k, rfl, hC, hF⟩ := own2 (l ++ [(p, s)]) hown3 (by simp) (by simp [cells2])
               exact AddPost.okR HB.out hb3 hC hF))
    · have hs0 := nil_of s h5
      clear h5 t3 t4 z1
      obtain ⟨rfl, rfl⟩ := z2 rfl
      go_enter Tryz.func44, Tryz.ntmps44
      have e0 : World.ownsRow (w.alloc (.cells #[] 80)) w.heap.size 80 2 (.slice (some ⟨w.heap.size, 0, none⟩) 0 0) 0 [] := World.ownsRow_lit w #[] 0 hb.size (Nat.zero_le _) rfl
      go_wp2_with (first
        | (at_builtin; refine wpList_append_sl _ rfl (.tmp 36) (.tmp 37) _ rfl w.heap.size 80 i0 _ 2 32 Tryz.underlying24 hi hz0 hz1 hz2 rfl (by omega) _ 0 [] rfl e0 A l.length c (cells2 l) rfl ((hA.below hb).alloc _) (cells2_one l) (by simp only [maxLen]; omega) (by omega) (hb.alloc hb.size _).size ?_; intro v2 w4 hown2 hg2 hat2; have hb2 : Below w.heap.size w w4 := (hb.alloc hb.size _).grown hg2 (hb.alloc hb.size _).size (fun k hk => (e0.lt k hk).1); clear hg2 hat2 e0)
        | (at_builtin; refine wpList_append_sl _ rfl (.tmp 38) (.tmp 42) _ rfl w.heap.size 80 i0 _ 2 32 Tryz.underlying24 hi hz0 hz1 hz2 rfl (by omega) v2 (0 + l.length) ([] ++ cells2 l) rfl (hown2.alloc _) (some ⟨w4.heap.size, 0, none⟩) 1 1 [.string p, .string s] rfl (Sl.lit w4 2 [.string p, .string s] _ 1 rfl) (cells2_one [(p, s)]) (by simp only [maxLen]; omega) (by omega) (hb2.alloc hb2.size _).size ?_; intro v3 w5 hown3 hg3 hat3; have hb3 : Below w.heap.size w w5 := (hb2.alloc hb2.size _).grown hg3 (hb2.alloc hb2.size _).size (fun k hk => (hown2.lt k hk).1)))
      go_ret2
      first
        | exact AddPost.bad HB.out (by decide) hb
        | (obtain ⟨C, k, rfl, hC, hF⟩ := own2 (l ++ [(p, s)]) hown3 (by simp) (by simp [cells2])
           exact AddPost.okR HB.out hb3 hC hF)
end Go.Proofs.YtbdamneophbnnaaGreatDoor
namespace Go.Proofs.YtbdamneophbnnaaGreatDoor
open Go.RowKit Wb
set_option maxHeartbeats 1000000 in
theorem binds_same (A B : Option Addr) (l : List Pr) (c d : Nat) (w : World) (hl : l.length ≤ 1000000) (hA : Sl2 w A l) (hB : Sl2 w B l) :
    Calls Tryz.prog 24 #[.slice A l.length c, .slice B l.length d] w fun e w' => e = .returned (.bool true) ∧ Below w.heap.size w w' := by
  go_enter Tryz.func24, Tryz.ntmps24
  go_wp2
  go_loopw [5] (fun i wr => ∃ k : Nat, k ≤ l.length ∧ i = .int .i64 k ∧ Below w.heap.size w wr) (fun i _ => ((l.length : Int) - intOf i).toNat)
  case atStart => exact ⟨0, by omega, rfl, Below.refl _ _⟩
  case round =>
    obtain ⟨k, hk, rfl, hb⟩ := hrel
    by_cases h0 : k < l.length
    · obtain ⟨⟨x1, x2⟩, he⟩ : ∃ x, l[k]? = some x := ⟨l[k], List.getElem?_eq_getElem (by omega)⟩
      obtain ⟨ad, rfl, _, c1, c2⟩ := (hA.below hb).at_ he
      obtain ⟨bd, rfl, _, d1, d2⟩ := (hB.below hb).at_ he
      clear he
      go_wp2
      go_region
      go_wp2
      go_roundw
      case rel => exact ⟨k + 1, by omega, by go_num, hb.drew⟩
      case measure => simp [intOf]; omega
    · go_wp2
      go_ret
      exact ⟨rfl, hb⟩
end Go.Proofs.YtbdamneophbnnaaGreatDoor
