/- UeE. -/
import Derived.Test.YtbdamneophbnnaaGreatDoorCZ20
namespace Wb
open Go
theorem docK_le (s : List UInt8) : (docK s).1.1.length ≤ s.length ∧ (docK s).1.2.1.length ≤ s.length ∧ (docK s).1.2.2.1.length ≤ s.length := by
  have l1 := Go.Proofs.YtbdamneophbnnaaGreatDoor.cut_le s 47
  have l2 := Go.Proofs.YtbdamneophbnnaaGreatDoor.cut_le (Lib.cut s [47]).2.1 47
  have l3 := Go.Proofs.YtbdamneophbnnaaGreatDoor.cut_le (Lib.cut (Lib.cut s [47]).2.1 [47]).2.1 47
  have l4 := Go.Proofs.YtbdamneophbnnaaGreatDoor.cut_le (Lib.cut (Lib.cut (Lib.cut s [47]).2.1 [47]).2.1 [47]).2.1 47
  have l5 := Go.Proofs.YtbdamneophbnnaaGreatDoor.cut_le (Lib.cut (Lib.cut (Lib.cut (Lib.cut s [47]).2.1 [47]).2.1 [47]).2.1 [47]).2.1 47
  unfold docK
  split
  · simp only
    omega
  · simp only [List.length_nil]
    omega
theorem docE_ok {u x d us dn : List UInt8} {ow : Bool} (h : docE u x d ow = .ok (us, dn)) : u ∈ usg11 := by
  unfold docE at h
  split at h
  · cases h
  · rename_i hu
    exact Decidable.byContradiction hu
theorem docE_nz {u x d : List UInt8} {ow : Bool} {k : Int} (h : docE u x d ow = .error k) : k ≠ 0 := by
  unfold docE at h
  split at h
  · injection h with h; subst h; decide
  split at h
  · rename_i hx
    injection h with h; subst h; exact hx
  split at h
  · rename_i hx
    injection h with h; subst h; exact hx
  split at h
  · injection h with h; subst h; decide
  · cases h
theorem wit_nz {U US D : ByteArray} {sel q : List UInt8} {k : Int} (h : witE U US D sel q = .error k) : k ≠ 0 := by
  unfold witE at h
  split at h
  · rename_i hx
    injection h with h; subst h; exact hx
  split at h
  · rename_i hx
    injection h with h; subst h; exact parse_nz hx
  · cases h
theorem uri_steps {s h q doc sel u x d : List UInt8} {asked node ow ok : Bool} (h1 : Lib.cut s [63] = (h, q, asked)) (h2 : Lib.cut h ssl11 = (doc, sel, node)) (h3 : docK doc = ((u, x, d, ow), ok)) :
    uri11 s = if 512 < s.length then .error 3
      else if (ok && (node || !asked)) = false then .error 4
      else match docE u x d ow with
        | .error k => .error k
        | .ok (us, dn) => if node = false then .ok ⟨mkT u, mkT us, mkT dn, false, [], sE, []⟩ else witE (mkT u) (mkT us) (mkT dn) sel q := by
  rw [uri_let h1 h2 h3]
  unfold docE witE
  rw [mkT_list]
  by_cases a1 : 512 < s.length
  · rw [if_pos a1, if_pos a1]
  rw [if_neg a1, if_neg a1]
  by_cases a2 : (ok && (node || !asked)) = false
  · rw [if_pos a2, if_pos a2]
  rw [if_neg a2, if_neg a2]
  by_cases a3 : u ∉ usg11
  · rw [if_pos a3, if_pos a3]
  rw [if_neg a3, if_neg a3]
  by_cases a4 : (decP x).2 ≠ 0
  · rw [if_pos a4, if_pos a4]
  rw [if_neg a4, if_neg a4]
  by_cases a5 : (decP d).2 ≠ 0
  · rw [if_pos a5, if_pos a5]
  rw [if_neg a5, if_neg a5]
  by_cases a6 : (ow && !nmU (decP x).1 || !nmU (decP d).1) = true
  · rw [if_pos a6, if_pos a6]
  rw [if_neg a6, if_neg a6]
  cases node with
  | false => rfl
  | true =>
    simp only
    by_cases a7 : (bindsP q).2 ≠ 0
    · simp [a7]
    · simp only [a7]
      cases parseS sel ⟨(spc11 u).toArray⟩ (bindsP q).1 <;> rfl
end Wb
namespace Go.Proofs.YtbdamneophbnnaaGreatDoor
open Go.RowKit Wb
theorem UriOut.form {o : Except Int WhV} {w w' : World} {e : Ending} (h : UriOut o w e w') (hk : ∀ k, o = .error k → k ≠ 0) :
    ∃ (v : WhV) (A : Option Addr) (ca : Nat) (C : Option Addr) (cc : Nat) (k : Int), e = .returned (.tuple #[whV v A ca C cc, .int .i64 k]) ∧ Sl9 w' A v.steps ∧ Sl2 w' C v.binds ∧ Below w.heap.size w w' ∧ (k = 0 → o = .ok v) ∧ (k ≠ 0 → o = .error k ∧ v = ⟨sE, sE, sE, false, [], sE, []⟩ ∧ A = none ∧ ca = 0 ∧ C = none ∧ cc = 0) := by
  obtain ⟨h1, h2, h3⟩ := h
  cases o with
  | error k => exact ⟨⟨sE, sE, sE, false, [], sE, []⟩, none, 0, none, 0, k, h2 k rfl, Sl.nil _ 9 _, Sl2.nil _ _, h1, fun h0 => absurd h0 (hk k rfl), fun _ => ⟨rfl, rfl, rfl, rfl, rfl, rfl⟩⟩
  | ok m =>
    obtain ⟨A, ca, C, cc, e, ha, hc⟩ := h3 m rfl
    exact ⟨m, A, ca, C, cc, 0, e, ha, hc, h1, fun _ => rfl, fun h0 => absurd rfl h0⟩
set_option maxHeartbeats 16000000 in
set_option maxRecDepth 100000 in
theorem uparse_any (s : ByteArray) (w : World) (hs : s.size ≤ 1000000) (hG : GvS w) :
    Calls Tryz.prog 7 #[.string s] w (UriOut (uri11 s.data.toList) w) := by
  have hsl : s.data.toList.length = s.size := by simp
  obtain ⟨o, ho⟩ : ∃ o, uri11 s.data.toList = o := ⟨_, rfl⟩
  rw [ho]
  obtain ⟨h, q, asked, h1⟩ : ∃ a b c, Lib.cut s.data.toList [63] = (a, b, c) := ⟨_, _, _, rfl⟩
  obtain ⟨doc, sel, node, h2⟩ : ∃ a b c, Lib.cut h ssl11 = (a, b, c) := ⟨_, _, _, rfl⟩
  obtain ⟨u, x, d, ow, ok, h3⟩ : ∃ a b c d e, docK doc = ((a, b, c, d), e) := ⟨_, _, _, _, _, rfl⟩
  have hne := fun v (h : o = .ok v) => uri_ne (ho.trans h)
  rw [uri_steps h1 h2 h3, hsl] at ho
  have l1 := cut_le s.data.toList 63
  rw [h1] at l1
  have l2 := cut4_le h
  rw [h2] at l2
  have l3 := docK_le doc
  rw [h3] at l3
  simp only at l1 l2 l3
  have hk0 := OwnB.new0 w #[.string ⟨#[]⟩, .string ⟨#[]⟩, .string ⟨#[]⟩, .bool false, .slice none 0 0, .string ⟨#[]⟩, .slice none 0 0] 26
  have hb0 := (Below.refl w.heap.size w).alloc (Nat.le_refl _) (.cells #[.string ⟨#[]⟩, .string ⟨#[]⟩, .string ⟨#[]⟩, .bool false, .slice none 0 0, .string ⟨#[]⟩, .slice none 0 0] 26)
  have k1 := fun v (hb : Below w.heap.size w v) => ucut_any s h q doc sel u x d asked node ow ok h1 h2 h3 v hs (hG.next hb)
  have k2 := fun v => document_any u x d ow node (mkT sel) (mkT q) v (by omega) (by omega) (by omega)
  have k3 := fun us dn (hu : u ∈ usg11) v (hb : Below w.heap.size w v) => uwithin_any (mkT u) (mkT x) (mkT d) (mkT u) (mkT us) (mkT dn) ow node sel q v (by rw [mkT_list]; exact hu) (by omega) (by omega) (hG.next hb)
  clear l1 l2 l3 h1 h2 h3 hsl hG
  by_cases h512 : 512 < s.size
  · rw [if_pos h512] at ho
    subst ho
    have i1 : (512 : Int) < s.size := by omega
    clear k1 k2 k3 hs hne
    go_enter Tryz.func7, Tryz.ntmps7
    go_upto_region 1 with fail
    generalize w.alloc (.cells #[.string ⟨#[]⟩, .string ⟨#[]⟩, .string ⟨#[]⟩, .bool false, .slice none 0 0, .string ⟨#[]⟩, .slice none 0 0] 26) = w0 at *
    have z0 := hk0.cell 0
    have zf0 := hk0.free 0
    have z1 := hk0.cell 1
    have zf1 := hk0.free 1
    have z2 := hk0.cell 2
    have zf2 := hk0.free 2
    have z3 := hk0.cell 3
    have zf3 := hk0.free 3
    have z4 := hk0.cell 4
    have zf4 := hk0.free 4
    have z5 := hk0.cell 5
    have zf5 := hk0.free 5
    have z6 := hk0.cell 6
    have zf6 := hk0.free 6
    simp only [List.getElem?_toArray, List.getElem?_cons_zero, List.getElem?_cons_succ] at z0 z1 z2 z3 z4 z5 z6
    go_wp2
    refine bodyPost_ret (results_cell2 rfl _ _ w.heap.size _ _ _ rfl (hk0.all7 _ _ _ _ _ _ _).blk Tryz.underlying26 rfl wh_info) rfl ?_
    exact UriOut.bad rfl ((((((((hb0.setCell (Nat.le_refl _) _).setCell (Nat.le_refl _) _).setCell (Nat.le_refl _) _).setCell (Nat.le_refl _) _).setCell (Nat.le_refl _) _).setCell (Nat.le_refl _) _).setCell (Nat.le_refl _) _))
  rw [if_neg h512] at ho
  have i1 : ¬ (512 : Int) < s.size := by omega
  obtain ⟨b, hb⟩ : ∃ b, (ok && (node || !asked)) = b := ⟨_, rfl⟩
  rw [hb] at ho k1
  cases b with
  | false =>
    rw [if_pos rfl] at ho
    subst ho
    have K1 := Lib.hid k1
    clear k1 k2 k3 hs hne hb
    go_enter Tryz.func7, Tryz.ntmps7
    go_upto_region 1 with fail
    generalize w.alloc (.cells #[.string ⟨#[]⟩, .string ⟨#[]⟩, .string ⟨#[]⟩, .bool false, .slice none 0 0, .string ⟨#[]⟩, .slice none 0 0] 26) = w0 at *
    go_wp2_with fail
    refine (K1.out _ hb0).mono ?_
    rintro e w1 ⟨rfl, hbx⟩
    have hk1 := (hk0.next hbx).alloc (.cells #[.string (mkT u), .string (mkT x), .string (mkT d), .bool ow, .bool node, .string (mkT sel), .string (mkT q)] 48)
    have hb1a := hb0.trans (hbx.mono hb0.size)
    have hb1 := hb1a.alloc hb1a.size (.cells #[.string (mkT u), .string (mkT x), .string (mkT d), .bool ow, .bool node, .string (mkT sel), .string (mkT q)] 48)
    clear hk0 hb0 hbx K1 hb1a
    go_upto_region 4 with fail
    generalize w1.alloc (.cells #[.string (mkT u), .string (mkT x), .string (mkT d), .bool ow, .bool node, .string (mkT sel), .string (mkT q)] 48) = w2 at *
    have hk2 := hk1
    have hb2 := hb1
    clear hk1 hb1
    have z0 := hk2.cell 0
    have zf0 := hk2.free 0
    have z1 := hk2.cell 1
    have zf1 := hk2.free 1
    have z2 := hk2.cell 2
    have zf2 := hk2.free 2
    have z3 := hk2.cell 3
    have zf3 := hk2.free 3
    have z4 := hk2.cell 4
    have zf4 := hk2.free 4
    have z5 := hk2.cell 5
    have zf5 := hk2.free 5
    have z6 := hk2.cell 6
    have zf6 := hk2.free 6
    simp only [List.getElem?_toArray, List.getElem?_cons_zero, List.getElem?_cons_succ] at z0 z1 z2 z3 z4 z5 z6
    go_wp2
    refine bodyPost_ret (results_cell2 rfl _ _ w.heap.size _ _ _ rfl (hk2.all7 _ _ _ _ _ _ _).blk Tryz.underlying26 rfl wh_info) rfl ?_
    exact UriOut.bad rfl ((((((((hb2.setCell (Nat.le_refl _) _).setCell (Nat.le_refl _) _).setCell (Nat.le_refl _) _).setCell (Nat.le_refl _) _).setCell (Nat.le_refl _) _).setCell (Nat.le_refl _) _).setCell (Nat.le_refl _) _))
  | true =>
    rw [if_neg (by decide)] at ho
    obtain ⟨r, hr⟩ : ∃ r, docE u x d ow = r := ⟨_, rfl⟩
    rw [hr] at ho k2
    have hnz := fun k (h : r = .error k) => docE_nz (hr.trans h)
    have hin := fun us dn (h : r = .ok (us, dn)) => docE_ok (hr.trans h)
    have K1 := Lib.hid k1
    have K2 := Lib.hid k2
    have HNE := Lib.hid hne
    clear k1 k2 hs hb hr hne
    cases r with
    | error k =>
      simp only at ho
      subst ho
      have hk0' := hnz k rfl
      have hkb : (k == 0) = false := by simpa using hk0'
      clear hnz hin k3 HNE
      go_enter Tryz.func7, Tryz.ntmps7
      go_upto_region 1 with fail
      generalize w.alloc (.cells #[.string ⟨#[]⟩, .string ⟨#[]⟩, .string ⟨#[]⟩, .bool false, .slice none 0 0, .string ⟨#[]⟩, .slice none 0 0] 26) = w0 at *
      go_wp2_with fail
      refine (K1.out _ hb0).mono ?_
      rintro e w1 ⟨rfl, hbx⟩
      have hk1 := (hk0.next hbx).alloc (.cells #[.string (mkT u), .string (mkT x), .string (mkT d), .bool ow, .bool node, .string (mkT sel), .string (mkT q)] 48)
      have hb1a := hb0.trans (hbx.mono hb0.size)
      have hp1 := OwnB.new #[.string (mkT u), .string (mkT x), .string (mkT d), .bool ow, .bool node, .string (mkT sel), .string (mkT q)] 48 hb1a
      have hb1 := hb1a.alloc hb1a.size (.cells #[.string (mkT u), .string (mkT x), .string (mkT d), .bool ow, .bool node, .string (mkT sel), .string (mkT q)] 48)
      clear hk0 hb0 hbx K1 hb1a
      go_upto_region 4 with fail
      generalize w1.alloc (.cells #[.string (mkT u), .string (mkT x), .string (mkT d), .bool ow, .bool node, .string (mkT sel), .string (mkT q)] 48) = w2 at *
      generalize w1.heap.size = gp at *
      have hk2 := hk1
      have hb2 := hb1
      have hp2 := hp1
      clear hk1 hb1 hp1
      have q0 := hp2.cell 0
      have q1 := hp2.cell 1
      have q2 := hp2.cell 2
      have q3 := hp2.cell 3
      have q4 := hp2.cell 4
      have q5 := hp2.cell 5
      have q6 := hp2.cell 6
      simp only [List.getElem?_toArray, List.getElem?_cons_zero, List.getElem?_cons_succ] at q0 q1 q2 q3 q4 q5 q6
      go_wp2_with fail
      refine (K2.out _).mono ?_
      rintro e w3 ⟨hbx, he, -⟩
      obtain rfl := he k rfl
      have hk3 := (hk2.next hbx).alloc (.cells #[.string ⟨#[]⟩, .string ⟨#[]⟩, .string ⟨#[]⟩, .bool false, .slice none 0 0, .string ⟨#[]⟩, .slice none 0 0] 26)
      have hp3 := (hp2.next hbx).alloc (.cells #[.string ⟨#[]⟩, .string ⟨#[]⟩, .string ⟨#[]⟩, .bool false, .slice none 0 0, .string ⟨#[]⟩, .slice none 0 0] 26)
      have hb3a := hb2.trans (hbx.mono hb2.size)
      have hd3 := OwnB.new #[.string ⟨#[]⟩, .string ⟨#[]⟩, .string ⟨#[]⟩, .bool false, .slice none 0 0, .string ⟨#[]⟩, .slice none 0 0] 26 hb3a
      have hb3 := hb3a.alloc hb3a.size (.cells #[.string ⟨#[]⟩, .string ⟨#[]⟩, .string ⟨#[]⟩, .bool false, .slice none 0 0, .string ⟨#[]⟩, .slice none 0 0] 26)
      clear hk2 hp2 hb2 hbx K2 hb3a he q0 q1 q2 q3 q4 q5 q6
      go_upto_region 7 with fail
      generalize w3.alloc (.cells #[.string ⟨#[]⟩, .string ⟨#[]⟩, .string ⟨#[]⟩, .bool false, .slice none 0 0, .string ⟨#[]⟩, .slice none 0 0] 26) = w4 at *
      generalize w3.heap.size = gd at *
      have hk4 := hk3
      have hb4 := hb3
      have hd4 := hd3
      have hp4 := hp3
      clear hk3 hb3 hd3 hp3
      have y0 := hd4.cell 0
      have y1 := hd4.cell 1
      have y2 := hd4.cell 2
      have y3 := hd4.cell 3
      have y4 := hd4.cell 4
      have y5 := hd4.cell 5
      have y6 := hd4.cell 6
      simp only [List.getElem?_toArray, List.getElem?_cons_zero, List.getElem?_cons_succ] at y0 y1 y2 y3 y4 y5 y6
      have z0 := hk4.cell 0
      have zf0 := hk4.free 0
      have z1 := hk4.cell 1
      have zf1 := hk4.free 1
      have z2 := hk4.cell 2
      have zf2 := hk4.free 2
      have z3 := hk4.cell 3
      have zf3 := hk4.free 3
      have z4 := hk4.cell 4
      have zf4 := hk4.free 4
      have z5 := hk4.cell 5
      have zf5 := hk4.free 5
      have z6 := hk4.cell 6
      have zf6 := hk4.free 6
      simp only [List.getElem?_toArray, List.getElem?_cons_zero, List.getElem?_cons_succ] at z0 z1 z2 z3 z4 z5 z6
      go_wp2
      refine bodyPost_ret (results_cell2 rfl _ _ w.heap.size _ _ _ rfl (hk4.all7 _ _ _ _ _ _ _).blk Tryz.underlying26 rfl wh_info) rfl ?_
      exact UriOut.bad rfl ((((((((hb4.setCell (Nat.le_refl _) _).setCell (Nat.le_refl _) _).setCell (Nat.le_refl _) _).setCell (Nat.le_refl _) _).setCell (Nat.le_refl _) _).setCell (Nat.le_refl _) _).setCell (Nat.le_refl _) _))
    | ok y =>
      obtain ⟨us, dn⟩ := y
      have hu := hin us dn rfl
      simp only at ho
      have K3 := Lib.hid (k3 us dn hu)
      clear hnz hin k3 hu
      cases node with
      | false =>
        rw [if_pos rfl] at ho
        subst ho
        clear K3 HNE
        go_enter Tryz.func7, Tryz.ntmps7
        go_upto_region 1 with fail
        generalize w.alloc (.cells #[.string ⟨#[]⟩, .string ⟨#[]⟩, .string ⟨#[]⟩, .bool false, .slice none 0 0, .string ⟨#[]⟩, .slice none 0 0] 26) = w0 at *
        go_wp2_with fail
        refine (K1.out _ hb0).mono ?_
        rintro e w1 ⟨rfl, hbx⟩
        have hk1 := (hk0.next hbx).alloc (.cells #[.string (mkT u), .string (mkT x), .string (mkT d), .bool ow, .bool false, .string (mkT sel), .string (mkT q)] 48)
        have hb1a := hb0.trans (hbx.mono hb0.size)
        have hp1 := OwnB.new #[.string (mkT u), .string (mkT x), .string (mkT d), .bool ow, .bool false, .string (mkT sel), .string (mkT q)] 48 hb1a
        have hb1 := hb1a.alloc hb1a.size (.cells #[.string (mkT u), .string (mkT x), .string (mkT d), .bool ow, .bool false, .string (mkT sel), .string (mkT q)] 48)
        clear hk0 hb0 hbx K1 hb1a
        go_upto_region 4 with fail
        generalize w1.alloc (.cells #[.string (mkT u), .string (mkT x), .string (mkT d), .bool ow, .bool false, .string (mkT sel), .string (mkT q)] 48) = w2 at *
        generalize w1.heap.size = gp at *
        have hk2 := hk1
        have hb2 := hb1
        have hp2 := hp1
        clear hk1 hb1 hp1
        have q0 := hp2.cell 0
        have q1 := hp2.cell 1
        have q2 := hp2.cell 2
        have q3 := hp2.cell 3
        have q4 := hp2.cell 4
        have q5 := hp2.cell 5
        have q6 := hp2.cell 6
        simp only [List.getElem?_toArray, List.getElem?_cons_zero, List.getElem?_cons_succ] at q0 q1 q2 q3 q4 q5 q6
        go_wp2_with fail
        refine (K2.out _).mono ?_
        rintro e w3 ⟨hbx, -, he⟩
        obtain rfl := he us dn rfl
        have hk3 := (hk2.next hbx).alloc (.cells #[.string (mkT u), .string (mkT us), .string (mkT dn), .bool false, .slice none 0 0, .string ⟨#[]⟩, .slice none 0 0] 26)
        have hp3 := (hp2.next hbx).alloc (.cells #[.string (mkT u), .string (mkT us), .string (mkT dn), .bool false, .slice none 0 0, .string ⟨#[]⟩, .slice none 0 0] 26)
        have hb3a := hb2.trans (hbx.mono hb2.size)
        have hd3 := OwnB.new #[.string (mkT u), .string (mkT us), .string (mkT dn), .bool false, .slice none 0 0, .string ⟨#[]⟩, .slice none 0 0] 26 hb3a
        have hb3 := hb3a.alloc hb3a.size (.cells #[.string (mkT u), .string (mkT us), .string (mkT dn), .bool false, .slice none 0 0, .string ⟨#[]⟩, .slice none 0 0] 26)
        clear hk2 hp2 hb2 hbx K2 hb3a he q0 q1 q2 q3 q4 q5 q6
        go_upto_region 7 with fail
        generalize w3.alloc (.cells #[.string (mkT u), .string (mkT us), .string (mkT dn), .bool false, .slice none 0 0, .string ⟨#[]⟩, .slice none 0 0] 26) = w4 at *
        generalize w3.heap.size = gd at *
        have hk4 := hk3
        have hb4 := hb3
        have hd4 := hd3
        have hp4 := hp3
        clear hk3 hb3 hd3 hp3
        have q4 : w4.cell? ⟨gp, 4, none⟩ = some (.bool false) := hp4.cell 4
        have y0 := hd4.cell 0
        have y1 := hd4.cell 1
        have y2 := hd4.cell 2
        have y3 := hd4.cell 3
        have y4 := hd4.cell 4
        have y5 := hd4.cell 5
        have y6 := hd4.cell 6
        simp only [List.getElem?_toArray, List.getElem?_cons_zero, List.getElem?_cons_succ] at y0 y1 y2 y3 y4 y5 y6
        have z0 := hk4.cell 0
        have zf0 := hk4.free 0
        have z1 := hk4.cell 1
        have zf1 := hk4.free 1
        have z2 := hk4.cell 2
        have zf2 := hk4.free 2
        have z3 := hk4.cell 3
        have zf3 := hk4.free 3
        have z4 := hk4.cell 4
        have zf4 := hk4.free 4
        have z5 := hk4.cell 5
        have zf5 := hk4.free 5
        have z6 := hk4.cell 6
        have zf6 := hk4.free 6
        simp only [List.getElem?_toArray, List.getElem?_cons_zero, List.getElem?_cons_succ] at z0 z1 z2 z3 z4 z5 z6
        go_wp2
        refine bodyPost_ret (results_cell2 rfl _ _ w.heap.size _ _ _ rfl (hk4.all7 _ _ _ _ _ _ _).blk Tryz.underlying26 rfl wh_info) rfl ?_
        exact UriOut.good (v := ⟨mkT u, mkT us, mkT dn, false, [], sE, []⟩) rfl ((((((((hb4.setCell (Nat.le_refl _) _).setCell (Nat.le_refl _) _).setCell (Nat.le_refl _) _).setCell (Nat.le_refl _) _).setCell (Nat.le_refl _) _).setCell (Nat.le_refl _) _).setCell (Nat.le_refl _) _)) (Sl.nil _ 9 _) (Sl2.nil _ _)
      | true =>
        rw [if_neg (by decide)] at ho
        rw [ho] at K3
        have HNZ : Hid (∀ k, o = .error k → k ≠ 0) := Lib.hid fun k hk => wit_nz (ho.trans hk)
        clear ho
        go_enter Tryz.func7, Tryz.ntmps7
        go_upto_region 1 with fail
        generalize w.alloc (.cells #[.string ⟨#[]⟩, .string ⟨#[]⟩, .string ⟨#[]⟩, .bool false, .slice none 0 0, .string ⟨#[]⟩, .slice none 0 0] 26) = w0 at *
        go_wp2_with fail
        refine (K1.out _ hb0).mono ?_
        rintro e w1 ⟨rfl, hbx⟩
        have hk1 := (hk0.next hbx).alloc (.cells #[.string (mkT u), .string (mkT x), .string (mkT d), .bool ow, .bool true, .string (mkT sel), .string (mkT q)] 48)
        have hb1a := hb0.trans (hbx.mono hb0.size)
        have hp1 := OwnB.new #[.string (mkT u), .string (mkT x), .string (mkT d), .bool ow, .bool true, .string (mkT sel), .string (mkT q)] 48 hb1a
        have hb1 := hb1a.alloc hb1a.size (.cells #[.string (mkT u), .string (mkT x), .string (mkT d), .bool ow, .bool true, .string (mkT sel), .string (mkT q)] 48)
        clear hk0 hb0 hbx K1 hb1a
        go_upto_region 4 with fail
        generalize w1.alloc (.cells #[.string (mkT u), .string (mkT x), .string (mkT d), .bool ow, .bool true, .string (mkT sel), .string (mkT q)] 48) = w2 at *
        generalize w1.heap.size = gp at *
        have hk2 := hk1
        have hb2 := hb1
        have hp2 := hp1
        clear hk1 hb1 hp1
        have q0 := hp2.cell 0
        have q1 := hp2.cell 1
        have q2 := hp2.cell 2
        have q3 := hp2.cell 3
        have q4 := hp2.cell 4
        have q5 := hp2.cell 5
        have q6 := hp2.cell 6
        simp only [List.getElem?_toArray, List.getElem?_cons_zero, List.getElem?_cons_succ] at q0 q1 q2 q3 q4 q5 q6
        go_wp2_with fail
        refine (K2.out _).mono ?_
        rintro e w3 ⟨hbx, -, he⟩
        obtain rfl := he us dn rfl
        have hk3 := (hk2.next hbx).alloc (.cells #[.string (mkT u), .string (mkT us), .string (mkT dn), .bool false, .slice none 0 0, .string ⟨#[]⟩, .slice none 0 0] 26)
        have hp3 := (hp2.next hbx).alloc (.cells #[.string (mkT u), .string (mkT us), .string (mkT dn), .bool false, .slice none 0 0, .string ⟨#[]⟩, .slice none 0 0] 26)
        have hb3a := hb2.trans (hbx.mono hb2.size)
        have hd3 := OwnB.new #[.string (mkT u), .string (mkT us), .string (mkT dn), .bool false, .slice none 0 0, .string ⟨#[]⟩, .slice none 0 0] 26 hb3a
        have hb3 := hb3a.alloc hb3a.size (.cells #[.string (mkT u), .string (mkT us), .string (mkT dn), .bool false, .slice none 0 0, .string ⟨#[]⟩, .slice none 0 0] 26)
        clear hk2 hp2 hb2 hbx K2 hb3a he q0 q1 q2 q3 q4 q5 q6
        go_upto_region 7 with fail
        generalize w3.alloc (.cells #[.string (mkT u), .string (mkT us), .string (mkT dn), .bool false, .slice none 0 0, .string ⟨#[]⟩, .slice none 0 0] 26) = w4 at *
        generalize w3.heap.size = gd at *
        have hk4 := hk3
        have hb4 := hb3
        have hd4 := hd3
        have hp4 := hp3
        clear hk3 hb3 hd3 hp3
        have q0 := hp4.cell 0
        have q1 := hp4.cell 1
        have q2 := hp4.cell 2
        have q3 := hp4.cell 3
        have q4 := hp4.cell 4
        have q5 := hp4.cell 5
        have q6 := hp4.cell 6
        simp only [List.getElem?_toArray, List.getElem?_cons_zero, List.getElem?_cons_succ] at q0 q1 q2 q3 q4 q5 q6
        have y0 := hd4.cell 0
        have y1 := hd4.cell 1
        have y2 := hd4.cell 2
        have y3 := hd4.cell 3
        have y4 := hd4.cell 4
        have y5 := hd4.cell 5
        have y6 := hd4.cell 6
        simp only [List.getElem?_toArray, List.getElem?_cons_zero, List.getElem?_cons_succ] at y0 y1 y2 y3 y4 y5 y6
        go_wp2_with fail
        refine (K3.out _ hb4).mono ?_
        rintro e w5 huo
        obtain ⟨v, A, ca, C, cc, k, rfl, hA, hC, hbx, hv0, hv1⟩ := huo.form HNZ.out
        have hk5 := hk4.next hbx
        have hb5 := hb4.trans (hbx.mono hb4.size)
        have ha1 := sl9_ne hA hk5 (noint7 _ _ _ _ _ _ _ (by simp) (by simp) (by simp) (by simp) (by simp) (by simp) (by simp))
        have hc1 : Aw C v.binds.length w.heap.size := by
          by_cases hkz : k = 0
          · exact sl2_ne hC hk5 (empty7 _ _ _) (HNE.out v (hv0 hkz))
          · obtain ⟨_, rfl, _⟩ := hv1 hkz
            exact .inl rfl
        have HA := Lib.hid hA
        have HC := Lib.hid hC
        have HV0 := Lib.hid hv0
        have HV1 := Lib.hid hv1
        unfold whV
        clear hk4 hp4 hd4 hb4 hbx huo hA hC hv0 hv1 K3 HNZ HNE q0 q1 q2 q3 q4 q5 q6 y0 y1 y2 y3 y4 y5 y6
        have z0 := hk5.cell 0
        have zf0 := hk5.free 0
        have z1 := hk5.cell 1
        have zf1 := hk5.free 1
        have z2 := hk5.cell 2
        have zf2 := hk5.free 2
        have z3 := hk5.cell 3
        have zf3 := hk5.free 3
        have z4 := hk5.cell 4
        have zf4 := hk5.free 4
        have z5 := hk5.cell 5
        have zf5 := hk5.free 5
        have z6 := hk5.cell 6
        have zf6 := hk5.free 6
        simp only [List.getElem?_toArray, List.getElem?_cons_zero, List.getElem?_cons_succ] at z0 z1 z2 z3 z4 z5 z6
        go_wp2
        refine bodyPost_ret (results_cell2 rfl _ _ w.heap.size _ _ _ rfl (hk5.all7 _ _ _ _ _ _ _).blk Tryz.underlying26 rfl wh_info) rfl ?_
        have hA5 := Sl9.aw7 (A := A) (l := v.steps) HA.out ha1 (.string v.usage) (.string v.user) (.string v.doc) (.bool v.node) (.slice A v.steps.length ca) (.string v.raw) (.slice C v.binds.length cc)
        have hC5 := Sl2.aw7 (A := C) (l := v.binds) HC.out hc1 (.string v.usage) (.string v.user) (.string v.doc) (.bool v.node) (.slice A v.steps.length ca) (.string v.raw) (.slice C v.binds.length cc)
        by_cases hkz : k = 0
        · subst hkz
          exact UriOut.good (HV0.out rfl) ((((((((hb5.setCell (Nat.le_refl _) _).setCell (Nat.le_refl _) _).setCell (Nat.le_refl _) _).setCell (Nat.le_refl _) _).setCell (Nat.le_refl _) _).setCell (Nat.le_refl _) _).setCell (Nat.le_refl _) _)) hA5 hC5
        · obtain ⟨he, rfl, rfl, rfl, rfl, rfl⟩ := HV1.out hkz
          exact UriOut.bad he ((((((((hb5.setCell (Nat.le_refl _) _).setCell (Nat.le_refl _) _).setCell (Nat.le_refl _) _).setCell (Nat.le_refl _) _).setCell (Nat.le_refl _) _).setCell (Nat.le_refl _) _).setCell (Nat.le_refl _) _))
end Go.Proofs.YtbdamneophbnnaaGreatDoor
