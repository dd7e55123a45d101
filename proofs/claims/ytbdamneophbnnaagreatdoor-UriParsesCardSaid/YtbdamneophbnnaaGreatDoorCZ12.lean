/- UcA UcB UcC UcD SdC. -/
import Derived.Test.YtbdamneophbnnaaGreatDoorCZ11
namespace Wb
theorem usg_in (u : ByteArray) : (u.data.toList ∈ usg11) ↔ u = ⟨#[114, 101, 115, 111, 117, 114, 99, 101, 45, 108, 105, 115, 116, 115]⟩ ∨ u = ⟨#[114, 108, 115, 45, 115, 101, 114, 118, 105, 99, 101, 115]⟩ ∨ u = ⟨#[112, 114, 101, 115, 45, 114, 117, 108, 101, 115]⟩ ∨ u = ⟨#[120, 99, 97, 112, 45, 99, 97, 112, 115]⟩ := by
  have h : ∀ x : Array UInt8, u.data.toList = x.toList ↔ u = ⟨x⟩ := fun x => ⟨fun e => by
    have : u.data = x := Array.toList_inj.1 e
    rw [← this], fun e => by rw [e]⟩
  rw [← h, ← h, ← h, ← h]
  simp [usg11]
end Wb
namespace Go.Proofs.YtbdamneophbnnaaGreatDoor
open Go.RowKit Wb
set_option maxHeartbeats 4000000 in
set_option maxRecDepth 100000 in
theorem rspace_any (u : ByteArray) (w : World) (hs : u.size ≤ 1000000000) :
    Calls Tryz.prog 11 #[.string u] w fun e w' => e = .returned (.string ⟨(spc11 u.data.toList).toArray⟩) ∧ w = w' := by
  obtain ⟨o, ho⟩ : ∃ o : ByteArray, ⟨(spc11 u.data.toList).toArray⟩ = o := ⟨_, rfl⟩
  rw [ho]
  unfold spc11 at ho
  by_cases h : u.data.toList ∈ usg11
  · rw [if_pos h] at ho
    have h2 := (usg_in u).1 h
    rcases h2 with rfl | rfl | rfl | rfl
    all_goals
      subst ho
      go_enter Tryz.func11, Tryz.ntmps11
      go_wp2
      go_ret
      exact ⟨by rfl, rfl⟩
  · rw [if_neg h] at ho
    subst ho
    rw [usg_in] at h
    have h1 : ¬ u = ⟨#[114, 101, 115, 111, 117, 114, 99, 101, 45, 108, 105, 115, 116, 115]⟩ := fun e => h (.inl e)
    have b1 : (u.toList == [114, 101, 115, 111, 117, 114, 99, 101, 45, 108, 105, 115, 116, 115]) = false := (lit_of u _ _ rfl).trans (eqT_false.2 h1)
    have h2 : ¬ u = ⟨#[114, 108, 115, 45, 115, 101, 114, 118, 105, 99, 101, 115]⟩ := fun e => h (.inr (.inl e))
    have b2 : (u.toList == [114, 108, 115, 45, 115, 101, 114, 118, 105, 99, 101, 115]) = false := (lit_of u _ _ rfl).trans (eqT_false.2 h2)
    have h3 : ¬ u = ⟨#[112, 114, 101, 115, 45, 114, 117, 108, 101, 115]⟩ := fun e => h (.inr (.inr (.inl e)))
    have b3 : (u.toList == [112, 114, 101, 115, 45, 114, 117, 108, 101, 115]) = false := (lit_of u _ _ rfl).trans (eqT_false.2 h3)
    have h4 : ¬ u = ⟨#[120, 99, 97, 112, 45, 99, 97, 112, 115]⟩ := fun e => h (.inr (.inr (.inr e)))
    have b4 : (u.toList == [120, 99, 97, 112, 45, 99, 97, 112, 115]) = false := (lit_of u _ _ rfl).trans (eqT_false.2 h4)
    clear h
    go_enter Tryz.func11, Tryz.ntmps11
    go_wp2
    go_ret
    exact ⟨rfl, rfl⟩
end Go.Proofs.YtbdamneophbnnaaGreatDoor
namespace Go.Proofs.YtbdamneophbnnaaGreatDoor
open Go.RowKit Wb
set_option maxHeartbeats 4000000 in
set_option maxRecDepth 100000 in
theorem rsame11_eq (u us d r : ByteArray) (nd : Bool) (A B C D : Option Addr) (l : List StV) (m : List Pr) (ca cb cc cd : Nat) (w : World) (hA : Sl9 w A l) (hB : Sl9 w B l) (hC : Sl2 w C m) (hD : Sl2 w D m) (hl : l.length ≤ 1000000) (hm : m.length ≤ 1000000) :
    Calls Tryz.prog 9 #[.agg #[.string u, .string us, .string d, .bool nd, .slice A l.length ca, .string r, .slice C m.length cc], .agg #[.string u, .string us, .string d, .bool nd, .slice B l.length cb, .string r, .slice D m.length cd]] w fun e w' => e = .returned (.bool true) ∧ Below w.heap.size w w' := by
  have HA := Lib.hid hA
  have HB := Lib.hid hB
  have HC := Lib.hid hC
  have HD := Lib.hid hD
  clear hA hB hC hD
  go_enter Tryz.func9, Tryz.ntmps9
  go_wp2_with fail
  refine (rssame_eq A B l ca cb _ ((HA.out.alloc _).alloc _) ((HB.out.alloc _).alloc _) hl).mono ?_
  rintro e w2 ⟨rfl, hb⟩
  have g1 := kept_block (below_alloc_trans hb)
  have g2 := kept_block hb
  have sz : ∀ o : Obj, (w.alloc o).heap.size = w.heap.size + 1 := fun o => by simp
  rw [sz] at g2
  have k1 : w2.cell? ⟨w.heap.size, 6, none⟩ = some (.slice C m.length cc) := blk_cell g1 6
  have k2 : w2.cell? ⟨w.heap.size + 1, 6, none⟩ = some (.slice D m.length cd) := blk_cell g2 6
  have HW := Lib.hid hb
  clear hb g1 g2
  go_wp2_with fail
  refine (binds_same C D m cc cd _ hm (((HC.out.alloc _).alloc _).below HW.out) (((HD.out.alloc _).alloc _).below HW.out)).mono ?_
  rintro e w3 ⟨rfl, hb⟩
  have HV := Lib.hid hb
  clear hb
  go_wp2
  go_ret
  exact ⟨rfl, below_alloc_trans (below_alloc_trans (HW.out.trans (HV.out.mono HW.out.size)))⟩
end Go.Proofs.YtbdamneophbnnaaGreatDoor
namespace Wb
theorem join_glob (u d : List UInt8) : joinB 47 (pcs11 u [] d) = (47 :: u) ++ [47, 103, 108, 111, 98, 97, 108, 47] ++ pctE [] d := by
  simp [pcs11, joinB, sGlob]
theorem join_user (u us d : List UInt8) (h : us ≠ []) : joinB 47 (pcs11 u us d) = (47 :: u) ++ [47, 117, 115, 101, 114, 115, 47] ++ pctE [] us ++ [47] ++ pctE [] d := by
  simp [pcs11, h, joinB, sUsers]
theorem prt_usage {w : WhV} (h : w.usage.data.toList ∉ usg11) : prt11 w = .error 34 := by
  unfold prt11
  rw [if_pos h]
theorem prt_bad {w : WhV} (h : w.usage.data.toList ∈ usg11) (h2 : bad11 w.user.data.toList w.doc.data.toList = true) : prt11 w = .error 4 := by
  unfold prt11
  rw [if_neg (fun x => x h), if_pos h2]
theorem prt_bare {w : WhV} (h : w.usage.data.toList ∈ usg11) (h2 : bad11 w.user.data.toList w.doc.data.toList = false) (h3 : w.node = false) : prt11 w = fin11 (joinB 47 (pcs11 w.usage.data.toList w.user.data.toList w.doc.data.toList)) := by
  unfold prt11
  rw [if_neg (fun x => x h), if_neg (by rw [h2]; decide), if_neg (by rw [h3]; decide)]
theorem prt_err {w : WhV} {e : Int} (h : w.usage.data.toList ∈ usg11) (h2 : bad11 w.user.data.toList w.doc.data.toList = false) (h3 : w.node = true) (h4 : printS ⟨(spc11 w.usage.data.toList).toArray⟩ w.steps = .error e) : prt11 w = .error e := by
  unfold prt11
  rw [if_neg (fun x => x h), if_neg (by rw [h2]; decide), if_pos h3, h4]
theorem prt_node {w : WhV} {t q : List UInt8} (h : w.usage.data.toList ∈ usg11) (h2 : bad11 w.user.data.toList w.doc.data.toList = false) (h3 : w.node = true) (h4 : printS ⟨(spc11 w.usage.data.toList).toArray⟩ w.steps = .ok (t, q)) :
    prt11 w = fin11 (joinB 47 (pcs11 w.usage.data.toList w.user.data.toList w.doc.data.toList) ++ ssl11 ++ t ++ (if q = [] then [] else 63 :: q)) := by
  unfold prt11
  rw [if_neg (fun x => x h), if_neg (by rw [h2]; decide), if_pos h3, h4]
theorem spc_nil {u : List UInt8} : spc11 u = [] ↔ u ∉ usg11 := by
  unfold spc11
  by_cases h : u ∈ usg11
  · rw [if_pos h]
    exact ⟨fun e => by simp [nsP11] at e, fun x => absurd h x⟩
  · rw [if_neg h]
    exact ⟨fun _ => h, fun _ => rfl⟩
end Wb
namespace Go.Proofs.YtbdamneophbnnaaGreatDoor
open Go.RowKit Wb
def P11V (o : Except Int (List UInt8)) : Value :=
  match o with
  | .ok s => .tuple #[.string ⟨s.toArray⟩, .int .i64 0]
  | .error k => .tuple #[.string ⟨#[]⟩, .int .i64 k]
def P11Out (o : Except Int (List UInt8)) (w : World) (e : Ending) (w' : World) : Prop := e = .returned (P11V o) ∧ Below w.heap.size w w'
theorem P11Out.bad {o : Except Int (List UInt8)} {k : Int} {w w' : World} (h : o = .error k) (hb : Below w.heap.size w w') : P11Out o w (.returned (.tuple #[.string ⟨#[]⟩, .int .i64 k])) w' := by
  subst h
  exact ⟨rfl, hb⟩
end Go.Proofs.YtbdamneophbnnaaGreatDoor
namespace Wb
theorem preS_nz {s : ByteArray} {l : List ByteArray} {k : Int} (h : preS s l = .error k) : k ≠ 0 := by
  unfold preS at h
  split at h
  · cases h
  · split at h
    · injection h with h; omega
    · split at h
      · injection h with h; omega
      · cases h
theorem preS_len {s : ByteArray} {l l' : List ByteArray} {t : List UInt8} (h : preS s l = .ok (t, l')) (hl : l.length ≤ 16) : t.length ≤ 8 := by
  unfold preS at h
  split at h
  · rename_i hh
    have hi := idxB_lt ((hasB_iff _ _).1 hh)
    injection h with h
    injection h with h _
    rw [← h]
    exact Nat.le_trans (num_len ⟨idxB s l, by omega⟩) (by omega)
  · split at h
    · cases h
    · split at h
      · cases h
      · injection h with h
        injection h with h _
        rw [← h]
        exact Nat.le_trans (num_len ⟨l.length, by omega⟩) (by omega)
def attrN (n : Pr) (l : List ByteArray) : Except Int (List UInt8 × List ByteArray) :=
  match nameT n sE l with
  | .error e => .error e
  | .ok (t, l') => .ok (64 :: t, l')
theorem nameT_spB {n : Pr} {plain : ByteArray} {l l' : List ByteArray} {t : List UInt8} (h : nameT n plain l = .ok (t, l')) (hl : SpB l) : SpB l' := by
  obtain ⟨hn, ⟨_, _, rfl⟩ | ⟨_, _, _, rfl⟩ | ⟨h1, h2, _, _, _, _⟩⟩ := nameT_cases h
  · exact hl
  · exact hl
  · rw [nameT_pre hl hn h1 h2] at h
    cases hp : preS n.1 l with
    | error e => rw [hp] at h; cases h
    | ok x =>
      obtain ⟨t', l2⟩ := x
      rw [hp] at h
      injection h with h
      injection h with _ h
      rw [← h]
      exact preS_spB hp hl
end Wb
namespace Go.Proofs.YtbdamneophbnnaaGreatDoor
open Go.RowKit Wb
set_option maxHeartbeats 8000000 in
set_option maxRecDepth 100000 in
theorem sname_any (base g : Nat) (space n1 n2 plain : ByteArray) (sp : List ByteArray) (T : Nat → Prop) (w : World) (hP : PAt base g space sp T w) (hT : ∀ k, T k → k < w.heap.size ∧ k ≠ g) (hsp : SpB sp) (h1 : n1.size ≤ 1000000) (h2 : n2.size ≤ 1000000) :
    Calls Tryz.prog 127 #[.pointer (some ⟨g, 0, none⟩), .agg #[.string n1, .string n2], .string plain] w (PrOut (nameT (n1, n2) plain sp) base g space T w) := by
  obtain ⟨o, ho⟩ : ∃ o, nameT (n1, n2) plain sp = o := ⟨_, rfl⟩
  rw [ho]
  have hgl := hP.lt
  have hnm := fun v => name_any n2 v (by omega)
  have hk0 := OwnB.new0 w #[.string n1, .string n2] 44
  have hb0 := (Below.refl w.heap.size w).alloc (Nat.le_refl _) (.cells #[.string n1, .string n2] 44)
  have hP0 := hP.more (.cells #[.string n1, .string n2] 44)
  have hs0 : (w.alloc (.cells #[.string n1, .string n2] 44)).heap.size = w.heap.size + 1 := by simp
  have t1 : (n1.toList == plain.toList) = eqT n1 plain := rfl
  have t3 : (n1.toList == [104, 116, 116, 112, 58, 47, 47, 119, 119, 119, 46, 119, 51, 46, 111, 114, 103, 47, 88, 77, 76, 47, 49, 57, 57, 56, 47, 110, 97, 109, 101, 115, 112, 97, 99, 101]) = eqT n1 sXML := lit_of n1 sXML _ rfl
  have hbase : base ≤ w.heap.size := by omega
  have HGE := Lib.hid (show ∃ v, w.heap[g]? = some (.cells #[.string space, v] 122 (0, 0)) from by obtain ⟨v, h, _⟩ := hP; exact ⟨v, h⟩)
  cases hn : nameB n2.data.toList with
  | false =>
    rw [hn] at hnm
    have e : nameT (n1, n2) plain sp = .error 12 := by unfold nameT; rw [if_pos hn]
    obtain rfl := e.symm.trans ho
    clear ho hn t1 t3
    go_enter Tryz.func127, Tryz.ntmps127
    go_upto_region 1 with fail
    generalize w.alloc (.cells #[.string n1, .string n2] 44) = w0 at *
    have c1 : w0.cell? ⟨w.heap.size, 1, none⟩ = some (.string n2) := hk0.cell 1
    go_wp2_with fail
    refine (hnm _).mono ?_
    rintro e w1 ⟨rfl, hb1⟩
    have HB1 := Lib.hid (hb0.trans (hb1.mono hb0.size))
    clear hb1 hnm
    go_wp2
    go_ret2
    exact PrOut.bad (HB1.out.mono hbase) (KpT.of_below HB1.out) (by obtain ⟨v, h⟩ := HGE.out; exact ⟨v, still_block h HB1.out⟩)
  | true =>
    rw [hn] at hnm
    by_cases e1 : n1 = plain
    · have e : nameT (n1, n2) plain sp = .ok (n2.data.toList, sp) := by unfold nameT; rw [if_neg (by rw [hn]; decide), if_pos e1]
      obtain rfl := e.symm.trans ho
      have t1b : (n1.toList == plain.toList) = true := by rw [t1]; exact (eqT_iff _ _).2 e1
      clear ho hn t1 t3 e1 e
      go_enter Tryz.func127, Tryz.ntmps127
      go_upto_region 1 with fail
      generalize w.alloc (.cells #[.string n1, .string n2] 44) = w0 at *
      have c1 : w0.cell? ⟨w.heap.size, 1, none⟩ = some (.string n2) := hk0.cell 1
      go_wp2_with fail
      refine (hnm _).mono ?_
      rintro e w1 ⟨rfl, hb1⟩
      have HB1 := Lib.hid (hb0.trans (hb1.mono hb0.size))
      have c0 : w1.cell? ⟨w.heap.size, 0, none⟩ = some (.string n1) := (hk0.next hb1).cell 0
      have c1 : w1.cell? ⟨w.heap.size, 1, none⟩ = some (.string n2) := (hk0.next hb1).cell 1
      clear hb1 hnm
      go_wp2
      go_ret2
      have := PrOut.good (t := n2.data.toList) (HB1.out.mono hbase) (KpT.of_below (T := T) HB1.out) (hP.below HB1.out)
      rw [show mkT n2.data.toList = n2 from to_list n2] at this
      exact this
    · have t1b : (n1.toList == plain.toList) = false := by rw [t1]; exact eqT_false.2 e1
      by_cases e2 : n1 = sXML
      · have e : nameT (n1, n2) plain sp = .ok (sXmlK ++ n2.data.toList, sp) := by unfold nameT; rw [if_neg (by rw [hn]; decide), if_neg e1, if_pos e2]
        obtain rfl := e.symm.trans ho
        have t3b := t3.trans ((eqT_iff _ _).2 e2)
        have hx : (⟨#[120, 109, 108, 58]⟩ : ByteArray) ++ n2 = mkT (sXmlK ++ n2.data.toList) := by
          rw [← mkT_app, show mkT n2.data.toList = n2 from to_list n2]
          rfl
        have z1 : ¬ 9223372036854775807 < 4 + n2.size := by omega
        clear ho hn t1 t3 e1 e2 e
        go_enter Tryz.func127, Tryz.ntmps127
        go_upto_region 1 with fail
        generalize w.alloc (.cells #[.string n1, .string n2] 44) = w0 at *
        have c1 : w0.cell? ⟨w.heap.size, 1, none⟩ = some (.string n2) := hk0.cell 1
        go_wp2_with fail
        refine (hnm _).mono ?_
        rintro e w1 ⟨rfl, hb1⟩
        have HB1 := Lib.hid (hb0.trans (hb1.mono hb0.size))
        have c0 : w1.cell? ⟨w.heap.size, 0, none⟩ = some (.string n1) := (hk0.next hb1).cell 0
        have c1 : w1.cell? ⟨w.heap.size, 1, none⟩ = some (.string n2) := (hk0.next hb1).cell 1
        have HX := Lib.hid hx
        clear hb1 hnm hx
        go_wp2
        go_ret2
        have := PrOut.good (t := sXmlK ++ n2.data.toList) (HB1.out.mono hbase) (KpT.of_below (T := T) HB1.out) (hP.below HB1.out)
        rw [← HX.out] at this
        exact this
      · have t3b := t3.trans (eqT_false.2 e2)
        have e := nameT_pre (n := (n1, n2)) (plain := plain) hsp hn e1 e2
        rw [ho] at e
        have hlen := fun t l' (h : preS n1 sp = .ok (t, l')) => preS_len h hsp.1
        have hnz := fun k (h : preS n1 sp = .error k) => preS_nz h
        have hsp16 := hsp.1
        have hpre := fun v hp ht => sprefix_any base g space n1 sp (fun k => T k ∨ k = w.heap.size) v hp ht hsp16 h1
        obtain ⟨op, hop⟩ : ∃ op, preS n1 sp = op := ⟨_, rfl⟩
        rw [show preS (n1, n2).1 sp = op from hop] at e
        rw [hop] at hpre hlen hnz
        have HE := Lib.hid e
        have HPRE := Lib.hid hpre
        clear ho hn t1 t3 e1 e2 e hop hpre
        go_enter Tryz.func127, Tryz.ntmps127
        go_upto_region 1 with fail
        generalize w.alloc (.cells #[.string n1, .string n2] 44) = w0 at *
        have c1 : w0.cell? ⟨w.heap.size, 1, none⟩ = some (.string n2) := hk0.cell 1
        go_wp2_with fail
        refine (hnm _).mono ?_
        rintro e w1 ⟨rfl, hb1⟩
        have HB1 := Lib.hid (hb0.trans (hb1.mono hb0.size))
        have HK1 := Lib.hid (hk0.next hb1)
        have c0 : w1.cell? ⟨w.heap.size, 0, none⟩ = some (.string n1) := (hk0.next hb1).cell 0
        have c1 : w1.cell? ⟨w.heap.size, 1, none⟩ = some (.string n2) := (hk0.next hb1).cell 1
        have hP1 := hP0.below hb1
        have hs1 := hb1.size
        have hT1 : ∀ k, (T k ∨ k = w.heap.size) → k < w1.heap.size ∧ k ≠ g := fun k hk => by
          rcases hk with hk | rfl
          · have := hT k hk
            exact ⟨by omega, this.2⟩
          · exact ⟨by omega, by omega⟩
        clear hb1 hnm
        go_wp2_with fail
        refine (HPRE.out _ hP1 hT1).mono ?_
        rintro e w2 ⟨hb2, hkp2, hge2, herr, hok⟩
        have HB2 : Hid (Below base w w2) := Lib.hid ((HB1.out.mono hbase).trans hb2)
        have HK2 : Hid (KpT T w w2) := Lib.hid ((KpT.of_below HB1.out).trans HB1.out.size (hkp2.sub fun k hk => .inl hk))
        have HX2 : Hid (OwnB w.heap.size w w2 #[.string n1, .string n2] 44) := Lib.hid ⟨(hkp2 w.heap.size (by omega) (.inr rfl)).trans HK1.out.blk, Nat.le_refl _⟩
        clear hb2 hkp2 c0 c1 hP1 hT1 HPRE
        cases op with
        | error kk =>
          obtain rfl := herr kk rfl
          have hkn : (kk == 0) = false := by simpa using hnz kk rfl
          obtain rfl : .error kk = o := HE.out.symm
          clear herr hok hlen hnz
          go_wp2
          go_ret2
          exact PrOut.bad HB2.out HK2.out hge2
        | ok x =>
          obtain ⟨t, l'⟩ := x
          obtain ⟨rfl, hP2⟩ := hok t l' rfl
          have htl := hlen t l' rfl
          obtain rfl : .ok (t ++ 58 :: n2.data.toList, l') = o := HE.out.symm
          have hx : (mkT t ++ ⟨#[58]⟩) ++ n2 = mkT (t ++ 58 :: n2.data.toList) := by
            have e1 : n2 = mkT n2.data.toList := (to_list n2).symm
            conv => lhs; arg 2; rw [e1]
            rw [show (⟨#[58]⟩ : ByteArray) = mkT [58] from rfl, mkT_app, mkT_app]
            simp
          have c1 : w2.cell? ⟨w.heap.size, 1, none⟩ = some (.string n2) := HX2.out.cell 1
          have htz : (mkT t).size ≤ 8 := by rw [mkT_size]; exact htl
          have HPP := Lib.hid (hP2.sub (T' := T) fun k hk => .inl hk)
          have HX := Lib.hid hx
          clear herr hok hlen hnz hge2 hP2 htl hx HE
          generalize mkT t = P at *
          have z1 : ¬ 9223372036854775807 < P.size + 1 := by omega
          have z2 : ¬ 9223372036854775807 < P.size + 1 + n2.size := by omega
          go_wp2
          go_ret2
          have := PrOut.good (t := t ++ 58 :: n2.data.toList) HB2.out HK2.out HPP.out
          rw [← HX.out] at this
          exact this
set_option maxHeartbeats 4000000 in
set_option maxRecDepth 100000 in
theorem sattr_any (base g : Nat) (space n1 n2 : ByteArray) (sp : List ByteArray) (T : Nat → Prop) (w : World) (hP : PAt base g space sp T w) (hT : ∀ k, T k → k < w.heap.size ∧ k ≠ g) (hsp : SpB sp) (h1 : n1.size ≤ 1000000) (h2 : n2.size ≤ 1000000) :
    Calls Tryz.prog 105 #[.pointer (some ⟨g, 0, none⟩), .agg #[.string n1, .string n2]] w (PrOut (attrN (n1, n2) sp) base g space T w) := by
  have hgl := hP.lt
  have hbase : base ≤ w.heap.size := by omega
  have hk0 := OwnB.new0 w #[.string n1, .string n2] 44
  have hb0 := (Below.refl w.heap.size w).alloc (Nat.le_refl _) (.cells #[.string n1, .string n2] 44)
  have hnm := sname_any base g space n1 n2 sE sp T _ (hP.below hb0) (fun k hk => by have := hT k hk; have := hb0.size; exact ⟨by omega, (hT k hk).2⟩) hsp h1 h2
  have hlen := fun t l' (h : nameT (n1, n2) sE sp = .ok (t, l')) => (nameT_len h hsp.1).1
  have hnz := fun k (h : nameT (n1, n2) sE sp = .error k) => nameT_nz h
  unfold attrN
  obtain ⟨op, hop⟩ : ∃ op, nameT (n1, n2) sE sp = op := ⟨_, rfl⟩
  rw [hop] at hnm hlen hnz ⊢
  clear hop
  go_enter Tryz.func105, Tryz.ntmps105
  go_upto_region 1 with fail
  generalize w.alloc (.cells #[.string n1, .string n2] 44) = w0 at *
  have c0 : w0.cell? ⟨w.heap.size, 0, none⟩ = some (.string n1) := hk0.cell 0
  have c1 : w0.cell? ⟨w.heap.size, 1, none⟩ = some (.string n2) := hk0.cell 1
  go_wp2_with fail
  refine hnm.mono ?_
  rintro e w2 ⟨hb2, hkp2, hge2, herr, hok⟩
  have HB2 : Hid (Below base w w2) := Lib.hid ((hb0.mono hbase).trans hb2)
  have HK2 : Hid (KpT T w w2) := Lib.hid ((KpT.of_below hb0).trans hb0.size hkp2)
  clear hb2 hkp2 c0 c1 hnm
  cases op with
  | error kk =>
    obtain rfl := herr kk rfl
    have hkn : (kk == 0) = false := by simpa using hnz kk rfl
    clear herr hok hlen hnz
    go_wp2
    go_ret2
    exact PrOut.bad HB2.out HK2.out hge2
  | ok x =>
    obtain ⟨t, l'⟩ := x
    obtain ⟨rfl, hP2⟩ := hok t l' rfl
    have htl := hlen t l' rfl
    have htz : (mkT t).size ≤ 1000008 := by rw [mkT_size]; omega
    have HX := Lib.hid (show (⟨#[64]⟩ : ByteArray) ++ mkT t = mkT (64 :: t) from by rw [show (⟨#[64]⟩ : ByteArray) = mkT [64] from rfl, mkT_app]; rfl)
    have HPP := Lib.hid hP2
    clear herr hok hlen hnz hge2 hP2 htl
    generalize mkT t = P at *
    have z1 : ¬ 9223372036854775807 < 1 + P.size := by omega
    go_wp2
    go_ret2
    have := PrOut.good (t := 64 :: t) HB2.out HK2.out HPP.out
    rw [← HX.out] at this
    exact this
end Go.Proofs.YtbdamneophbnnaaGreatDoor
