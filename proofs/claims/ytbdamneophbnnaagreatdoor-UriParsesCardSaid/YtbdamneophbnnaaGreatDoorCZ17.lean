/- UeC. -/
import Derived.Test.YtbdamneophbnnaaGreatDoorCZ32
import Derived.Test.YtbdamneophbnnaaGreatDoorCZ15
import Derived.Test.YtbdamneophbnnaaGreatDoorCZ16
namespace Wb
def docE (u x d : List UInt8) (ow : Bool) : Except Int (List UInt8 × List UInt8) :=
  if u ∉ usg11 then .error 34
  else if (decP x).2 ≠ 0 then .error (decP x).2
  else if (decP d).2 ≠ 0 then .error (decP d).2
  else if (ow && !nmU (decP x).1 || !nmU (decP d).1) = true then .error 4
  else .ok ((decP x).1, (decP d).1)
end Wb
namespace Go.Proofs.YtbdamneophbnnaaGreatDoor
open Go.RowKit Wb
def DocOut (u : List UInt8) (o : Except Int (List UInt8 × List UInt8)) (w : World) (e : Ending) (w' : World) : Prop :=
  Below w.heap.size w w' ∧ (∀ k, o = .error k → e = .returned (.tuple #[.agg #[.string ⟨#[]⟩, .string ⟨#[]⟩, .string ⟨#[]⟩, .bool false, .slice none 0 0, .string ⟨#[]⟩, .slice none 0 0], .int .i64 k])) ∧
    ∀ us d, o = .ok (us, d) → e = .returned (.tuple #[.agg #[.string (mkT u), .string (mkT us), .string (mkT d), .bool false, .slice none 0 0, .string ⟨#[]⟩, .slice none 0 0], .int .i64 0])
theorem DocOut.bad {u : List UInt8} {k : Int} {w w' : World} (hb : Below w.heap.size w w') : DocOut u (.error k) w (.returned (.tuple #[.agg #[.string ⟨#[]⟩, .string ⟨#[]⟩, .string ⟨#[]⟩, .bool false, .slice none 0 0, .string ⟨#[]⟩, .slice none 0 0], .int .i64 k])) w' :=
  ⟨hb, fun k' h' => (by injection h' with h'; rw [h']), fun v d h' => by cases h'⟩
theorem DocOut.good {u us d : List UInt8} {w w' : World} (hb : Below w.heap.size w w') : DocOut u (.ok (us, d)) w (.returned (.tuple #[.agg #[.string (mkT u), .string (mkT us), .string (mkT d), .bool false, .slice none 0 0, .string ⟨#[]⟩, .slice none 0 0], .int .i64 0])) w' :=
  ⟨hb, fun k' h' => (by cases h'), fun v d' h' => by injection h' with h'; injection h' with h1 h2; rw [h1, h2]⟩
set_option maxHeartbeats 16000000 in
set_option maxRecDepth 100000 in
theorem document_any (u x d : List UInt8) (ow node : Bool) (sel q : ByteArray) (w : World) (hu : u.length ≤ 1000000) (hx : x.length ≤ 1000000) (hd : d.length ≤ 1000000) :
    Calls Tryz.prog 17 #[.agg #[.string (mkT u), .string (mkT x), .string (mkT d), .bool ow, .bool node, .string sel, .string q]] w (DocOut u (docE u x d ow) w) := by
  obtain ⟨o, ho⟩ : ∃ o, docE u x d ow = o := ⟨_, rfl⟩
  rw [ho]
  unfold docE at ho
  obtain ⟨us, ex, hex⟩ : ∃ a b, decP x = (a, b) := ⟨_, _, rfl⟩
  obtain ⟨dn, ed, hed⟩ : ∃ a b, decP d = (a, b) := ⟨_, _, rfl⟩
  rw [hex, hed] at ho
  simp only at ho
  have k1 := fun v => isUsage_any (mkT u) v
  rw [mkT_list] at k1
  have k2 := fun v => decode_any (mkT x) v (by rw [mkT_size]; omega)
  rw [mkT_list, hex] at k2
  have k3 := fun v => decode_any (mkT d) v (by rw [mkT_size]; omega)
  rw [mkT_list, hed] at k3
  have k4 := fun v => isName_any (mkT us) v
  rw [mkT_list] at k4
  have k5 := fun v => isName_any (mkT dn) v
  rw [mkT_list] at k5
  have k6 := fun v => sclone_any (mkT u) v (by rw [mkT_size]; omega)
  simp only [show (⟨us.toArray⟩ : ByteArray) = mkT us from rfl, show (⟨dn.toArray⟩ : ByteArray) = mkT dn from rfl] at k2 k3
  obtain ⟨nx, hnx⟩ : ∃ b, nmU us = b := ⟨_, rfl⟩
  obtain ⟨nd, hnd⟩ : ∃ b, nmU dn = b := ⟨_, rfl⟩
  rw [hnx, hnd] at ho
  rw [hnx] at k4
  rw [hnd] at k5
  have hp0 := (OwnB.new0 w #[.string (mkT u), .string (mkT x), .string (mkT d), .bool ow, .bool node, .string sel, .string q] 48).alloc (.cells #[.string ⟨#[]⟩, .string ⟨#[]⟩, .string ⟨#[]⟩, .bool false, .slice none 0 0, .string ⟨#[]⟩, .slice none 0 0] 26)
  have hb00 := (Below.refl w.heap.size w).alloc (Nat.le_refl _) (.cells #[.string (mkT u), .string (mkT x), .string (mkT d), .bool ow, .bool node, .string sel, .string q] 48)
  have hr0 := OwnB.new #[.string ⟨#[]⟩, .string ⟨#[]⟩, .string ⟨#[]⟩, .bool false, .slice none 0 0, .string ⟨#[]⟩, .slice none 0 0] 26 hb00
  have hb0 := hb00.alloc hb00.size (.cells #[.string ⟨#[]⟩, .string ⟨#[]⟩, .string ⟨#[]⟩, .bool false, .slice none 0 0, .string ⟨#[]⟩, .slice none 0 0] 26)
  have sz : ∀ o : Obj, (w.alloc o).heap.size = w.heap.size + 1 := fun o => by simp
  rw [sz] at hr0
  have hc : (u ∉ usg11 ∧ o = .error 34) ∨ (u ∈ usg11 ∧ ex ≠ 0 ∧ o = .error ex) ∨ (u ∈ usg11 ∧ ex = 0 ∧ ed ≠ 0 ∧ o = .error ed) ∨ (u ∈ usg11 ∧ ex = 0 ∧ ed = 0 ∧ ow = true ∧ nx = false ∧ o = .error 4) ∨
      (u ∈ usg11 ∧ ex = 0 ∧ ed = 0 ∧ ow = true ∧ nx = true ∧ nd = false ∧ o = .error 4) ∨ (u ∈ usg11 ∧ ex = 0 ∧ ed = 0 ∧ ow = true ∧ nx = true ∧ nd = true ∧ o = .ok (us, dn)) ∨
      (u ∈ usg11 ∧ ex = 0 ∧ ed = 0 ∧ ow = false ∧ nd = false ∧ o = .error 4) ∨ (u ∈ usg11 ∧ ex = 0 ∧ ed = 0 ∧ ow = false ∧ nd = true ∧ o = .ok (us, dn)) := by
    by_cases hu : u ∈ usg11
    · by_cases h1 : ex = 0
      · by_cases h2 : ed = 0
        · cases ow <;> cases nx <;> cases nd <;> simp_all
        · simp_all
      · simp_all
    · simp_all
  have K1 := Lib.hid k1
  have K2 := Lib.hid k2
  have K3 := Lib.hid k3
  have K4 := Lib.hid k4
  have K5 := Lib.hid k5
  have K6 := Lib.hid k6
  clear k1 k2 k3 k4 k5 k6 ho hnx hnd hex hed hx hd hu hb00 sz
  rcases hc with ⟨hu, rfl⟩ | ⟨hu, he, rfl⟩ | ⟨hu, rfl, he, rfl⟩ | ⟨hu, rfl, rfl, rfl, rfl, rfl⟩ | ⟨hu, rfl, rfl, rfl, rfl, rfl, rfl⟩ | ⟨hu, rfl, rfl, rfl, rfl, rfl, rfl⟩ | ⟨hu, rfl, rfl, rfl, rfl, rfl⟩ | ⟨hu, rfl, rfl, rfl, rfl, rfl⟩
  · rw [decide_eq_false hu] at K1
    clear hu K2 K3 K4 K5 K6
    go_enter Tryz.func17, Tryz.ntmps17
    go_upto_region 1 with fail
    generalize (w.alloc (.cells #[.string (mkT u), .string (mkT x), .string (mkT d), .bool ow, .bool node, .string sel, .string q] 48)).alloc (.cells #[.string ⟨#[]⟩, .string ⟨#[]⟩, .string ⟨#[]⟩, .bool false, .slice none 0 0, .string ⟨#[]⟩, .slice none 0 0] 26) = w0 at *
    have q0 := hp0.cell 0
    simp only [List.getElem?_toArray, List.getElem?_cons_zero] at q0
    go_wp2_with fail
    refine (K1.out _).mono ?_
    rintro e w1 ⟨rfl, rfl⟩
    have hp1 := hp0
    have hr1 := hr0
    have hb1 := hb0
    clear hp0 hr0 hb0
    clear K1 q0
    have x0 := hr1.cell 0
    have xf0 := hr1.free 0
    have x1 := hr1.cell 1
    have xf1 := hr1.free 1
    have x2 := hr1.cell 2
    have xf2 := hr1.free 2
    have x3 := hr1.cell 3
    have xf3 := hr1.free 3
    have x4 := hr1.cell 4
    have xf4 := hr1.free 4
    have x5 := hr1.cell 5
    have xf5 := hr1.free 5
    have x6 := hr1.cell 6
    have xf6 := hr1.free 6
    simp only [List.getElem?_toArray, List.getElem?_cons_zero, List.getElem?_cons_succ] at x0 x1 x2 x3 x4 x5 x6
    go_wp2
    refine bodyPost_ret (results_cell2 rfl _ _ (w.heap.size + 1) _ _ _ rfl (hr1.all7 _ _ _ _ _ _ _).blk Tryz.underlying26 rfl wh_info) rfl ?_
    exact DocOut.bad ((((((((hb1.setCell (Nat.le_succ _) _).setCell (Nat.le_succ _) _).setCell (Nat.le_succ _) _).setCell (Nat.le_succ _) _).setCell (Nat.le_succ _) _).setCell (Nat.le_succ _) _).setCell (Nat.le_succ _) _))
  · rw [decide_eq_true hu] at K1
    clear hu
    have h0 : (ex == 0) = false := by simpa using he
    clear K3 K4 K5 K6
    go_enter Tryz.func17, Tryz.ntmps17
    go_upto_region 1 with fail
    generalize (w.alloc (.cells #[.string (mkT u), .string (mkT x), .string (mkT d), .bool ow, .bool node, .string sel, .string q] 48)).alloc (.cells #[.string ⟨#[]⟩, .string ⟨#[]⟩, .string ⟨#[]⟩, .bool false, .slice none 0 0, .string ⟨#[]⟩, .slice none 0 0] 26) = w0 at *
    have q0 := hp0.cell 0
    simp only [List.getElem?_toArray, List.getElem?_cons_zero] at q0
    go_wp2_with fail
    refine (K1.out _).mono ?_
    rintro e w1 ⟨rfl, rfl⟩
    have hp1 := hp0
    have hr1 := hr0
    have hb1 := hb0
    clear hp0 hr0 hb0
    clear K1 q0
    have q1 := hp1.cell 1
    simp only [List.getElem?_toArray, List.getElem?_cons_zero, List.getElem?_cons_succ] at q1
    go_wp2_with fail
    refine (K2.out _).mono ?_
    rintro e w2 ⟨rfl, hbx⟩
    have hp2 := hp1.next hbx
    have hr2 := hr1.next hbx
    have hb2 := hb1.trans (hbx.mono hb1.size)
    clear hp1 hr1 hb1 hbx K2 q1
    have x0 := hr2.cell 0
    have xf0 := hr2.free 0
    have x1 := hr2.cell 1
    have xf1 := hr2.free 1
    have x2 := hr2.cell 2
    have xf2 := hr2.free 2
    have x3 := hr2.cell 3
    have xf3 := hr2.free 3
    have x4 := hr2.cell 4
    have xf4 := hr2.free 4
    have x5 := hr2.cell 5
    have xf5 := hr2.free 5
    have x6 := hr2.cell 6
    have xf6 := hr2.free 6
    simp only [List.getElem?_toArray, List.getElem?_cons_zero, List.getElem?_cons_succ] at x0 x1 x2 x3 x4 x5 x6
    go_wp2
    refine bodyPost_ret (results_cell2 rfl _ _ (w.heap.size + 1) _ _ _ rfl (hr2.all7 _ _ _ _ _ _ _).blk Tryz.underlying26 rfl wh_info) rfl ?_
    exact DocOut.bad ((((((((hb2.setCell (Nat.le_succ _) _).setCell (Nat.le_succ _) _).setCell (Nat.le_succ _) _).setCell (Nat.le_succ _) _).setCell (Nat.le_succ _) _).setCell (Nat.le_succ _) _).setCell (Nat.le_succ _) _))
  · rw [decide_eq_true hu] at K1
    clear hu
    have h0 : (ed == 0) = false := by simpa using he
    clear K4 K5 K6
    go_enter Tryz.func17, Tryz.ntmps17
    go_upto_region 1 with fail
    generalize (w.alloc (.cells #[.string (mkT u), .string (mkT x), .string (mkT d), .bool ow, .bool node, .string sel, .string q] 48)).alloc (.cells #[.string ⟨#[]⟩, .string ⟨#[]⟩, .string ⟨#[]⟩, .bool false, .slice none 0 0, .string ⟨#[]⟩, .slice none 0 0] 26) = w0 at *
    have q0 := hp0.cell 0
    simp only [List.getElem?_toArray, List.getElem?_cons_zero] at q0
    go_wp2_with fail
    refine (K1.out _).mono ?_
    rintro e w1 ⟨rfl, rfl⟩
    have hp1 := hp0
    have hr1 := hr0
    have hb1 := hb0
    clear hp0 hr0 hb0
    clear K1 q0
    have q1 := hp1.cell 1
    simp only [List.getElem?_toArray, List.getElem?_cons_zero, List.getElem?_cons_succ] at q1
    go_wp2_with fail
    refine (K2.out _).mono ?_
    rintro e w2 ⟨rfl, hbx⟩
    have hp2 := hp1.next hbx
    have hr2 := hr1.next hbx
    have hb2 := hb1.trans (hbx.mono hb1.size)
    clear hp1 hr1 hb1 hbx K2 q1
    have q2 := hp2.cell 2
    simp only [List.getElem?_toArray, List.getElem?_cons_zero, List.getElem?_cons_succ] at q2
    go_wp2_with fail
    refine (K3.out _).mono ?_
    rintro e w3 ⟨rfl, hbx⟩
    have hp3 := hp2.next hbx
    have hr3 := hr2.next hbx
    have hb3 := hb2.trans (hbx.mono hb2.size)
    clear hp2 hr2 hb2 hbx K3 q2
    have x0 := hr3.cell 0
    have xf0 := hr3.free 0
    have x1 := hr3.cell 1
    have xf1 := hr3.free 1
    have x2 := hr3.cell 2
    have xf2 := hr3.free 2
    have x3 := hr3.cell 3
    have xf3 := hr3.free 3
    have x4 := hr3.cell 4
    have xf4 := hr3.free 4
    have x5 := hr3.cell 5
    have xf5 := hr3.free 5
    have x6 := hr3.cell 6
    have xf6 := hr3.free 6
    simp only [List.getElem?_toArray, List.getElem?_cons_zero, List.getElem?_cons_succ] at x0 x1 x2 x3 x4 x5 x6
    go_wp2
    refine bodyPost_ret (results_cell2 rfl _ _ (w.heap.size + 1) _ _ _ rfl (hr3.all7 _ _ _ _ _ _ _).blk Tryz.underlying26 rfl wh_info) rfl ?_
    exact DocOut.bad ((((((((hb3.setCell (Nat.le_succ _) _).setCell (Nat.le_succ _) _).setCell (Nat.le_succ _) _).setCell (Nat.le_succ _) _).setCell (Nat.le_succ _) _).setCell (Nat.le_succ _) _).setCell (Nat.le_succ _) _))
  · rw [decide_eq_true hu] at K1
    clear hu
    go_enter Tryz.func17, Tryz.ntmps17
    go_upto_region 1 with fail
    generalize (w.alloc (.cells #[.string (mkT u), .string (mkT x), .string (mkT d), .bool true, .bool node, .string sel, .string q] 48)).alloc (.cells #[.string ⟨#[]⟩, .string ⟨#[]⟩, .string ⟨#[]⟩, .bool false, .slice none 0 0, .string ⟨#[]⟩, .slice none 0 0] 26) = w0 at *
    have q0 := hp0.cell 0
    simp only [List.getElem?_toArray, List.getElem?_cons_zero] at q0
    go_wp2_with fail
    refine (K1.out _).mono ?_
    rintro e w1 ⟨rfl, rfl⟩
    have hp1 := hp0
    have hr1 := hr0
    have hb1 := hb0
    clear hp0 hr0 hb0
    clear K1 q0
    have q1 := hp1.cell 1
    simp only [List.getElem?_toArray, List.getElem?_cons_zero, List.getElem?_cons_succ] at q1
    go_wp2_with fail
    refine (K2.out _).mono ?_
    rintro e w2 ⟨rfl, hbx⟩
    have hp2 := hp1.next hbx
    have hr2 := hr1.next hbx
    have hb2 := hb1.trans (hbx.mono hb1.size)
    clear hp1 hr1 hb1 hbx K2 q1
    have q2 := hp2.cell 2
    simp only [List.getElem?_toArray, List.getElem?_cons_zero, List.getElem?_cons_succ] at q2
    go_wp2_with fail
    refine (K3.out _).mono ?_
    rintro e w3 ⟨rfl, hbx⟩
    have hp3 := hp2.next hbx
    have hr3 := hr2.next hbx
    have hb3 := hb2.trans (hbx.mono hb2.size)
    clear hp2 hr2 hb2 hbx K3 q2
    have q3 := hp3.cell 3
    simp only [List.getElem?_toArray, List.getElem?_cons_zero, List.getElem?_cons_succ] at q3
    go_wp2_with fail
    refine (K4.out _).mono ?_
    rintro e w4 ⟨rfl, rfl⟩
    have hp4 := hp3
    have hr4 := hr3
    have hb4 := hb3
    clear hp3 hr3 hb3
    clear K4 q3
    have x0 := hr4.cell 0
    have xf0 := hr4.free 0
    have x1 := hr4.cell 1
    have xf1 := hr4.free 1
    have x2 := hr4.cell 2
    have xf2 := hr4.free 2
    have x3 := hr4.cell 3
    have xf3 := hr4.free 3
    have x4 := hr4.cell 4
    have xf4 := hr4.free 4
    have x5 := hr4.cell 5
    have xf5 := hr4.free 5
    have x6 := hr4.cell 6
    have xf6 := hr4.free 6
    simp only [List.getElem?_toArray, List.getElem?_cons_zero, List.getElem?_cons_succ] at x0 x1 x2 x3 x4 x5 x6
    go_wp2
    refine bodyPost_ret (results_cell2 rfl _ _ (w.heap.size + 1) _ _ _ rfl (hr4.all7 _ _ _ _ _ _ _).blk Tryz.underlying26 rfl wh_info) rfl ?_
    exact DocOut.bad ((((((((hb4.setCell (Nat.le_succ _) _).setCell (Nat.le_succ _) _).setCell (Nat.le_succ _) _).setCell (Nat.le_succ _) _).setCell (Nat.le_succ _) _).setCell (Nat.le_succ _) _).setCell (Nat.le_succ _) _))
  · rw [decide_eq_true hu] at K1
    clear hu
    go_enter Tryz.func17, Tryz.ntmps17
    go_upto_region 1 with fail
    generalize (w.alloc (.cells #[.string (mkT u), .string (mkT x), .string (mkT d), .bool true, .bool node, .string sel, .string q] 48)).alloc (.cells #[.string ⟨#[]⟩, .string ⟨#[]⟩, .string ⟨#[]⟩, .bool false, .slice none 0 0, .string ⟨#[]⟩, .slice none 0 0] 26) = w0 at *
    have q0 := hp0.cell 0
    simp only [List.getElem?_toArray, List.getElem?_cons_zero] at q0
    go_wp2_with fail
    refine (K1.out _).mono ?_
    rintro e w1 ⟨rfl, rfl⟩
    have hp1 := hp0
    have hr1 := hr0
    have hb1 := hb0
    clear hp0 hr0 hb0
    clear K1 q0
    have q1 := hp1.cell 1
    simp only [List.getElem?_toArray, List.getElem?_cons_zero, List.getElem?_cons_succ] at q1
    go_wp2_with fail
    refine (K2.out _).mono ?_
    rintro e w2 ⟨rfl, hbx⟩
    have hp2 := hp1.next hbx
    have hr2 := hr1.next hbx
    have hb2 := hb1.trans (hbx.mono hb1.size)
    clear hp1 hr1 hb1 hbx K2 q1
    have q2 := hp2.cell 2
    simp only [List.getElem?_toArray, List.getElem?_cons_zero, List.getElem?_cons_succ] at q2
    go_wp2_with fail
    refine (K3.out _).mono ?_
    rintro e w3 ⟨rfl, hbx⟩
    have hp3 := hp2.next hbx
    have hr3 := hr2.next hbx
    have hb3 := hb2.trans (hbx.mono hb2.size)
    clear hp2 hr2 hb2 hbx K3 q2
    have q3 := hp3.cell 3
    simp only [List.getElem?_toArray, List.getElem?_cons_zero, List.getElem?_cons_succ] at q3
    go_wp2_with fail
    refine (K4.out _).mono ?_
    rintro e w4 ⟨rfl, rfl⟩
    have hp4 := hp3
    have hr4 := hr3
    have hb4 := hb3
    clear hp3 hr3 hb3
    clear K4 q3
    go_wp2_with fail
    refine (K5.out _).mono ?_
    rintro e w5 ⟨rfl, rfl⟩
    have hp5 := hp4
    have hr5 := hr4
    have hb5 := hb4
    clear hp4 hr4 hb4
    clear K5
    have x0 := hr5.cell 0
    have xf0 := hr5.free 0
    have x1 := hr5.cell 1
    have xf1 := hr5.free 1
    have x2 := hr5.cell 2
    have xf2 := hr5.free 2
    have x3 := hr5.cell 3
    have xf3 := hr5.free 3
    have x4 := hr5.cell 4
    have xf4 := hr5.free 4
    have x5 := hr5.cell 5
    have xf5 := hr5.free 5
    have x6 := hr5.cell 6
    have xf6 := hr5.free 6
    simp only [List.getElem?_toArray, List.getElem?_cons_zero, List.getElem?_cons_succ] at x0 x1 x2 x3 x4 x5 x6
    go_wp2
    refine bodyPost_ret (results_cell2 rfl _ _ (w.heap.size + 1) _ _ _ rfl (hr5.all7 _ _ _ _ _ _ _).blk Tryz.underlying26 rfl wh_info) rfl ?_
    exact DocOut.bad ((((((((hb5.setCell (Nat.le_succ _) _).setCell (Nat.le_succ _) _).setCell (Nat.le_succ _) _).setCell (Nat.le_succ _) _).setCell (Nat.le_succ _) _).setCell (Nat.le_succ _) _).setCell (Nat.le_succ _) _))
  · rw [decide_eq_true hu] at K1
    clear hu
    go_enter Tryz.func17, Tryz.ntmps17
    go_upto_region 1 with fail
    generalize (w.alloc (.cells #[.string (mkT u), .string (mkT x), .string (mkT d), .bool true, .bool node, .string sel, .string q] 48)).alloc (.cells #[.string ⟨#[]⟩, .string ⟨#[]⟩, .string ⟨#[]⟩, .bool false, .slice none 0 0, .string ⟨#[]⟩, .slice none 0 0] 26) = w0 at *
    have q0 := hp0.cell 0
    simp only [List.getElem?_toArray, List.getElem?_cons_zero] at q0
    go_wp2_with fail
    refine (K1.out _).mono ?_
    rintro e w1 ⟨rfl, rfl⟩
    have hp1 := hp0
    have hr1 := hr0
    have hb1 := hb0
    clear hp0 hr0 hb0
    clear K1 q0
    have q1 := hp1.cell 1
    simp only [List.getElem?_toArray, List.getElem?_cons_zero, List.getElem?_cons_succ] at q1
    go_wp2_with fail
    refine (K2.out _).mono ?_
    rintro e w2 ⟨rfl, hbx⟩
    have hp2 := hp1.next hbx
    have hr2 := hr1.next hbx
    have hb2 := hb1.trans (hbx.mono hb1.size)
    clear hp1 hr1 hb1 hbx K2 q1
    have q2 := hp2.cell 2
    simp only [List.getElem?_toArray, List.getElem?_cons_zero, List.getElem?_cons_succ] at q2
    go_wp2_with fail
    refine (K3.out _).mono ?_
    rintro e w3 ⟨rfl, hbx⟩
    have hp3 := hp2.next hbx
    have hr3 := hr2.next hbx
    have hb3 := hb2.trans (hbx.mono hb2.size)
    clear hp2 hr2 hb2 hbx K3 q2
    have q3 := hp3.cell 3
    simp only [List.getElem?_toArray, List.getElem?_cons_zero, List.getElem?_cons_succ] at q3
    go_wp2_with fail
    refine (K4.out _).mono ?_
    rintro e w4 ⟨rfl, rfl⟩
    have hp4 := hp3
    have hr4 := hr3
    have hb4 := hb3
    clear hp3 hr3 hb3
    clear K4 q3
    go_wp2_with fail
    refine (K5.out _).mono ?_
    rintro e w5 ⟨rfl, rfl⟩
    have hp5 := hp4
    have hr5 := hr4
    have hb5 := hb4
    clear hp4 hr4 hb4
    clear K5
    have q0 := hp5.cell 0
    simp only [List.getElem?_toArray, List.getElem?_cons_zero] at q0
    go_wp2_with fail
    refine (K6.out _).mono ?_
    rintro e w6 ⟨rfl, hbx⟩
    have hp6 := hp5.next hbx
    have hr6 := hr5.next hbx
    have hb6 := hb5.trans (hbx.mono hb5.size)
    clear hp5 hr5 hb5 hbx K6 q0
    have x0 := hr6.cell 0
    have xf0 := hr6.free 0
    have x1 := hr6.cell 1
    have xf1 := hr6.free 1
    have x2 := hr6.cell 2
    have xf2 := hr6.free 2
    have x3 := hr6.cell 3
    have xf3 := hr6.free 3
    have x4 := hr6.cell 4
    have xf4 := hr6.free 4
    have x5 := hr6.cell 5
    have xf5 := hr6.free 5
    have x6 := hr6.cell 6
    have xf6 := hr6.free 6
    simp only [List.getElem?_toArray, List.getElem?_cons_zero, List.getElem?_cons_succ] at x0 x1 x2 x3 x4 x5 x6
    go_wp2
    refine bodyPost_ret (results_cell2 rfl _ _ (w.heap.size + 1) _ _ _ rfl (hr6.all7 _ _ _ _ _ _ _).blk Tryz.underlying26 rfl wh_info) rfl ?_
    exact DocOut.good ((((((((hb6.setCell (Nat.le_succ _) _).setCell (Nat.le_succ _) _).setCell (Nat.le_succ _) _).setCell (Nat.le_succ _) _).setCell (Nat.le_succ _) _).setCell (Nat.le_succ _) _).setCell (Nat.le_succ _) _))
  · rw [decide_eq_true hu] at K1
    clear hu
    go_enter Tryz.func17, Tryz.ntmps17
    go_upto_region 1 with fail
    generalize (w.alloc (.cells #[.string (mkT u), .string (mkT x), .string (mkT d), .bool false, .bool node, .string sel, .string q] 48)).alloc (.cells #[.string ⟨#[]⟩, .string ⟨#[]⟩, .string ⟨#[]⟩, .bool false, .slice none 0 0, .string ⟨#[]⟩, .slice none 0 0] 26) = w0 at *
    have q0 := hp0.cell 0
    simp only [List.getElem?_toArray, List.getElem?_cons_zero] at q0
    go_wp2_with fail
    refine (K1.out _).mono ?_
    rintro e w1 ⟨rfl, rfl⟩
    have hp1 := hp0
    have hr1 := hr0
    have hb1 := hb0
    clear hp0 hr0 hb0
    clear K1 q0
    have q1 := hp1.cell 1
    simp only [List.getElem?_toArray, List.getElem?_cons_zero, List.getElem?_cons_succ] at q1
    go_wp2_with fail
    refine (K2.out _).mono ?_
    rintro e w2 ⟨rfl, hbx⟩
    have hp2 := hp1.next hbx
    have hr2 := hr1.next hbx
    have hb2 := hb1.trans (hbx.mono hb1.size)
    clear hp1 hr1 hb1 hbx K2 q1
    have q2 := hp2.cell 2
    simp only [List.getElem?_toArray, List.getElem?_cons_zero, List.getElem?_cons_succ] at q2
    go_wp2_with fail
    refine (K3.out _).mono ?_
    rintro e w3 ⟨rfl, hbx⟩
    have hp3 := hp2.next hbx
    have hr3 := hr2.next hbx
    have hb3 := hb2.trans (hbx.mono hb2.size)
    clear hp2 hr2 hb2 hbx K3 q2
    have q3 := hp3.cell 3
    simp only [List.getElem?_toArray, List.getElem?_cons_zero, List.getElem?_cons_succ] at q3
    go_wp2_with fail
    refine (K5.out _).mono ?_
    rintro e w4 ⟨rfl, rfl⟩
    have hp4 := hp3
    have hr4 := hr3
    have hb4 := hb3
    clear hp3 hr3 hb3
    clear K5 q3
    have x0 := hr4.cell 0
    have xf0 := hr4.free 0
    have x1 := hr4.cell 1
    have xf1 := hr4.free 1
    have x2 := hr4.cell 2
    have xf2 := hr4.free 2
    have x3 := hr4.cell 3
    have xf3 := hr4.free 3
    have x4 := hr4.cell 4
    have xf4 := hr4.free 4
    have x5 := hr4.cell 5
    have xf5 := hr4.free 5
    have x6 := hr4.cell 6
    have xf6 := hr4.free 6
    simp only [List.getElem?_toArray, List.getElem?_cons_zero, List.getElem?_cons_succ] at x0 x1 x2 x3 x4 x5 x6
    go_wp2
    refine bodyPost_ret (results_cell2 rfl _ _ (w.heap.size + 1) _ _ _ rfl (hr4.all7 _ _ _ _ _ _ _).blk Tryz.underlying26 rfl wh_info) rfl ?_
    exact DocOut.bad ((((((((hb4.setCell (Nat.le_succ _) _).setCell (Nat.le_succ _) _).setCell (Nat.le_succ _) _).setCell (Nat.le_succ _) _).setCell (Nat.le_succ _) _).setCell (Nat.le_succ _) _).setCell (Nat.le_succ _) _))
  · rw [decide_eq_true hu] at K1
    clear hu
    go_enter Tryz.func17, Tryz.ntmps17
    go_upto_region 1 with fail
    generalize (w.alloc (.cells #[.string (mkT u), .string (mkT x), .string (mkT d), .bool false, .bool node, .string sel, .string q] 48)).alloc (.cells #[.string ⟨#[]⟩, .string ⟨#[]⟩, .string ⟨#[]⟩, .bool false, .slice none 0 0, .string ⟨#[]⟩, .slice none 0 0] 26) = w0 at *
    have q0 := hp0.cell 0
    simp only [List.getElem?_toArray, List.getElem?_cons_zero] at q0
    go_wp2_with fail
    refine (K1.out _).mono ?_
    rintro e w1 ⟨rfl, rfl⟩
    have hp1 := hp0
    have hr1 := hr0
    have hb1 := hb0
    clear hp0 hr0 hb0
    clear K1 q0
    have q1 := hp1.cell 1
    simp only [List.getElem?_toArray, List.getElem?_cons_zero, List.getElem?_cons_succ] at q1
    go_wp2_with fail
    refine (K2.out _).mono ?_
    rintro e w2 ⟨rfl, hbx⟩
    have hp2 := hp1.next hbx
    have hr2 := hr1.next hbx
    have hb2 := hb1.trans (hbx.mono hb1.size)
    clear hp1 hr1 hb1 hbx K2 q1
    have q2 := hp2.cell 2
    simp only [List.getElem?_toArray, List.getElem?_cons_zero, List.getElem?_cons_succ] at q2
    go_wp2_with fail
    refine (K3.out _).mono ?_
    rintro e w3 ⟨rfl, hbx⟩
    have hp3 := hp2.next hbx
    have hr3 := hr2.next hbx
    have hb3 := hb2.trans (hbx.mono hb2.size)
    clear hp2 hr2 hb2 hbx K3 q2
    have q3 := hp3.cell 3
    simp only [List.getElem?_toArray, List.getElem?_cons_zero, List.getElem?_cons_succ] at q3
    go_wp2_with fail
    refine (K5.out _).mono ?_
    rintro e w4 ⟨rfl, rfl⟩
    have hp4 := hp3
    have hr4 := hr3
    have hb4 := hb3
    clear hp3 hr3 hb3
    clear K5 q3
    have q0 := hp4.cell 0
    simp only [List.getElem?_toArray, List.getElem?_cons_zero] at q0
    go_wp2_with fail
    refine (K6.out _).mono ?_
    rintro e w5 ⟨rfl, hbx⟩
    have hp5 := hp4.next hbx
    have hr5 := hr4.next hbx
    have hb5 := hb4.trans (hbx.mono hb4.size)
    clear hp4 hr4 hb4 hbx K6 q0
    have x0 := hr5.cell 0
    have xf0 := hr5.free 0
    have x1 := hr5.cell 1
    have xf1 := hr5.free 1
    have x2 := hr5.cell 2
    have xf2 := hr5.free 2
    have x3 := hr5.cell 3
    have xf3 := hr5.free 3
    have x4 := hr5.cell 4
    have xf4 := hr5.free 4
    have x5 := hr5.cell 5
    have xf5 := hr5.free 5
    have x6 := hr5.cell 6
    have xf6 := hr5.free 6
    simp only [List.getElem?_toArray, List.getElem?_cons_zero, List.getElem?_cons_succ] at x0 x1 x2 x3 x4 x5 x6
    go_wp2
    refine bodyPost_ret (results_cell2 rfl _ _ (w.heap.size + 1) _ _ _ rfl (hr5.all7 _ _ _ _ _ _ _).blk Tryz.underlying26 rfl wh_info) rfl ?_
    exact DocOut.good ((((((((hb5.setCell (Nat.le_succ _) _).setCell (Nat.le_succ _) _).setCell (Nat.le_succ _) _).setCell (Nat.le_succ _) _).setCell (Nat.le_succ _) _).setCell (Nat.le_succ _) _).setCell (Nat.le_succ _) _))
end Go.Proofs.YtbdamneophbnnaaGreatDoor
