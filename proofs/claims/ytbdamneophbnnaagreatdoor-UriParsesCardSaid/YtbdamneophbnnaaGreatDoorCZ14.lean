/- UeA SdD. -/
import Derived.Test.YtbdamneophbnnaaGreatDoorCZ12
import Derived.Test.YtbdamneophbnnaaGreatDoorCZ13
namespace Wb
open Go Go.RowKit
def ownP (us : List UInt8) : List UInt8 := if us = [] then sGlob else [117, 115, 101, 114, 115, 47] ++ pctE [] us
theorem own_join (u us d : List UInt8) : joinB 47 (pcs11 u us d) = 47 :: u ++ 47 :: (ownP us ++ 47 :: pctE [] d) := by
  unfold ownP
  by_cases h : us = []
  · rw [h, join_glob, if_pos rfl]
    simp [sGlob]
  · rw [join_user _ _ _ h, if_neg h]
    simp
theorem lst_nil (s : ByteArray) : s.data.toList = [] ↔ s = ⟨#[]⟩ := ⟨fun e => by
  have : s.data = #[] := Array.toList_inj.1 e
  rw [← this], fun e => by rw [e]⟩
theorem lst_tt (s : ByteArray) : s.data.toList = tt11 ↔ s = ⟨#[126, 126]⟩ := ⟨fun e => by
  have : s.data = #[126, 126] := Array.toList_inj.1 e
  rw [← this], fun e => by rw [e]; rfl⟩
theorem emp_false {s : ByteArray} (h : ¬ s = ⟨#[]⟩) : s.toList.isEmpty = false := by
  rw [List.isEmpty_eq_false_iff, ByteArray.toList_eq]
  exact fun e => h ((lst_nil s).1 e)
end Wb
namespace Go.Proofs.YtbdamneophbnnaaGreatDoor
open Go.RowKit Wb
set_option maxHeartbeats 4000000 in
set_option maxRecDepth 100000 in
theorem isUsage_any (u : ByteArray) (w : World) :
    Calls Tryz.prog 25 #[.string u] w fun e w' => e = .returned (.bool (decide (u.data.toList ∈ usg11))) ∧ w = w' := by
  by_cases h : u.data.toList ∈ usg11
  · rw [decide_eq_true h]
    rcases (usg_in u).1 h with rfl | rfl | rfl | rfl
    all_goals
      clear h
      go_enter Tryz.func25, Tryz.ntmps25
      go_wp2
      go_ret
      exact ⟨rfl, rfl⟩
  · rw [decide_eq_false h]
    rw [usg_in] at h
    have h1 : ¬ u = ⟨#[114, 101, 115, 111, 117, 114, 99, 101, 45, 108, 105, 115, 116, 115]⟩ := fun e => h (.inl e)
    have b1 : (u.toList == [114, 101, 115, 111, 117, 114, 99, 101, 45, 108, 105, 115, 116, 115]) = false := (lit_of u _ _ rfl).trans (eqT_false.2 h1)
    have h2 : ¬ u = ⟨#[114, 108, 115, 45, 115, 101, 114, 118, 105, 99, 101, 115]⟩ := fun e => h (.inr (.inl e))
    have b2 : (u.toList == [114, 108, 115, 45, 115, 101, 114, 118, 105, 99, 101, 115]) = false := (lit_of u _ _ rfl).trans (eqT_false.2 h2)
    have h3 : ¬ u = ⟨#[112, 114, 101, 115, 45, 114, 117, 108, 101, 115]⟩ := fun e => h (.inr (.inr (.inl e)))
    have b3 : (u.toList == [112, 114, 101, 115, 45, 114, 117, 108, 101, 115]) = false := (lit_of u _ _ rfl).trans (eqT_false.2 h3)
    have h4 : ¬ u = ⟨#[120, 99, 97, 112, 45, 99, 97, 112, 115]⟩ := fun e => h (.inr (.inr (.inr e)))
    have b4 : (u.toList == [120, 99, 97, 112, 45, 99, 97, 112, 115]) = false := (lit_of u _ _ rfl).trans (eqT_false.2 h4)
    clear h
    go_enter Tryz.func25, Tryz.ntmps25
    go_wp2
    go_ret
    exact ⟨rfl, rfl⟩
set_option maxHeartbeats 4000000 in
set_option maxRecDepth 100000 in
theorem space_any (u : ByteArray) (w : World) :
    Calls Tryz.prog 10 #[.string u] w fun e w' => e = .returned (.string ⟨(spc11 u.data.toList).toArray⟩) ∧ w = w' := by
  have hc := isUsage_any u
  obtain ⟨o, ho⟩ : ∃ o : ByteArray, ⟨(spc11 u.data.toList).toArray⟩ = o := ⟨_, rfl⟩
  rw [ho]
  unfold spc11 at ho
  by_cases h : u.data.toList ∈ usg11
  · rw [if_pos h] at ho
    rw [decide_eq_true h] at hc
    have HC := Lib.hid hc
    clear hc
    rcases (usg_in u).1 h with rfl | rfl | rfl | rfl
    all_goals
      subst ho
      clear h
      go_enter Tryz.func10, Tryz.ntmps10
      go_wp2_with fail
      refine (HC.out _).mono ?_
      rintro e w2 ⟨rfl, rfl⟩
      go_wp2
      go_ret
      exact ⟨by rfl, rfl⟩
  · rw [if_neg h] at ho
    rw [decide_eq_false h] at hc
    have HC := Lib.hid hc
    subst ho
    clear hc h
    go_enter Tryz.func10, Tryz.ntmps10
    go_wp2_with fail
    refine (HC.out _).mono ?_
    rintro e w2 ⟨rfl, rfl⟩
    go_wp2
    go_ret
    exact ⟨rfl, rfl⟩
set_option maxHeartbeats 4000000 in
set_option maxRecDepth 100000 in
theorem isName_any (s : ByteArray) (w : World) :
    Calls Tryz.prog 36 #[.string s] w fun e w' => e = .returned (.bool (nmU s.data.toList)) ∧ w = w' := by
  have hsz : s.data.toList.length = s.size := by simp
  obtain ⟨o, ho⟩ : ∃ o, nmU s.data.toList = o := ⟨_, rfl⟩
  rw [ho]
  by_cases h0 : s = ⟨#[]⟩
  · subst h0
    obtain rfl : false = o := by rw [← ho]; rfl
    clear ho hsz
    go_enter Tryz.func36, Tryz.ntmps36
    go_wp2
    go_ret
    exact ⟨rfl, rfl⟩
  · have e0 := emp_false h0
    have n0 : ¬ s.data.toList = [] := fun e => h0 ((lst_nil s).1 e)
    by_cases h2 : s = ⟨#[126, 126]⟩
    · subst h2
      obtain rfl : false = o := by rw [← ho]; rfl
      clear ho hsz e0 h0 n0
      go_enter Tryz.func36, Tryz.ntmps36
      go_wp2
      go_ret
      exact ⟨rfl, rfl⟩
    · have e2 : (s.toList == [126, 126]) = false := (lit_of s _ _ rfl).trans (eqT_false.2 h2)
      have n2 : ¬ s.data.toList = tt11 := fun e => h2 ((lst_tt s).1 e)
      unfold nmU at ho
      rw [decide_eq_false n0, decide_eq_false n2, hsz] at ho
      by_cases h1 : s.size ≤ 64
      · have i1 : (s.size : Int) ≤ 64 := by omega
        rw [decide_eq_true h1] at ho
        obtain rfl : true = o := ho
        clear n0 n2 hsz h0 h2
        go_enter Tryz.func36, Tryz.ntmps36
        go_wp2
        go_ret
        exact ⟨rfl, rfl⟩
      · have i1 : ¬ (s.size : Int) ≤ 64 := by omega
        rw [decide_eq_false h1] at ho
        obtain rfl : false = o := ho
        clear n0 n2 hsz h0 h2
        go_enter Tryz.func36, Tryz.ntmps36
        go_wp2
        go_ret
        exact ⟨rfl, rfl⟩
set_option maxHeartbeats 4000000 in
set_option maxRecDepth 100000 in
theorem isPrintable_any (s : ByteArray) (w : World) (hs : s.size ≤ 1000000) :
    Calls Tryz.prog 26 #[.string s] w fun e w' => e = .returned (.bool (nmU s.data.toList && decide (chk s.data.toList < 0))) ∧ Below w.heap.size w w' := by
  have h1 := isName_any s w
  have h2 := check_any s w (by omega)
  cases hn : nmU s.data.toList with
  | false =>
    rw [hn] at h1
    clear h2 hn
    go_enter Tryz.func26, Tryz.ntmps26
    go_wp2_with fail
    refine h1.mono ?_
    rintro e w2 ⟨rfl, rfl⟩
    go_wp2
    go_ret
    exact ⟨rfl, Below.refl _ _⟩
  | true =>
    rw [hn] at h1
    obtain ⟨k, hk⟩ : ∃ k, chk s.data.toList = k := ⟨_, rfl⟩
    rw [hk] at h2 ⊢
    clear hk hn
    rw [Bool.true_and]
    go_enter Tryz.func26, Tryz.ntmps26
    go_wp2_with fail
    refine h1.mono ?_
    rintro e w2 ⟨rfl, rfl⟩
    go_wp2_with fail
    refine h2.mono ?_
    rintro e w3 ⟨rfl, hb⟩
    go_wp2
    go_ret
    exact ⟨rfl, hb⟩
set_option maxHeartbeats 4000000 in
set_option maxRecDepth 100000 in
theorem owner_any (s : ByteArray) (w : World) (hs : s.size ≤ 1000000) (hz : (pctE [] s.data.toList).length ≤ 10000000) :
    Calls Tryz.prog 27 #[.string s] w fun e w' => e = .returned (.string (mkT (ownP s.data.toList))) ∧ Below w.heap.size w w' := by
  obtain ⟨o, ho⟩ : ∃ o, mkT (ownP s.data.toList) = o := ⟨_, rfl⟩
  rw [ho]
  unfold ownP at ho
  by_cases h0 : s = ⟨#[]⟩
  · subst h0
    rw [if_pos rfl] at ho
    subst ho
    go_enter Tryz.func27, Tryz.ntmps27
    go_wp2
    go_ret
    exact ⟨rfl, Below.refl _ _⟩
  · have e0 := emp_false h0
    have n0 : ¬ s.data.toList = [] := fun e => h0 ((lst_nil s).1 e)
    rw [if_neg n0, ← mkT_app] at ho
    have h1 := encode_any s ⟨#[]⟩ w hs (by decide)
    rw [show ((⟨#[]⟩ : ByteArray).data.toList) = [] from rfl] at h1
    obtain ⟨E, hE⟩ : ∃ E : ByteArray, mkT (pctE [] s.data.toList) = E := ⟨_, rfl⟩
    have hEz : E.size ≤ 10000000 := by rw [← hE, mkT_size]; exact hz
    rw [hE] at ho
    rw [show (⟨(pctE [] s.data.toList).toArray⟩ : ByteArray) = E from hE] at h1
    have ho' : (⟨#[117, 115, 101, 114, 115, 47]⟩ : ByteArray) ++ E = o := ho
    have HO := Lib.hid ho'
    have g1 : ¬ 9223372036854775807 < 6 + E.size := by omega
    clear ho ho' hE hz n0 h0
    go_enter Tryz.func27, Tryz.ntmps27
    go_wp2_with fail
    refine h1.mono ?_
    rintro e w2 ⟨rfl, hb⟩
    go_wp2
    go_ret
    exact ⟨by rw [HO.out]; rfl, hb⟩
end Go.Proofs.YtbdamneophbnnaaGreatDoor
namespace Go.Proofs.YtbdamneophbnnaaGreatDoor
open Go.RowKit Wb
theorem PrOut.lift {o : Except Int (List UInt8 × List ByteArray)} {base g : Nat} {space : ByteArray} {T T' : Nat → Prop} {w w0 w' : World} {e : Ending} (h : PrOut o base g space T' w0 e w') (hb : Below w.heap.size w w0) (hbase : base ≤ w.heap.size) (hT : ∀ k, T k → T' k) : PrOut o base g space T w e w' := by
  obtain ⟨h1, h2, h3, h4, h5⟩ := h
  exact ⟨(hb.mono hbase).trans h1, (KpT.of_below hb).trans hb.size (h2.sub hT), h3, h4, fun t l ht => ⟨(h5 t l ht).1, (h5 t l ht).2.sub hT⟩⟩
theorem PrOut.form {o : Except Int (List UInt8 × List ByteArray)} {base g : Nat} {space : ByteArray} {T : Nat → Prop} {w w' : World} {e : Ending} (h : PrOut o base g space T w e w') : ∃ (X : ByteArray) (k : Int), e = .returned (.tuple #[.string X, .int .i64 k]) := by
  obtain ⟨_, _, _, h4, h5⟩ := h
  cases o with
  | error k => exact ⟨_, _, h4 k rfl⟩
  | ok x =>
    obtain ⟨t, l⟩ := x
    exact ⟨_, _, (h5 t l rfl).1⟩
set_option maxHeartbeats 8000000 in
set_option maxRecDepth 100000 in
theorem selem_any (base g : Nat) (space : ByteArray) (kind : Int) (any : Bool) (n1 n2 : ByteArray) (pos : Int) (by_ : Bool) (a1 a2 val : ByteArray) (sp : List ByteArray) (T : Nat → Prop) (w : World) (hP : PAt base g space sp T w) (hT : ∀ k, T k → k < w.heap.size ∧ k ≠ g) (hsp : SpB sp) (h1 : n1.size ≤ 1000000) (h2 : n2.size ≤ 1000000) :
    Calls Tryz.prog 106 #[.pointer (some ⟨g, 0, none⟩), .agg #[.int .i64 kind, .bool any, .string n1, .string n2, .int .i64 pos, .bool by_, .string a1, .string a2, .string val]] w (PrOut (elemT ⟨kind, any, (n1, n2), pos, by_, (a1, a2), val⟩ space sp) base g space T w) := by
  have hgl := hP.lt
  have hbase : base ≤ w.heap.size := by omega
  have hk0 := OwnB.new0 w #[.int .i64 kind, .bool any, .string n1, .string n2, .int .i64 pos, .bool by_, .string a1, .string a2, .string val] 46
  have hb0 := (Below.refl w.heap.size w).alloc (Nat.le_refl _) (.cells #[.int .i64 kind, .bool any, .string n1, .string n2, .int .i64 pos, .bool by_, .string a1, .string a2, .string val] 46)
  have hP0 := hP.more (.cells #[.int .i64 kind, .bool any, .string n1, .string n2, .int .i64 pos, .bool by_, .string a1, .string a2, .string val] 46)
  have hs0 : (w.alloc (.cells #[.int .i64 kind, .bool any, .string n1, .string n2, .int .i64 pos, .bool by_, .string a1, .string a2, .string val] 46)).heap.size = w.heap.size + 1 := by simp
  unfold elemT
  simp only
  generalize hw0 : w.alloc (.cells #[.int .i64 kind, .bool any, .string n1, .string n2, .int .i64 pos, .bool by_, .string a1, .string a2, .string val] 46) = w0 at *
  have x1 : w0.cell? ⟨w.heap.size, 1, none⟩ = some (.bool any) := hk0.cell 1
  have x2 : w0.cell? ⟨w.heap.size, 2, none⟩ = some (.string n1) := hk0.cell 2
  have x3 : w0.cell? ⟨w.heap.size, 3, none⟩ = some (.string n2) := hk0.cell 3
  have p0 : w0.cell? ⟨g, 0, none⟩ = some (.string space) := by obtain ⟨v, h, _⟩ := hP0; exact blk_cell h 0
  cases any with
  | true =>
    rw [if_pos rfl]
    have HPB := Lib.hid (hP.below hb0)
    clear hP0 x2 x3 p0
    go_enter Tryz.func106, Tryz.ntmps106
    go_upto_region 1 with fail
    clear hw0
    go_wp2
    go_ret2
    exact PrOut.good (t := [42]) (hb0.mono hbase) (KpT.of_below hb0) HPB.out
  | false =>
    rw [if_neg (by decide)]
    have hT1 : ∀ k, (T k ∨ k = w.heap.size) → k < w0.heap.size ∧ k ≠ g := fun k hk => by
      rcases hk with hk | rfl
      · have := hT k hk
        exact ⟨by omega, this.2⟩
      · exact ⟨by omega, by omega⟩
    have hd : Below w.heap.size w w0.drew := hb0.drew
    have hcall := sname_any base g space n1 n2 space sp (fun k => T k ∨ k = w.heap.size) w0.drew (hP0.below (Below.refl _ w0).drew) hT1 hsp h1 h2
    obtain ⟨o, ho⟩ : ∃ o, nameT (n1, n2) space sp = o := ⟨_, rfl⟩
    rw [ho] at hcall ⊢
    have HCALL := Lib.hid hcall
    have HX := Lib.hid hk0
    have HS : Hid (w0.drew.cell? ⟨w.heap.size, 2, none⟩ = some (.string n1) ∧ w0.drew.cell? ⟨w.heap.size, 3, none⟩ = some (.string n2) ∧ w0.drew.cell? ⟨g, 0, none⟩ = some (.string space)) := Lib.hid ⟨x2, x3, p0⟩
    clear hP0 ho hcall x2 x3 p0 hk0
    go_enter Tryz.func106, Tryz.ntmps106
    go_upto_region 1 with fail
    clear hw0
    go_wp2_with fail
    (try simp only [List.append])
    refine wp_region_held_drew (S := (fun v => v.cell? ⟨w.heap.size, 2, none⟩ = some (.string n1) ∧ v.cell? ⟨w.heap.size, 3, none⟩ = some (.string n2) ∧ v.cell? ⟨g, 0, none⟩ = some (.string space))) (by kernel_rfl) (HS.out) (fun hHeld => ?_)
    refine takeW 0 ?_
    refine takeW 1 ?_
    refine takeW 2 ?_
    refine takeW 3 ?_
    (try simp only [Act.put, List.setIfInBounds_toArray, List.set_cons_zero, List.set_cons_succ])
    refine takeW 4 ?_
    refine takeW 5 ?_
    refine takeW 6 ?_
    (try simp only [Act.put, List.setIfInBounds_toArray, List.set_cons_zero, List.set_cons_succ])
    refine wpAnyH_ready (rs := [7]) (by kernel_rfl) (by simp) ?_
    refine AllReadyH.cons rfl (fun K2 hK2 => ?_) AllReadyH.nil
    go_simp
    refine HCALL.out.mono ?_
    intro e w2 hpo
    have HPO := Lib.hid (hpo.lift hd hbase (T := T) fun k hk => .inl hk)
    obtain ⟨X, kk, rfl⟩ := hpo.form
    have hs2 : w2.cell? ⟨w.heap.size, 2, none⟩ = some (.string n1) ∧ w2.cell? ⟨w.heap.size, 3, none⟩ = some (.string n2) ∧ w2.cell? ⟨g, 0, none⟩ = some (.string space) := by
      obtain ⟨_, hkp, ⟨vv, hg⟩, _⟩ := hpo
      have hx := (hkp w.heap.size (by show _ < w0.heap.size; omega) (.inr rfl)).trans HX.out.blk
      exact ⟨blk_cell hx 2, blk_cell hx 3, blk_cell hg 0⟩
    clear hpo HCALL
    refine hK2.out _ _ hs2 (fun hHeld2 => ?_)
    refine takeW 8 ?_
    (try simp only [Act.put, List.setIfInBounds_toArray, List.set_cons_zero, List.set_cons_succ])
    refine takeW 9 ?_
    refine takeW 10 ?_
    refine takeW 11 ?_
    (try simp only [Act.put, List.setIfInBounds_toArray, List.set_cons_zero, List.set_cons_succ])
    refine wpAnyH_done (by kernel_rfl) ?_ _
    go_wp2
    go_ret2
    exact HPO.out
end Go.Proofs.YtbdamneophbnnaaGreatDoor
