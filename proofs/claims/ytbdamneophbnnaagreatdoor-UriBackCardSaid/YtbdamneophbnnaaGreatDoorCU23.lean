/- UeA OwnB OwnC ScD. -/
import Derived.Test.YtbdamneophbnnaaGreatDoorCU5
import Derived.Test.YtbdamneophbnnaaGreatDoorCU6
import Derived.Test.YtbdamneophbnnaaGreatDoorCU15
import Derived.Test.YtbdamneophbnnaaGreatDoorCU20
import Derived.Test.YtbdamneophbnnaaGreatDoorCU21
import Derived.Test.YtbdamneophbnnaaGreatDoorCU22
namespace Wb
open Go Go.RowKit
def ownP (us : List UInt8) : List UInt8 := if us = [] then sGlob else [117, 115, 101, 114, 115, 47] ++ pctE [] us
theorem own_join (u us d : List UInt8) : joinB 47 (pcs11 u us d) = 47 :: u ++ 47 :: (ownP us ++ 47 :: pctE [] d) := by
  unfold ownP
  by_cases h : us = []
  · rw [h, join_glob, if_pos rfl]
    simp [sGlob]
  · rw [join_user _ _ _ h, if_neg h]
    simp
theorem lst_nil (s : ByteArray) : s.data.toList = [] ↔ s = ⟨#[]⟩ := ⟨fun e => by
  have : s.data = #[] := Array.toList_inj.1 e
  rw [← this], fun e => by rw [e]⟩
theorem lst_tt (s : ByteArray) : s.data.toList = tt11 ↔ s = ⟨#[126, 126]⟩ := ⟨fun e => by
  have : s.data = #[126, 126] := Array.toList_inj.1 e
  rw [← this], fun e => by rw [e]; rfl⟩
theorem emp_false {s : ByteArray} (h : ¬ s = ⟨#[]⟩) : s.toList.isEmpty = false := by
  rw [List.isEmpty_eq_false_iff, ByteArray.toList_eq]
  exact fun e => h ((lst_nil s).1 e)
end Wb
namespace Go.Proofs.YtbdamneophbnnaaGreatDoor
open Go.RowKit Wb
set_option maxHeartbeats 4000000 in
set_option maxRecDepth 100000 in
theorem isUsage_any (u : ByteArray) (w : World) :
    Calls Tryz.prog 25 #[.string u] w fun e w' => e = .returned (.bool (decide (u.data.toList ∈ usg11))) ∧ w = w' := by
  by_cases h : u.data.toList ∈ usg11
  · rw [decide_eq_true h]
    rcases (usg_in u).1 h with rfl | rfl | rfl | rfl
    all_goals
      clear h
      go_enter Tryz.func25, Tryz.ntmps25
      go_wp2
      go_ret
      exact ⟨rfl, rfl⟩
  · rw [decide_eq_false h]
    rw [usg_in] at h
    have h1 : ¬ u = ⟨#[114, 101, 115, 111, 117, 114, 99, 101, 45, 108, 105, 115, 116, 115]⟩ := fun e => h (.inl e)
    have b1 : (u.toList == [114, 101, 115, 111, 117, 114, 99, 101, 45, 108, 105, 115, 116, 115]) = false := (lit_of u _ _ rfl).trans (eqT_false.2 h1)
    have h2 : ¬ u = ⟨#[114, 108, 115, 45, 115, 101, 114, 118, 105, 99, 101, 115]⟩ := fun e => h (.inr (.inl e))
    have b2 : (u.toList == [114, 108, 115, 45, 115, 101, 114, 118, 105, 99, 101, 115]) = false := (lit_of u _ _ rfl).trans (eqT_false.2 h2)
    have h3 : ¬ u = ⟨#[112, 114, 101, 115, 45, 114, 117, 108, 101, 115]⟩ := fun e => h (.inr (.inr (.inl e)))
    have b3 : (u.toList == [112, 114, 101, 115, 45, 114, 117, 108, 101, 115]) = false := (lit_of u _ _ rfl).trans (eqT_false.2 h3)
    have h4 : ¬ u = ⟨#[120, 99, 97, 112, 45, 99, 97, 112, 115]⟩ := fun e => h (.inr (.inr (.inr e)))
    have b4 : (u.toList == [120, 99, 97, 112, 45, 99, 97, 112, 115]) = false := (lit_of u _ _ rfl).trans (eqT_false.2 h4)
    clear h
    go_enter Tryz.func25, Tryz.ntmps25
    go_wp2
    go_ret
    exact ⟨rfl, rfl⟩
set_option maxHeartbeats 4000000 in
set_option maxRecDepth 100000 in
theorem space_any (u : ByteArray) (w : World) :
    Calls Tryz.prog 10 #[.string u] w fun e w' => e = .returned (.string ⟨(spc11 u.data.toList).toArray⟩) ∧ w = w' := by
  have hc := isUsage_any u
  obtain ⟨o, ho⟩ : ∃ o : ByteArray, ⟨(spc11 u.data.toList).toArray⟩ = o := ⟨_, rfl⟩
  rw [ho]
  unfold spc11 at ho
  by_cases h : u.data.toList ∈ usg11
  · rw [if_pos h] at ho
    rw [decide_eq_true h] at hc
    have HC := Lib.hid hc
    clear hc
    rcases (usg_in u).1 h with rfl | rfl | rfl | rfl
    all_goals
      subst ho
      clear h
      go_enter Tryz.func10, Tryz.ntmps10
      go_wp2_with fail
      refine (HC.out _).mono ?_
      rintro e w2 ⟨rfl, rfl⟩
      go_wp2
      go_ret
      exact ⟨by rfl, rfl⟩
  · rw [if_neg h] at ho
    rw [decide_eq_false h] at hc
    have HC := Lib.hid hc
    subst ho
    clear hc h
    go_enter Tryz.func10, Tryz.ntmps10
    go_wp2_with fail
    refine (HC.out _).mono ?_
    rintro e w2 ⟨rfl, rfl⟩
    go_wp2
    go_ret
    exact ⟨rfl, rfl⟩
set_option maxHeartbeats 4000000 in
set_option maxRecDepth 100000 in
theorem isName_any (s : ByteArray) (w : World) :
    Calls Tryz.prog 36 #[.string s] w fun e w' => e = .returned (.bool (nmU s.data.toList)) ∧ w = w' := by
  have hsz : s.data.toList.length = s.size := by simp
  obtain ⟨o, ho⟩ : ∃ o, nmU s.data.toList = o := ⟨_, rfl⟩
  rw [ho]
  by_cases h0 : s = ⟨#[]⟩
  · subst h0
    obtain rfl : false = o := by rw [← ho]; rfl
    clear ho hsz
    go_enter Tryz.func36, Tryz.ntmps36
    go_wp2
    go_ret
    exact ⟨rfl, rfl⟩
  · have e0 := emp_false h0
    have n0 : ¬ s.data.toList = [] := fun e => h0 ((lst_nil s).1 e)
    by_cases h2 : s = ⟨#[126, 126]⟩
    · subst h2
      obtain rfl : false = o := by rw [← ho]; rfl
      clear ho hsz e0 h0 n0
      go_enter Tryz.func36, Tryz.ntmps36
      go_wp2
      go_ret
      exact ⟨rfl, rfl⟩
    · have e2 : (s.toList == [126, 126]) = false := (lit_of s _ _ rfl).trans (eqT_false.2 h2)
      have n2 : ¬ s.data.toList = tt11 := fun e => h2 ((lst_tt s).1 e)
      unfold nmU at ho
      rw [decide_eq_false n0, decide_eq_false n2, hsz] at ho
      by_cases h1 : s.size ≤ 64
      · have i1 : (s.size : Int) ≤ 64 := by omega
        rw [decide_eq_true h1] at ho
        obtain rfl : true = o := ho
        clear n0 n2 hsz h0 h2
        go_enter Tryz.func36, Tryz.ntmps36
        go_wp2
        go_ret
        exact ⟨rfl, rfl⟩
      · have i1 : ¬ (s.size : Int) ≤ 64 := by omega
        rw [decide_eq_false h1] at ho
        obtain rfl : false = o := ho
        clear n0 n2 hsz h0 h2
        go_enter Tryz.func36, Tryz.ntmps36
        go_wp2
        go_ret
        exact ⟨rfl, rfl⟩
set_option maxHeartbeats 4000000 in
set_option maxRecDepth 100000 in
theorem isPrintable_any (s : ByteArray) (w : World) (hs : s.size ≤ 1000000) :
    Calls Tryz.prog 26 #[.string s] w fun e w' => e = .returned (.bool (nmU s.data.toList && decide (chk s.data.toList < 0))) ∧ Below w.heap.size w w' := by
  have h1 := isName_any s w
  have h2 := check_any s w (by omega)
  cases hn : nmU s.data.toList with
  | false =>
    rw [hn] at h1
    clear h2 hn
    go_enter Tryz.func26, Tryz.ntmps26
    go_wp2_with fail
    refine h1.mono ?_
    rintro e w2 ⟨rfl, rfl⟩
    go_wp2
    go_ret
    exact ⟨rfl, Below.refl _ _⟩
  | true =>
    rw [hn] at h1
    obtain ⟨k, hk⟩ : ∃ k, chk s.data.toList = k := ⟨_, rfl⟩
    rw [hk] at h2 ⊢
    clear hk hn
    rw [Bool.true_and]
    go_enter Tryz.func26, Tryz.ntmps26
    go_wp2_with fail
    refine h1.mono ?_
    rintro e w2 ⟨rfl, rfl⟩
    go_wp2_with fail
    refine h2.mono ?_
    rintro e w3 ⟨rfl, hb⟩
    go_wp2
    go_ret
    exact ⟨rfl, hb⟩
set_option maxHeartbeats 4000000 in
set_option maxRecDepth 100000 in
theorem owner_any (s : ByteArray) (w : World) (hs : s.size ≤ 1000000) (hz : (pctE [] s.data.toList).length ≤ 10000000) :
    Calls Tryz.prog 27 #[.string s] w fun e w' => e = .returned (.string (mkT (ownP s.data.toList))) ∧ Below w.heap.size w w' := by
  obtain ⟨o, ho⟩ : ∃ o, mkT (ownP s.data.toList) = o := ⟨_, rfl⟩
  rw [ho]
  unfold ownP at ho
  by_cases h0 : s = ⟨#[]⟩
  · subst h0
    rw [if_pos rfl] at ho
    subst ho
    go_enter Tryz.func27, Tryz.ntmps27
    go_wp2
    go_ret
    exact ⟨rfl, Below.refl _ _⟩
  · have e0 := emp_false h0
    have n0 : ¬ s.data.toList = [] := fun e => h0 ((lst_nil s).1 e)
    rw [if_neg n0, ← mkT_app] at ho
    have h1 := encode_any s ⟨#[]⟩ w hs (by decide)
    rw [show ((⟨#[]⟩ : ByteArray).data.toList) = [] from rfl] at h1
    obtain ⟨E, hE⟩ : ∃ E : ByteArray, mkT (pctE [] s.data.toList) = E := ⟨_, rfl⟩
    have hEz : E.size ≤ 10000000 := by rw [← hE, mkT_size]; exact hz
    rw [hE] at ho
    rw [show (⟨(pctE [] s.data.toList).toArray⟩ : ByteArray) = E from hE] at h1
    have ho' : (⟨#[117, 115, 101, 114, 115, 47]⟩ : ByteArray) ++ E = o := ho
    have HO := Lib.hid ho'
    have g1 : ¬ 9223372036854775807 < 6 + E.size := by omega
    clear ho ho' hE hz n0 h0
    go_enter Tryz.func27, Tryz.ntmps27
    go_wp2_with fail
    refine h1.mono ?_
    rintro e w2 ⟨rfl, hb⟩
    go_wp2
    go_ret
    exact ⟨by rw [HO.out]; rfl, hb⟩
end Go.Proofs.YtbdamneophbnnaaGreatDoor
namespace Wb
open Go Go.RowKit
structure OwnB (g : Nat) (w w1 : World) (cs : Array Value) (t : TypeId) : Prop where
  blk : w1.heap[g]? = some (.cells cs t (0, 0))
  low : w.heap.size ≤ g
theorem OwnB.lt {g : Nat} {w w1 : World} {cs : Array Value} {t : TypeId} (h : OwnB g w w1 cs t) : g < w1.heap.size := (Array.getElem?_eq_some_iff.1 h.blk).1
theorem OwnB.new {w w1 : World} (cs : Array Value) (t : TypeId) (hb : Below w.heap.size w w1) : OwnB w1.heap.size w (w1.alloc (.cells cs t)) cs t := ⟨heap_alloc_new w1 _, hb.size⟩
theorem OwnB.new0 (w : World) (cs : Array Value) (t : TypeId) : OwnB w.heap.size w (w.alloc (.cells cs t)) cs t := ⟨heap_alloc_new w _, Nat.le_refl _⟩
theorem OwnB.next {g : Nat} {w w1 w2 : World} {cs : Array Value} {t : TypeId} (h : OwnB g w w1 cs t) (hb : Below w1.heap.size w1 w2) : OwnB g w w2 cs t := ⟨(hb.block g h.lt).trans h.blk, h.low⟩
theorem OwnB.alloc {g : Nat} {w w1 : World} {cs : Array Value} {t : TypeId} (h : OwnB g w w1 cs t) (o : Obj) : OwnB g w (w1.alloc o) cs t := h.next ((Below.refl _ _).alloc (Nat.le_refl _) o)
theorem OwnB.set {g : Nat} {w w1 : World} {cs : Array Value} {t : TypeId} (h : OwnB g w w1 cs t) (i : Nat) (v : Value) {cs' : Array Value} (e : cs.setIfInBounds i v = cs') : OwnB g w (w1.setCell ⟨g, i, none⟩ v) cs' t := ⟨by rw [← e]; exact blk_set h.blk i v, h.low⟩
theorem OwnB.other {g g' : Nat} {w w1 : World} {cs : Array Value} {t : TypeId} (h : OwnB g w w1 cs t) (hne : g ≠ g') (i : Nat) (v : Value) : OwnB g w (w1.setCell ⟨g', i, none⟩ v) cs t := ⟨(Below.heap_setCell _ _ _ _ hne).trans h.blk, h.low⟩
theorem OwnB.cell {g : Nat} {w w1 : World} {cs : Array Value} {t : TypeId} (h : OwnB g w w1 cs t) (i : Nat) : w1.cell? ⟨g, i, none⟩ = cs[i]? := blk_cell h.blk i
theorem OwnB.free {g : Nat} {w w1 : World} {cs : Array Value} {t : TypeId} (h : OwnB g w w1 cs t) (i : Nat) : w1.frozen? ⟨g, i, none⟩ = false := blk_free h.blk i
theorem OwnB.below {g : Nat} {w w1 : World} {cs : Array Value} {t : TypeId} (h : OwnB g w w1 cs t) (hb : Below w.heap.size w w1) (i : Nat) (v : Value) : Below w.heap.size w (w1.setCell ⟨g, i, none⟩ v) := hb.setCell h.low v
theorem OwnB.put2_0 {g : Nat} {w w1 : World} {v0 v1 : Value} {t : TypeId} (h : OwnB g w w1 #[v0, v1] t) (u : Value) : OwnB g w (w1.setCell ⟨g, 0, none⟩ u) #[u, v1] t := h.set 0 u rfl
theorem OwnB.put2_1 {g : Nat} {w w1 : World} {v0 v1 : Value} {t : TypeId} (h : OwnB g w w1 #[v0, v1] t) (u : Value) : OwnB g w (w1.setCell ⟨g, 1, none⟩ u) #[v0, u] t := h.set 1 u rfl
theorem OwnB.all2 {g : Nat} {w w1 : World} {v0 v1 : Value} {t : TypeId} (h : OwnB g w w1 #[v0, v1] t) (u0 u1 : Value) : OwnB g w ((w1.setCell ⟨g, 0, none⟩ u0).setCell ⟨g, 1, none⟩ u1) #[u0, u1] t := ((h.put2_0 u0).put2_1 u1)
theorem OwnB.put5_0 {g : Nat} {w w1 : World} {v0 v1 v2 v3 v4 : Value} {t : TypeId} (h : OwnB g w w1 #[v0, v1, v2, v3, v4] t) (u : Value) : OwnB g w (w1.setCell ⟨g, 0, none⟩ u) #[u, v1, v2, v3, v4] t := h.set 0 u rfl
theorem OwnB.put5_1 {g : Nat} {w w1 : World} {v0 v1 v2 v3 v4 : Value} {t : TypeId} (h : OwnB g w w1 #[v0, v1, v2, v3, v4] t) (u : Value) : OwnB g w (w1.setCell ⟨g, 1, none⟩ u) #[v0, u, v2, v3, v4] t := h.set 1 u rfl
theorem OwnB.put5_2 {g : Nat} {w w1 : World} {v0 v1 v2 v3 v4 : Value} {t : TypeId} (h : OwnB g w w1 #[v0, v1, v2, v3, v4] t) (u : Value) : OwnB g w (w1.setCell ⟨g, 2, none⟩ u) #[v0, v1, u, v3, v4] t := h.set 2 u rfl
theorem OwnB.put5_3 {g : Nat} {w w1 : World} {v0 v1 v2 v3 v4 : Value} {t : TypeId} (h : OwnB g w w1 #[v0, v1, v2, v3, v4] t) (u : Value) : OwnB g w (w1.setCell ⟨g, 3, none⟩ u) #[v0, v1, v2, u, v4] t := h.set 3 u rfl
theorem OwnB.put5_4 {g : Nat} {w w1 : World} {v0 v1 v2 v3 v4 : Value} {t : TypeId} (h : OwnB g w w1 #[v0, v1, v2, v3, v4] t) (u : Value) : OwnB g w (w1.setCell ⟨g, 4, none⟩ u) #[v0, v1, v2, v3, u] t := h.set 4 u rfl
theorem OwnB.all5 {g : Nat} {w w1 : World} {v0 v1 v2 v3 v4 : Value} {t : TypeId} (h : OwnB g w w1 #[v0, v1, v2, v3, v4] t) (u0 u1 u2 u3 u4 : Value) : OwnB g w (((((w1.setCell ⟨g, 0, none⟩ u0).setCell ⟨g, 1, none⟩ u1).setCell ⟨g, 2, none⟩ u2).setCell ⟨g, 3, none⟩ u3).setCell ⟨g, 4, none⟩ u4) #[u0, u1, u2, u3, u4] t := (((((h.put5_0 u0).put5_1 u1).put5_2 u2).put5_3 u3).put5_4 u4)
theorem OwnB.put9_0 {g : Nat} {w w1 : World} {v0 v1 v2 v3 v4 v5 v6 v7 v8 : Value} {t : TypeId} (h : OwnB g w w1 #[v0, v1, v2, v3, v4, v5, v6, v7, v8] t) (u : Value) : OwnB g w (w1.setCell ⟨g, 0, none⟩ u) #[u, v1, v2, v3, v4, v5, v6, v7, v8] t := h.set 0 u rfl
theorem OwnB.put9_1 {g : Nat} {w w1 : World} {v0 v1 v2 v3 v4 v5 v6 v7 v8 : Value} {t : TypeId} (h : OwnB g w w1 #[v0, v1, v2, v3, v4, v5, v6, v7, v8] t) (u : Value) : OwnB g w (w1.setCell ⟨g, 1, none⟩ u) #[v0, u, v2, v3, v4, v5, v6, v7, v8] t := h.set 1 u rfl
theorem OwnB.put9_2 {g : Nat} {w w1 : World} {v0 v1 v2 v3 v4 v5 v6 v7 v8 : Value} {t : TypeId} (h : OwnB g w w1 #[v0, v1, v2, v3, v4, v5, v6, v7, v8] t) (u : Value) : OwnB g w (w1.setCell ⟨g, 2, none⟩ u) #[v0, v1, u, v3, v4, v5, v6, v7, v8] t := h.set 2 u rfl
theorem OwnB.put9_3 {g : Nat} {w w1 : World} {v0 v1 v2 v3 v4 v5 v6 v7 v8 : Value} {t : TypeId} (h : OwnB g w w1 #[v0, v1, v2, v3, v4, v5, v6, v7, v8] t) (u : Value) : OwnB g w (w1.setCell ⟨g, 3, none⟩ u) #[v0, v1, v2, u, v4, v5, v6, v7, v8] t := h.set 3 u rfl
theorem OwnB.put9_4 {g : Nat} {w w1 : World} {v0 v1 v2 v3 v4 v5 v6 v7 v8 : Value} {t : TypeId} (h : OwnB g w w1 #[v0, v1, v2, v3, v4, v5, v6, v7, v8] t) (u : Value) : OwnB g w (w1.setCell ⟨g, 4, none⟩ u) #[v0, v1, v2, v3, u, v5, v6, v7, v8] t := h.set 4 u rfl
theorem OwnB.put9_5 {g : Nat} {w w1 : World} {v0 v1 v2 v3 v4 v5 v6 v7 v8 : Value} {t : TypeId} (h : OwnB g w w1 #[v0, v1, v2, v3, v4, v5, v6, v7, v8] t) (u : Value) : OwnB g w (w1.setCell ⟨g, 5, none⟩ u) #[v0, v1, v2, v3, v4, u, v6, v7, v8] t := h.set 5 u rfl
theorem OwnB.put9_6 {g : Nat} {w w1 : World} {v0 v1 v2 v3 v4 v5 v6 v7 v8 : Value} {t : TypeId} (h : OwnB g w w1 #[v0, v1, v2, v3, v4, v5, v6, v7, v8] t) (u : Value) : OwnB g w (w1.setCell ⟨g, 6, none⟩ u) #[v0, v1, v2, v3, v4, v5, u, v7, v8] t := h.set 6 u rfl
theorem OwnB.put9_7 {g : Nat} {w w1 : World} {v0 v1 v2 v3 v4 v5 v6 v7 v8 : Value} {t : TypeId} (h : OwnB g w w1 #[v0, v1, v2, v3, v4, v5, v6, v7, v8] t) (u : Value) : OwnB g w (w1.setCell ⟨g, 7, none⟩ u) #[v0, v1, v2, v3, v4, v5, v6, u, v8] t := h.set 7 u rfl
theorem OwnB.put9_8 {g : Nat} {w w1 : World} {v0 v1 v2 v3 v4 v5 v6 v7 v8 : Value} {t : TypeId} (h : OwnB g w w1 #[v0, v1, v2, v3, v4, v5, v6, v7, v8] t) (u : Value) : OwnB g w (w1.setCell ⟨g, 8, none⟩ u) #[v0, v1, v2, v3, v4, v5, v6, v7, u] t := h.set 8 u rfl
theorem OwnB.all9 {g : Nat} {w w1 : World} {v0 v1 v2 v3 v4 v5 v6 v7 v8 : Value} {t : TypeId} (h : OwnB g w w1 #[v0, v1, v2, v3, v4, v5, v6, v7, v8] t) (u0 u1 u2 u3 u4 u5 u6 u7 u8 : Value) : OwnB g w (((((((((w1.setCell ⟨g, 0, none⟩ u0).setCell ⟨g, 1, none⟩ u1).setCell ⟨g, 2, none⟩ u2).setCell ⟨g, 3, none⟩ u3).setCell ⟨g, 4, none⟩ u4).setCell ⟨g, 5, none⟩ u5).setCell ⟨g, 6, none⟩ u6).setCell ⟨g, 7, none⟩ u7).setCell ⟨g, 8, none⟩ u8) #[u0, u1, u2, u3, u4, u5, u6, u7, u8] t := (((((((((h.put9_0 u0).put9_1 u1).put9_2 u2).put9_3 u3).put9_4 u4).put9_5 u5).put9_6 u6).put9_7 u7).put9_8 u8)
end Wb
namespace Wb
open Go Go.RowKit
theorem OwnB.put7_0 {g : Nat} {w w1 : World} {v0 v1 v2 v3 v4 v5 v6 : Value} {t : TypeId} (h : OwnB g w w1 #[v0, v1, v2, v3, v4, v5, v6] t) (u : Value) : OwnB g w (w1.setCell ⟨g, 0, none⟩ u) #[u, v1, v2, v3, v4, v5, v6] t := h.set 0 u rfl
theorem OwnB.put7_1 {g : Nat} {w w1 : World} {v0 v1 v2 v3 v4 v5 v6 : Value} {t : TypeId} (h : OwnB g w w1 #[v0, v1, v2, v3, v4, v5, v6] t) (u : Value) : OwnB g w (w1.setCell ⟨g, 1, none⟩ u) #[v0, u, v2, v3, v4, v5, v6] t := h.set 1 u rfl
theorem OwnB.put7_2 {g : Nat} {w w1 : World} {v0 v1 v2 v3 v4 v5 v6 : Value} {t : TypeId} (h : OwnB g w w1 #[v0, v1, v2, v3, v4, v5, v6] t) (u : Value) : OwnB g w (w1.setCell ⟨g, 2, none⟩ u) #[v0, v1, u, v3, v4, v5, v6] t := h.set 2 u rfl
theorem OwnB.put7_3 {g : Nat} {w w1 : World} {v0 v1 v2 v3 v4 v5 v6 : Value} {t : TypeId} (h : OwnB g w w1 #[v0, v1, v2, v3, v4, v5, v6] t) (u : Value) : OwnB g w (w1.setCell ⟨g, 3, none⟩ u) #[v0, v1, v2, u, v4, v5, v6] t := h.set 3 u rfl
theorem OwnB.put7_4 {g : Nat} {w w1 : World} {v0 v1 v2 v3 v4 v5 v6 : Value} {t : TypeId} (h : OwnB g w w1 #[v0, v1, v2, v3, v4, v5, v6] t) (u : Value) : OwnB g w (w1.setCell ⟨g, 4, none⟩ u) #[v0, v1, v2, v3, u, v5, v6] t := h.set 4 u rfl
theorem OwnB.put7_5 {g : Nat} {w w1 : World} {v0 v1 v2 v3 v4 v5 v6 : Value} {t : TypeId} (h : OwnB g w w1 #[v0, v1, v2, v3, v4, v5, v6] t) (u : Value) : OwnB g w (w1.setCell ⟨g, 5, none⟩ u) #[v0, v1, v2, v3, v4, u, v6] t := h.set 5 u rfl
theorem OwnB.put7_6 {g : Nat} {w w1 : World} {v0 v1 v2 v3 v4 v5 v6 : Value} {t : TypeId} (h : OwnB g w w1 #[v0, v1, v2, v3, v4, v5, v6] t) (u : Value) : OwnB g w (w1.setCell ⟨g, 6, none⟩ u) #[v0, v1, v2, v3, v4, v5, u] t := h.set 6 u rfl
theorem OwnB.all7 {g : Nat} {w w1 : World} {v0 v1 v2 v3 v4 v5 v6 : Value} {t : TypeId} (h : OwnB g w w1 #[v0, v1, v2, v3, v4, v5, v6] t) (u0 u1 u2 u3 u4 u5 u6 : Value) : OwnB g w (((((((w1.setCell ⟨g, 0, none⟩ u0).setCell ⟨g, 1, none⟩ u1).setCell ⟨g, 2, none⟩ u2).setCell ⟨g, 3, none⟩ u3).setCell ⟨g, 4, none⟩ u4).setCell ⟨g, 5, none⟩ u5).setCell ⟨g, 6, none⟩ u6) #[u0, u1, u2, u3, u4, u5, u6] t := (((((((h.put7_0 u0).put7_1 u1).put7_2 u2).put7_3 u3).put7_4 u4).put7_5 u5).put7_6 u6)
end Wb
namespace Wb
open Go
theorem head_cut (s : List UInt8) : (Lib.cut s [91]).1 = (headP s).1 ∧ s.drop (headP s).1.length = (headP s).2 := by
  have hs := List.takeWhile_append_dropWhile (p := fun x : UInt8 => x != 91) (l := s)
  refine ⟨?_, ?_⟩
  · cases h : cutC 91 s with
    | none =>
      rw [cut_none1 h]
      have hf := cutC_free h
      have e := dw_none (p := fun x : UInt8 => x != 91) (l := s) fun x hx => bne_iff_ne.2 (hf x hx)
      rw [e, List.append_nil] at hs
      exact hs.symm
    | some x =>
      obtain ⟨a, b⟩ := x
      rw [cut_some1 h]
      obtain ⟨rfl, hf⟩ := cutC_some h
      exact (tw_free (c := 91) b hf).1.symm
  · unfold headP
    simp only
    conv => lhs; arg 2; rw [← hs]
    rw [List.drop_left]
theorem cpos_let {s P R : List UInt8} {b1 b2 : Bool} {n : Nat} (h1 : Lib.hasPrefix s [91] = b1) (h2 : Lib.cut (Lib.trimPrefix s [91]) [93] = (P, R, b2)) (h3 : posP P = n) :
    cposP s = if (b1 && (b2 && !decide (n = 0))) = true then (n, R) else (0, s) := by
  unfold cposP
  rw [pre_take'] at h1
  by_cases hk : s.take 1 = [91]
  · have e1 : b1 = true := by rw [← h1]; exact decide_eq_true hk
    subst e1
    have et : Lib.trimPrefix s [91] = s.drop 1 := by
      unfold Lib.trimPrefix
      rw [pre_take']
      show (if decide (List.take 1 s = [91]) = true then s.drop 1 else s) = _
      rw [if_pos (decide_eq_true hk)]
    rw [et] at h2
    rw [if_pos hk]
    cases h93 : cutC 93 (s.drop 1) with
    | none =>
      rw [cut_none1 h93] at h2
      injection h2 with h2 h5
      injection h5 with h5 h6
      subst h6
      rfl
    | some x =>
      obtain ⟨t, r⟩ := x
      rw [cut_some1 h93] at h2
      injection h2 with h2 h5
      injection h5 with h5 h6
      subst h2 h5 h6
      simp only [h3, Bool.true_and]
      by_cases h0 : n = 0
      · simp [h0]
      · simp [h0]
  · have e1 : b1 = false := by rw [← h1]; exact decide_eq_false hk
    subst e1
    rw [if_neg hk]
    rfl
def quoV (t : List UInt8) : Option (List UInt8) :=
  match t with
  | [] => none
  | q :: u => if q = 34 ∨ q = 39 then match cutC q u with
      | none => none
      | some (v, e) => if e = [93] then some v else none
    else none
theorem testP_let {s N U : List UInt8} {b1 b2 b3 : Bool} (h1 : Lib.hasPrefix s [91, 64] = b1) (h2 : Lib.cut (Lib.trimPrefix s [91, 64]) [61] = (N, U, b2)) (h3 : (splitB ⟨N.toArray⟩).2.2 = b3) :
    testP s = if (b1 && (b2 && b3)) = true then (quoV U).map fun v => (N, v) else none := by
  unfold testP
  rw [pre_take'] at h1
  by_cases hk : s.take 2 = [91, 64]
  · have e1 : b1 = true := by rw [← h1]; exact decide_eq_true hk
    subst e1
    have et : Lib.trimPrefix s [91, 64] = s.drop 2 := by
      unfold Lib.trimPrefix
      rw [pre_take']
      show (if decide (List.take 2 s = [91, 64]) = true then s.drop 2 else s) = _
      rw [if_pos (decide_eq_true hk)]
    rw [et] at h2
    rw [if_pos hk]
    cases h61 : cutC 61 (s.drop 2) with
    | none =>
      rw [cut_none1 h61] at h2
      injection h2 with h2 h5
      injection h5 with h5 h6
      subst h6
      rfl
    | some x =>
      obtain ⟨n, t⟩ := x
      rw [cut_some1 h61] at h2
      injection h2 with h2 h5
      injection h5 with h5 h6
      subst h2 h5 h6
      simp only [h3, Bool.true_and]
      cases t with
      | nil => simp [quoV]
      | cons q u =>
        unfold quoV
        simp only
        by_cases hq : q = 34 ∨ q = 39
        · rw [if_pos hq, if_pos hq]
          cases cutC q u with
          | none => simp
          | some x =>
            obtain ⟨v, e⟩ := x
            simp only
            cases b3 with
            | false => simp
            | true =>
              by_cases he : e = [93]
              · simp [he]
              · simp [he]
        · rw [if_neg hq, if_neg hq]
          simp
  · have e1 : b1 = false := by rw [← h1]; exact decide_eq_false hk
    subst e1
    rw [if_neg hk]
    rfl
def cutK (d : List UInt8) : Option (List UInt8 × Nat × Option (List UInt8 × List UInt8)) :=
  if (headP d).1 ≠ [42] ∧ (splitB ⟨(headP d).1.toArray⟩).2.2 = false then none
  else if (cposP (headP d).2).2 = [] then some ((headP d).1, (cposP (headP d).2).1, none)
  else match testP (cposP (headP d).2).2 with
    | none => none
    | some av => some ((headP d).1, (cposP (headP d).2).1, some av)
theorem step_none {sc : List Pr} {d : List UInt8} (h : cutK d = none) : stepP sc d = .error 33 := by
  unfold cutK at h
  unfold stepP
  split at h
  · rename_i hc
    rw [if_pos hc]
  · rename_i hc
    rw [if_neg hc]
    cases hp : posnP (headP d).2 with
    | none => rfl
    | some x =>
      obtain ⟨p, r⟩ := x
      have e := cpos_some (head_rest d) hp
      rw [e] at h
      simp only at h ⊢
      split at h
      · cases h
      · rename_i hr
        rw [if_neg hr]
        cases ht : testP r with
        | none => rfl
        | some av =>
          rw [ht] at h
          cases h
theorem step_some {sc : List Pr} {d n : List UInt8} {p : Nat} (h : cutK d = some (n, p, none)) :
    p ≤ 9999 ∧ n.length ≤ d.length ∧ stepP sc d = if n = [42] then .ok ⟨1, true, nE, p, false, nE, sE⟩ else if (resB sc ⟨n.toArray⟩ false).2 = 0 then .ok ⟨1, false, (resB sc ⟨n.toArray⟩ false).1, p, false, nE, sE⟩ else .error (resB sc ⟨n.toArray⟩ false).2 := by
  have hh := (headP_len d).1
  unfold cutK at h
  unfold stepP
  split at h
  · cases h
  · rename_i hc
    rw [if_neg hc]
    cases hp : posnP (headP d).2 with
    | none =>
      have := cpos_none hp
      rw [if_neg this.1, this.2] at h
      cases h
    | some x =>
      obtain ⟨q, r⟩ := x
      have e := cpos_some (head_rest d) hp
      rw [e] at h
      simp only at h ⊢
      split at h
      · rename_i hr
        injection h with h
        injection h with h1 h
        injection h with h2 h
        subst h1 h2
        rw [if_pos hr]
        refine ⟨?_, hh, rfl⟩
        unfold posnP at hp
        split at hp
        · injection hp with hp
          injection hp with hp _
          omega
        · split at hp
          · cases hp
          · split at hp
            · cases hp
            · rename_i t r' _ _
              injection hp with hp
              injection hp with hp _
              have := posP_le t
              omega
      · split at h
        · cases h
        · injection h with h
          injection h with h1 h
          injection h with h2 h
          cases h
theorem step_test {sc : List Pr} {d n a v : List UInt8} {p : Nat} (h : cutK d = some (n, p, some (a, v))) :
    p ≤ 9999 ∧ n.length ≤ d.length ∧ a.length ≤ d.length ∧ v.length ≤ d.length ∧ stepP sc d = if n ≠ [42] ∧ (resB sc ⟨n.toArray⟩ false).2 ≠ 0 then .error (resB sc ⟨n.toArray⟩ false).2
          else if (resB sc ⟨a.toArray⟩ true).2 ≠ 0 then .error (resB sc ⟨a.toArray⟩ true).2
          else if (unV v).2 ≠ 0 then .error (unV v).2
          else .ok ⟨1, decide (n = [42]), if n = [42] then nE else (resB sc ⟨n.toArray⟩ false).1, p, true, (resB sc ⟨a.toArray⟩ true).1, ⟨(unV v).1.toArray⟩⟩ := by
  have hh := headP_len d
  unfold cutK at h
  unfold stepP
  split at h
  · cases h
  · rename_i hc
    rw [if_neg hc]
    cases hp : posnP (headP d).2 with
    | none =>
      have := cpos_none hp
      rw [if_neg this.1, this.2] at h
      cases h
    | some x =>
      obtain ⟨q, r⟩ := x
      have e := cpos_some (head_rest d) hp
      have hrl := posnP_len hp
      rw [e] at h
      simp only at h ⊢
      split at h
      · injection h with h
        injection h with h1 h
        injection h with h2 h
        cases h
      · rename_i hr
        rw [if_neg hr]
        split at h
        · cases h
        · rename_i av ht
          injection h with h
          injection h with h1 h
          injection h with h2 h
          injection h with h
          subst h1 h2 h
          have htl := testP_len ht
          rw [ht]
          refine ⟨?_, hh.1, by omega, by omega, rfl⟩
          unfold posnP at hp
          split at hp
          · injection hp with hp
            injection hp with hp _
            omega
          · split at hp
            · cases hp
            · split at hp
              · cases hp
              · rename_i t r' _ _
                injection hp with hp
                injection hp with hp _
                have := posP_le t
                omega
end Wb
namespace Go.Proofs.YtbdamneophbnnaaGreatDoor
open Go.RowKit Wb
set_option maxHeartbeats 1000000 in
theorem qualified_any (s : ByteArray) (w : World) (hs : s.size ≤ 1000000000) :
    Calls Tryz.prog 141 #[.string s] w fun e w' => e = .returned (.bool (splitB s).2.2) ∧ Below w.heap.size w w' := by
  go_enter Tryz.func141, Tryz.ntmps141
  go_wp2_with fail
  refine (split_any s _ hs).mono ?_
  rintro e w1 ⟨rfl, hb⟩
  go_wp2
  go_ret
  exact ⟨rfl, hb⟩
set_option maxHeartbeats 4000000 in
set_option maxRecDepth 100000 in
theorem position_any (t : ByteArray) (w : World) (hs : t.size ≤ 1000000000) (hG : GvS w) :
    Calls Tryz.prog 155 #[.string t] w fun e w' => e = .returned (.int .i64 (posP t.data.toList : Nat)) ∧ Below w.heap.size w w' := by
  rcases hp : Lib.parseUintB 64 t.data.toList with u | _ | _
  · have hpu := Tryz.strconv_ParseUint_10_at64_ok t (by omega) u hp
    obtain ⟨hne, hpos⟩ := pos_ok hp
    have hu := Lib.parseUintB_le hp
    have h0 : 0 < t.size := by
      cases h : t.data.toList with
      | nil => exact absurd h hne
      | cons c r =>
        have := congrArg List.length h
        simp at this
        omega
    have hd : t.data.toList.head? = some t[0] := by
      rw [List.head?_eq_getElem?, List.getElem?_eq_getElem (by simpa using h0)]
      rfl
    rw [hpos, hd]
    clear hpos hp hne hd
    have hwr : u ≤ 9999 → IntKind.i64.wrap (u : Int) = (u : Int) := fun h => by rw [IntKind.wrap_i64]; omega
    by_cases h9 : 9999 < u
    · have h9i : (9999 : Int) < (u : Int) := by omega
      rw [if_pos (.inl h9)]
      clear h9 hwr
      go_enter Tryz.func155, Tryz.ntmps155
      go_wp2_with fail
      refine (hpu _).mono ?_
      rintro e w1 ⟨rfl, hw⟩
      have hb : Below w.heap.size w w1 := by
        rcases hw with rfl | rfl
        · exact Below.refl _ _
        · exact Lib.bytesWorld_below _ _ _
      clear hw hpu
      go_wp2
      go_ret
      exact ⟨rfl, hb⟩
    · have h9i : ¬ (9999 : Int) < (u : Int) := by omega
      have hwu := hwr (by omega)
      cases h48 : (t[0] == 48) with
      | true =>
        have e48 : t[0] = 48 := by simpa using h48
        rw [if_pos (.inr (by rw [e48]))]
        clear h9 hwr
        go_enter Tryz.func155, Tryz.ntmps155
        go_wp2_with fail
        refine (hpu _).mono ?_
        rintro e w1 ⟨rfl, hw⟩
        have hb : Below w.heap.size w w1 := by
          rcases hw with rfl | rfl
          · exact Below.refl _ _
          · exact Lib.bytesWorld_below _ _ _
        clear hw hpu
        go_wp2
        go_ret
        exact ⟨rfl, hb⟩
      | false =>
        have e48 : t[0] ≠ 48 := by simpa using h48
        have hne : ((t[0].toNat : Int) == 48) = false := by
          rw [beq_eq_false_iff_ne]
          intro h
          exact e48 (UInt8.toNat_inj.1 (by show t[0].toNat = 48; omega))
        have hdec : decide ((9999 : Int) < (u : Int)) = false := decide_eq_false h9i
        rw [if_neg (by simp only [Option.some.injEq, not_or]; exact ⟨h9, e48⟩)]
        clear h9 hwr
        go_enter Tryz.func155, Tryz.ntmps155
        go_wp2_with fail
        refine (hpu _).mono ?_
        rintro e w1 ⟨rfl, hw⟩
        have hb : Below w.heap.size w w1 := by
          rcases hw with rfl | rfl
          · exact Below.refl _ _
          · exact Lib.bytesWorld_below _ _ _
        clear hw hpu
        go_wp2
        go_ret
        exact ⟨by rw [← hwu]; rfl, hb⟩
  · have hz := pos_bad (t := t.data.toList) (by rw [hp]; intro u h; cases h)
    obtain ⟨ev, hv, hev⟩ := hG.1.es
    have hpu : Calls Tryz.prog 169 #[.string t, .int .i64 10, .int .i64 64] w fun e w' => ∃ (N : Nat) (ti : TypeId), e = .returned (.tuple #[.int .u64 0, .iface ti (.pointer (some ⟨N, 0, none⟩))]) ∧ Below w.heap.size w w' :=
      (Any.strconv_ParseUint_10_at64_syntax Tryz.laysPu14 t (by omega) hp ev w hv hev).mono fun e w' ⟨N, h1, _, _, h4⟩ => ⟨N, _, h1, h4⟩
    rw [hz]
    clear hz hp
    go_enter Tryz.func155, Tryz.ntmps155
    go_wp2_with fail
    refine hpu.mono ?_
    rintro e w1 ⟨N, ti, rfl, hb⟩
    go_wp2
    go_ret
    exact ⟨rfl, hb⟩
  · have hz := pos_bad (t := t.data.toList) (by rw [hp]; intro u h; cases h)
    obtain ⟨ev, hv, hev⟩ := hG.1.er
    have hpu := Tryz.strconv_ParseUint_10_at64_range t (by omega) hp ev w hv hev
    rw [hz]
    clear hz hp
    go_enter Tryz.func155, Tryz.ntmps155
    go_wp2_with fail
    refine hpu.mono ?_
    rintro e w1 ⟨N, rfl, -, -, hb⟩
    go_wp2
    go_ret
    exact ⟨rfl, hb⟩
set_option maxHeartbeats 4000000 in
set_option maxRecDepth 100000 in
theorem cutName_any (s : ByteArray) (w : World) (hs : s.size ≤ 1000000000) (hG : GvS w) :
    Calls Tryz.prog 139 #[.string s] w fun e w' => e = .returned (.tuple #[.string (mkT (headP s.data.toList).1), .string (mkT (headP s.data.toList).2)]) ∧ Below w.heap.size w w' := by
  obtain ⟨h1, h2⟩ := head_cut s.data.toList
  have k1 := cut1_any s 91 w hs hG
  rw [h1] at k1
  have hl : (mkT (headP s.data.toList).1).size ≤ s.size := by
    rw [mkT_size]
    have := (headP_len s.data.toList).1
    simpa using this
  have he : s.extract (mkT (headP s.data.toList).1).size s.size = mkT (headP s.data.toList).2 := by
    rw [mkT_size, ← h2, ← ext_drop]
    exact (to_list _).symm
  rw [← he]
  clear h1 h2 he
  generalize (Lib.cut s.data.toList [91]).2.1 = Q at *
  generalize (Lib.cut s.data.toList [91]).2.2 = b at *
  generalize mkT (headP s.data.toList).1 = P at *
  have hl2 : (P.size : Int) ≤ (s.size : Int) := by omega
  go_enter Tryz.func139, Tryz.ntmps139
  go_wp2_with fail
  refine k1.mono ?_
  rintro e w1 ⟨rfl, hb⟩
  clear k1
  go_wp2
  go_region
  go_wp2
  go_ret2
  exact ⟨rfl, hb.drew⟩
set_option maxHeartbeats 4000000 in
set_option maxRecDepth 100000 in
theorem cutPos_any (s : ByteArray) (w : World) (hs : s.size ≤ 1000000) (hG : GvS w) :
    Calls Tryz.prog 140 #[.string s] w fun e w' => e = .returned (.tuple #[.int .i64 ((cposP s.data.toList).1 : Nat), .string (mkT (cposP s.data.toList).2)]) ∧ Below w.heap.size w w' := by
  obtain ⟨b1, h1⟩ : ∃ b, Lib.hasPrefix s.data.toList [91] = b := ⟨_, rfl⟩
  obtain ⟨P, R, b2, h2⟩ : ∃ P R b, Lib.cut (Lib.trimPrefix s.data.toList [91]) [93] = (P, R, b) := ⟨_, _, _, rfl⟩
  obtain ⟨n, h3⟩ : ∃ n, posP P = n := ⟨_, rfl⟩
  have hn9 : n ≤ 9999 := by rw [← h3]; exact posP_le P
  have hL := cpos_let h1 h2 h3
  have ll := trimP_le s.data.toList [91]
  have l1 := cut_le (Lib.trimPrefix s.data.toList [91]) 93
  rw [h2] at l1
  have hsl : s.data.toList.length = s.size := by simp
  have hsm : mkT s.data.toList = s := to_list s
  have k1 := cutP_any s ⟨#[91]⟩
  have ek : (⟨#[91]⟩ : ByteArray).data.toList = [91] := rfl
  rw [ek, h1] at k1
  obtain ⟨T, hT⟩ : ∃ T, Lib.trimPrefix s.data.toList [91] = T := ⟨_, rfl⟩
  rw [hT] at k1 l1 h2 ll
  have k2 := cut1_any (mkT T) 93 w (by rw [mkT_size]; omega) hG
  rw [mkT_list, h2] at k2
  have k3 := fun v hv => position_any (mkT P) v (by rw [mkT_size]; simp only at l1; omega) hv
  rw [mkT_list, h3] at k3
  simp only at k2
  obtain ⟨o, ho⟩ : ∃ o, cposP s.data.toList = o := ⟨_, rfl⟩
  rw [ho]
  rw [ho] at hL
  clear h1 h2 h3 l1 ll hsl hT ek ho
  generalize s.data.toList = sl at *
  have K3 := Lib.hid k3
  have hc : b1 = false ∨ (b1 = true ∧ b2 = false) ∨ (b1 = true ∧ b2 = true ∧ n = 0) ∨ (b1 = true ∧ b2 = true ∧ n ≠ 0) := by
    cases b1 <;> cases b2 <;> simp <;> omega
  rcases hc with rfl | ⟨rfl, rfl⟩ | ⟨rfl, rfl, rfl⟩ | ⟨rfl, rfl, hn⟩
  all_goals
    clear k3
    go_enter Tryz.func140, Tryz.ntmps140
    go_wp2_with fail
    refine (k1 _).mono ?_
    rintro e w1 ⟨rfl, rfl⟩
    go_wp2_with fail
    refine k2.mono ?_
    rintro e w2 ⟨rfl, hb2⟩
    go_wp2_with fail
    refine (K3.out _ (hG.next hb2)).mono ?_
    rintro e w3 ⟨rfl, hb3⟩
    have HB3 := Lib.hid (hb2.trans (hb3.mono hb2.size))
    clear hb2 hb3 k1 k2 K3 hG
  · obtain rfl : o = (0, sl) := by simpa using hL
    go_wp2
    go_ret2
    exact ⟨by rw [← hsm]; rfl, HB3.out⟩
  · obtain rfl : o = (0, sl) := by simpa using hL
    go_wp2
    go_ret2
    exact ⟨by rw [← hsm]; rfl, HB3.out⟩
  · obtain rfl : o = (0, sl) := by simpa using hL
    go_wp2
    go_ret2
    exact ⟨by rw [← hsm]; rfl, HB3.out⟩
  · obtain rfl : o = (n, R) := by simpa [hn] using hL
    have hn0 : ((n : Int) == 0) = false := by rw [beq_eq_false_iff_ne]; omega
    clear hL
    go_wp2
    go_ret2
    exact ⟨rfl, HB3.out⟩
end Go.Proofs.YtbdamneophbnnaaGreatDoor
