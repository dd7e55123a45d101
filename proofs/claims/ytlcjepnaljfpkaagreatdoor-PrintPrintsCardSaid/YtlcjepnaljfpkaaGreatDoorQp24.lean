/- PrI. -/
import Derived.Test.YtlcjepnaljfpkaaGreatDoorQp23
namespace Wb
open Go.Lib (compactUpTo keeps compactUpTo_succ)
theorem once_snoc : ∀ (l : List ByteArray) (z : ByteArray), onceT (l ++ [z]) = if l.getLast? = some z then onceT l else onceT l ++ [z]
  | [], z => by simp [onceT]
  | [x], z => by
    show onceT (x :: z :: []) = _
    unfold onceT
    by_cases h : x = z
    · rw [if_pos h, if_pos (by simp [h])]; simp [onceT, h]
    · rw [if_neg h, if_neg (by simp [h])]; simp [onceT]
  | x :: y :: l, z => by
    have ih := once_snoc (y :: l) z
    show onceT (x :: y :: (l ++ [z])) = _
    have e : (x :: y :: l).getLast? = (y :: l).getLast? := by simp [List.getLast?_cons_cons]
    rw [e]
    have h1 : onceT (x :: y :: (l ++ [z])) = if x = y then onceT (y :: (l ++ [z])) else x :: onceT (y :: (l ++ [z])) := by rw [onceT]
    have h2 : onceT (x :: y :: l) = if x = y then onceT (y :: l) else x :: onceT (y :: l) := by rw [onceT]
    rw [h1, h2, show y :: (l ++ [z]) = (y :: l) ++ [z] from rfl, ih]
    by_cases hxy : x = y
    · simp [hxy]
    · simp only [hxy, if_false]
      split <;> simp
theorem once_upto (l : List ByteArray) : ∀ m, m ≤ l.length → compactUpTo l.toArray m = onceT (l.take m)
  | 0, _ => by simp [compactUpTo, onceT]
  | m + 1, h => by
    have hm : m < l.length := by omega
    have hx : l.toArray[m]! = l[m] := by rw [getElem!_pos l.toArray m (by simpa using hm)]; simp
    rw [compactUpTo_succ, once_upto l m (by omega), List.take_add_one, List.getElem?_eq_getElem hm, hx]
    show _ = onceT (l.take m ++ [l[m]])
    rw [once_snoc]
    unfold keeps
    rw [hx]
    by_cases h0 : m = 0
    · subst h0
      simp
    · have hp : m - 1 < l.length := by omega
      have hx2 : l.toArray[m - 1]! = l[m - 1] := by rw [getElem!_pos l.toArray (m - 1) (by simpa using hp)]; simp
      have hl : (l.take m).getLast? = some l[m - 1] := by
        rw [List.getLast?_eq_getElem?, List.length_take, Nat.min_eq_left (by omega), List.getElem?_take, if_pos (by omega), List.getElem?_eq_getElem hp]
      rw [hx2, hl]
      by_cases he : l[m] = l[m - 1]
      · rw [he]
        simp [h0]
      · have he2 : ¬ l[m - 1] = l[m] := fun e => he e.symm
        simp [h0, he, he2]
theorem once_eq (l : List ByteArray) : compactUpTo l.toArray l.length = onceT l := by rw [once_upto l _ (Nat.le_refl _), List.take_length]
theorem once_len (l : List ByteArray) : (onceT l).length ≤ l.length := by
  induction l with
  | nil => simp [onceT]
  | cons x l ih =>
    cases l with
    | nil => simp [onceT]
    | cons y l =>
      rw [onceT]
      split
      · simp only [List.length_cons] at ih ⊢; omega
      · simp only [List.length_cons] at ih ⊢; omega
theorem once_mem (l : List ByteArray) (x : ByteArray) : x ∈ onceT l ↔ x ∈ l := by
  induction l with
  | nil => simp [onceT]
  | cons y l ih =>
    cases l with
    | nil => simp [onceT]
    | cons z l =>
      rw [onceT]
      split
      · rename_i h
        rw [ih, h]
        simp
      · rw [List.mem_cons, ih, List.mem_cons (b := y)]
theorem spaces_mem {l : List Tr} {x : Tr} (h : x ∈ l) (hn : needs x.1.1 = true) : x.1.1 ∈ spacesT l := by
  unfold spacesT
  rw [once_mem]
  exact List.mem_filter.2 ⟨List.mem_map.2 ⟨x, h, rfl⟩, hn⟩
theorem spaces_len (l : List Tr) : (spacesT l).length ≤ l.length := by
  unfold spacesT
  refine Nat.le_trans (once_len _) (Nat.le_trans (List.length_filter_le _ _) (by simp))
def rawS (l : List Tr) : List ByteArray := (l.map (·.1.1)).filter needs
theorem rawS_take {l : List Tr} {k : Nat} {x : Tr} (h : l[k]? = some x) : rawS (l.take (k + 1)) = rawS (l.take k) ++ if needs x.1.1 then [x.1.1] else [] := by
  unfold rawS
  rw [List.take_add_one, h]
  show List.filter needs (List.map _ (l.take k ++ [x])) = _
  rw [List.map_append, List.filter_append]
  congr 1
  by_cases hn : needs x.1.1 = true <;> simp [hn]
theorem rawS_len (l : List Tr) (k : Nat) : (rawS (l.take k)).length ≤ k := by
  unfold rawS
  refine Nat.le_trans (List.length_filter_le _ _) ?_
  rw [List.length_map, List.length_take]
  omega
end Wb
namespace Go.Proofs.YtlcjepnaljfpkaaGreatDoor
open Go.RowKit Wb Go.Sort
theorem put_heapS (w : World) (n g : Nat) (F : Array ByteArray) (cur : Array Value) (e : TypeId) (h : w.heap[g]? = some (.cells cur e (0, 0))) :
    (putRow Value.string (Sort.ahead w n) g 0 F).heap[g]? = some (.cells (putCells Value.string 0 F cur) e (0, 0)) := by
  show (w.heap.modify g (onCells (putCells Value.string 0 F)))[g]? = _
  rw [Array.getElem?_modify, if_pos rfl, h]
  rfl
theorem put_keepS (w : World) (n g : Nat) (F : Array ByteArray) : Keep (fun k => k = g) w (putRow Value.string (Sort.ahead w n) g 0 F) := by
  refine ⟨rfl, rfl, rfl, ?_, fun k hk hn => ?_⟩
  · show w.heap.size ≤ (w.heap.modify g (onCells (putCells Value.string 0 F))).size
    simp
  · show (w.heap.modify g (onCells (putCells Value.string 0 F)))[k]? = _
    rw [Array.getElem?_modify, if_neg (fun e => hn e.symm)]
theorem eqlS : EqlAt Tryz.prog 9 Value.string (fun x y => decide (x = y)) := ⟨fun x y w => by
  rw [(EqlAt.string Tryz.prog 9).1 x y w]
  have : (x.toList == y.toList) = decide (x = y) := eqT_dec x y
  exact congrArg (fun b => Result.ok (Value.bool b) w) this, .string _ _⟩
theorem neqlS : NeqAt Tryz.prog 9 Value.string (fun x y => decide (x = y)) := ⟨fun x y w => by
  rw [(NeqAt.string Tryz.prog 9).1 x y w]
  have : (x.toList == y.toList) = decide (x = y) := eqT_dec x y
  exact congrArg (fun b => Result.ok (Value.bool (!b)) w) this, .string _ _⟩
theorem compact_any {base : Nat} {v : Value} {w : World} (sp : List ByteArray) (h : w.ownsRow base 9 1 v sp.length (cells1 sp)) (hl : sp.length ≤ 1000000) :
    Calls Tryz.prog 125 #[v] w fun e w' => ∃ v', e = .returned v' ∧ w'.ownsRow base 9 1 v' (onceT sp).length (cells1 (onceT sp)) ∧ Keep (fun k => v.ownBlock = some k) w w' := by
  rcases h.2 with ⟨rfl, hz⟩ | ⟨g, cap, cur, rfl, hbg, hg, hnc, hcm, hcs, htake⟩
  · obtain rfl : sp = [] := List.eq_nil_of_length_eq_zero hz
    clear h
    go_enter Tryz.func125, Tryz.ntmps125
    go_wp2
    go_ret
    exact ⟨_, rfl, World.ownsRow_nil _ _ _ _, Keep.refl _ _⟩
  · have hcl := h.cells (g := g) rfl
    have hH : Holds Value.string w g 0 sp.toArray := by
      intro j hj
      have hj' : j < sp.length := by simpa using hj
      refine ⟨?_, blk_free hg _⟩
      rw [Nat.zero_add]
      have h1 : (cells1 sp)[j]? = some (.string sp.toArray[j]!) := by
        rw [getElem!_pos sp.toArray j hj]
        simp [cells1, List.getElem?_eq_getElem hj']
      have h2 := hcl j _ h1
      have e : (⟨g, 0, none⟩ : Addr).add j = ⟨g, j, none⟩ := by unfold Addr.add; split <;> simp_all
      rw [e] at h2
      exact h2
    have hcon := AnyE.slices_Compact Tryz.compactF Value.string (fun _ => rfl) eqlS neqlS ⟨#[]⟩ (fun w => Tryz.zeroValue9 w) g 0 cap sp.toArray w hH (by simp; omega) (by simpa using hnc)
    have hco : Lib.compactUpTo sp.toArray sp.toArray.size = onceT sp := by rw [show sp.toArray.size = sp.length from by simp, once_eq]
    rw [hco] at hcon
    refine Calls.mono (show Calls Tryz.prog 125 #[.slice (some ⟨g, 0, none⟩) sp.length cap] w _ from hcon) ?_
    rintro e w' ⟨rfl, q, rfl⟩
    have hol := once_len sp
    refine ⟨_, rfl, ⟨by simp [cells1], .inr ⟨g, cap, _, rfl, hbg, put_heapS w q g _ cur _ hg, by omega, hcm, by simp [putCells, hcs], ?_⟩⟩, (put_keepS w q g _).mono fun k _ hk => by simp [Value.ownBlock, hk]⟩
    apply List.ext_getElem?
    intro t
    by_cases ht : t < (onceT sp).length
    · rw [List.getElem?_take, if_pos (by omega), Array.getElem?_toList]
      have htc : t < cur.size := by rw [hcs]; omega
      simp only [putCells, Array.getElem?_mapIdx, Array.getElem?_eq_getElem htc, Option.map_some]
      have hsz : t < (onceT sp ++ List.replicate (sp.toArray.size - (onceT sp).length) ({ data := #[] } : ByteArray)).toArray.size := by simp; omega
      rw [if_pos ⟨Nat.zero_le _, by omega⟩, Nat.sub_zero, getElem!_pos _ t hsz]
      simp [cells1, List.getElem_append_left, ht]
    · rw [List.getElem?_take, if_neg (by omega), List.getElem?_eq_none (by simp [cells1]; omega)]
theorem pstr_info : (Tryz.prog.info? 9).map (fun i => (i.zero, i.size, i.bytes)) = some (some (.string ⟨#[]⟩), 1, 16) := by kernel_rfl
set_option maxRecDepth 100000 in
set_option maxHeartbeats 2000000 in
theorem pdeclared_any (A : Option Addr) (l : List Tr) (c : Nat) (w : World) (h : Sl3 w A l) (hl : l.length ≤ 32) :
    Calls Tryz.prog 91 #[.slice A l.length c] w fun e w' => ∃ v', e = .returned v' ∧ w'.ownsRow w.heap.size 9 1 v' (spacesT l).length (cells1 (spacesT l)) ∧ Below w.heap.size w w' := by
  obtain ⟨i0, hi, hz0, hz1, hz2⟩ := info_parts pstr_info
  have HA := Lib.hid h
  have hxl : sXML.toList = [104, 116, 116, 112, 58, 47, 47, 119, 119, 119, 46, 119, 51, 46, 111, 114, 103, 47, 88, 77, 76, 47, 49, 57, 57, 56, 47, 110, 97, 109, 101, 115, 112, 97, 99, 101] := by rw [ByteArray.toList_eq]; rfl
  have HX := Lib.hid hxl
  clear h hxl
  go_enter Tryz.func91, Tryz.ntmps91
  go_wp2
  go_loopw [3, 9] (fun vs vi wr => ∃ (k : Nat) (Q : Option Addr) (cq : Nat), k ≤ l.length ∧ vs = .slice Q (rawS (l.take k)).length cq ∧ vi = .int .i64 k ∧ Hid (wr.ownsRow w.heap.size 9 1 (.slice Q (rawS (l.take k)).length cq) (rawS (l.take k)).length (cells1 (rawS (l.take k)))) ∧ Hid (Below w.heap.size w wr)) (fun _ vi _ => ((l.length : Int) - intOf vi).toNat)
  case atStart => exact ⟨0, none, 0, by omega, rfl, rfl, Lib.hid (World.ownsRow_nil _ _ _ _), Lib.hid (Below.refl _ _)⟩
  case round =>
    obtain ⟨k, Q, cq, hk, rfl, rfl, HO, HB⟩ := hrel
    by_cases h0 : k < l.length
    · obtain ⟨⟨⟨a1, a2⟩, a3⟩, he⟩ : ∃ x, l[k]? = some x := ⟨l[k], List.getElem?_eq_getElem h0⟩
      obtain ⟨ad, rfl, had, d1, d2, d3⟩ := (HA.out.below HB.out).at_ he
      have hst := rawS_take he
      have hrl := rawS_len l k
      simp only at d1 d2 d3 hst
      have hba := (Below.refl wr.heap.size wr).alloc (Nat.le_refl _) (.cells #[.string a1, .string a2, .string a3] 66)
      have HBA := Lib.hid (HB.out.alloc HB.out.size (.cells #[.string a1, .string a2, .string a3] 66))
      have HOA := Lib.hid (own_below HO.out hba)
      have hbs := HB.out.size
      clear hba had he HO
      by_cases h1 : a1 = sE
      · have hb : a1.toList.isEmpty = true := by rw [empty_eq, h1]; exact (eqT_iff _ _).2 rfl
        have hn : needs a1 = false := by unfold needs; rw [h1, (eqT_iff sE sE).2 rfl]; rfl
        rw [hn] at hst
        simp only [Bool.false_eq_true, if_false, List.append_nil] at hst
        have HO2 : Hid ((wr.alloc (.cells #[.string a1, .string a2, .string a3] 66)).ownsRow w.heap.size 9 1 (.slice Q (rawS (l.take (k + 1))).length cq) (rawS (l.take (k + 1))).length (cells1 (rawS (l.take (k + 1))))) := Lib.hid (by rw [hst]; exact HOA.out)
        have HSL := Lib.hid hst
        clear hst hn h1 HOA
        go_wp2
        go_roundw
        case rel => exact ⟨k + 1, Q, cq, by omega, by rw [HSL.out], by go_num, HO2, HBA⟩
        case measure => simp [intOf]; omega
      · have hb : a1.toList.isEmpty = false := by rw [empty_eq, eqT_dec]; exact decide_eq_false h1
        by_cases h2 : a1 = sXML
        · have hb2 : (a1.toList == [104, 116, 116, 112, 58, 47, 47, 119, 119, 119, 46, 119, 51, 46, 111, 114, 103, 47, 88, 77, 76, 47, 49, 57, 57, 56, 47, 110, 97, 109, 101, 115, 112, 97, 99, 101]) = true := by rw [h2, HX.out]; rfl
          have hn : needs a1 = false := by unfold needs; rw [h2, (eqT_iff sXML sXML).2 rfl]; simp
          rw [hn] at hst
          simp only [Bool.false_eq_true, if_false, List.append_nil] at hst
          have HO2 : Hid ((wr.alloc (.cells #[.string a1, .string a2, .string a3] 66)).ownsRow w.heap.size 9 1 (.slice Q (rawS (l.take (k + 1))).length cq) (rawS (l.take (k + 1))).length (cells1 (rawS (l.take (k + 1))))) := Lib.hid (by rw [hst]; exact HOA.out)
          have HSL := Lib.hid hst
          clear hst hn h1 h2 HOA
          go_wp2
          go_roundw
          case rel => exact ⟨k + 1, Q, cq, by omega, by rw [HSL.out], by go_num, HO2, HBA⟩
          case measure => simp [intOf]; omega
        · have hb2 : (a1.toList == [104, 116, 116, 112, 58, 47, 47, 119, 119, 119, 46, 119, 51, 46, 111, 114, 103, 47, 88, 77, 76, 47, 49, 57, 57, 56, 47, 110, 97, 109, 101, 115, 112, 97, 99, 101]) = false := by
            have h3 : eqT a1 sXML = false := by rw [eqT_dec]; exact decide_eq_false h2
            unfold eqT at h3
            rw [HX.out] at h3
            exact h3
          have hn : needs a1 = true := by unfold needs; rw [eqT_dec, eqT_dec, decide_eq_false h1, decide_eq_false h2]; rfl
          rw [hn] at hst
          simp only [if_true] at hst
          have HST := Lib.hid hst
          have HLIT := Lib.hid (Sl.lit (wr.alloc (.cells #[.string a1, .string a2, .string a3] 66)) 1 [.string a1] 9 1 rfl)
          have HOW := Lib.hid (HOA.out.alloc (.cells #[.string a1] 9))
          have HB2 := Lib.hid (HBA.out.alloc HBA.out.size (.cells #[.string a1] 9))
          have hm : (rawS (l.take k)).length + 1 ≤ maxLen := by unfold maxLen; omega
          have hb16 : ((rawS (l.take k)).length + 1) * 16 ≤ 140737488355328 := by omega
          have hbs2 : w.heap.size ≤ ((wr.alloc (.cells #[.string a1, .string a2, .string a3] 66)).alloc (.cells #[.string a1] 9)).heap.size := by simp; omega
          have HONE := Lib.hid (show ∀ u ∈ [Value.string a1], u.oneCell' = true from fun u hu => by simp only [List.mem_singleton] at hu; subst hu; rfl)
          clear hst hn h1 h2 HOA
          generalize hRL : (rawS (l.take k)).length = rl at *
          go_wp2_with (at_builtin; refine wpList_append_sl _ rfl (.tmp 22) (.tmp 24) _ rfl w.heap.size 9 i0 _ 1 16 Tryz.underlying106 hi hz0 hz1 hz2 rfl (by omega) _ rl (cells1 (rawS (l.take k))) rfl HOW.out (some ⟨wr.heap.size + 1, 0, none⟩) 1 1 [.string a1] rfl (by have := HLIT.out; simpa using this) HONE.out hm hb16 hbs2 ?_)
          intro v5 w5 hown5 hg5 hat5
          have HO2 : Hid (w5.ownsRow w.heap.size 9 1 v5 (rawS (l.take (k + 1))).length (cells1 (rawS (l.take (k + 1))))) := Lib.hid (by
            have e1 : (rawS (l.take (k + 1))).length = rl + 1 := by rw [HST.out, List.length_append, hRL]; rfl
            have e2 : cells1 (rawS (l.take (k + 1))) = cells1 (rawS (l.take k)) ++ [.string a1] := by rw [HST.out]; simp [cells1]
            rw [e1, e2]
            exact hown5)
          obtain ⟨Q5, c5, rfl⟩ := own_shape HO2.out
          have HB5 := Lib.hid (HB2.out.grown hg5 hbs2 (fun k hk => (own_in HOW.out hk).1))
          clear hown5 hg5 hat5 HLIT HOW HB2 HONE HST hb hb2
          go_wp2
          go_roundw
          case rel => exact ⟨k + 1, Q5, c5, by omega, rfl, by go_num, HO2, HB5⟩
          case measure => simp [intOf]; omega
    · have : k = l.length := by omega
      subst this
      rw [List.take_length] at HO
      have hlen : (rawS l).length ≤ 1000000 := by have := rawS_len l l.length; rw [List.take_length] at this; omega
      have hc := compact_any (rawS l) HO.out hlen
      have HBS := Lib.hid (fun k (hk : (Value.slice Q (rawS l).length cq).ownBlock = some k) => (own_in HO.out hk).1)
      clear hlen HO
      go_wp2_with fail
      refine hc.mono ?_
      rintro e w5 ⟨v5, rfl, hown5, hk5⟩
      have HO5 := Lib.hid hown5
      have HB5 := Lib.hid (HB.out.trans (hk5.below HBS.out HB.out.size))
      clear hc hown5 hk5
      go_wp2
      go_ret
      exact ⟨v5, rfl, HO5.out, HB5.out⟩
end Go.Proofs.YtlcjepnaljfpkaaGreatDoor
