/- PrG. -/
import Derived.Test.YtlcjepnaljfpkaaGreatDoorQp22
namespace Wb
open Go.Sort Go.Proofs
theorem encT_len (x : Tr) : (encT x).length = 3 := rfl
theorem encT_one (x : Tr) : ∀ v ∈ encT x, v.oneCell' = true := by
  intro v hv
  simp only [encT, List.mem_cons, List.mem_nil_iff, or_false] at hv
  rcases hv with rfl | rfl | rfl <;> rfl
theorem ltOf_cmp (x y : Tr) : ltOf cmpT x y = decide (ltT x y) := by
  unfold ltOf
  refine decide_eq_decide.2 ?_
  unfold ltT
  rcases cmpT_cases x y with h | h | h <;> omega
theorem swo_cmp : SWO (ltOf cmpT) where
  irrefl x := by rw [ltOf_cmp]; exact decide_eq_false (ltT_irrefl x)
  trans x y z h1 h2 := by
    rw [ltOf_cmp] at *
    exact decide_eq_true (ltT_trans (of_decide_eq_true h1) (of_decide_eq_true h2))
  ntrans x y z h1 h2 := by
    rw [ltOf_cmp] at *
    exact decide_eq_false (fun h => not_lt_trans (of_decide_eq_false h2) (of_decide_eq_false h1) h)
theorem cells3_flat (d : Array Tr) : cells3 d.toList = (flatK encT 3 d).toList := by
  apply List.ext_getElem?
  intro t
  by_cases ht : t < d.size * 3
  · have hx : d.toList[t / 3]? = some d[t / 3]! := by
      have : t / 3 < d.size := by omega
      rw [Array.getElem?_toList, Array.getElem?_eq_getElem this, getElem!_pos d (t / 3) this]
    obtain ⟨g1, g2, g3⟩ := cells3_at _ _ _ hx
    have hf : (flatK encT 3 d).toList[t]? = some ((encT d[t / 3]!)[t % 3]!) := by
      rw [Array.getElem?_toList, Array.getElem?_eq_getElem (by simpa using ht), ← getElem!_pos (flatK encT 3 d) t (by simpa using ht), get_flatK _ _ _ _ ht]
    rw [hf]
    rcases (by omega : t = t / 3 * 3 ∨ t = t / 3 * 3 + 1 ∨ t = t / 3 * 3 + 2) with e | e | e
    · rw [e, g1, ← e, show t % 3 = 0 from by omega]; rfl
    · rw [e, g2, ← e, show t % 3 = 1 from by omega]; rfl
    · rw [e, g3, ← e, show t % 3 = 2 from by omega]; rfl
  · rw [List.getElem?_eq_none (by rw [cells3_length]; simpa using ht), List.getElem?_eq_none (by simpa using ht)]
end Wb
namespace Go.Proofs.YtlcjepnaljfpkaaGreatDoor
open Go.RowKit Wb Go.Sort
theorem put_heap (w : World) (n g : Nat) (F : Array Value) (os : Array Obj) (cur : Array Value) (e : TypeId) (h : w.heap[g]? = some (.cells cur e (0, 0))) :
    (Sort.grow (putRow id (Sort.ahead w n) g 0 F) os).heap[g]? = some (.cells (putCells id 0 F cur) e (0, 0)) := by
  have hg := blk_in h
  have h2 : (putRow id (Sort.ahead w n) g 0 F).heap[g]? = some (.cells (putCells id 0 F cur) e (0, 0)) := by
    show (w.heap.modify g (onCells (putCells id 0 F)))[g]? = _
    rw [Array.getElem?_modify, if_pos rfl, h]
    rfl
  show ((putRow id (Sort.ahead w n) g 0 F).heap ++ os)[g]? = _
  rw [Array.getElem?_append_left (blk_in h2)]
  exact h2
theorem put_keep (w : World) (n g : Nat) (F : Array Value) (os : Array Obj) : Keep (fun k => k = g) w (Sort.grow (putRow id (Sort.ahead w n) g 0 F) os) := by
  have hsz : (putRow id (Sort.ahead w n) g 0 F).heap.size = w.heap.size := by
    show (w.heap.modify g (onCells (putCells id 0 F))).size = _
    simp
  refine ⟨rfl, rfl, rfl, ?_, fun k hk hn => ?_⟩
  · show w.heap.size ≤ ((putRow id (Sort.ahead w n) g 0 F).heap ++ os).size
    rw [Array.size_append, hsz]; omega
  · show ((putRow id (Sort.ahead w n) g 0 F).heap ++ os)[k]? = _
    rw [Array.getElem?_append_left (by rw [hsz]; exact hk)]
    show (w.heap.modify g (onCells (putCells id 0 F)))[k]? = _
    rw [Array.getElem?_modify, if_neg (fun e => hn e.symm)]
set_option maxHeartbeats 2000000 in
theorem insertion_none (p : Option Addr) (cap : Nat) (fv : Value) (w : World) :
    Calls Tryz.prog 144 #[.slice p 0 cap, .int .i64 0, .int .i64 0, fv] w fun e w' => e = .returned (.tuple #[]) ∧ w' = w := by
  go_enter Tryz.func144, Tryz.ntmps144
  go_wp2
  refine wp_loop_rounds 1 ?_
  rw [rounds_succ]
  go_wp2
  go_end0
  exact ⟨rfl, rfl⟩
set_option maxHeartbeats 2000000 in
theorem pdq_none (p : Option Addr) (cap : Nat) (lim : Int) (fv : Value) (w : World) :
    Calls Tryz.prog 122 #[.slice p 0 cap, .int .i64 0, .int .i64 0, .int .i64 lim, fv] w fun e w' => e = .returned (.tuple #[]) ∧ w' = w := by
  have hi := insertion_none p cap fv
  go_enter Tryz.func122, Tryz.ntmps122
  go_wp2
  refine wp_loop_rounds 1 ?_
  rw [rounds_succ]
  go_wp2_with fail
  refine (hi _).mono ?_
  rintro e w' ⟨rfl, rfl⟩
  go_wp2
  (try simp only [Exit.inBlock, Exit.then]); refine bodyPost_ret (results_none rfl _ _ _) rfl ?_
  exact ⟨rfl, rfl⟩
set_option maxHeartbeats 2000000 in
theorem sort_none (p : Option Addr) (cap : Nat) (fv : Value) (w : World) :
    Calls Tryz.prog 89 #[.slice p 0 cap, fv] w fun e w' => e = .returned (.tuple #[]) ∧ w' = w := by
  have hp := fun lim W => pdq_none p cap lim fv W
  have hl : ∀ W, Calls Tryz.prog 123 #[.int .u64 0] W fun e w' => e = .returned (.int .i64 (Lib.bitLen 0 : Nat)) ∧ w' = W := fun W => Any.bits_Len (SlLaysF0.n15.bits (P := Tryz.prog) (ρ := Tryz.sortF_ren) { Tryz.sortF with }) 0 W (by omega) (by omega)
  go_enter Tryz.func89, Tryz.ntmps89
  go_wp2_with fail
  refine (hl _).mono ?_
  rintro e w' ⟨rfl, rfl⟩
  go_wp2_with fail
  refine (hp _ _).mono ?_
  rintro e w' ⟨rfl, rfl⟩
  go_wp2
  go_end0
  exact ⟨rfl, rfl⟩
theorem sort_any {base : Nat} {A : Option Addr} {c : Nat} {w : World} (l : List Tr) (h : w.ownsRow base 66 3 (.slice A l.length c) l.length (cells3 l)) (hl : l.length ≤ 1000000) :
    Calls Tryz.prog 89 #[.slice A l.length c, .func (.func 90) #[] #[]] w fun e w' => e = .returned (.tuple #[]) ∧
      ∃ l' : List Tr, l'.Perm l ∧ Rise l' ∧ w'.ownsRow base 66 3 (.slice A l.length c) l.length (cells3 l') ∧ Keep (fun k => (Value.slice A l.length c).ownBlock = some k) w w' := by
  by_cases h0 : l = []
  · subst h0
    refine (sort_none A c (.func (.func 90) #[] #[]) w).mono ?_
    rintro e w' ⟨rfl, rfl⟩
    exact ⟨rfl, [], List.Perm.refl _, List.Pairwise.nil, h, Keep.refl _ _⟩
  · rcases h.2 with ⟨hv, hz⟩ | ⟨g, cap, cur, hv, hbg, hg, hnc, hcm, hcs, htake⟩
    · exact absurd (List.eq_nil_of_length_eq_zero hz) h0
    · obtain ⟨rfl, _, rfl⟩ : A = some ⟨g, 0, none⟩ ∧ l.length = l.length ∧ c = cap := by injection hv with a b c; exact ⟨a, b, c⟩
      have hcl := h.cells (g := g) rfl
      have hH : HoldsK encT 3 w g 0 l.toArray := by
        intro j hj
        have hj' : j < (flatK encT 3 l.toArray).size := hj
        refine ⟨?_, blk_free hg _⟩
        rw [Nat.zero_add]
        have h1 : (cells3 l)[j]? = some (flatK encT 3 l.toArray)[j]! := by
          rw [show cells3 l = cells3 l.toArray.toList from rfl, cells3_flat, Array.getElem?_toList, Array.getElem?_eq_getElem hj', getElem!_pos _ j hj']
        have h2 := hcl j _ h1
        have e : (⟨g, 0, none⟩ : Addr).add j = ⟨g, j, none⟩ := by unfold Addr.add; split <;> simp_all
        rw [e] at h2
        exact h2
      have hcmp : CmpLays Tryz.prog 90 #[] encT 3 cmpT g 0 l.toArray.size w := fun _ _ _ _ x y => byName_any x y _
      have eg : ∀ args w, (callFunc 90 args).run Tryz.prog w = .ok (.enter 90 args) w := enters_of Tryz.func90 (by kernel_rfl) rfl
      have hcon := AnyQ.slices_SortFunc Tryz.sortF 3 Tryz.isAgg66 Tryz.sizeOf66 encT (fun _ => rfl) encT_one cmpT swo_cmp 90 #[] g 0 c l.toArray w eg hcmp hH (blk_in hg) (by simp; omega)
      refine Calls.mono (show Calls Tryz.prog 89 #[.slice (some ⟨g, 0, none⟩) l.length c, .func (.func 90) #[] #[]] w _ from hcon) ?_
      rintro e w' ⟨rfl, d', n, os, ⟨hs, _, hp⟩, hsort, rfl⟩
      have hs' : d'.size = l.length := by simpa using hs
      refine ⟨rfl, d'.toList, ?_, ?_, ?_, ?_⟩
      · have e1 : d'.extract 0 l.toArray.size = d' := by rw [show l.toArray.size = d'.size from hs.symm]; exact Array.extract_size
        have e2 : l.toArray.extract 0 l.toArray.size = l.toArray := Array.extract_size
        rw [e1, e2] at hp
        exact hp
      · refine List.pairwise_iff_getElem.2 fun i j hi hj hij => ?_
        have h1 := hsort i j (Nat.zero_le _) hij (by rw [← hs]; simpa using hj)
        rw [ltOf_cmp] at h1
        have h2 := of_decide_eq_false h1
        rw [getElem!_pos d' i (by simpa using hi), getElem!_pos d' j (by simpa using hj)] at h2
        simpa using h2
      · refine ⟨by rw [cells3_length]; simp [hs'], .inr ⟨g, c, putCells id 0 (flatK encT 3 d') cur, rfl, hbg, put_heap w n g _ os cur _ hg, hnc, hcm, by simp [putCells, hcs], ?_⟩⟩
        rw [cells3_flat]
        apply List.ext_getElem?
        intro t
        have hfs : (flatK encT 3 d').size = l.length * 3 := by simp [hs']
        by_cases ht : t < l.length * 3
        · rw [List.getElem?_take, if_pos ht, Array.getElem?_toList, Array.getElem?_toList]
          have htc : t < cur.size := by rw [hcs]; have := Nat.mul_le_mul_right 3 hnc; omega
          simp only [putCells, Array.getElem?_mapIdx, Array.getElem?_eq_getElem htc, Option.map_some]
          rw [if_pos ⟨Nat.zero_le _, by omega⟩, Nat.sub_zero, Array.getElem?_eq_getElem (by omega), getElem!_pos _ t (by omega)]
          rfl
        · rw [List.getElem?_take, if_neg ht, List.getElem?_eq_none (by simp [hs']; omega)]
      · exact (put_keep w n g _ os).mono fun k _ hk => by simp [Value.ownBlock, hk]
end Go.Proofs.YtlcjepnaljfpkaaGreatDoor
