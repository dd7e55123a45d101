/- TrO. -/
import Derived.Deep.SlicePairs
import Derived.Carry
import Derived.Test.YtlcjepnaljfpkaaGreatDoorQp9
namespace Wb
open Go Go.RowKit Go.Deep Go.ChangeShapes Go.WideShapes
theorem add_add (a : Addr) (n k : Nat) : (a.add n).add k = a.add (n + k) := by
  by_cases hk : k = 0
  · subst hk; simp [Addr.add]
  · rw [add_succ a n k (by omega)]
    show (if k = 0 then a.add n else ⟨(a.add n).block, (a.add n).off + k, none⟩) = _
    rw [if_neg hk]
structure NdTypes (P : Program) (tN tM tA tSA tSN tS tI : TypeId) : Prop where
  node : ∃ f0 f1 f2 f3 f4 : Field, P.underlying tN = some (.struct #[f0, f1, f2, f3, f4]) ∧ f0.type = tI ∧ f1.type = tM ∧ f2.type = tSA ∧ f3.type = tSN ∧ f4.type = tS ∧ f0.offset = 0 ∧ f1.offset = 1 ∧ f2.offset = 3 ∧ f3.offset = 4 ∧ f4.offset = 5
  nodeC : P.cellsOf tN = 6
  name : ∃ f0 f1 : Field, P.underlying tM = some (.struct #[f0, f1]) ∧ f0.type = tS ∧ f1.type = tS ∧ f0.offset = 0 ∧ f1.offset = 1
  nameC : P.cellsOf tM = 2
  attr : ∃ f0 f1 : Field, P.underlying tA = some (.struct #[f0, f1]) ∧ f0.type = tM ∧ f1.type = tS ∧ f0.offset = 0 ∧ f1.offset = 2
  attrC : P.cellsOf tA = 3
  attrs : P.underlying tSA = some (.slice tA)
  attrsC : P.cellsOf tSA = 1
  kids : P.underlying tSN = some (.slice tN)
  kidsC : P.cellsOf tSN = 1
  str : P.underlying tS = some .string
  strC : P.cellsOf tS = 1
  int : P.underlying tI = some (.int .i64)
  intC : P.cellsOf tI = 1
section
variable {H : Type} {enc : TypeId × Value → H} {P : Program} {w : World} {base : Nat} {spare : Nat → Bool} {held : Bool} {tN tM tA tSA tSN tS tI : TypeId}
theorem open_name (T : NdTypes P tN tM tA tSA tSN tS tI) {f : Nat} {cs : List Value} {x : DataW H × List MemPlace} (h : DataW.trod enc P w base spare held f tM cs = some x) : ∃ a b : ByteArray, cs = [.string a, .string b] := by
  obtain ⟨f0, f1, u, e0, e1, o0, o1⟩ := T.name
  obtain ⟨xs, n, _, _, hl, hx, hf⟩ := DataW.trod_struct u h
  rw [T.nameC] at hl
  have h0 := hf 0 f0 rfl
  have h1 := hf 1 f1 rfl
  rw [e0, o0, T.strC] at h0
  rw [e1, o1, T.strC] at h1
  match cs, hl, xs, hx with
  | [c0, c1], _, [y0, y1], _ =>
    obtain ⟨a, ha, _⟩ := DataW.trod_string T.str (show DataW.trod enc P w base spare held n tS [c0] = some y0 from h0)
    obtain ⟨b, hb, _⟩ := DataW.trod_string T.str (show DataW.trod enc P w base spare held n tS [c1] = some y1 from h1)
    simp only [List.cons.injEq, and_true] at ha hb
    exact ⟨a, b, by rw [ha, hb]⟩
theorem open_attr (T : NdTypes P tN tM tA tSA tSN tS tI) {f : Nat} {cs : List Value} {x : DataW H × List MemPlace} (h : DataW.trod enc P w base spare held f tA cs = some x) : ∃ a b c : ByteArray, cs = [.string a, .string b, .string c] := by
  obtain ⟨f0, f1, u, e0, e1, o0, o1⟩ := T.attr
  obtain ⟨xs, n, _, _, hl, hx, hf⟩ := DataW.trod_struct u h
  rw [T.attrC] at hl
  have h0 := hf 0 f0 rfl
  have h1 := hf 1 f1 rfl
  rw [e0, o0, T.nameC] at h0
  rw [e1, o1, T.strC] at h1
  match cs, hl, xs, hx with
  | [c0, c1, c2], _, [y0, y1], _ =>
    obtain ⟨a, b, hab⟩ := open_name T (show DataW.trod enc P w base spare held n tM [c0, c1] = some y0 from h0)
    obtain ⟨c, hc, _⟩ := DataW.trod_string T.str (show DataW.trod enc P w base spare held n tS [c2] = some y1 from h1)
    simp only [List.cons.injEq, and_true] at hab hc
    exact ⟨a, b, c, by rw [hab.1, hab.2, hc]⟩
theorem open_attrs (T : NdTypes P tN tM tA tSA tSN tS tI) {f : Nat} {c : Value} {x : DataW H × List MemPlace} (h : DataW.trod enc P w base spare held f tSA [c] = some x) : ∃ (A : Option Addr) (l : List Tr) (ca : Nat), c = .slice A l.length ca ∧ Sl3 w A l ∧ l.length ≤ maxLen := by
  rcases DataW.trod_slice T.attrs h with ⟨hcs, _⟩ | ⟨a, len, cap, elems, rest, n, _, hcs, _, hb, hlc, hcm, he, hi, _⟩
  · simp only [List.cons.injEq, and_true] at hcs
    exact ⟨none, [], 0, hcs, Sl3.nil _ _, Nat.zero_le _⟩
  · simp only [List.cons.injEq, and_true] at hcs
    have each : ∀ i, i < len → ∃ t : Tr, w.cell? (a.add (i * 3)) = some (.string t.1.1) ∧ w.cell? (a.add (i * 3 + 1)) = some (.string t.1.2) ∧ w.cell? (a.add (i * 3 + 2)) = some (.string t.2) := by
      intro i hil
      have h1 := hi i hil
      rw [T.attrC, List.getElem?_eq_getElem (by omega)] at h1
      obtain ⟨cs, h2, h3⟩ := Option.bind_eq_some_iff.1 h1
      obtain ⟨x1, x2, x3, rfl⟩ := open_attr T h3
      obtain ⟨_, _, hcell⟩ := World.cells?_some h2
      refine ⟨((x1, x2), x3), ?_, ?_, ?_⟩
      · have := hcell 0 (by omega); rwa [add_add] at this
      · have := hcell 1 (by omega); rwa [add_add] at this
      · have := hcell 2 (by omega); rwa [add_add] at this
    let g : Nat → Tr := fun i => if h : i < len then Classical.choose (each i h) else ((⟨#[]⟩, ⟨#[]⟩), ⟨#[]⟩)
    have hg : ∀ i, i < len → w.cell? (a.add (i * 3)) = some (.string (g i).1.1) ∧ w.cell? (a.add (i * 3 + 1)) = some (.string (g i).1.2) ∧ w.cell? (a.add (i * 3 + 2)) = some (.string (g i).2) := by
      intro i h
      show _ ∧ _ ∧ _
      simp only [g, h, dif_pos]
      exact Classical.choose_spec (each i h)
    refine ⟨some a, (List.range len).map g, cap, by rw [hcs]; simp, ⟨cells3_length _, fun hn => ?_⟩, by simp only [List.length_map, List.length_range]; omega⟩
    simp only [List.length_map, List.length_range] at hn
    have hblk : a.block < w.heap.size := by
      have := World.block_lt_of_cell? w _ (hg 0 hn).1
      rwa [add_block] at this
    refine ⟨a, rfl, hblk, fun j u hu => ?_⟩
    have hj : j < len * 3 := by
      have := (List.getElem?_eq_some_iff.1 hu).1
      rw [cells3_length] at this
      simpa using this
    have hx : ((List.range len).map g)[j / 3]? = some (g (j / 3)) := by
      rw [List.getElem?_map, List.getElem?_range (by omega)]; rfl
    obtain ⟨g1, g2, g3⟩ := cells3_at _ _ _ hx
    obtain ⟨h1, h2, h3⟩ := hg (j / 3) (by omega)
    rcases (by omega : j = j / 3 * 3 ∨ j = j / 3 * 3 + 1 ∨ j = j / 3 * 3 + 2) with e | e | e
    · rw [e] at hu ⊢
      rw [g1] at hu
      rw [h1, hu]
    · rw [e] at hu ⊢
      rw [g2] at hu
      rw [h2, hu]
    · rw [e] at hu ⊢
      rw [g3] at hu
      rw [h3, hu]
theorem open_node (T : NdTypes P tN tM tA tSA tSN tS tI) : ∀ (f : Nat) (cs : List Value) (x : DataW H × List MemPlace), DataW.trod enc P w base spare held f tN cs = some x → ∃ n : Nd, nodeC w n cs ∧ (Lit.int .i64 n.kind).wf = true ∧ lenN maxLen n := by
  intro f
  induction f using Nat.strongRecOn with
  | ind f ih =>
    intro cs x h
    obtain ⟨f0, f1, f2, f3, f4, u, e0, e1, e2, e3, e4, o0, o1, o2, o3, o4⟩ := T.node
    obtain ⟨xs, n, hfn, _, hl, hx, hf⟩ := DataW.trod_struct u h
    rw [T.nodeC] at hl
    have h0 := hf 0 f0 rfl
    have h1 := hf 1 f1 rfl
    have h2 := hf 2 f2 rfl
    have h3 := hf 3 f3 rfl
    have h4 := hf 4 f4 rfl
    rw [e0, o0, T.intC] at h0
    rw [e1, o1, T.nameC] at h1
    rw [e2, o2, T.attrsC] at h2
    rw [e3, o3, T.kidsC] at h3
    rw [e4, o4, T.strC] at h4
    match cs, hl, xs, hx with
    | [c0, c1, c2, c3, c4, c5], _, [y0, y1, y2, y3, y4], _ =>
      obtain ⟨k, hk, _, hwf⟩ := DataW.trod_int T.int (show DataW.trod enc P w base spare held n tI [c0] = some y0 from h0)
      obtain ⟨a, b, hab⟩ := open_name T (show DataW.trod enc P w base spare held n tM [c1, c2] = some y1 from h1)
      obtain ⟨A, asz, ca, hA, hSA, hal⟩ := open_attrs T (show DataW.trod enc P w base spare held n tSA [c3] = some y2 from h2)
      obtain ⟨t, ht, _⟩ := DataW.trod_string T.str (show DataW.trod enc P w base spare held n tS [c5] = some y4 from h4)
      simp only [List.cons.injEq, and_true] at hk hab ht
      have h3' : DataW.trod enc P w base spare held n tSN [c4] = some y3 := h3
      rcases DataW.trod_slice T.kids h3' with ⟨hcs, _⟩ | ⟨ad, len, cap, elems, rest, m, hm, hcs, _, hb, hlc, hcm, he, hi, _⟩
      · simp only [List.cons.injEq, and_true] at hcs
        exact ⟨.mk k (a, b) asz [] t, (nodeC_iff _ _ _).2 ⟨A, ca, none, 0, by rw [hk, hab.1, hab.2, hA, hcs, ht]; rfl, hSA, .inl rfl⟩, hwf, (lenN_is _ _).2 ⟨hal, Nat.zero_le _, fun k hk => by cases hk⟩⟩
      · simp only [List.cons.injEq, and_true] at hcs
        have each : ∀ i, i < len → ∃ nd : Nd, ∃ cs', (∀ j u, cs'[j]? = some u → w.cell? (ad.add (i * 6 + j)) = some u) ∧ nodeC w nd cs' ∧ lenN maxLen nd := by
          intro i hil
          have g1 := hi i hil
          rw [T.nodeC, List.getElem?_eq_getElem (by omega)] at g1
          obtain ⟨cs', g2, g3⟩ := Option.bind_eq_some_iff.1 g1
          obtain ⟨nd, g4, _, g5⟩ := ih m (by omega) _ _ g3
          obtain ⟨_, glen, gcell⟩ := World.cells?_some g2
          refine ⟨nd, cs', fun j u hu => ?_, g4, g5⟩
          have hj := (List.getElem?_eq_some_iff.1 hu).1
          have := gcell j (by omega)
          rw [add_add] at this
          rw [this, hu]
        let g : Nat → Nd := fun i => if h : i < len then Classical.choose (each i h) else .mk 0 (⟨#[]⟩, ⟨#[]⟩) [] [] ⟨#[]⟩
        have hg : ∀ i, i < len → ∃ cs', (∀ j u, cs'[j]? = some u → w.cell? (ad.add (i * 6 + j)) = some u) ∧ nodeC w (g i) cs' ∧ lenN maxLen (g i) := by
          intro i h
          simp only [g, h, dif_pos]
          exact Classical.choose_spec (each i h)
        refine ⟨.mk k (a, b) asz ((List.range len).map g) t, (nodeC_iff _ _ _).2 ⟨A, ca, some ad, cap, by rw [hk, hab.1, hab.2, hA, hcs, ht]; simp [ndCells, Nd.kids, Nd.kind, Nd.name, Nd.attrs, Nd.text], hSA, ?_⟩, hwf, (lenN_is _ _).2 ⟨hal, by simp only [Nd.kids, List.length_map, List.length_range]; omega, fun k hk => by
          simp only [Nd.kids, List.mem_map, List.mem_range] at hk
          obtain ⟨i, hi, rfl⟩ := hk
          obtain ⟨_, _, _, h⟩ := hg i hi
          exact h⟩⟩
        by_cases h0 : len = 0
        · left; simp [Nd.kids, h0]
        · right
          obtain ⟨cs', g1, g2, _⟩ := hg 0 (by omega)
          have hl6 := nodeC_len g2
          have hblk : ad.block < w.heap.size := by
            have := World.block_lt_of_cell? w _ (g1 0 _ (List.getElem?_eq_getElem (by omega)))
            rwa [add_block] at this
          refine ⟨ad, rfl, hblk, (kidsC_iff _ _ _ _).2 fun i nd hnd => ?_⟩
          simp only [Nd.kids] at hnd
          have hil : i < len := by
            have := (List.getElem?_eq_some_iff.1 hnd).1
            simpa using this
          rw [List.getElem?_map, List.getElem?_range hil] at hnd
          simp only [Option.map_some, Option.some.injEq] at hnd
          subst hnd
          obtain ⟨cs2, g3, g4, _⟩ := hg i hil
          exact ⟨cs2, fun j u hu => by rw [Nat.zero_add]; exact g3 j u hu, g4⟩
theorem open_nodeV (T : NdTypes P tN tM tA tSA tSN tS tI) {r : Reach} {b0 : Nat} {v : Value} {d : DataW H} {p : List MemPlace} (hv : Value.okWide P w r b0 tN v) (h : DataW.Trod enc P w base spare held tN v d p) :
    ∃ (n : Nd) (A : Option Addr) (ca : Nat) (K : Option Addr) (ck : Nat), v = ndV n A ca K ck ∧ NodeV w n A K ∧ (Lit.int .i64 n.kind).wf = true ∧ lenN 9223372036854775807 n := by
  obtain ⟨f0, f1, f2, f3, f4, u, _⟩ := T.node
  obtain ⟨cs, rfl, hsz⟩ := okWide_struct u hv
  obtain ⟨fuel, hf⟩ := h
  have hf' : DataW.trod enc P w base spare held fuel tN cs.toList = some (d, p) := hf
  obtain ⟨n, h1, h2, h3⟩ := open_node T fuel _ _ hf'
  obtain ⟨A, ca, K, ck, h4, h5⟩ := (nodeC_V w n _).1 h1
  exact ⟨n, A, ca, K, ck, by unfold ndV; rw [← h4], h5, h2, h3⟩
end
end Wb
