/- PaG PaH PaJ PaK. -/
import Derived.Laws.IdiomCopy
import Derived.Test.YtlcjepnaljfpkaaQb2
import Derived.Test.YtlcjepnaljfpkaaQb7
namespace Wb
open Go Go.RowKit
def kidF (g : List Nd → Nat → List Nd) (p : Int) (e : Nd) : Option Nd := if 0 ≤ p ∧ p < (e.kids.length : Int) then some (e.withKids (joinK (g e.kids p.toNat))) else none
structure RowOnly (kv : Value) (w w' : World) : Prop where
  os : w'.os = w.os
  tape : w'.tape = w.tape
  output : w'.output = w.output
  size : w.heap.size ≤ w'.heap.size
  block : ∀ b, b < w.heap.size → kv.ownBlock ≠ some b → w'.heap[b]? = w.heap[b]?
theorem RowOnly.after {kv : Value} {w v w' : World} (h : RowOnly kv v w') (hb : Below w.heap.size w v) : RowOnly kv w w' :=
  ⟨h.os.trans hb.os, h.tape.trans hb.tape, h.output.trans hb.output, Nat.le_trans hb.size h.size, fun b x y => (h.block b (Nat.lt_of_lt_of_le x hb.size) y).trans (hb.block b x)⟩
theorem RowOnly.then {kv : Value} {w v w' : World} (h : RowOnly kv w v) (hb : Below v.heap.size v w') : RowOnly kv w w' :=
  ⟨hb.os.trans h.os, hb.tape.trans h.tape, hb.output.trans h.output, Nat.le_trans h.size hb.size, fun b x y => (hb.block b (Nat.lt_of_lt_of_le x h.size)).trans (h.block b x y)⟩
end Wb
namespace Go.Proofs.Ytlcjepnaljfpkaa
open Go.RowKit Wb
def KidsOK (g : List Nd → Nat → List Nd) (gid : FuncId) (gcaps : Array Value) (W : World) : Prop :=
  ∀ (v : World) (e : Nd) (av kv : Value) (lo hi i : Nat), Below W.heap.size W v → ownT v e (ndC e av kv) lo hi → hi ≤ v.heap.size → GN e → i < e.kids.length →
    (g e.kids i).length ≤ 1000000 ∧ (valL (g e.kids i)).length ≤ 1000000000 ∧
    Calls Try.prog gid (#[kv, .int .i64 (i : Int)] ++ gcaps) v fun r v' => ∃ K c, r = .returned (.slice K (g e.kids i).length c) ∧ (g e.kids i).length ≤ c ∧ SafeM (MustI lo hi v.heap.size) v' (fun u => SlN u K (g e.kids i)) ∧ RowOnly kv v v'
theorem kids_left {e : Nd} {J : List Nd} {q : Addr} {lo hi c2 ca ck : Nat} {A K K2 : Option Addr} {v v2 v3 : World} (h6 : At6 v q (ndC e (.slice A e.attrs.length ca) (.slice K e.kids.length ck))) (hown : ownT v e (ndC e (.slice A e.attrs.length ca) (.slice K e.kids.length ck)) lo hi) (hq : ¬ (lo ≤ q.block ∧ q.block < hi))
    (hr : RowOnly (.slice K e.kids.length ck) v v2) (hb : Below v2.heap.size v2 v3) (hs : SafeM (MustI lo hi v.heap.size) v3 (fun u => SlN u K2 J)) :
    ChOut (some (e.withKids J)) q lo hi v (.returned (.bool true)) (v3.setCell ⟨q.block, q.off + 4, none⟩ (.slice K2 J.length c2)) := by
  obtain ⟨av', kv', css, e1, h1, h2, h3, h4, h5, hko⟩ := (ownC_iff _ _ _ _).1 hown
  simp only [ndC, List.cons.injEq, true_and, and_true] at e1
  obtain ⟨ea, ek⟩ := e1
  subst ea ek
  have h23 := hr.then hb
  have hq2 : (Value.slice K e.kids.length ck).ownBlock ≠ some q.block := fun x => hq ⟨(own_in h2 x).1, h5 _ x⟩
  have hqb := h23.block q.block h6.lt hq2
  obtain ⟨g, o, cur, T, rfl, hg, hcur⟩ := h6
  have hg3 : v3.heap[g]? = _ := hqb.trans hg
  have hset := blk_set hg3 (o + 4) (.slice K2 J.length c2)
  have hsz : v3.heap.size ≤ (v3.setCell ⟨g, o + 4, none⟩ (.slice K2 J.length c2)).heap.size := by simp [World.setCell]
  have ne : ∀ b, b ≠ g → (v3.setCell ⟨g, o + 4, none⟩ (.slice K2 J.length c2)).heap[b]? = v3.heap[b]? := fun b hb => Below.heap_setCell _ _ _ _ (by simpa using hb)
  have hlen : o + 5 < cur.size := by
    have := hcur 5 (.string e.text) rfl
    exact (Array.getElem?_eq_some_iff.1 this).1
  have cell : ∀ f, (v3.setCell ⟨g, o + 4, none⟩ (.slice K2 J.length c2)).cell? ⟨g, f, none⟩ = (cur.setIfInBounds (o + 4) (.slice K2 J.length c2))[f]? := fun f => by simp [World.cell?, hset]
  refine ⟨⟨h23.os, h23.tape, h23.output, Nat.le_trans h23.size hsz, fun b x y z => (ne b z).trans (h23.block b x (fun k => y ⟨(own_in h2 k).1, h5 b k⟩)), fun f hf => ?_⟩, rfl, ndC (e.withKids J) (.slice A e.attrs.length ca) (.slice K2 J.length c2), fun j u hu => ?_, fun w2 k1 k2 => ?_⟩
  · rw [cell, Array.getElem?_setIfInBounds_ne (by simp at hf; omega)]
    simp [World.cell?, hg]
  · have hj : j < 6 := (List.getElem?_eq_some_iff.1 hu).1
    show (v3.setCell ⟨g, o + 4, none⟩ (.slice K2 J.length c2)).cell? ⟨g, o + j, none⟩ = some u
    rw [cell]
    by_cases h4 : j = 4
    · subst h4
      rw [Array.getElem?_setIfInBounds_self_of_lt (by omega)]
      simpa [ndC] using hu
    · rw [Array.getElem?_setIfInBounds_ne (by omega)]
      refine hcur j u ?_
      rw [← hu]
      rcases j with _ | _ | _ | _ | _ | _ | j
      all_goals first | rfl | omega
  · have hgl : ¬ (lo ≤ g ∧ g < hi) := hq
    have k1 : ∀ b, MustI lo hi v.heap.size b → b < v3.heap.size → w2.heap[b]? = (v3.setCell ⟨g, o + 4, none⟩ (.slice K2 J.length c2)).heap[b]? := fun b p q => k1 b p (Nat.lt_of_lt_of_le q hsz)
    refine (nodeC_V w2 _ _).2 ⟨A, ca, K2, c2, rfl, ?_, hs w2 (fun b p q => ?_) (Nat.le_trans hsz k2)⟩
    · show Sl3 w2 A e.attrs
      refine Sl3.of_own (own_blk h1 fun b hb => ?_)
      have hbi := own_in h1 hb
      have hbh := (h4 b hb)
      have hs3 := h23.size
      exact (k1 b (.inl ⟨hbi.1, hbh.1⟩) (by omega)).trans ((ne b (fun x => hgl ⟨by omega, by omega⟩)).trans (h23.block b hbi.2 hbh.2))
    · have hbg : b ≠ g := by
        rintro rfl
        rcases p with p | p
        · exact hgl p
        · have := blk_in hg; omega
      exact (k1 b p q).trans (ne b hbg)
set_option maxRecDepth 100000 in
set_option maxHeartbeats 4000000 in
theorem kids_clos (g : List Nd → Nat → List Nd) (gid : FuncId) (gcaps : Array Value) (hE : ∀ args w, (callFunc gid args).run Try.prog w = .ok (.enter gid args) w) (init : List Int) (p : Int) (PA : Option Addr) (cp PB LB CB : Nat) (W : World)
    (bP : PB < W.heap.size) (bL : LB < W.heap.size) (bC : CB < W.heap.size) (hPB : W.cell? ⟨PB, 0, none⟩ = some (.slice PA (init.length + 1) cp)) (hLB : W.cell? ⟨LB, 0, none⟩ = some (.int .i64 (init.length : Int))) (hCB : W.cell? ⟨CB, 0, none⟩ = some (.func (.func gid) #[] gcaps))
    (hP : SlI W PA (init ++ [p])) (hK : KidsOK g gid gcaps W) : ClosOK (kidF g p) 51 #[.pointer (some ⟨PB, 0, none⟩), .pointer (some ⟨LB, 0, none⟩), .pointer (some ⟨CB, 0, none⟩)] W := by
  intro v q e cs lo hi hv h6 hown hhi hq hgn hk1
  obtain ⟨av, kv, css, rfl, h1, h2, h3, h4, h5, hko⟩ := (ownC_iff e cs lo hi).1 hown
  obtain ⟨A, ca, rfl⟩ := own_shape h1
  obtain ⟨K, ck, rfl⟩ := own_shape h2
  rw [show ∀ a b c d : Value, #[a] ++ #[b, c, d] = #[a, b, c, d] from fun a b c d => by simp]
  obtain ⟨q0, q1, q2, q3, q4, q5⟩ := h6.cells
  obtain ⟨pa, rfl, hpb, hp0⟩ := hP.at_ (k := init.length) (x := p) (by simp)
  have c1 := (hv.cell (p := ⟨PB, 0, none⟩) bP).trans hPB
  have c2 := (hv.cell (p := ⟨LB, 0, none⟩) bL).trans hLB
  have c3 := (hv.cell (p := ⟨CB, 0, none⟩) bC).trans hCB
  have c4 := (hv.cell (p := pa.add init.length) (by rw [add_block]; exact hpb)).trans hp0
  have hhas := fun (u : World) => has_any 1 e.name.1 e.name.2 e.text A K e.attrs.length ca e.kids.length ck p u
  rw [hk1] at q0
  clear hk1
  by_cases hin : 0 ≤ p ∧ p < (e.kids.length : Int)
  · rw [decide_eq_true hin] at hhas
    obtain ⟨i, rfl⟩ : ∃ i : Nat, p = (i : Int) := ⟨p.toNat, by omega⟩
    have hf : kidF g (i : Int) e = some (e.withKids (joinK (g e.kids i))) := by
      unfold kidF
      rw [if_pos hin, show ((i : Int)).toNat = i from by omega]
    rw [hf]
    have hown0 := hown
    have hcall := fun (u : World) (hu : Below v.heap.size v u) => hK u e (.slice A e.attrs.length ca) (.slice K e.kids.length ck) lo hi i (hv.trans (hu.mono hv.size)) (ownC_keep _ _ _ _ (fun b x y => hu.block b (by omega)) hown0) (Nat.le_trans hhi hu.size) hgn (by omega)
    have hleft := fun (v1 v2 v3 : World) (K2 : Option Addr) (c2 : Nat) (hv1 : Below v.heap.size v v1) (hr : RowOnly (.slice K e.kids.length ck) v1 v2) (hb : Below v2.heap.size v2 v3) (hs : SafeM (MustI lo hi v1.heap.size) v3 (fun u => SlN u K2 (joinK (g e.kids i)))) =>
      kids_left (c2 := c2) h6 hown0 hq (hr.after hv1) hb (hs.mono (fun b x => x.imp id (fun x => Nat.le_trans hv1.size x)))
    have hst := fun (v1 v2 v3 : World) (hv1 : Below v.heap.size v v1) (hr : RowOnly (.slice K e.kids.length ck) v1 v2) (hb : Below v2.heap.size v2 v3) => (show v3.cell? ⟨q.block, q.off + 4, none⟩ = some (.slice K e.kids.length ck) ∧ v3.frozen? ⟨q.block, q.off + 4, none⟩ = false from by
      have h23 := (hr.after hv1).then hb
      have hq2 : (Value.slice K e.kids.length ck).ownBlock ≠ some q.block := fun x => hq ⟨(own_in h2 x).1, h5 _ x⟩
      have h6' := h6.keep (h23.block q.block h6.lt hq2)
      exact ⟨h6'.cells.2.2.2.2.1, h6'.free 4⟩)
    generalize g e.kids i = G at *
    obtain ⟨gl, gz, _⟩ := hcall v (Below.refl _ _)
    have HCALL := Lib.hid (fun u hu => (hcall u hu).2.2)
    have HLEFT := Lib.hid hleft
    have HST := Lib.hid hst
    have HAS := Lib.hid hhas
    have HQ4 := Lib.hid (fun (u : World) (hu : Below v.heap.size v u) => (h6.below hu).cells.2.2.2.2.1)
    have HC3 := Lib.hid (fun (u : World) (hu : Below v.heap.size v u) => (hu.cell (p := ⟨CB, 0, none⟩) (Nat.lt_of_lt_of_le bC hv.size)).trans c3)
    clear hhas hf h1 h2 h3 h4 h5 hko hown hown0 hK hPB hLB hCB hP hin h6 hcall hleft hst
    go_enter Try.func51, Try.ntmps51
    go_wp2_with fail
    refine (HAS.out _).mono ?_
    rintro r w2 ⟨rfl, hb2⟩
    have HB := Lib.hid hb2
    have d3 := HC3.out w2 hb2
    have d4 := HQ4.out w2 hb2
    clear hb2 c1 c2 c3 c4 q0 q1 q2 q3 q4 q5
    go_wp2_with fail
    go_region_law (first
      | (go_simp
         go_at_fn gid
         refine (HCALL.out _ HB.out.drew).mono ?_
         rintro r v2 ⟨K2, k2, rfl, hc2, hs2, hr2⟩)
      | (go_simp
         go_at_call 26
         refine (joined_any K2 G k2 (MustI lo hi w2.drew.heap.size) v2 (fun b x => .inr (Nat.le_trans hr2.size x)) hs2 gl hc2 gz).mono ?_
         rintro r v3 ⟨K3, k3, rfl, hs3, hb3⟩
         obtain ⟨e4, f4⟩ := HST.out _ _ _ HB.out.drew hr2 hb3
         have HF := Lib.hid (HLEFT.out _ _ _ K3 k3 HB.out.drew hr2 hb3 hs3)))
    all_goals (
      go_wp2
      go_ret
      exact HF.out)
  · rw [decide_eq_false hin] at hhas
    have hf : kidF g p e = none := by unfold kidF; rw [if_neg hin]
    rw [hf]
    have hqb := h6.lt
    have HAS := Lib.hid hhas
    clear hhas hf h1 h2 h3 h4 h5 hko hown hK hPB hLB hCB hP hin h6
    go_enter Try.func51, Try.ntmps51
    go_wp2_with fail
    refine (HAS.out _).mono ?_
    rintro r w2 ⟨rfl, hb2⟩
    have HB := Lib.hid hb2
    clear hb2
    go_wp2
    go_ret
    exact ⟨Turned.of_below HB.out hqb _ _ _, rfl⟩
end Go.Proofs.Ytlcjepnaljfpkaa
namespace Wb
open Go Go.RowKit
theorem five_allocs (w : World) (a b c d e : Obj) : Below w.heap.size w (((((w.alloc a).alloc b).alloc c).alloc d).alloc e) ∧ (((((w.alloc a).alloc b).alloc c).alloc d).alloc e).heap[w.heap.size]? = some a ∧ (((((w.alloc a).alloc b).alloc c).alloc d).alloc e).heap[w.heap.size + 1]? = some b ∧
    (((((w.alloc a).alloc b).alloc c).alloc d).alloc e).heap[w.heap.size + 2]? = some c ∧ (((((w.alloc a).alloc b).alloc c).alloc d).alloc e).heap[w.heap.size + 3]? = some d ∧ (((((w.alloc a).alloc b).alloc c).alloc d).alloc e).heap[w.heap.size + 4]? = some e ∧
    (((((w.alloc a).alloc b).alloc c).alloc d).alloc e).heap.size = w.heap.size + 5 := by
  have s1 : (w.alloc a).heap.size = w.heap.size + 1 := by simp
  have s2 : ((w.alloc a).alloc b).heap.size = w.heap.size + 2 := by simp
  have s3 : (((w.alloc a).alloc b).alloc c).heap.size = w.heap.size + 3 := by simp
  have s4 : ((((w.alloc a).alloc b).alloc c).alloc d).heap.size = w.heap.size + 4 := by simp
  have h0 := heap_alloc_new w a
  have h1 := heap_alloc_new (w.alloc a) b
  have h2 := heap_alloc_new ((w.alloc a).alloc b) c
  have h3 := heap_alloc_new (((w.alloc a).alloc b).alloc c) d
  have h4 := heap_alloc_new ((((w.alloc a).alloc b).alloc c).alloc d) e
  rw [s1] at h1
  rw [s2] at h2
  rw [s3] at h3
  rw [s4] at h4
  have k1 := fun (k : Nat) (h : k < w.heap.size + 1) => Below.heap_alloc (w.alloc a) b k (by omega)
  have k2 := fun (k : Nat) (h : k < w.heap.size + 2) => Below.heap_alloc ((w.alloc a).alloc b) c k (by omega)
  have k3 := fun (k : Nat) (h : k < w.heap.size + 3) => Below.heap_alloc (((w.alloc a).alloc b).alloc c) d k (by omega)
  have k4 := fun (k : Nat) (h : k < w.heap.size + 4) => Below.heap_alloc ((((w.alloc a).alloc b).alloc c).alloc d) e k (by omega)
  exact ⟨(((((Below.refl _ w).alloc (Nat.le_refl _) a).alloc (by omega) b).alloc (by omega) c).alloc (by omega) d).alloc (by omega) e, (k4 _ (by omega)).trans ((k3 _ (by omega)).trans ((k2 _ (by omega)).trans ((k1 _ (by omega)).trans h0))),
    (k4 _ (by omega)).trans ((k3 _ (by omega)).trans ((k2 _ (by omega)).trans h1)), (k4 _ (by omega)).trans ((k3 _ (by omega)).trans h2), (k4 _ (by omega)).trans h3, h4, by simp⟩
end Wb
namespace Go.Proofs.Ytlcjepnaljfpkaa
open Go.RowKit Wb
theorem ints_head (PA : Option Addr) (n c : Nat) (hn : n ≤ c) : ∃ (PA1 : Option Addr), (∀ w, (Instr.slice 30 (.slice PA (n + 1) c) none (some (.int .i64 (n : Int))) none).run Try.prog w = .ok (.slice PA1 n c) w) ∧
    ∀ (v : World) (x : Int) (l : List Int), SlI v PA (l ++ [x]) → l.length = n → SlI v PA1 l := by
  refine ⟨if c = 0 then PA else PA.map (·.add (0 * 1)), fun w => ?_, fun v x l h hl => ?_⟩
  · have h0 : (0 : Int) ≤ (n : Int) := by omega
    have h2 : (n : Int) ≤ (c : Int) := by omega
    have hu := Try.underlying30
    have hz := Try.sizeOf3
    go_simp
  · refine ⟨by rw [cellsI_len]; simp, fun hp => ?_⟩
    obtain ⟨ad, rfl, hb, hcell⟩ := h.2 (by simp)
    refine ⟨ad, ?_, hb, fun j u hu => hcell j u ?_⟩
    · have : ¬ c = 0 := by omega
      rw [if_neg this]
      simp [Addr.add]
    · unfold cellsI at hu ⊢
      rw [List.map_append, List.getElem?_append_left (by rw [List.length_map]; have := (List.getElem?_eq_some_iff.1 hu).1; simpa using this)]
      exact hu
set_option maxRecDepth 100000 in
set_option maxHeartbeats 4000000 in
theorem changedKids_any (g : List Nd → Nat → List Nd) (gid : FuncId) (gcaps : Array Value) (hE : ∀ args w, (callFunc gid args).run Try.prog w = .ok (.enter gid args) w) (n : Nd) (A K : Option Addr) (ca ck : Nat) (init : List Int) (p : Int) (PA : Option Addr) (cp : Nat) (w : World)
    (hV : NodeV w n A K) (hgn : GN n) (hP : SlI w PA (init ++ [p])) (hcp : init.length + 1 ≤ cp) (hl : init.length ≤ 1000000) (hK : KidsOK g gid gcaps w) :
    Calls Try.prog 29 #[ndV n A ca K ck, .func (.func gid) #[] gcaps, .slice PA (init.length + 1) cp] w (NdOut (chP (kidF g p) n init) w) := by
  obtain ⟨r, hr⟩ : ∃ r, chP (kidF g p) n init = r := ⟨_, rfl⟩
  rw [hr]
  have hwr : IntKind.i64.wrap ((init.length : Int) + 1 - 1) = (init.length : Int) := by rw [IntKind.wrap_i64]; omega
  obtain ⟨PA1, hsl, hP1⟩ := ints_head PA init.length cp (by omega)
  obtain ⟨hb5, h0, h1, h2, h3, h4, hs5⟩ := five_allocs w (.cells #[.int .i64 n.kind, .string n.name.1, .string n.name.2, .slice A n.attrs.length ca, .slice K n.kids.length ck, .string n.text] 27) (.cells #[.func (.func gid) #[] gcaps] 63) (.cells #[.slice PA (init.length + 1) cp] 30)
    (.cells #[.int .i64 0, .string ⟨#[]⟩, .string ⟨#[]⟩, .slice none 0 0, .slice none 0 0, .string ⟨#[]⟩] 27) (.cells #[.int .i64 (init.length : Int)] 3)
  have HB := Lib.hid hb5
  have H0 := Lib.hid h0
  have H1 := Lib.hid h1
  have H2 := Lib.hid h2
  have H3 := Lib.hid h3
  have H4 := Lib.hid h4
  have HS := Lib.hid hs5
  have HE1 : ∀ args w, (callFunc 51 args).run Try.prog w = .ok (.enter 51 args) w := fun args w => by rfl
  have HCL := Lib.hid (fun (v : World) (hv : Below w.heap.size w v) (b2 : v.heap[w.heap.size + 2]? = some (.cells #[.slice PA (init.length + 1) cp] 30 (0, 0))) (b4 : v.heap[w.heap.size + 4]? = some (.cells #[.int .i64 (init.length : Int)] 3 (0, 0))) (b1 : v.heap[w.heap.size + 1]? = some (.cells #[.func (.func gid) #[] gcaps] 63 (0, 0))) =>
    changed_any (kidF g p) 51 #[.pointer (some ⟨w.heap.size + 2, 0, none⟩), .pointer (some ⟨w.heap.size + 4, 0, none⟩), .pointer (some ⟨w.heap.size + 1, 0, none⟩)] HE1 n A K ca ck init PA1 cp v (hV.below hv) hgn (hP1 v p init (hP.below hv) rfl) (by omega) hl
      (kids_clos g gid gcaps hE init p PA cp (w.heap.size + 2) (w.heap.size + 4) (w.heap.size + 1) v (blk_in b2) (blk_in b4) (blk_in b1) (by simp [World.cell?, b2]) (by simp [World.cell?, b4]) (by simp [World.cell?, b1]) (hP.below hv) (fun u => fun e av kv lo hi i hu => hK u e av kv lo hi i (hv.trans (hu.mono hv.size)))))
  rw [hr] at HCL
  unfold ndV ndCells at HCL ⊢
  clear hb5 h0 h1 h2 h3 h4 hs5 hV hP hP1 hK hr hgn
  go_enter Try.func29, Try.ntmps29
  go_upto_region 2 with fail
  revert HB H0 H1 H2 H3 H4 HS
  generalize (((((w.alloc (.cells #[.int .i64 n.kind, .string n.name.1, .string n.name.2, .slice A n.attrs.length ca, .slice K n.kids.length ck, .string n.text] 27)).alloc (.cells #[.func (.func gid) #[] gcaps] 63)).alloc (.cells #[.slice PA (init.length + 1) cp] 30)).alloc
    (.cells #[.int .i64 0, .string ⟨#[]⟩, .string ⟨#[]⟩, .slice none 0 0, .slice none 0 0, .string ⟨#[]⟩] 27)).alloc (.cells #[.int .i64 (init.length : Int)] 3)) = w1
  intro HB H0 H1 H2 H3 H4 HS
  obtain ⟨n0, n1, n2, n3, n4, n5⟩ := cells_of_nd H0.out
  have c2 : w1.cell? ⟨w.heap.size + 2, 0, none⟩ = some (.slice PA (init.length + 1) cp) := blk_cell H2.out 0
  have c4 : w1.cell? ⟨w.heap.size + 4, 0, none⟩ = some (.int .i64 (init.length : Int)) := blk_cell H4.out 0
  have hcall := HCL.out w1.drew HB.out.drew H2.out H4.out H1.out
  clear HCL
  rcases r with _ | m
  · go_region_law (
      go_simp
      go_at_call 23
      refine hcall.mono ?_
      rintro e w4 ⟨hb4, rfl⟩
      have HZ4 := Lib.hid (still_block (w := w1.drew) H3.out hb4)
      have HB4 := Lib.hid (HB.out.drew.trans (hb4.mono HB.out.size))
      have z0 := blk_free HZ4.out 0
      have z1 := blk_free HZ4.out 1
      have z2 := blk_free HZ4.out 2
      have z3 := blk_free HZ4.out 3
      have z4 := blk_free HZ4.out 4
      have z5 := blk_free HZ4.out 5
      obtain ⟨y0, y1, y2, y3, y4, y5⟩ := cells_of_nd HZ4.out)
    all_goals (
      go_wp2
      refine bodyPost_ret (results_cell2 rfl _ _ (w.heap.size + 3) _ _ _ rfl (six_blk HZ4.out _ _ _ _ _ _) Try.underlying27 rfl node_info2) rfl ?_
      exact ⟨six_below HB4.out (by omega) _ _ _ _ _ _, rfl⟩)
  · go_region_law (
      go_simp
      go_at_call 23
      refine hcall.mono ?_
      rintro e w4 ⟨hb4, A5, ca5, K5, ck5, rfl, hV5⟩
      unfold ndV ndCells
      have HV5 := Lib.hid hV5
      clear hV5
      have HZ4 := Lib.hid (still_block (w := w1.drew) H3.out hb4)
      have HB4 := Lib.hid (HB.out.drew.trans (hb4.mono HB.out.size))
      have z0 := blk_free HZ4.out 0
      have z1 := blk_free HZ4.out 1
      have z2 := blk_free HZ4.out 2
      have z3 := blk_free HZ4.out 3
      have z4 := blk_free HZ4.out 4
      have z5 := blk_free HZ4.out 5
      obtain ⟨y0, y1, y2, y3, y4, y5⟩ := cells_of_nd HZ4.out)
    all_goals (
      go_wp2
      refine bodyPost_ret (results_cell2 rfl _ _ (w.heap.size + 3) _ _ _ rfl (six_blk HZ4.out _ _ _ _ _ _) Try.underlying27 rfl node_info2) rfl ?_
      refine ⟨six_below HB4.out (by omega) _ _ _ _ _ _, A5, ca5, K5, ck5, rfl, ?_⟩
      have hk := six_keep w4 (w.heap.size + 3) (.int .i64 m.kind) (.string m.name.1) (.string m.name.2) (.slice A5 m.attrs.length ca5) (.slice K5 m.kids.length ck5) (.string m.text)
      have hs := HS.out
      exact SafeM.mono (SafeM.later HV5.out (fun b p q => hk.block b q (fun x => by
        have p : w1.heap.size ≤ b := p
        omega)) hk.size) (fun b p => by
        have p : w1.heap.size ≤ b := p
        omega))
end Go.Proofs.Ytlcjepnaljfpkaa
namespace Wb
open Go Go.RowKit
theorem six_at {w : World} {q : Addr} {n : Nd} {av kv : Value} (h : At6 w q (ndC n av kv)) (c0 c1 c2 c3 c4 c5 : Value) (w' : World)
    (hw : w' = (((((w.setCell q c0).setCell ⟨q.block, q.off + 1, none⟩ c1).setCell ⟨q.block, q.off + 2, none⟩ c2).setCell ⟨q.block, q.off + 3, none⟩ c3).setCell ⟨q.block, q.off + 4, none⟩ c4).setCell ⟨q.block, q.off + 5, none⟩ c5) :
    w'.os = w.os ∧ w'.tape = w.tape ∧ w'.output = w.output ∧ w'.heap.size = w.heap.size ∧ (∀ b, b ≠ q.block → w'.heap[b]? = w.heap[b]?) ∧ (∀ f, f < q.off ∨ q.off + 6 ≤ f → w'.cell? ⟨q.block, f, none⟩ = w.cell? ⟨q.block, f, none⟩) ∧
      ∀ j u, [c0, c1, c2, c3, c4, c5][j]? = some u → w'.cell? ⟨q.block, q.off + j, none⟩ = some u := by
  obtain ⟨g, o, cur, T, rfl, hg, hcur⟩ := h
  have hsome : ∀ j, j < [c0, c1, c2, c3, c4, c5].length → (w.cell? ⟨g, o + j, none⟩).isSome = true := fun j hj => by
    have hj' : j < (ndC n av kv).length := hj
    have hu := hcur j _ (List.getElem?_eq_getElem hj')
    simp [World.cell?, hg, hu]
  have hw2 : w' = w.setCells g o [c0, c1, c2, c3, c4, c5] := by
    rw [hw, World.setCells, World.setCells, World.setCells, World.setCells, World.setCells, World.setCells, World.setCells]
  have hos : w'.os = w.os ∧ w'.tape = w.tape ∧ w'.output = w.output ∧ w'.heap.size = w.heap.size := by
    have so : ∀ (v : World) (p : Addr) (c : Value), (v.setCell p c).os = v.os ∧ (v.setCell p c).tape = v.tape ∧ (v.setCell p c).output = v.output ∧ (v.setCell p c).heap.size = v.heap.size := fun v p c => ⟨rfl, rfl, rfl, by simp [World.setCell]⟩
    rw [hw]
    refine ⟨?_, ?_, ?_, ?_⟩
    · rw [(so _ _ _).1, (so _ _ _).1, (so _ _ _).1, (so _ _ _).1, (so _ _ _).1, (so _ _ _).1]
    · rw [(so _ _ _).2.1, (so _ _ _).2.1, (so _ _ _).2.1, (so _ _ _).2.1, (so _ _ _).2.1, (so _ _ _).2.1]
    · rw [(so _ _ _).2.2.1, (so _ _ _).2.2.1, (so _ _ _).2.2.1, (so _ _ _).2.2.1, (so _ _ _).2.2.1, (so _ _ _).2.2.1]
    · rw [(so _ _ _).2.2.2, (so _ _ _).2.2.2, (so _ _ _).2.2.2, (so _ _ _).2.2.2, (so _ _ _).2.2.2, (so _ _ _).2.2.2]
  have ne : ∀ (b : Nat), b ≠ g → ∀ (v : World) (f : Nat) (c : Value), (v.setCell ⟨g, f, none⟩ c).heap[b]? = v.heap[b]? := fun b hb v f c => Below.heap_setCell _ _ _ _ hb
  refine ⟨hos.1, hos.2.1, hos.2.2.1, hos.2.2.2, fun b hb => ?_, fun f hf => ?_, fun j u hu => ?_⟩
  · rw [hw, ne b hb, ne b hb, ne b hb, ne b hb, ne b hb, ne b hb]
  · rw [hw2]
    exact World.cell?_setCells_out g _ o w _ (fun _ _ => hf)
  · obtain ⟨hj, e⟩ := List.getElem?_eq_some_iff.1 hu
    rw [← e, hw2]
    exact World.cell?_setCells_in g _ o w hsome j hj
end Wb
namespace Go.Proofs.Ytlcjepnaljfpkaa
open Go.RowKit Wb
theorem put_left {e x : Nd} {av av2 kv2 : Value} {lo hi g ck i : Nat} {v v2 v3 : World} (hown : ownT v e (ndC e av (.slice (some ⟨g, 0, none⟩) e.kids.length ck)) lo hi) (hhi : hi ≤ v.heap.size) (hi0 : i < e.kids.length)
    (hb : Below v.heap.size v v2) (hx : ownT v2 x (ndC x av2 kv2) v.heap.size v2.heap.size) (q : Addr) (hqa : q = (⟨g, 0, none⟩ : Addr).add (i * 6))
    (hw : v3 = (((((v2.setCell q (.int .i64 x.kind)).setCell ⟨q.block, q.off + 1, none⟩ (.string x.name.1)).setCell ⟨q.block, q.off + 2, none⟩ (.string x.name.2)).setCell ⟨q.block, q.off + 3, none⟩ av2).setCell ⟨q.block, q.off + 4, none⟩ kv2).setCell ⟨q.block, q.off + 5, none⟩ (.string x.text)) :
    SafeM (MustI lo hi v.heap.size) v3 (fun u => SlN u (some ⟨g, 0, none⟩) (e.kids.set i x)) ∧ RowOnly (.slice (some ⟨g, 0, none⟩) e.kids.length ck) v v3 := by
  obtain ⟨av', kv', css, e1, h1, h2, h3, h4, h5, hko⟩ := (ownC_iff _ _ _ _).1 hown
  simp only [ndC, List.cons.injEq, true_and, and_true] at e1
  obtain ⟨ea, ek⟩ := e1
  subst ea ek
  obtain ⟨k, hk⟩ : ∃ k, e.kids[i]? = some k := ⟨e.kids[i], List.getElem?_eq_getElem hi0⟩
  have hlen := (kidsO_len hko).2
  obtain ⟨ck1, l1, h1', c1, b1, b2, b3, b4, b5, b6⟩ := kidsO_at hko i k hk
  obtain ⟨ka, kk, _, hck, _⟩ := (ownC_iff _ _ _ _).1 b5
  subst hck
  have ha : (⟨g, 0, none⟩ : Addr).add (i * 6) = ⟨g, i * 6, none⟩ := by unfold Addr.add; split <;> simp_all
  have h6 : At6 v2 q (ndC k ka kk) := by rw [hqa]; exact At6.of_row (own_below h2 hb) hlen c1
  obtain ⟨s1, s2, s3, s4, s5, s6, s7⟩ := six_at h6 _ _ _ _ _ _ v3 hw
  rw [hqa, ha] at s5 s6 s7
  have hg := own_in h2 (g := g) rfl
  have hgi := h5 g rfl
  have hbs := hb.size
  refine ⟨fun w2 k1 k2 => .inr ⟨_, rfl, by show g < _; omega, (kidsC_iff w2 _ _ 0).2 fun j m hm => ?_⟩, s1.trans hb.os, s2.trans hb.tape, s3.trans hb.output, by omega, fun b x y => (s5 b (fun z => y (by rw [z]; rfl))).trans (hb.block b x)⟩
  have hgw : w2.heap[g]? = v3.heap[g]? := k1 g (.inl ⟨hg.1, hgi⟩) (by omega)
  have add : ∀ z : Nat, (⟨g, 0, none⟩ : Addr).add z = ⟨g, z, none⟩ := fun z => by unfold Addr.add; split <;> simp_all
  rw [Nat.zero_add]
  by_cases hji : j = i
  · subst hji
    rw [List.getElem?_set_self hi0] at hm
    injection hm with hm
    subst hm
    refine ⟨ndC x av2 kv2, fun z u hu => ?_, ownC_node _ _ _ _ (ownC_keep _ _ _ _ (fun b p r => (k1 b (.inr p) (by omega)).trans (s5 b (by show b ≠ g; omega))) hx)⟩
    rw [add]
    exact (World.cell?_of_block hgw).trans (s7 z u hu)
  · rw [List.getElem?_set_ne (fun z => hji z.symm)] at hm
    obtain ⟨c2, l2, h2', d1, d2, d3, d4, d5, d6⟩ := b6 j m hji hm
    refine ⟨c2, fun z u hu => ?_, ownC_node _ _ _ _ (ownC_keep _ _ _ _ (fun b p r => (k1 b (.inl ⟨by omega, by omega⟩) (by omega)).trans ((s5 b (fun z => d5 b p r (.inr (by rw [z]; rfl)))).trans (hb.block b (by omega)))) d6)⟩
    have hz : z < 6 := by have := (List.getElem?_eq_some_iff.1 hu).1; rw [ownC_len d6] at this; exact this
    rw [add]
    refine (World.cell?_of_block hgw).trans ((s6 _ (by show j * 6 + z < i * 6 ∨ i * 6 + 6 ≤ j * 6 + z; omega)).trans ?_)
    rw [← add]
    exact (own_below h2 hb).cells (g := g) rfl _ _ ((flat_at hlen j c2 d1 z hz).trans hu)
set_option maxRecDepth 100000 in
set_option maxHeartbeats 4000000 in
theorem replace_clos (x : Nd) (XA XK : Option Addr) (xca xck WB : Nat) (W : World) (bW : W.heap[WB]? = some (.cells #[.int .i64 x.kind, .string x.name.1, .string x.name.2, .slice XA x.attrs.length xca, .slice XK x.kids.length xck, .string x.text] 27 (0, 0)))
    (hV : NodeV W x XA XK) (hgx : GN x) : KidsOK (fun ks i => ks.set i x) 34 #[.pointer (some ⟨WB, 0, none⟩)] W := by
  intro v e av kv lo hi i hv hown hhi hge hil
  refine ⟨by rw [List.length_set]; exact ((smallN_is e).1 hge.1).2.1, ?_, ?_⟩
  · obtain ⟨k, hk⟩ : ∃ k, e.kids[i]? = some k := ⟨e.kids[i], List.getElem?_eq_getElem hil⟩
    have h1 := (costs_set e.kids i k x hk).2
    have h2 := valL_cost (e.kids.set i x)
    have h3 := hge.2
    rw [costB_is] at h3
    have h4 := hgx.2
    show (valL (e.kids.set i x)).length ≤ 1000000000
    omega
  · obtain ⟨av', kv', css, e1, h1, h2, h3, h4, h5, hko⟩ := (ownC_iff _ _ _ _).1 hown
    simp only [ndC, List.cons.injEq, true_and, and_true] at e1
    obtain ⟨ea, ek⟩ := e1
    subst ea ek
    obtain ⟨g, cap, hKv, hg0, hg1⟩ := h2.form (by omega)
    subst hKv
    rw [show ∀ a b c : Value, #[a, b] ++ #[c] = #[a, b, c] from fun a b c => by simp, List.length_set]
    obtain ⟨k, hk⟩ : ∃ k, e.kids[i]? = some k := ⟨e.kids[i], List.getElem?_eq_getElem hil⟩
    have hlen := (kidsO_len hko).2
    obtain ⟨ck1, l1, h1', c1, b1, b2, b3, b4, b5, b6⟩ := kidsO_at hko i k hk
    obtain ⟨ka, kk, _, hck, _⟩ := (ownC_iff _ _ _ _).1 b5
    subst hck
    have hcap : e.kids.length ≤ cap := by
      rcases h2.2 with ⟨y, _⟩ | ⟨g', cap', cur, y, _, _, hnc, _⟩
      · simp at y
      · simp only [Value.slice.injEq, true_and] at y; omega
    have hq6 := fun (u : World) (hu : Below v.heap.size v u) => At6.of_row (own_below h2 hu) hlen c1
    have hput := fun (v2 v3 : World) (av2 kv2 : Value) (hb : Below v.heap.size v v2) (hx : ownT v2 x (ndC x av2 kv2) v.heap.size v2.heap.size) => put_left (v3 := v3) hown hhi hil hb hx
    obtain ⟨n0, n1, n2, n3, n4, n5⟩ := cells_of_nd (still_block bW hv)
    have hcp := copyO_any x XA XK xca xck v (hV.below hv) hgx.1
    unfold ndV ndCells at hcp
    have ha : (⟨g, 0, none⟩ : Addr).add (i * 6) = ⟨g, i * 6, none⟩ := by unfold Addr.add; split <;> simp_all
    rw [ha] at hq6
    have HP := Lib.hid hput
    have HQ := Lib.hid hq6
    have hi0 : (0 : Int) ≤ (i : Int) := by omega
    have hi1 : (i : Int) < (e.kids.length : Int) := by omega
    clear hput hq6 h1 h2 h3 h4 h5 hko hown b1 b2 b3 b4 b5 b6 hlen hk c1 hg0 hg1
    go_enter Try.func34, Try.ntmps34
    go_wp2_with fail
    refine hcp.mono ?_
    rintro r v2 ⟨hb2, av2, kv2, rfl, hx⟩
    obtain ⟨av', kv', css9, e9, o1, o2, _⟩ := (ownC_iff _ _ _ _).1 hx
    obtain ⟨A9, c9, ha9⟩ := own_shape o1
    obtain ⟨K9, q9, hk9⟩ := own_shape o2
    simp only [ndC, List.cons.injEq, true_and, and_true] at e9
    obtain ⟨e91, e92⟩ := e9
    subst e91 e92 ha9 hk9
    have hq := HQ.out v2 hb2
    have HF := Lib.hid (HP.out v2 _ _ _ hb2 hx ⟨g, i * 6, none⟩ ha.symm rfl)
    obtain ⟨q0, q1, q2, q3, q4, q5⟩ := hq.cells
    have f0 := hq.free 0
    have f1 := hq.free 1
    have f2 := hq.free 2
    have f3 := hq.free 3
    have f4 := hq.free 4
    have f5 := hq.free 5
    simp only [Nat.add_zero] at f0
    clear ha hq hcp o1 o2 hx n0 n1 n2 n3 n4 n5
    unfold ndC
    go_wp2
    go_ret
    exact ⟨some ⟨g, 0, none⟩, cap, rfl, hcap, HF.out⟩
end Go.Proofs.Ytlcjepnaljfpkaa
namespace Wb
open Go Go.RowKit
def replP (n x : Nd) (l : List Int) : Option Nd := match l.getLast? with
  | none => some x
  | some p => chP (kidF (fun ks i => ks.set i x) p) n l.dropLast
theorem replP_nil (n x : Nd) : replP n x [] = some x := rfl
theorem replP_app (n x : Nd) (init : List Int) (p : Int) : replP n x (init ++ [p]) = chP (kidF (fun ks i => ks.set i x) p) n init := by
  unfold replP
  rw [List.getLast?_append]
  simp
theorem three_allocs (w : World) (a b c : Obj) : Below w.heap.size w (((w.alloc a).alloc b).alloc c) ∧ (((w.alloc a).alloc b).alloc c).heap[w.heap.size]? = some a ∧ (((w.alloc a).alloc b).alloc c).heap[w.heap.size + 1]? = some b ∧
    (((w.alloc a).alloc b).alloc c).heap[w.heap.size + 2]? = some c ∧ (((w.alloc a).alloc b).alloc c).heap.size = w.heap.size + 3 := by
  have s1 : (w.alloc a).heap.size = w.heap.size + 1 := by simp
  have s2 : ((w.alloc a).alloc b).heap.size = w.heap.size + 2 := by simp
  have h0 := heap_alloc_new w a
  have h1 := heap_alloc_new (w.alloc a) b
  have h2 := heap_alloc_new ((w.alloc a).alloc b) c
  rw [s1] at h1
  rw [s2] at h2
  have k1 := fun (k : Nat) (h : k < w.heap.size + 1) => Below.heap_alloc (w.alloc a) b k (by omega)
  have k2 := fun (k : Nat) (h : k < w.heap.size + 2) => Below.heap_alloc ((w.alloc a).alloc b) c k (by omega)
  exact ⟨(((Below.refl _ w).alloc (Nat.le_refl _) a).alloc (by omega) b).alloc (by omega) c, (k2 _ (by omega)).trans ((k1 _ (by omega)).trans h0), (k2 _ (by omega)).trans h1, h2, by simp⟩
end Wb
namespace Go.Proofs.Ytlcjepnaljfpkaa
open Go.RowKit Wb
theorem copy_safe {n : Nd} {A K : Option Addr} {ca ck : Nat} {w : World} {lo : Nat} (h : ownT w n (ndC n (.slice A n.attrs.length ca) (.slice K n.kids.length ck)) lo w.heap.size) : SafeM (fun b => lo ≤ b) w (fun u => NodeV u n A K) := by
  intro w2 k1 k2
  obtain ⟨A6, ca6, K6, ck6, e6, hV6⟩ := (nodeC_V _ _ _).1 (ownC_safe (N := w.heap.size) h (Nat.le_refl _) w2 (fun b p q => k1 b (by rcases p with p | p <;> omega) q) k2)
  simp only [ndC, ndCells, List.cons.injEq, Value.slice.injEq, true_and, and_true] at e6
  obtain ⟨⟨rfl, _⟩, ⟨rfl, _⟩⟩ := e6
  exact hV6
theorem own_slices {n : Nd} {av kv : Value} {w : World} {lo hi : Nat} (h : ownT w n (ndC n av kv) lo hi) : ∃ A ca K ck, av = .slice A n.attrs.length ca ∧ kv = .slice K n.kids.length ck := by
  obtain ⟨av', kv', css9, e9, o1, o2, _⟩ := (ownC_iff _ _ _ _).1 h
  obtain ⟨A9, c9, ha9⟩ := own_shape o1
  obtain ⟨K9, q9, hk9⟩ := own_shape o2
  simp only [ndC, List.cons.injEq, true_and, and_true] at e9
  exact ⟨A9, c9, K9, q9, e9.1.trans ha9, e9.2.trans hk9⟩
set_option maxRecDepth 100000 in
set_option maxHeartbeats 4000000 in
theorem Replace_any (n x : Nd) (A K XA XK : Option Addr) (ca ck xca xck : Nat) (l : List Int) (PA : Option Addr) (cp : Nat) (w : World) (hV : NodeV w n A K) (hX : NodeV w x XA XK) (hgn : GN n) (hgx : GN x) (hP : SlI w PA l) (hcp : l.length ≤ cp) (hl : l.length ≤ 1000000) :
    Calls Try.prog 12 #[ndV n A ca K ck, ndV x XA xca XK xck, .slice PA l.length cp] w (NdOut (replP n x l) w) := by
  obtain ⟨r, hr⟩ : ∃ r, replP n x l = r := ⟨_, rfl⟩
  rw [hr]
  obtain ⟨hb3, h0, h1, h2, hs3⟩ := three_allocs w (.cells #[.int .i64 n.kind, .string n.name.1, .string n.name.2, .slice A n.attrs.length ca, .slice K n.kids.length ck, .string n.text] 27) (.cells #[.int .i64 x.kind, .string x.name.1, .string x.name.2, .slice XA x.attrs.length xca, .slice XK x.kids.length xck, .string x.text] 27)
    (.cells #[.int .i64 0, .string ⟨#[]⟩, .string ⟨#[]⟩, .slice none 0 0, .slice none 0 0, .string ⟨#[]⟩] 27)
  have HB := Lib.hid hb3
  have H0 := Lib.hid h0
  have H1 := Lib.hid h1
  have H2 := Lib.hid h2
  have HS := Lib.hid hs3
  have HV := Lib.hid hV
  have HX := Lib.hid hX
  have HP := Lib.hid hP
  have HGN := Lib.hid hgn
  have HGX := Lib.hid hgx
  have HR := Lib.hid hr
  clear hb3 h0 h1 h2 hs3 hV hX hP hgn hgx hr
  unfold ndV ndCells
  rcases last_cases l with rfl | ⟨init, p, rfl⟩
  · have hr := HR.out
    rw [replP_nil] at hr
    subst hr
    rw [List.length_nil]
    go_enter Try.func12, Try.ntmps12
    go_upto_region 1 with fail
    revert HB H0 H1 H2 HS
    generalize ((w.alloc (.cells #[.int .i64 n.kind, .string n.name.1, .string n.name.2, .slice A n.attrs.length ca, .slice K n.kids.length ck, .string n.text] 27)).alloc (.cells #[.int .i64 x.kind, .string x.name.1, .string x.name.2, .slice XA x.attrs.length xca, .slice XK x.kids.length xck, .string x.text] 27)).alloc
      (.cells #[.int .i64 0, .string ⟨#[]⟩, .string ⟨#[]⟩, .slice none 0 0, .slice none 0 0, .string ⟨#[]⟩] 27) = w1
    intro HB H0 H1 H2 HS
    obtain ⟨n0, n1, n2, n3, n4, n5⟩ := cells_of_nd H1.out
    have hcp := copyO_any x XA XK xca xck w1 (HX.out.below HB.out) HGX.out.1
    unfold ndV ndCells at hcp
    go_wp2_with fail
    refine hcp.mono ?_
    rintro e w2 ⟨hb2, av, kv, rfl, hown⟩
    obtain ⟨A2, ca2, K2, ck2, rfl, rfl⟩ := own_slices hown
    have HZ := Lib.hid (still_block H2.out hb2)
    have HB2 := Lib.hid (HB.out.trans (hb2.mono HB.out.size))
    have HO := Lib.hid (copy_safe hown)
    have z0 := blk_free HZ.out 0
    have z1 := blk_free HZ.out 1
    have z2 := blk_free HZ.out 2
    have z3 := blk_free HZ.out 3
    have z4 := blk_free HZ.out 4
    have z5 := blk_free HZ.out 5
    obtain ⟨y0, y1, y2, y3, y4, y5⟩ := cells_of_nd HZ.out
    clear hcp hb2 hown n0 n1 n2 n3 n4 n5
    unfold ndC
    go_wp2
    refine bodyPost_ret (results_cell2 rfl _ _ (w.heap.size + 2) _ _ _ rfl (six_blk HZ.out _ _ _ _ _ _) Try.underlying27 rfl node_info2) rfl ?_
    refine ⟨six_below HB2.out (by omega) _ _ _ _ _ _, A2, ca2, K2, ck2, rfl, ?_⟩
    have hk := six_keep w2 (w.heap.size + 2) (.int .i64 x.kind) (.string x.name.1) (.string x.name.2) (.slice A2 x.attrs.length ca2) (.slice K2 x.kids.length ck2) (.string x.text)
    have hs := HS.out
    exact SafeM.mono (SafeM.later HO.out (fun b p q => hk.block b q (fun z => by
      have p : w1.heap.size ≤ b := p
      omega)) hk.size) (fun b p => by
      have p : w1.heap.size ≤ b := p
      omega)
  · have hr := HR.out
    rw [replP_app] at hr
    have hlen : (init ++ [p]).length = init.length + 1 := by simp
    rw [hlen] at hcp hl ⊢
    have HCL := Lib.hid (fun (v : World) (hv : Below w.heap.size w v) (b1 : v.heap[w.heap.size + 1]? = some (.cells #[.int .i64 x.kind, .string x.name.1, .string x.name.2, .slice XA x.attrs.length xca, .slice XK x.kids.length xck, .string x.text] 27 (0, 0))) =>
      changedKids_any (fun ks i => ks.set i x) 34 #[.pointer (some ⟨w.heap.size + 1, 0, none⟩)] (fun args w => by rfl) n A K ca ck init p PA cp v (HV.out.below hv) HGN.out (HP.out.below hv) hcp (by omega)
        (replace_clos x XA XK xca xck (w.heap.size + 1) v b1 (HX.out.below hv) HGX.out))
    rw [hr] at HCL
    unfold ndV ndCells at HCL
    clear hr HR
    go_enter Try.func12, Try.ntmps12
    go_upto_region 1 with fail
    revert HB H0 H1 H2 HS
    generalize ((w.alloc (.cells #[.int .i64 n.kind, .string n.name.1, .string n.name.2, .slice A n.attrs.length ca, .slice K n.kids.length ck, .string n.text] 27)).alloc (.cells #[.int .i64 x.kind, .string x.name.1, .string x.name.2, .slice XA x.attrs.length xca, .slice XK x.kids.length xck, .string x.text] 27)).alloc
      (.cells #[.int .i64 0, .string ⟨#[]⟩, .string ⟨#[]⟩, .slice none 0 0, .slice none 0 0, .string ⟨#[]⟩] 27) = w1
    intro HB H0 H1 H2 HS
    obtain ⟨n0, n1, n2, n3, n4, n5⟩ := cells_of_nd H0.out
    have hcall := HCL.out w1 HB.out H1.out
    clear HCL
    go_wp2_with fail
    refine hcall.mono ?_
    rintro e w4 ⟨hb4, ho⟩
    have HZ4 := Lib.hid (still_block H2.out hb4)
    have HB4 := Lib.hid (HB.out.trans (hb4.mono HB.out.size))
    have z0 := blk_free HZ4.out 0
    have z1 := blk_free HZ4.out 1
    have z2 := blk_free HZ4.out 2
    have z3 := blk_free HZ4.out 3
    have z4 := blk_free HZ4.out 4
    have z5 := blk_free HZ4.out 5
    obtain ⟨y0, y1, y2, y3, y4, y5⟩ := cells_of_nd HZ4.out
    clear n0 n1 n2 n3 n4 n5 hcall hb4
    rcases r with _ | m
    · subst ho
      go_wp2
      refine bodyPost_ret (results_cell2 rfl _ _ (w.heap.size + 2) _ _ _ rfl (six_blk HZ4.out _ _ _ _ _ _) Try.underlying27 rfl node_info2) rfl ?_
      exact ⟨six_below HB4.out (by omega) _ _ _ _ _ _, rfl⟩
    · obtain ⟨A5, ca5, K5, ck5, rfl, hV5⟩ := ho
      have HV5 := Lib.hid hV5
      clear hV5
      unfold ndV ndCells
      go_wp2
      refine bodyPost_ret (results_cell2 rfl _ _ (w.heap.size + 2) _ _ _ rfl (six_blk HZ4.out _ _ _ _ _ _) Try.underlying27 rfl node_info2) rfl ?_
      refine ⟨six_below HB4.out (by omega) _ _ _ _ _ _, A5, ca5, K5, ck5, rfl, ?_⟩
      have hk := six_keep w4 (w.heap.size + 2) (.int .i64 m.kind) (.string m.name.1) (.string m.name.2) (.slice A5 m.attrs.length ca5) (.slice K5 m.kids.length ck5) (.string m.text)
      have hs := HS.out
      exact SafeM.mono (SafeM.later HV5.out (fun b p q => hk.block b q (fun z => by
        have p : w1.heap.size ≤ b := p
        omega)) hk.size) (fun b p => by
        have p : w1.heap.size ≤ b := p
        omega)
end Go.Proofs.Ytlcjepnaljfpkaa
