/- PaD TrE TrEf TrSu PaE. -/
import Derived.Test.YtlcjepnaljfpkaaProg
import GoSem.Core.Float
import Derived.Laws.ComplexArith
import Derived.Laws.Cover2
import Derived.Laws.Cover3
import Derived.Deep.RegionHeld2
import Derived.Deep.Cut
import Derived.BigRegion
import Derived.Deep.RegionHeld
import Derived.Test.YtlcjepnaljfpkaaQb1
import Derived.Test.YtlcjepnaljfpkaaQb3
import Derived.Test.YtlcjepnaljfpkaaQb4
import Derived.Test.YtlcjepnaljfpkaaQb5
import Derived.Test.YtlcjepnaljfpkaaQb6
namespace Wb
abbrev GN (n : Nd) : Prop := smallN n ∧ costN n + costB n ≤ 900000
theorem costs_at : ∀ {ks : List Nd} {k : Nd}, k ∈ ks → costN k + costB k ≤ costNs ks + costBs ks
  | [], k, h => by simp at h
  | x :: ks, k, h => by
    rw [costNs, costBs]
    rcases List.mem_cons.1 h with rfl | h
    · omega
    · have := costs_at h; omega
theorem GN.kid {n k : Nd} (h : GN n) (hk : k ∈ n.kids) : GN k := by
  refine ⟨((smallN_is n).1 h.1).2.2 k hk, ?_⟩
  have h1 := costs_at hk
  have h2 := h.2
  rw [costN_is, costB_is] at h2
  omega
theorem valL_cost : ∀ ks : List Nd, (valL ks).length ≤ costBs ks
  | [] => by simp [valL]
  | k :: ks => by
    rw [valL, costBs, List.length_append, costB_is]
    have := valL_cost ks
    split
    · rename_i h
      unfold ownB
      rw [if_neg (by omega), Go.Lib.size_eq]
      omega
    · simp; omega
theorem pl_costs : ∀ ks : List Nd, ks.length ≤ costNs ks
  | [] => by simp
  | k :: ks => by
    rw [List.length_cons, costNs]
    have h1 := costN_pos k
    have h2 := pl_costs ks
    omega
theorem GN.at_ : ∀ {l : List Int} {n e : Nd}, GN n → atP n l = some e → GN e
  | [], n, e, h, he => by cases he; exact h
  | p :: ps, n, e, h, he => by
    rw [atP_cons] at he
    split at he
    · cases he
    · cases hk : n.kids[p.toNat]? with
      | none => rw [hk] at he; cases he
      | some k => rw [hk] at he; exact GN.at_ (h.kid (List.mem_of_getElem? hk)) he
theorem GN.len {n : Nd} (h : GN n) : n.kids.length ≤ 900000 := by
  have h1 := pl_costs n.kids
  have h2 := h.2
  rw [costN_is] at h2
  omega
theorem GN.val {n : Nd} (h : GN n) : (valL n.kids).length ≤ 900000 := by
  have h1 := valL_cost n.kids
  have h2 := h.2
  rw [costB_is] at h2
  omega
end Wb
namespace Go.Proofs.Ytlcjepnaljfpkaa
open Go.RowKit Wb
def ChOut (o : Option Nd) (q : Addr) (lo hi : Nat) (w : World) (r : Ending) (w' : World) : Prop :=
  Turned w w' q.block q.off lo hi ∧ match o with
  | none => r = .returned (.bool false)
  | some m => r = .returned (.bool true) ∧ ∃ cs, (∀ j u, cs[j]? = some u → w'.cell? ⟨q.block, q.off + j, none⟩ = some u) ∧ SafeM (MustI lo hi w.heap.size) w' (fun v => nodeC v m cs)
theorem ChOut.ret {o : Option Nd} {q : Addr} {lo hi : Nat} {w w' : World} {r : Ending} (h : ChOut o q lo hi w r w') : r = .returned (.bool o.isSome) := by
  cases o with
  | none => exact h.2
  | some m => exact h.2.1
def ClosOKq (Q : Nd → Prop) (f : Nd → Option Nd) (fid : FuncId) (caps : Array Value) (W : World) : Prop :=
  ∀ (v : World) (q : Addr) (e : Nd) (cs : List Value) (lo hi : Nat), Below W.heap.size W v → At6 v q cs → ownT v e cs lo hi → hi ≤ v.heap.size → ¬ (lo ≤ q.block ∧ q.block < hi) → Q e → e.kind = 1 →
    Calls Try.prog fid (#[.pointer (some q)] ++ caps) v (ChOut (f e) q lo hi v)
abbrev ClosOK (f : Nd → Option Nd) (fid : FuncId) (caps : Array Value) (W : World) : Prop := ClosOKq GN f fid caps W
theorem ClosOKq.later {Q : Nd → Prop} {f : Nd → Option Nd} {fid : FuncId} {caps : Array Value} {W W' : World} (h : ClosOKq Q f fid caps W) (hb : Below W.heap.size W W') : ClosOKq Q f fid caps W' :=
  fun v q e cs lo hi hv => h v q e cs lo hi (hb.trans (hv.mono hb.size))
theorem hand_up {n k : Nd} {lo hi i l h g ck : Nat} {av : Value} {css : List (List Value)} {q : Addr} {w v w' : World} {r : Option Nd} {e : Ending}
    (h6 : At6 w q (ndC n av (.slice (some ⟨g, 0, none⟩) n.kids.length ck))) (hv : Below w.heap.size w v) (hhi : hi ≤ w.heap.size) (hq : ¬ (lo ≤ q.block ∧ q.block < hi))
    (h1 : w.ownsRow lo 29 3 av n.attrs.length (cells3 n.attrs)) (h2 : w.ownsRow lo 27 6 (.slice (some ⟨g, 0, none⟩) n.kids.length ck) n.kids.length css.flatten)
    (h4 : ∀ b, av.ownBlock = some b → b < hi ∧ g ≠ b) (hghi : g < hi) (hk : n.kids[i]? = some k) (hlen : ∀ cs ∈ css, cs.length = 6) (hl : lo ≤ l) (hh : h ≤ hi) (hX : ∀ b, l ≤ b → b < h → ¬ (av.ownBlock = some b ∨ g = b))
    (hj : ∀ (j : Nat) (m : Nd), j ≠ i → n.kids[j]? = some m → ∃ cs' l' h', css[j]? = some cs' ∧ lo ≤ l' ∧ h' ≤ hi ∧ (h' ≤ l ∨ h ≤ l') ∧ (∀ b, l' ≤ b → b < h' → ¬ (av.ownBlock = some b ∨ g = b)) ∧ ownT w m cs' l' h')
    (ho : ChOut r ((⟨g, 0, none⟩ : Addr).add (i * 6)) l h v e w') : ChOut (r.map fun k' => n.withKids (n.kids.set i k')) q lo hi w e w' := by
  have ha : (⟨g, 0, none⟩ : Addr).add (i * 6) = ⟨g, i * 6, none⟩ := by unfold Addr.add; split <;> simp_all
  rw [ha] at ho
  obtain ⟨ht, ho⟩ := ho
  have hg := own_in h2 (g := g) rfl
  have hqv : q.block < v.heap.size := Nat.lt_of_lt_of_le h6.lt hv.size
  have htq : Turned v w' q.block q.off lo hi := ht.inner hl hh hg.1 hghi hq hqv
  refine ⟨htq.after hv h6.lt, ?_⟩
  cases r with
  | none => exact ho
  | some m =>
    obtain ⟨e1, cs', hc, hn⟩ := ho
    have hqg : q.block ≠ g := fun e => hq ⟨by omega, by omega⟩
    have hql : ¬ (l ≤ q.block ∧ q.block < h) := fun e => hq ⟨by omega, by omega⟩
    refine ⟨e1, ndC n av (.slice (some ⟨g, 0, none⟩) n.kids.length ck), fun j u hu => ((h6.below hv).keep (ht.block _ hqv hql hqg)).cell hu, fun w2 k1 k2 => ?_⟩
    have hvs := hv.size
    have hws := ht.size
    obtain ⟨A2, ca2, hav2, hN⟩ := own_kid (w' := w2) (own_below h1 hv) (own_below h2 hv) h4 hk hlen hX (fun j m a b => by
      obtain ⟨c2, l2, h2', b1, b2, b3, b4, b5, b6⟩ := hj j m a b
      exact ⟨c2, l2, h2', b1, b2, b3, b4, b5, ownC_keep _ _ _ _ (fun b p q => hv.block b (by omega)) b6⟩) (Nat.le_trans ht.size k2) (fun b p q r s => (k1 b (.inl ⟨p, q⟩) (by omega)).trans (ht.block b (by omega) r s))
      (fun f hf => (World.cell?_of_block (k1 g (.inl ⟨hg.1, hghi⟩) (by omega))).trans (ht.cell f hf)) (fun j u hu => (World.cell?_of_block (k1 g (.inl ⟨hg.1, hghi⟩) (by omega))).trans (hc j u hu)) (hn w2 (fun b p q => k1 b (p.imp (fun p => ⟨by omega, by omega⟩) (fun p => by omega)) q) k2)
    rw [hav2]
    exact hN
theorem ints_tail (PA : Option Addr) (n c : Nat) (hn : n + 1 ≤ c) : ∃ (PA1 : Option Addr), (∀ w, (Instr.slice 30 (.slice PA (n + 1) c) (some (.int .i64 1)) none none).run Try.prog w = .ok (.slice PA1 n (c - 1)) w) ∧
    (∀ (v : World) (x : Int) (l : List Int), SlI v PA (x :: l) → l.length = n → SlI v PA1 l) ∧ ∀ a1, PA1 = some a1 → ∃ a, PA = some a ∧ a1.block = a.block := by
  refine ⟨if c = 1 then PA else PA.map (·.add (1 * 1)), fun w => ?_, fun v x l h hl => ?_, fun a1 h => ?_⟩
  · have h2 : ¬ ((n : Int) + 1 < 1) := by omega
    have hu := Try.underlying30
    have hz := Try.sizeOf3
    go_simp
  · rcases h.tail c with h | ⟨h1, h2⟩
    · exact h
    · exfalso
      have : 0 < l.length := List.length_pos_iff.2 h2
      omega
  · split at h
    · exact ⟨a1, h, rfl⟩
    · cases PA with
      | none => cases h
      | some a => injection h with h; exact ⟨a, rfl, by rw [← h, add_block]⟩
set_option maxRecDepth 100000 in
set_option maxHeartbeats 4000000 in
theorem hand_any (Q : Nd → Prop) (f : Nd → Option Nd) (fid : FuncId) (caps : Array Value) (hE : ∀ args w, (callFunc fid args).run Try.prog w = .ok (.enter fid args) w) :
    ∀ (l : List Int) (n : Nd) (cs : List Value) (lo hi : Nat) (q : Addr) (PA : Option Addr) (cp : Nat) (w : World), At6 w q cs → ownT w n cs lo hi → hi ≤ w.heap.size → ¬ (lo ≤ q.block ∧ q.block < hi) → (∀ e, atP n l = some e → Q e) → SlI w PA l → (l ≠ [] → ∀ ad, PA = some ad → ¬ (lo ≤ ad.block ∧ ad.block < hi) ∧ ad.block ≠ q.block) → l.length ≤ cp → l.length ≤ 1000000 → ClosOKq Q f fid caps w →
    Calls Try.prog 46 #[.pointer (some q), .func (.func fid) #[] caps, .slice PA l.length cp] w (ChOut (chP f n l) q lo hi w) := by
  intro l
  induction l with
  | nil =>
    intro n cs lo hi q PA cp w h6 hown hhi hq hgn hP _ hcp _ hC
    obtain ⟨av, kv, css, rfl, _⟩ := (ownC_iff n cs lo hi).1 hown
    obtain ⟨q0, _⟩ := h6.cells
    have hcall := hC w q n _ lo hi (Below.refl _ _) h6 hown hhi hq (hgn n rfl)
    obtain ⟨r, hr⟩ : ∃ r, chP f n [] = r := ⟨_, rfl⟩
    rw [hr]
    have HR := Lib.hid hr
    have HC := Lib.hid hcall
    have HT := Lib.hid (Turned.refl w q.block q.off lo hi)
    clear hr hcall hC hown h6 hP
    by_cases hk : n.kind = 1
    · have hr := HR.out
      unfold chP at hr
      rw [if_pos hk] at hr
      have hc := HC.out hk
      rw [hr] at hc
      rw [hk] at q0
      clear hr HC HR hk
      rw [List.length_nil]
      rcases r with _ | m
      · go_enter Try.func46, Try.ntmps46
        go_wp2_with (go_at_fn fid; refine hc.mono ?_; rintro e w' ⟨ht, rfl⟩)
        go_ret
        exact ⟨ht, rfl⟩
      · go_enter Try.func46, Try.ntmps46
        go_wp2_with (go_at_fn fid; refine hc.mono ?_; rintro e w' ⟨ht, rfl, hm⟩)
        go_ret
        exact ⟨ht, rfl, hm⟩
    · have hr := HR.out
      unfold chP at hr
      rw [if_neg hk] at hr
      subst hr
      have hkf : (n.kind == 1) = false := by simpa using hk
      generalize n.kind = kd at *
      clear HC HR hk
      rw [List.length_nil]
      go_enter Try.func46, Try.ntmps46
      go_wp2
      go_ret
      exact ⟨HT.out, rfl⟩
  | cons p l ih =>
    intro n cs lo hi q PA cp w h6 hown hhi hq hgn hP hPn hcp hll hC
    obtain ⟨av, kv, css, rfl, h1, h2, h3, h4, h5, hko⟩ := (ownC_iff n cs lo hi).1 hown
    obtain ⟨A, ca, rfl⟩ := own_shape h1
    obtain ⟨K, ck, rfl⟩ := own_shape h2
    obtain ⟨q0, q1, q2, q3, q4, q5⟩ := h6.cells
    have hpc := hP.at_ (k := 0) (x := p) rfl
    obtain ⟨pa, rfl, hpb, hp0⟩ := hpc
    rw [show pa.add 0 = pa from by simp [Addr.add]] at hp0
    rw [List.length_cons] at hcp hll ⊢
    obtain ⟨PA1, hsl, hP1, hPB⟩ := ints_tail (some pa) l.length cp hcp
    have hhas := fun (v : World) => has_any n.kind n.name.1 n.name.2 n.text A K n.attrs.length ca n.kids.length ck p v
    have HSV := Lib.hid (fun (v : World) (hv : Below w.heap.size w v) => (show v.cell? q = some (.int .i64 n.kind) ∧ v.cell? ⟨q.block, q.off + 1, none⟩ = some (.string n.name.1) ∧ v.cell? ⟨q.block, q.off + 2, none⟩ = some (.string n.name.2) ∧
      v.cell? ⟨q.block, q.off + 3, none⟩ = some (.slice A n.attrs.length ca) ∧ v.cell? ⟨q.block, q.off + 4, none⟩ = some (.slice K n.kids.length ck) ∧ v.cell? ⟨q.block, q.off + 5, none⟩ = some (.string n.text) ∧ v.cell? pa = some (.int .i64 p) from by
      obtain ⟨a0, a1, a2, a3, a4, a5⟩ := (h6.below hv).cells
      exact ⟨a0, a1, a2, a3, a4, a5, (hv.cell hpb).trans hp0⟩))
    by_cases hin : 0 ≤ p ∧ p < (n.kids.length : Int)
    · rw [decide_eq_true hin] at hhas
      obtain ⟨i, rfl⟩ : ∃ i : Nat, p = (i : Int) := ⟨p.toNat, by omega⟩
      have hil : i < n.kids.length := by omega
      obtain ⟨k, hk⟩ : ∃ k, n.kids[i]? = some k := ⟨n.kids[i], List.getElem?_eq_getElem hil⟩
      have hgk : ∀ e, atP k l = some e → Q e := fun e he => hgn e (by rw [atP_cons, if_neg (by omega), show ((i : Int)).toNat = i from by omega, hk]; exact he)
      have hlen := (kidsO_len hko).2
      obtain ⟨ck1, l1, h1', c1, b1, b2, b3, b4, b5, b6⟩ := kidsO_at hko i k hk
      obtain ⟨g, cap, hKv, hg0, hg1⟩ := h2.form (by omega)
      simp only [Value.slice.injEq, true_and] at hKv
      obtain ⟨hKa, hKc⟩ := hKv
      subst hKa hKc
      have hgb := own_in h2 (g := g) rfl
      have hghi := h5 g rfl
      have hchp : chP f n ((i : Int) :: l) = (chP f k l).map fun k' => n.withKids (n.kids.set i k') := by
        rw [chP_cons, if_neg (by omega), show ((i : Int)).toNat = i from by omega, hk]
      rw [hchp]
      have hX : ∀ b, l1 ≤ b → b < h1' → ¬ (Value.ownBlock (.slice A n.attrs.length ca) = some b ∨ g = b) := fun b p q e => b4 b p q (e.imp id (fun e => by rw [e]; rfl))
      have hup := fun (v w' : World) (e : Ending) (hv : Below w.heap.size w v) (ho : ChOut (chP f k l) ((⟨g, 0, none⟩ : Addr).add (i * 6)) l1 h1' v e w') =>
        hand_up h6 hv hhi hq h1 h2 (fun b hb => ⟨(h4 b hb).1, fun e => (h4 b hb).2 (by rw [e]; rfl)⟩) hghi hk hlen b1 b3 hX (fun j m a b => by
          obtain ⟨c2, l2, h2', d1, d2, d3, d4, d5, d6⟩ := b6 j m a b
          exact ⟨c2, l2, h2', d1, d2, d3, d4, fun b p q e => d5 b p q (e.imp id (fun e => by rw [e]; rfl)), d6⟩) ho
      have hcall := fun (v : World) (hv : Below w.heap.size w v) => ih k ck1 l1 h1' ((⟨g, 0, none⟩ : Addr).add (i * 6)) PA1 (cp - 1) v (At6.of_row (own_below h2 hv) hlen c1) (ownC_keep _ _ _ _ (fun b p q => hv.block b (by omega)) b5)
        (by have := hv.size; omega) (fun e => hX g (by simpa [add_block] using e.1) (by simpa [add_block] using e.2) (.inr rfl)) hgk (hP1 v _ l (hP.below hv) rfl) (fun _ ad e => by
          obtain ⟨a, ea, eb⟩ := hPB ad e
          have hn := (hPn (by simp) a ea).1
          rw [eb, add_block]
          exact ⟨fun x => hn ⟨Nat.le_trans b1 x.1, Nat.lt_of_lt_of_le x.2 b3⟩, fun x => by
            have x : a.block = g := x
            exact hn ⟨by omega, by omega⟩⟩) (by omega) (by omega) (hC.later hv)
      have hsw := fun (v w' : World) (e : Ending) (hv : Below w.heap.size w v) (ho : ChOut (chP f k l) ((⟨g, 0, none⟩ : Addr).add (i * 6)) l1 h1' v e w') => (show w'.cell? q = some (.int .i64 n.kind) ∧ w'.cell? ⟨q.block, q.off + 1, none⟩ = some (.string n.name.1) ∧ w'.cell? ⟨q.block, q.off + 2, none⟩ = some (.string n.name.2) ∧
          w'.cell? ⟨q.block, q.off + 3, none⟩ = some (.slice A n.attrs.length ca) ∧ w'.cell? ⟨q.block, q.off + 4, none⟩ = some (.slice (some ⟨g, 0, none⟩) n.kids.length ck) ∧ w'.cell? ⟨q.block, q.off + 5, none⟩ = some (.string n.text) ∧ w'.cell? pa = some (.int .i64 (i : Int)) from by
        have ht := ho.1
        have hs := hv.size
        obtain ⟨hn1, hn2⟩ := hPn (by simp) pa rfl
        have hqv := h6.lt
        have e1 := ht.block q.block (by omega) (fun x => hq ⟨by omega, by omega⟩) (fun x => by
          have x : q.block = g := by simpa [add_block] using x
          exact hq ⟨by omega, by omega⟩)
        have e2 := ht.block pa.block (by omega) (fun x => hn1 ⟨by omega, by omega⟩) (fun x => by
          have x : pa.block = g := by simpa [add_block] using x
          exact hn1 ⟨by omega, by omega⟩)
        obtain ⟨a0, a1, a2, a3, a4, a5⟩ := ((h6.below hv).keep e1).cells
        exact ⟨a0, a1, a2, a3, a4, a5, (World.cell?_of_block e2).trans ((hv.cell hpb).trans hp0)⟩)
      generalize chP f k l = r at *
      obtain ⟨ad, had⟩ : ∃ ad : Addr, ad = ⟨g, 0, none⟩ := ⟨_, rfl⟩
      rw [← had] at hup hcall HSV hhas hsw
      have HSW := Lib.hid hsw
      have HAS := Lib.hid hhas
      have HUP := Lib.hid hup
      have HCA := Lib.hid hcall
      have hi0 : (0 : Int) ≤ (i : Int) := by omega
      have hi1 : (i : Int) < (n.kids.length : Int) := by omega
      clear hhas hup hcall hsw hPB hPn hchp h1 h2 h3 h4 h5 hko hown hP hP1 q0 q1 q2 q3 q4 q5 hin h6 hC ih b1 b2 b3 b4 b5 b6 hX hg0 hg1 hgb hghi hlen hgk hk c1 had hil
      go_enter Try.func46, Try.ntmps46
      go_wp2_with fail
      (try simp only [List.append])
      refine wp_region_held_drew (S := (fun v => v.cell? q = some (.int .i64 n.kind) ∧ v.cell? ⟨q.block, q.off + 1, none⟩ = some (.string n.name.1) ∧ v.cell? ⟨q.block, q.off + 2, none⟩ = some (.string n.name.2) ∧ v.cell? ⟨q.block, q.off + 3, none⟩ = some (.slice A n.attrs.length ca) ∧ v.cell? ⟨q.block, q.off + 4, none⟩ = some (.slice (some ad) n.kids.length ck) ∧ v.cell? ⟨q.block, q.off + 5, none⟩ = some (.string n.text) ∧ v.cell? pa = some (.int .i64 (i : Int)))) (by kernel_rfl) (HSV.out _ (Below.refl _ w).drew) (fun hHeld => ?_)
      refine takeW 0 ?_
      refine takeW 1 ?_
      refine takeW 2 ?_
      refine takeW 3 ?_
      (try simp only [Act.put, List.setIfInBounds_toArray, List.set_cons_zero, List.set_cons_succ])
      refine takeW 4 ?_
      refine takeW 5 ?_
      (try simp only [Act.put, List.setIfInBounds_toArray, List.set_cons_zero, List.set_cons_succ])
      refine wpAnyH_ready (rs := [6]) (by kernel_rfl) (by simp) ?_
      refine AllReadyH.cons rfl (fun K2 hK2 => ?_) AllReadyH.nil
      go_simp
      refine (HAS.out _).mono ?_
      rintro e w7 ⟨rfl, hb7⟩
      have HB7 : Hid (Below w.heap.size w w7) := Lib.hid ((Below.refl _ w).drew.trans hb7)
      clear hb7
      refine hK2.out _ _ (HSV.out _ HB7.out) (fun hHeld2 => ?_)
      refine takeW 7 ?_
      refine takeW 8 ?_
      (try simp only [Act.put, List.setIfInBounds_toArray, List.set_cons_zero, List.set_cons_succ])
      refine takeW 9 ?_
      refine takeW 10 ?_
      refine takeW 11 ?_
      refine takeW 12 ?_
      (try simp only [Act.put, List.setIfInBounds_toArray, List.set_cons_zero, List.set_cons_succ])
      refine takeW 13 ?_
      refine takeW 14 ?_
      refine takeW 15 ?_
      refine takeW 16 ?_
      (try simp only [Act.put, List.setIfInBounds_toArray, List.set_cons_zero, List.set_cons_succ])
      refine takeW 17 ?_
      refine takeW 18 ?_
      (try simp only [Act.put, List.setIfInBounds_toArray, List.set_cons_zero, List.set_cons_succ])
      refine wpAnyH_ready (rs := [19]) (by kernel_rfl) (by simp) ?_
      refine AllReadyH.cons rfl (fun K2 hK2 => ?_) AllReadyH.nil
      go_simp
      refine (HCA.out _ HB7.out).mono ?_
      rintro e w8 ho
      have HOU := Lib.hid (HUP.out _ _ _ HB7.out ho)
      have he := ho.ret
      subst he
      refine hK2.out _ _ (HSW.out _ _ _ HB7.out ho) (fun hHeld2 => ?_)
      refine takeW 20 ?_
      refine takeW 21 ?_
      (try simp only [Act.put, List.setIfInBounds_toArray, List.set_cons_zero, List.set_cons_succ])
      refine wpAnyH_done (by kernel_rfl) ?_ _
      go_wp2
      go_ret
      exact HOU.out
    · rw [decide_eq_false hin] at hhas
      have hr : chP f n (p :: l) = none := by
        rw [chP_cons]
        by_cases h0 : p < 0
        · rw [if_pos h0]
        · rw [if_neg h0, List.getElem?_eq_none (by omega)]
      rw [hr]
      have hhq := h6.lt
      have HAS := Lib.hid hhas
      clear hhas hr h1 h2 h3 h4 h5 hko hown hP hP1 hPB hPn q0 q1 q2 q3 q4 q5 hin h6 hC
      go_enter Try.func46, Try.ntmps46
      go_wp2_with fail
      (try simp only [List.append])
      refine wp_region_held_drew (S := (fun v => v.cell? q = some (.int .i64 n.kind) ∧ v.cell? ⟨q.block, q.off + 1, none⟩ = some (.string n.name.1) ∧ v.cell? ⟨q.block, q.off + 2, none⟩ = some (.string n.name.2) ∧ v.cell? ⟨q.block, q.off + 3, none⟩ = some (.slice A n.attrs.length ca) ∧ v.cell? ⟨q.block, q.off + 4, none⟩ = some (.slice K n.kids.length ck) ∧ v.cell? ⟨q.block, q.off + 5, none⟩ = some (.string n.text) ∧ v.cell? pa = some (.int .i64 p))) (by kernel_rfl) (HSV.out _ (Below.refl _ w).drew) (fun hHeld => ?_)
      refine takeW 0 ?_
      refine takeW 1 ?_
      refine takeW 2 ?_
      refine takeW 3 ?_
      (try simp only [Act.put, List.setIfInBounds_toArray, List.set_cons_zero, List.set_cons_succ])
      refine takeW 4 ?_
      refine takeW 5 ?_
      (try simp only [Act.put, List.setIfInBounds_toArray, List.set_cons_zero, List.set_cons_succ])
      refine wpAnyH_ready (rs := [6]) (by kernel_rfl) (by simp) ?_
      refine AllReadyH.cons rfl (fun K2 hK2 => ?_) AllReadyH.nil
      go_simp
      refine (HAS.out _).mono ?_
      rintro e w7 ⟨rfl, hb7⟩
      have HB7 : Hid (Below w.heap.size w w7) := Lib.hid ((Below.refl _ w).drew.trans hb7)
      clear hb7
      refine hK2.out _ _ (HSV.out _ HB7.out) (fun hHeld2 => ?_)
      refine takeW 7 ?_
      refine takeU 8 ?_
      (try simp only [Act.put, List.setIfInBounds_toArray, List.set_cons_zero, List.set_cons_succ])
      refine takeU 9 ?_
      refine takeU 10 ?_
      refine takeU 11 ?_
      refine takeU 12 ?_
      (try simp only [Act.put, List.setIfInBounds_toArray, List.set_cons_zero, List.set_cons_succ])
      refine takeU 13 ?_
      refine takeU 14 ?_
      refine takeU 15 ?_
      refine takeU 16 ?_
      (try simp only [Act.put, List.setIfInBounds_toArray, List.set_cons_zero, List.set_cons_succ])
      refine takeU 17 ?_
      refine takeU 18 ?_
      (try simp only [Act.put, List.setIfInBounds_toArray, List.set_cons_zero, List.set_cons_succ])
      refine wpAnyH_ready (rs := [19]) (by kernel_rfl) (by simp) ?_
      refine AllReadyH.cons rfl (fun K2 hK2 => ?_) AllReadyH.nil
      go_simp
      refine hK2.out _ _ (by assumption) (fun hHeld2 => ?_)
      refine takeW 20 ?_
      refine takeW 21 ?_
      (try simp only [Act.put, List.setIfInBounds_toArray, List.set_cons_zero, List.set_cons_succ])
      refine wpAnyH_done (by kernel_rfl) ?_ _
      go_wp2
      go_ret
      exact ⟨Turned.of_below HB7.out hhq _ _ _, rfl⟩
end Go.Proofs.Ytlcjepnaljfpkaa
namespace Go.Proofs.Ytlcjepnaljfpkaa
open Go.RowKit Wb
theorem drop_at' {α : Type} {l : List α} {k : Nat} {x : α} (h : l[k]? = some x) : l.drop k = x :: l.drop (k + 1) := by
  obtain ⟨hk, e⟩ := List.getElem?_eq_some_iff.1 h
  rw [List.drop_eq_getElem_cons hk, e]
theorem run_min (P : Program) (a m : Nat) (ts : Array TypeId) (t : TypeId) (w : World) : (Builtin.min_ ts t #[.int .i64 (a : Int), .int .i64 (m : Int)]).run P w = .ok (.int .i64 ((min a m : Nat) : Int)) w := by
  by_cases h : (m : Int) < a
  · have : min a m = m := by omega
    rw [this]
    simp [Builtin.min_, Builtin.min2, h]
  · have : min a m = a := by omega
    rw [this]
    simp [Builtin.min_, Builtin.min2, h]
theorem min_nat (P : Program) (a m : Nat) : ∃ p : Nat, p ≤ m ∧ (∀ (ts : Array TypeId) (t : TypeId) (w : World), (Builtin.min_ ts t #[.int .i64 (a : Int), .int .i64 (m : Int)]).run P w = .ok (.int .i64 (p : Int)) w) ∧ min a m = p :=
  ⟨min a m, Nat.min_le_right _ _, run_min P a m, rfl⟩
theorem weighAs_done {m v : Nat} {l : List Tr} (h : m < v ∨ l = []) : weighAs m v l = v := by
  cases l with
  | nil => rfl
  | cons a l =>
    rcases h with h | h
    · unfold weighAs; rw [if_neg (by omega)]
    · cases h
theorem weighKs_done {m v : Nat} {l : List Nd} (h : m < v ∨ l = []) : weighKs l m v = v := by
  cases l with
  | nil => unfold weighKs; rfl
  | cons a l =>
    rcases h with h | h
    · unfold weighKs; rw [if_neg (by omega)]
    · cases h
theorem weighAs_go {m v k : Nat} {al : List Tr} {a1 a2 a3 : ByteArray} (he : al[k]? = some ((a1, a2), a3)) (h : v ≤ m) : weighAs m v (al.drop k) = weighAs m (v + (min a1.size m + min a2.size m + min a3.size m)) (al.drop (k + 1)) := by
  rw [drop_at' he]
  conv => lhs; unfold weighAs
  rw [if_pos h]
  rfl
theorem weighKs_go {m v k : Nat} {ks : List Nd} {x : Nd} (he : ks[k]? = some x) (h : v ≤ m) : weighKs (ks.drop k) m v = weighKs (ks.drop (k + 1)) m (v + weighN x (m - v)) := by
  rw [drop_at' he]
  conv => lhs; unfold weighKs
  rw [if_pos h]
set_option maxHeartbeats 4000000 in
theorem weigh_any (n : Nd) : ∀ (A K : Option Addr) (ca ck m : Nat) (w : World), m ≤ 30000 → NodeV w n A K → lenN 9223372036854775807 n →
    Calls Try.prog 21 #[ndV n A ca K ck, .int .i64 m] w fun e w' => e = .returned (.int .i64 (weighN n m)) ∧ Below w.heap.size w w' := by
  induction n using Nd.induct with
  | h n ih =>
    intro A K ca ck m w hm hV hln
    obtain ⟨hA, hK⟩ := hV
    obtain ⟨hla, hlk, hl3⟩ := (lenN_is _ n).1 hln
    have IH := Lib.hid ih
    have L3 := Lib.hid hl3
    rw [weighN_is]
    unfold headW
    obtain ⟨kd, ⟨sp, lo⟩, al, ks, tx⟩ := n
    simp only [Nd.kids] at IH L3 hK hlk ⊢
    simp only [Nd.attrs] at hA hla ⊢
    unfold ndV ndCells
    simp only [Nd.kind, Nd.name, Nd.attrs, Nd.kids, Nd.text]
    clear ih hln hl3
    obtain ⟨p1, b1, e1, f1⟩ := min_nat Try.prog tx.size m
    obtain ⟨p2, b2, e2, f2⟩ := min_nat Try.prog sp.size m
    obtain ⟨p3, b3, e3, f3⟩ := min_nat Try.prog lo.size m
    obtain ⟨p4, b4, e4, f4⟩ := min_nat Try.prog al.length m
    rw [f1, f2, f3, f4]
    clear f1 f2 f3 f4
    go_enter Try.func21, Try.ntmps21
    go_wp2
    have hbx : (w.alloc (.cells #[.int .i64 kd, .string sp, .string lo, .slice A al.length ca, .slice K ks.length ck, .string tx] 27)).heap[w.heap.size]? = some (.cells #[.int .i64 kd, .string sp, .string lo, .slice A al.length ca, .slice K ks.length ck, .string tx] 27 (0, 0)) := by
      show (w.heap.push _)[w.heap.size]? = _
      simp
    have hbw : Below w.heap.size w (w.alloc (.cells #[.int .i64 kd, .string sp, .string lo, .slice A al.length ca, .slice K ks.length ck, .string tx] 27)) := (Below.refl _ w).alloc (Nat.le_refl _) _
    have hA1 := hA.below hbw
    have hK1 := Lib.hid (hK.below hbw)
    have hw0 : w.heap.size < (w.alloc (.cells #[.int .i64 kd, .string sp, .string lo, .slice A al.length ca, .slice K ks.length ck, .string tx] 27)).heap.size := by simp
    have HB := Lib.hid hbw
    clear hbw
    revert hbx hA1 hK1 hw0 HB
    generalize (w.alloc (.cells #[.int .i64 kd, .string sp, .string lo, .slice A al.length ca, .slice K ks.length ck, .string tx] 27)) = wb
    intro hbx hA1 hK1 hw0 HB
    have C3 := Lib.hid (fun (v : World) (h : Below wb.heap.size wb v) => (show v.cell? ⟨w.heap.size, 3, none⟩ = some (.slice A al.length ca) by simp only [World.cell?, (h.block _ hw0).trans hbx]; rfl))
    have C4 := Lib.hid (fun (v : World) (h : Below wb.heap.size wb v) => (show v.cell? ⟨w.heap.size, 4, none⟩ = some (.slice K ks.length ck) by simp only [World.cell?, (h.block _ hw0).trans hbx]; rfl))
    clear hbx
    go_loopw [5, 6] (fun vs vi wr => ∃ k v : Nat, k ≤ al.length ∧ vi = .int .i64 k ∧ vs = .int .i64 v ∧ v ≤ 4 * m + 1 ∧ Hid (weighAs m (1 + p1 + p2 + p3 + p4) al = weighAs m v (al.drop k)) ∧ Hid (Below wb.heap.size wb wr)) (fun _ vi _ => ((al.length : Int) - intOf vi).toNat)
    case atStart => exact ⟨0, 1 + p1 + p2 + p3 + p4, by omega, rfl, by go_num, by omega, Lib.hid rfl, Lib.hid (Below.refl _ _)⟩
    case round =>
      obtain ⟨k, v, hk, rfl, rfl, hv, hW, HR⟩ := hrel
      have c3 := C3.out wr HR.out
      by_cases h0 : k < al.length ∧ v ≤ m
      · obtain ⟨h1, h2⟩ := h0
        obtain ⟨⟨⟨a1, a2⟩, a3⟩, he⟩ : ∃ x, al[k]? = some x := ⟨al[k], List.getElem?_eq_getElem h1⟩
        obtain ⟨ad, rfl, had, d1, d2, d3⟩ := (hA1.below HR.out).at_ he
        have hgo := weighAs_go he h2
        simp only at d1 d2 d3
        obtain ⟨q1, g1, r1, s1⟩ := min_nat Try.prog a1.size m
        obtain ⟨q2, g2, r2, s2⟩ := min_nat Try.prog a2.size m
        obtain ⟨q3, g3, r3, s3⟩ := min_nat Try.prog a3.size m
        rw [s1, s2, s3] at hgo
        have hW2 := Lib.hid (hW.out.trans hgo)
        clear hgo s1 s2 s3 he hW
        go_upto_region 5 with fail
        go_region
        go_wp2
        go_roundw
        case rel => exact ⟨k + 1, v + (q1 + q2 + q3), by omega, by go_num, by go_num, by omega, hW2, Lib.hid HR.out.drew⟩
        case measure => simp [intOf]; omega
      · have hx : m < v ∨ al.drop k = [] := by
          by_cases h1 : k < al.length
          · left; omega
          · right; exact List.drop_eq_nil_of_le (by omega)
        have hd := Lib.hid (hW.out.trans (weighAs_done hx))
        clear hx hW
        have hh : al.length ≤ k ∨ (k < al.length ∧ m < v) := by omega
        clear h0
        rcases hh with h1 | ⟨h1, h2⟩
        all_goals
          go_wp2
          try rw [decide_eq_false (show ¬ v ≤ m by omega)]
          go_loopw [5, 7] (fun vs vi wr2 => ∃ k2 v2 : Nat, k2 ≤ ks.length ∧ vi = .int .i64 k2 ∧ vs = .int .i64 v2 ∧ v2 ≤ 5 * m + 1 ∧ Hid (weighKs ks m v = weighKs (ks.drop k2) m v2) ∧ Hid (Below wb.heap.size wb wr2)) (fun _ vi _ => ((ks.length : Int) - intOf vi).toNat)
          case atStart => exact ⟨0, v, by omega, rfl, rfl, by omega, Lib.hid rfl, HR⟩
          case round =>
            obtain ⟨k2, v2, hk2, rfl, rfl, hv2, hW2, HR2⟩ := hrel
            have c4 := C4.out _ HR2.out
            by_cases h3 : k2 < ks.length ∧ v2 ≤ m
            · obtain ⟨h4, h5⟩ := h3
              obtain ⟨x, he⟩ : ∃ x, ks[k2]? = some x := ⟨ks[k2], List.getElem?_eq_getElem h4⟩
              obtain ⟨ad, A1, ca1, K1, ck1, rfl, had, d0, d1, d2, d3, d4, d5, hA2, hK2⟩ := (hK1.out.below HR2.out).at_ he
              have hgo := weighKs_go he h5
              have hI := IH.out x (List.mem_of_getElem? he) A1 K1 ca1 ck1 (m - v2) _ (by omega) ⟨hA2, hK2⟩ (L3.out x (List.mem_of_getElem? he))
              have hb5 := weigh_bound x (m - v2)
              have hmv : ((m - v2 : Nat) : Int) = (m : Int) - (v2 : Int) := by omega
              rw [hmv] at hI
              generalize weighN x (m - v2) = z at hI hgo hb5
              have hW3 := Lib.hid (hW2.out.trans hgo)
              unfold ndV ndCells at hI
              clear hgo he hA2 hK2 hmv hW2
              go_wp2_with fail
              refine hI.mono ?_
              rintro e w2 ⟨rfl, hb2⟩
              have HR3 := Lib.hid (HR2.out.trans (hb2.mono HR2.out.size))
              clear hI hb2
              go_wp2
              go_roundw
              case rel => exact ⟨k2 + 1, v2 + z, by omega, by go_num, by go_num, by omega, hW3, HR3⟩
              case measure => simp [intOf]; omega
            · have hx2 : m < v2 ∨ ks.drop k2 = [] := by
                by_cases h4 : k2 < ks.length
                · left; omega
                · right; exact List.drop_eq_nil_of_le (by omega)
              have hd2 := Lib.hid (hW2.out.trans (weighKs_done hx2))
              clear hx2 hW2
              have hh2 : ks.length ≤ k2 ∨ (k2 < ks.length ∧ m < v2) := by omega
              clear h3
              rcases hh2 with h4 | ⟨h4, h5⟩
              all_goals
                go_wp2
                go_ret
                refine ⟨?_, HB.out.trans (HR2.out.mono HB.out.size)⟩
                show Ending.returned (.int .i64 (v2 : Int)) = _
                rw [hd.out, hd2.out]
end Go.Proofs.Ytlcjepnaljfpkaa
namespace Go.Proofs.Ytlcjepnaljfpkaa
open Go.RowKit Wb
set_option maxRecDepth 100000 in
theorem tfew_any (n : Nd) (A K : Option Addr) (ca ck : Nat) (w : World) (hV : NodeV w n A K) (hl : lenN 9223372036854775807 n) :
    Calls Try.prog 6 #[ndV n A ca K ck] w fun e w' => e = .returned (.bool (decide (weighN n 30000 ≤ 30000))) ∧ Below w.heap.size w w' := by
  have hI := weigh_any n A K ca ck 30000 (w.alloc (.cells (ndCells n.kind n.name A n.attrs.length ca K n.kids.length ck n.text).toArray 27)) (by omega) (NodeV.below hV ((Below.refl _ w).alloc (Nat.le_refl _) _)) hl
  have hN := heap_alloc_new w (.cells (ndCells n.kind n.name A n.attrs.length ca K n.kids.length ck n.text).toArray 27)
  have HB := Lib.hid ((Below.refl w.heap.size w).alloc (Nat.le_refl _) (.cells (ndCells n.kind n.name A n.attrs.length ca K n.kids.length ck n.text).toArray 27))
  have hsz : w.heap.size ≤ (w.alloc (.cells (ndCells n.kind n.name A n.attrs.length ca K n.kids.length ck n.text).toArray 27)).heap.size := by simp
  unfold ndV ndCells at hI ⊢
  unfold ndCells at hN HB hsz
  have n0 := blk_cell hN 0
  have n1 := blk_cell hN 1
  have n2 := blk_cell hN 2
  have n3 := blk_cell hN 3
  have n4 := blk_cell hN 4
  have n5 := blk_cell hN 5
  simp only [List.getElem?_toArray, List.getElem?_cons_zero, List.getElem?_cons_succ] at n0 n1 n2 n3 n4 n5
  clear hN
  go_enter Try.func6, Try.ntmps6
  go_wp2_with fail
  refine hI.mono ?_
  rintro e w2 ⟨rfl, hb2⟩
  clear hI
  go_wp2
  go_ret
  exact ⟨by congr 2; simp; omega, HB.out.trans (hb2.mono hsz)⟩
end Go.Proofs.Ytlcjepnaljfpkaa
namespace Go.Proofs.Ytlcjepnaljfpkaa
open Go.RowKit Wb
theorem cells_of_nd {w : World} {g : Nat} {k : Int} {p q : ByteArray} {A K : Option Addr} {la ca lk ck : Nat} {t : ByteArray} {ty : TypeId} (h : w.heap[g]? = some (.cells #[.int .i64 k, .string p, .string q, .slice A la ca, .slice K lk ck, .string t] ty (0, 0))) :
    w.cell? ⟨g, 0, none⟩ = some (.int .i64 k) ∧ w.cell? ⟨g, 1, none⟩ = some (.string p) ∧ w.cell? ⟨g, 2, none⟩ = some (.string q) ∧ w.cell? ⟨g, 3, none⟩ = some (.slice A la ca) ∧ w.cell? ⟨g, 4, none⟩ = some (.slice K lk ck) ∧ w.cell? ⟨g, 5, none⟩ = some (.string t) := by
  refine ⟨?_, ?_, ?_, ?_, ?_, ?_⟩ <;> simp [World.cell?, h]
end Go.Proofs.Ytlcjepnaljfpkaa
namespace Go.Proofs.Ytlcjepnaljfpkaa
open Go.RowKit Wb
def NdOut (o : Option Nd) (w : World) (e : Ending) (w' : World) : Prop :=
  Below w.heap.size w w' ∧ match o with
  | none => e = .returned (.tuple #[.agg #[.int .i64 0, .string ⟨#[]⟩, .string ⟨#[]⟩, .slice none 0 0, .slice none 0 0, .string ⟨#[]⟩], .bool false])
  | some m => ∃ A ca K ck, e = .returned (.tuple #[ndV m A ca K ck, .bool true]) ∧ SafeM (fun b => w.heap.size ≤ b) w' (fun u => NodeV u m A K)
theorem At6.blk {w : World} {g : Nat} {t : TypeId} {n : Nd} {av kv : Value} (h : w.heap[g]? = some (.cells #[.int .i64 n.kind, .string n.name.1, .string n.name.2, av, kv, .string n.text] t (0, 0))) : At6 w ⟨g, 0, none⟩ (ndC n av kv) :=
  ⟨g, 0, _, t, rfl, h, fun j u hu => by rw [Nat.zero_add]; simpa [ndC] using hu⟩
set_option maxRecDepth 100000 in
set_option maxHeartbeats 4000000 in
theorem changed_anyq (Q : Nd → Prop) (f : Nd → Option Nd) (fid : FuncId) (caps : Array Value) (hE : ∀ args w, (callFunc fid args).run Try.prog w = .ok (.enter fid args) w) (n : Nd) (A K : Option Addr) (ca ck : Nat) (l : List Int) (PA : Option Addr) (cp : Nat) (w : World)
    (hV : NodeV w n A K) (hgn : smallN n) (hQ : ∀ e, atP n l = some e → Q e) (hP : SlI w PA l) (hcp : l.length ≤ cp) (hl : l.length ≤ 1000000) (hC : ClosOKq Q f fid caps w) :
    Calls Try.prog 23 #[ndV n A ca K ck, .func (.func fid) #[] caps, .slice PA l.length cp] w (NdOut (chP f n l) w) := by
  obtain ⟨r, hr⟩ : ∃ r, chP f n l = r := ⟨_, rfl⟩
  rw [hr]
  unfold ndV ndCells
  have hb2 : Below w.heap.size w ((w.alloc (.cells #[.int .i64 n.kind, .string n.name.1, .string n.name.2, .slice A n.attrs.length ca, .slice K n.kids.length ck, .string n.text] 27)).alloc (.cells #[.int .i64 0, .string ⟨#[]⟩, .string ⟨#[]⟩, .slice none 0 0, .slice none 0 0, .string ⟨#[]⟩] 27)) := ((Below.refl _ w).alloc (Nat.le_refl _) _).alloc (by simp) _
  have hn2 : ((w.alloc (.cells #[.int .i64 n.kind, .string n.name.1, .string n.name.2, .slice A n.attrs.length ca, .slice K n.kids.length ck, .string n.text] 27)).alloc (.cells #[.int .i64 0, .string ⟨#[]⟩, .string ⟨#[]⟩, .slice none 0 0, .slice none 0 0, .string ⟨#[]⟩] 27)).heap[w.heap.size]? = _ := (Below.heap_alloc (w.alloc (.cells #[.int .i64 n.kind, .string n.name.1, .string n.name.2, .slice A n.attrs.length ca, .slice K n.kids.length ck, .string n.text] 27)) (.cells #[.int .i64 0, .string ⟨#[]⟩, .string ⟨#[]⟩, .slice none 0 0, .slice none 0 0, .string ⟨#[]⟩] 27) _ (by simp)).trans (heap_alloc_new w (.cells #[.int .i64 n.kind, .string n.name.1, .string n.name.2, .slice A n.attrs.length ca, .slice K n.kids.length ck, .string n.text] 27))
  have hr2 : ((w.alloc (.cells #[.int .i64 n.kind, .string n.name.1, .string n.name.2, .slice A n.attrs.length ca, .slice K n.kids.length ck, .string n.text] 27)).alloc (.cells #[.int .i64 0, .string ⟨#[]⟩, .string ⟨#[]⟩, .slice none 0 0, .slice none 0 0, .string ⟨#[]⟩] 27)).heap[w.heap.size + 1]? = some (.cells #[.int .i64 0, .string ⟨#[]⟩, .string ⟨#[]⟩, .slice none 0 0, .slice none 0 0, .string ⟨#[]⟩] 27 (0, 0)) := by
    have := heap_alloc_new (w.alloc (.cells #[.int .i64 n.kind, .string n.name.1, .string n.name.2, .slice A n.attrs.length ca, .slice K n.kids.length ck, .string n.text] 27)) (.cells #[.int .i64 0, .string ⟨#[]⟩, .string ⟨#[]⟩, .slice none 0 0, .slice none 0 0, .string ⟨#[]⟩] 27)
    simpa using this
  have hs2 : ((w.alloc (.cells #[.int .i64 n.kind, .string n.name.1, .string n.name.2, .slice A n.attrs.length ca, .slice K n.kids.length ck, .string n.text] 27)).alloc (.cells #[.int .i64 0, .string ⟨#[]⟩, .string ⟨#[]⟩, .slice none 0 0, .slice none 0 0, .string ⟨#[]⟩] 27)).heap.size = w.heap.size + 2 := by simp
  have HR := Lib.hid hr
  have HV := Lib.hid (hV.below hb2)
  have HP := Lib.hid hP
  have HC := Lib.hid hC
  have HB := Lib.hid hb2
  have HN := Lib.hid hn2
  have HZ := Lib.hid hr2
  have HS := Lib.hid hs2
  have HG := Lib.hid hgn
  have HQ := Lib.hid hQ
  clear hr hV hP hC hb2 hn2 hr2 hs2 hgn hQ
  go_enter Try.func23, Try.ntmps23
  go_upto_region 1 with fail
  revert HV HB HN HZ HS
  generalize ((w.alloc (.cells #[.int .i64 n.kind, .string n.name.1, .string n.name.2, .slice A n.attrs.length ca, .slice K n.kids.length ck, .string n.text] 27)).alloc (.cells #[.int .i64 0, .string ⟨#[]⟩, .string ⟨#[]⟩, .slice none 0 0, .slice none 0 0, .string ⟨#[]⟩] 27)) = w1
  intro HV HB HN HZ HS
  obtain ⟨n0, n1, n2, n3, n4, n5⟩ := cells_of_nd HN.out
  have hcp1 := copyO_any n A K ca ck w1 HV.out HG.out
  unfold ndV ndCells at hcp1
  go_wp2_with fail
  refine hcp1.mono ?_
  rintro e w2 ⟨hb2, av, kv, rfl, hown⟩
  obtain ⟨A2, ca2, K2, ck2, hav, hkv⟩ : ∃ A2 ca2 K2 ck2, av = .slice A2 n.attrs.length ca2 ∧ kv = .slice K2 n.kids.length ck2 := by
    obtain ⟨av', kv', css9, e9, o1, o2, _⟩ := (ownC_iff _ _ _ _).1 hown
    obtain ⟨A9, c9, ha9⟩ := own_shape o1
    obtain ⟨K9, q9, hk9⟩ := own_shape o2
    simp only [ndC, List.cons.injEq, true_and] at e9
    exact ⟨A9, c9, K9, q9, e9.1.trans ha9, e9.2.1.trans hk9⟩
  subst hav hkv
  have HN2 := Lib.hid (still_block HN.out hb2)
  have HZ2 := Lib.hid (still_block HZ.out hb2)
  have HB2 := Lib.hid (HB.out.trans (hb2.mono HB.out.size))
  have HO2 := Lib.hid hown
  have f0 := blk_free HN2.out 0
  have f1 := blk_free HN2.out 1
  have f2 := blk_free HN2.out 2
  have f3 := blk_free HN2.out 3
  have f4 := blk_free HN2.out 4
  have f5 := blk_free HN2.out 5
  clear n0 n1 n2 n3 n4 n5 hcp1
  obtain ⟨n0, n1, n2, n3, n4, n5⟩ := cells_of_nd HN2.out
  have hs1 := hb2.size
  unfold ndC
  clear hown hb2 HN HZ HB HV
  go_upto_region 2 with fail
  have HN3 : Hid (((((((w2.setCell ⟨w.heap.size, 0, none⟩ (.int .i64 n.kind)).setCell ⟨w.heap.size, 1, none⟩ (.string n.name.1)).setCell ⟨w.heap.size, 2, none⟩ (.string n.name.2)).setCell ⟨w.heap.size, 3, none⟩ (.slice A2 n.attrs.length ca2)).setCell ⟨w.heap.size, 4, none⟩ (.slice K2 n.kids.length ck2)).setCell ⟨w.heap.size, 5, none⟩ (.string n.text)).heap[w.heap.size]? = _) := Lib.hid (six_blk HN2.out _ _ _ _ _ _)
  have hk6 := six_keep w2 w.heap.size (.int .i64 n.kind) (.string n.name.1) (.string n.name.2) (.slice A2 n.attrs.length ca2) (.slice K2 n.kids.length ck2) (.string n.text)
  have HZ3 := Lib.hid ((hk6.block _ (blk_in HZ2.out) (by omega)).trans HZ2.out)
  have HB3 := Lib.hid (six_below HB2.out (Nat.le_refl _) (.int .i64 n.kind) (.string n.name.1) (.string n.name.2) (.slice A2 n.attrs.length ca2) (.slice K2 n.kids.length ck2) (.string n.text))
  have hss := HS.out
  have HO3 := Lib.hid (ownC_keep _ _ _ _ (fun b p q => hk6.block b q (by omega)) HO2.out)
  have hsz3 := hk6.size
  clear hk6 f0 f1 f2 f3 f4 f5 n0 n1 n2 n3 n4 n5 HZ2 HB2 HO2 HN2
  revert HN3 HZ3 HB3 HO3 hsz3
  generalize ((((((w2.setCell ⟨w.heap.size, 0, none⟩ (.int .i64 n.kind)).setCell ⟨w.heap.size, 1, none⟩ (.string n.name.1)).setCell ⟨w.heap.size, 2, none⟩ (.string n.name.2)).setCell ⟨w.heap.size, 3, none⟩ (.slice A2 n.attrs.length ca2)).setCell ⟨w.heap.size, 4, none⟩ (.slice K2 n.kids.length ck2)).setCell ⟨w.heap.size, 5, none⟩ (.string n.text)) = w3
  intro HN3 HZ3 HB3 HO3 hsz3
  have hpb : l ≠ [] → ∀ ad, PA = some ad → ad.block < w.heap.size := fun hl ad e => by
    obtain ⟨a, ea, eb, _⟩ := HP.out.2 (List.length_pos_iff.2 hl)
    rw [ea] at e; injection e with e; rw [← e]; exact eb
  have hand := hand_any Q f fid caps hE l n _ w1.heap.size w2.heap.size ⟨w.heap.size, 0, none⟩ PA cp w3 (At6.blk HN3.out) HO3.out hsz3 (fun h => by have := h.1; simp at this; omega) HQ.out (HP.out.below HB3.out)
    (fun hl ad e => ⟨fun h => by have := hpb hl ad e; omega, fun h => by have := hpb hl ad e; simp at h; omega⟩) hcp hl (HC.out.later HB3.out)
  rw [HR.out] at hand
  clear hpb
  go_wp2_with fail
  refine hand.mono ?_
  rintro e w4 ho
  have HB4 : Hid (Below w.heap.size w w4) := Lib.hid (HB3.out.trans (ho.1.below (by omega) (Nat.le_refl _) HB3.out.size))
  have HZ4 := Lib.hid ((ho.1.block _ (blk_in HZ3.out) (fun h => by omega) (by simp)).trans HZ3.out)
  have he := ho.ret
  subst he
  have HSZ3 := Lib.hid (show w.heap.size + 2 ≤ w3.heap.size by omega)
  clear hand HN3 HZ3 HB3 HO3 hsz3
  rcases r with _ | m
  · have z0 := blk_free HZ4.out 0
    have z1 := blk_free HZ4.out 1
    have z2 := blk_free HZ4.out 2
    have z3 := blk_free HZ4.out 3
    have z4 := blk_free HZ4.out 4
    have z5 := blk_free HZ4.out 5
    obtain ⟨y0, y1, y2, y3, y4, y5⟩ := cells_of_nd HZ4.out
    go_wp2
    refine bodyPost_ret (results_cell2 rfl _ _ (w.heap.size + 1) _ _ _ rfl (six_blk HZ4.out _ _ _ _ _ _) Try.underlying27 rfl node_info2) rfl ?_
    exact ⟨six_below HB4.out (by omega) _ _ _ _ _ _, rfl⟩
  · obtain ⟨ht, _, cs, hcs, hn⟩ := ho
    obtain ⟨A5, ca5, K5, ck5, rfl, hV5⟩ := (nodeC_V _ _ _).1 hn.here
    have n0 := hcs 0 _ rfl
    have n1 := hcs 1 _ rfl
    have n2 := hcs 2 _ rfl
    have n3 := hcs 3 _ rfl
    have n4 := hcs 4 _ rfl
    have n5 := hcs 5 _ rfl
    simp only [Nat.add_zero, Nat.zero_add] at n0 n1 n2 n3 n4 n5
    have z0 := blk_free HZ4.out 0
    have z1 := blk_free HZ4.out 1
    have z2 := blk_free HZ4.out 2
    have z3 := blk_free HZ4.out 3
    have z4 := blk_free HZ4.out 4
    have z5 := blk_free HZ4.out 5
    obtain ⟨y0, y1, y2, y3, y4, y5⟩ := cells_of_nd HZ4.out
    have HNN := Lib.hid hn
    have hq3 := HSZ3.out
    clear ht hcs hn hV5
    go_wp2
    refine bodyPost_ret (results_cell2 rfl _ _ (w.heap.size + 1) _ _ _ rfl (six_blk HZ4.out _ _ _ _ _ _) Try.underlying27 rfl node_info2) rfl ?_
    refine ⟨six_below HB4.out (by omega) _ _ _ _ _ _, A5, ca5, K5, ck5, rfl, ?_⟩
    have hk := six_keep w4 (w.heap.size + 1) (.int .i64 m.kind) (.string m.name.1) (.string m.name.2) (.slice A5 m.attrs.length ca5) (.slice K5 m.kids.length ck5) (.string m.text)
    refine SafeM.mono (M := MustI w1.heap.size w2.heap.size w3.heap.size) (SafeM.later (w := w4) (fun w2 k1 k2 => ?_) (fun b p q => hk.block b q (by rcases p with p | p <;> omega)) hk.size) (fun b p => by rcases p with p | p <;> omega)
    obtain ⟨A6, ca6, K6, ck6, e6, hV6⟩ := (nodeC_V _ _ _).1 (HNN.out w2 k1 k2)
    simp only [ndCells, List.cons.injEq, Value.slice.injEq, true_and, and_true] at e6
    obtain ⟨⟨rfl, _⟩, ⟨rfl, _⟩⟩ := e6
    exact hV6
theorem changed_any (f : Nd → Option Nd) (fid : FuncId) (caps : Array Value) (hE : ∀ args w, (callFunc fid args).run Try.prog w = .ok (.enter fid args) w) (n : Nd) (A K : Option Addr) (ca ck : Nat) (l : List Int) (PA : Option Addr) (cp : Nat) (w : World)
    (hV : NodeV w n A K) (hgn : GN n) (hP : SlI w PA l) (hcp : l.length ≤ cp) (hl : l.length ≤ 1000000) (hC : ClosOK f fid caps w) :
    Calls Try.prog 23 #[ndV n A ca K ck, .func (.func fid) #[] caps, .slice PA l.length cp] w (NdOut (chP f n l) w) :=
  changed_anyq GN f fid caps hE n A K ca ck l PA cp w hV hgn.1 (fun _ he => hgn.at_ he) hP hcp hl hC
end Go.Proofs.Ytlcjepnaljfpkaa
