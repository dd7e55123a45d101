/- LdD. -/
import Derived.Test.YtlcjepnaljfpkaaGreatDoorQl28
namespace Go.Proofs.YtlcjepnaljfpkaaGreatDoor
open Go.RowKit Wb
def tv (p : Nat × Tk) : TokV := ⟨p.2.1, p.1, ⟨p.2.2.1.toArray⟩, prs p.2.2.2.1, ⟨p.2.2.2.2.toArray⟩⟩
def TksOut (r : Er (List (Nat × Tk))) (e : Ending) (w' : World) : Prop :=
  match r with
  | .ok ts => ∃ A c, e = .returned (.tuple #[.slice A ts.length c, .int .i64 0, .int .i64 0]) ∧ TokS w' A (ts.map tv)
  | .error (p, c) => e = .returned (.tuple #[.slice none 0 0, .int .i64 p, .int .i64 c])
theorem tok_info : (Tryz.prog.info? 52).map (fun i => (i.zero, i.size, i.bytes)) = some (some (.agg (tokZ 0 0 ⟨#[]⟩ ⟨#[]⟩)), 5, 72) := by kernel_rfl
def joinE (acc : List (Nat × Tk)) (m : Er (List (Nat × Tk))) : Er (List (Nat × Tk)) :=
  match m with
  | .error e => .error e
  | .ok ts => .ok (acc ++ ts)
theorem declX_le {L : List UInt8} {a : Nat} (h : declX L = .ok a) : a ≤ L.length := by
  unfold declX at h
  simp only at h
  split at h
  · split at h
    · simp only [Except.ok.injEq] at h; omega
    · cases h
  · simp only [Except.ok.injEq] at h; omega
structure TksW (w : World) (D : Nat) (s : ByteArray) (at_ : Nat) (acc : List (Nat × Tk)) (ads : List (Option Addr × Nat)) (v : Value) (wr : World) : Prop where
  below : Below w.heap.size w wr
  hD : w.heap.size + 2 < D
  doc : ∃ fr, DocW wr D s fr at_
  r0 : wr.heap[w.heap.size]? = some (.cells #[v] 47 (0, 0))
  r1 : wr.heap[w.heap.size + 1]? = some (.cells #[.int .i64 0] 3 (0, 0))
  r2 : wr.heap[w.heap.size + 1 + 1]? = some (.cells #[.int .i64 0] 26 (0, 0))
  own : wr.ownsRow (D + 1) 52 5 v acc.length (cells5 (acc.map tv) ads)
  len : ads.length = acc.length
  each : ∀ (j : Nat) (t : TokV) (a : Option Addr × Nat), (acc.map tv)[j]? = some t → ads[j]? = some a → Sl2 wr a.1 t.attrs ∧ (t.attrs ≠ [] → ∀ ad, a.1 = some ad → D + 1 ≤ ad.block ∧ v.ownBlock ≠ some ad.block)
theorem Sl.to {w w' : World} {k n : Nat} {A : Option Addr} {cs : List Value} (h : Sl w k A n cs) (hs : w.heap.size ≤ w'.heap.size) (hb : 0 < n → ∀ ad, A = some ad → ad.block < w.heap.size → w'.heap[ad.block]? = w.heap[ad.block]?) : Sl w' k A n cs := by
  refine ⟨h.1, fun h0 => ?_⟩
  obtain ⟨ad, e, hl, hc⟩ := h.2 h0
  refine ⟨ad, e, Nat.lt_of_lt_of_le hl hs, fun i v' hv => ?_⟩
  rw [← hc i v' hv]
  have hb2 : (ad.add i).block = ad.block := by unfold Addr.add; split <;> rfl
  exact World.cell?_of_block (w := w) (by rw [hb2]; exact hb h0 ad e hl)
theorem TksW.keeps {w : World} {D : Nat} {s : ByteArray} {at_ : Nat} {acc : List (Nat × Tk)} {ads : List (Option Addr × Nat)} {v : Value} {wr wr' : World} (h : TksW w D s at_ acc ads v wr) {a : Nat} (hk : Keeps D wr wr') (hd : ∃ fr, DocW wr' D s fr a) : TksW w D s a acc ads v wr' := by
  obtain ⟨fr, hdoc⟩ := h.doc
  have hDl := hdoc.lt
  have hDD := h.hD
  have old : ∀ g, g < wr.heap.size → g ≠ D → wr'.heap[g]? = wr.heap[g]? := fun g h1 h2 => hk.block g h1 h2
  refine ⟨h.below.trans ((hk.below hDl).mono (by omega)), h.hD, hd, (old _ (blk_lt h.r0) (by omega)).trans h.r0, (old _ (blk_lt h.r1) (by omega)).trans h.r1, (old _ (blk_lt h.r2) (by omega)).trans h.r2, own_keeps h.own hk (by omega), h.len, fun j t b hj hb => ?_⟩
  obtain ⟨h1, h2⟩ := h.each j t b hj hb
  refine ⟨Sl.to h1 hk.size (fun h0 ad ha hl => old _ hl ?_), h2⟩
  have := (h2 (fun e => by rw [e] at h0; simp at h0) ad ha).1
  omega
theorem TksW.alloc {w : World} {D : Nat} {s : ByteArray} {at_ : Nat} {acc : List (Nat × Tk)} {ads : List (Option Addr × Nat)} {v : Value} {wr : World} (h : TksW w D s at_ acc ads v wr) (o : Obj) : TksW w D s at_ acc ads v (wr.alloc o) :=
  h.keeps ((Keeps.refl D wr).alloc o) (h.doc.elim fun fr hd => ⟨fr, hd.alloc o⟩)
theorem own_lt {w : World} {base sz n g : Nat} {e : TypeId} {v : Value} {xs : List Value} (h : w.ownsRow base e sz v n xs) (hv : v.ownBlock = some g) : base ≤ g ∧ g < w.heap.size := by
  rcases h.2 with ⟨rfl, _⟩ | ⟨q, cap, cur, rfl, hbq, hq, _⟩
  · simp [Value.ownBlock] at hv
  · simp [Value.ownBlock] at hv
    subst hv
    exact ⟨hbq, blk_lt hq⟩
theorem TksW.app {w : World} {D : Nat} {s : ByteArray} {at_ : Nat} {acc : List (Nat × Tk)} {ads : List (Option Addr × Nat)} {v : Value} {wb w4 : World} (h : TksW w D s at_ acc ads v wb) (p : Nat × Tk) (A : Option Addr) (cp : Nat) {v4 : Value} {xs : List Value}
    (hS : Sl2 wb A (prs p.2.2.2.1)) (hF : prs p.2.2.2.1 ≠ [] → ∀ ad, A = some ad → D + 1 ≤ ad.block ∧ v.ownBlock ≠ some ad.block) (hx : xs = tokC (tv p) (A, cp))
    (h4 : w4.ownsRow (D + 1) 52 5 v4 (acc.length + 1) (cells5 (acc.map tv) ads ++ xs)) (hg : wb.grownBy w4 v.ownBlock) (hat4 : v4.ownBlock = v.ownBlock ∨ v4.ownBlock = some wb.heap.size) :
    TksW w D s at_ (acc ++ [p]) (ads ++ [(A, cp)]) v4 (w4.setCell ⟨w.heap.size, 0, none⟩ v4) := by
  obtain ⟨fr, hdoc⟩ := h.doc
  have hDl := hdoc.lt
  have hDD := h.hD
  have hvb : ∀ g, v.ownBlock = some g → D + 1 ≤ g := fun g hv => (own_lt h.own hv).1
  have old : ∀ g, g < wb.heap.size → v.ownBlock ≠ some g → w4.heap[g]? = wb.heap[g]? := fun g h1 h2 => hg.block g h1 (fun e => h2 e.symm)
  have low : ∀ g, g ≤ D → w4.heap[g]? = wb.heap[g]? := fun g hgD => old g (by omega) (fun e => by have := hvb g e; omega)
  have setO : ∀ g, g ≠ w.heap.size → (w4.setCell ⟨w.heap.size, 0, none⟩ v4).heap[g]? = w4.heap[g]? := fun g hgn => Below.heap_setCell _ _ _ _ (by simpa using hgn)
  have hsz : wb.heap.size ≤ (w4.setCell ⟨w.heap.size, 0, none⟩ v4).heap.size := by simpa [World.setCell] using hg.size
  have h4R : v4.ownBlock ≠ some w.heap.size := by
    intro e
    rcases hat4 with h1 | h1
    · rw [h1] at e; have := hvb _ e; omega
    · rw [h1] at e
      injection e with e
      omega
  have keepS : ∀ (B : Option Addr) (l : List Pr), Sl2 wb B l → (l ≠ [] → ∀ ad, B = some ad → D + 1 ≤ ad.block ∧ v.ownBlock ≠ some ad.block) → Sl2 (w4.setCell ⟨w.heap.size, 0, none⟩ v4) B l ∧ (l ≠ [] → ∀ ad, B = some ad → D + 1 ≤ ad.block ∧ v4.ownBlock ≠ some ad.block) := by
    intro B l h1 h2
    refine ⟨Sl.to h1 hsz (fun h0 ad ha hl => ?_), fun hn ad ha => ?_⟩
    · have h3 := h2 (fun e => by rw [e] at h0; simp at h0) ad ha
      rw [setO _ (by omega)]
      exact old _ hl h3.2
    · have h3 := h2 hn ad ha
      refine ⟨h3.1, fun e => ?_⟩
      rcases hat4 with h5 | h5
      · exact h3.2 (h5.symm.trans e)
      · rw [h5] at e
        injection e with e
        obtain ⟨ad', e', hl, _⟩ := h1.2 (List.length_pos_iff.2 hn)
        rw [ha] at e'
        injection e' with e'
        subst e'
        omega
  have hb4 : Below w.heap.size w w4 := h.below.grown hg h.below.size (fun g hv => by have := hvb g hv; omega)
  refine ⟨hb4.setCell (Nat.le_refl _) _, h.hD, ⟨fr, (setO D (by omega)).trans ((low D (Nat.le_refl _)).trans hdoc)⟩, ?_, ?_, ?_, ?_, by simp [h.len], fun j t b hj hb => ?_⟩
  · exact blk_set ((low _ (by omega)).trans h.r0) 0 _
  · exact (setO _ (by omega)).trans ((low _ (by omega)).trans h.r1)
  · exact (setO _ (by omega)).trans ((low _ (by omega)).trans h.r2)
  · have := own_set h4 h4R 0 v4
    rw [List.length_append, List.map_append, cells5_app _ _ _ _ (by rw [List.length_map]; exact h.len)]
    subst hx
    have e : cells5 (List.map tv [p]) [(A, cp)] = tokC (tv p) (A, cp) := by simp [cells5]
    rw [e]
    exact this
  · have hl := h.len
    by_cases hj0 : j < acc.length
    · rw [List.map_append, List.getElem?_append_left (by rw [List.length_map]; exact hj0)] at hj
      rw [List.getElem?_append_left (by omega)] at hb
      obtain ⟨h1, h2⟩ := h.each j t b hj hb
      exact keepS _ _ h1 h2
    · rw [List.map_append, List.getElem?_append_right (by rw [List.length_map]; omega)] at hj
      rw [List.getElem?_append_right (by omega)] at hb
      rw [List.length_map] at hj
      rw [hl] at hb
      by_cases hj1 : j - acc.length = 0
      · rw [hj1] at hj hb
        simp only [List.map_cons, List.map_nil, List.getElem?_cons_zero, Option.some.injEq] at hj hb
        subst hj hb
        exact keepS _ _ hS hF
      · rw [List.getElem?_eq_none (by simp; omega)] at hb
        cases hb
theorem TksW.low {w : World} {D : Nat} {s : ByteArray} {at_ : Nat} {acc : List (Nat × Tk)} {ads : List (Option Addr × Nat)} {v : Value} {wb w4 : World} (h : TksW w D s at_ acc ads v wb) (hg : wb.grownBy w4 v.ownBlock) :
    w4.heap[w.heap.size]? = some (.cells #[v] 47 (0, 0)) :=
  (hg.block _ (blk_lt h.r0) (fun e => by have := (own_lt h.own e.symm).1; have := h.hD; omega)).trans h.r0
set_option maxRecDepth 100000 in
set_option maxHeartbeats 4000000 in
theorem Tokens_any (s : ByteArray) (w : World) (hG : Gv w) (hs : s.size ≤ 900000) :
    Calls Tryz.prog 19 #[.string s] w fun e w' => TksOut (tokensU s.data.toList) e w' ∧ Below w.heap.size w w' := by
  have hmf : ∀ (fn : Fn) (first cap : Array Value) (w : World), (Instr.makeFunc fn first cap).run Tryz.prog w = .ok (.func fn first cap) w := fun _ _ _ _ => rfl
  obtain ⟨g0, g1, g2, gs⟩ := heap3 w (.cells #[.slice none 0 0] 47) (.cells #[.int .i64 0] 3) (.cells #[.int .i64 0] 26)
  have hG3 : Gv (((w.alloc (.cells #[.slice none 0 0] 47)).alloc (.cells #[.int .i64 0] 3)).alloc (.cells #[.int .i64 0] 26)) := ((hG.alloc _).alloc _).alloc _
  have hB3 : Below w.heap.size w (((w.alloc (.cells #[.slice none 0 0] 47)).alloc (.cells #[.int .i64 0] 3)).alloc (.cells #[.int .i64 0] 26)) :=
    (((Below.refl _ w).alloc (Nat.le_refl _) _).alloc (by simp) _).alloc (by simp; omega) _
  have hck := dcheck_any s (((w.alloc (.cells #[.slice none 0 0] 47)).alloc (.cells #[.int .i64 0] 3)).alloc (.cells #[.int .i64 0] 26)) (by omega)
  obtain ⟨r, hr⟩ : ∃ r, tokensU s.data.toList = r := ⟨_, rfl⟩
  rw [hr]
  unfold tokensU at hr
  cases hc : checkU s.data.toList with
  | error pe =>
    obtain ⟨p, c⟩ := pe
    rw [hc] at hr hck
    simp only at hr
    have HR := Lib.hid hr
    have G0 := Lib.hid (And.intro g0 (And.intro g1 (And.intro g2 gs)))
    clear hr hc g0 g1 g2 gs
    go_enter_defers Tryz.func19, Tryz.ntmps19
    go_wp2_with fail
    refine hck.mono ?_
    rintro e w1 ⟨h1, hb1⟩
    obtain rfl := h1
    obtain ⟨g0, g1, g2, gs⟩ := G0.out
    have h0 := (hb1.block _ (by omega)).trans g0
    have h1 := (hb1.block _ (by omega)).trans g1
    have h2 := (hb1.block _ (by omega)).trans g2
    have hB := hB3.trans (hb1.mono (by omega))
    refine leaves_cons (f := 37) (args := #[.pointer (some ⟨w.heap.size, 0, none⟩), .pointer (some ⟨w.heap.size + 1, 0, none⟩), .pointer (some ⟨w.heap.size + 1 + 1, 0, none⟩)]) (by simp) (by simp [go_sem]) ?_
    refine (tcatch_up _ _ _ _ _ _ _ _ _ p c [] w1 h0 h1 h2 (by omega) (by omega) (by omega)).mono ?_
    rintro e u' w2 ⟨rfl, rfl, rfl⟩
    refine ⟨_, results3 Tryz.results19 _ _ w.heap.size (w.heap.size + 1) (w.heap.size + 1 + 1) 47 3 26 (.slice none 0 0) (.int .i64 p) (.int .i64 c) rfl rfl rfl ?_ ?_ ?_ Tryz.isAgg47 Tryz.isAgg3 Tryz.isAgg26, ?_⟩
    · exact set_other (set_other (blk_set h0 0 _) (by omega) _) (by omega) _
    · exact set_other (blk_set (set_other h1 (by omega) _) 0 _) (by omega) _
    · exact blk_set (set_other (set_other h2 (by omega) _) (by omega) _) 0 _
    · exact ⟨by rw [← HR.out]; exact rfl, (((hB.setCell (Nat.le_refl _) _).setCell (by simp) _).setCell (by simp; omega) _).drew⟩
  | ok u =>
    rw [hc] at hr hck
    simp only at hr
    have HR := Lib.hid hr
    have G0 := Lib.hid (And.intro g0 (And.intro g1 (And.intro g2 gs)))
    clear hr hc g0 g1 g2 gs
    go_enter_defers Tryz.func19, Tryz.ntmps19
    go_wp2_with fail
    refine hck.mono ?_
    rintro e w1 ⟨h1, hb1⟩
    obtain rfl := h1
    obtain ⟨g0, g1, g2, gs⟩ := G0.out
    have h0 := Lib.hid ((hb1.block _ (by omega)).trans g0)
    have h1 := Lib.hid ((hb1.block _ (by omega)).trans g1)
    have h2 := Lib.hid ((hb1.block _ (by omega)).trans g2)
    have hB := Lib.hid (hB3.trans (hb1.mono (by omega)))
    have hG1 := hG3.next hb1
    have hsz : w.heap.size + 3 ≤ w1.heap.size := by have := hb1.size; omega
    clear g0 g1 g2 gs G0 hb1 hck hG3 hB3
    obtain ⟨D, hD⟩ : ∃ D, D = w1.heap.size := ⟨_, rfl⟩
    have hdoc : DocW (w1.alloc (.cells #[.string s, .int .i64 0, .int .i64 0] 81)) D s ((0 : Nat)) ((0 : Nat)) := by rw [hD]; exact first_block _ _
    have hdc := declaration_any D s (w1.alloc (.cells #[.string s, .int .i64 0, .int .i64 0] 81)) hdoc (hG1.alloc _) hs
    have hBd := Lib.hid ((hB.out.alloc (by omega) (.cells #[.string s, .int .i64 0, .int .i64 0] 81)))
    have hDl : Hid (D < (w1.alloc (.cells #[.string s, .int .i64 0, .int .i64 0] 81)).heap.size) := Lib.hid hdoc.lt
    replace h0 := Lib.hid ((Below.heap_alloc w1 (.cells #[.string s, .int .i64 0, .int .i64 0] 81) _ (by omega)).trans h0.out)
    replace h1 := Lib.hid ((Below.heap_alloc w1 (.cells #[.string s, .int .i64 0, .int .i64 0] 81) _ (by omega)).trans h1.out)
    replace h2 := Lib.hid ((Below.heap_alloc w1 (.cells #[.string s, .int .i64 0, .int .i64 0] 81) _ (by omega)).trans h2.out)
    rw [hD] at hdc
    go_wp2_with fail
    refine hdc.mono ?_
    rintro e w2 hu
    rw [← hD] at hu
    have hw2 : w.heap.size + 2 < D := by omega
    rcases unit_two hu with ⟨q, c, hm, rfl, hk⟩ | ⟨a, hm, rfl, hd, hk⟩
    · have k0 := (hk.block _ (by have := hDl.out; omega) (by omega)).trans h0.out
      have k1 := (hk.block _ (by have := hDl.out; omega) (by omega)).trans h1.out
      have k2 := (hk.block _ (by have := hDl.out; omega) (by omega)).trans h2.out
      have hB2 := hBd.out.trans ((hk.below hDl.out).mono (by omega))
      have hr : r = .error (q, c) := by rw [← HR.out, hm]
      refine leaves_cons (f := 37) (args := #[.pointer (some ⟨w.heap.size, 0, none⟩), .pointer (some ⟨w.heap.size + 1, 0, none⟩), .pointer (some ⟨w.heap.size + 1 + 1, 0, none⟩)]) (by simp) (by simp [go_sem]) ?_
      refine (tcatch_up _ _ _ _ _ _ _ _ _ q c [] w2 k0 k1 k2 (by omega) (by omega) (by omega)).mono ?_
      rintro e u' wz ⟨rfl, rfl, rfl⟩
      refine ⟨_, results3 Tryz.results19 _ _ w.heap.size (w.heap.size + 1) (w.heap.size + 1 + 1) 47 3 26 (.slice none 0 0) (.int .i64 q) (.int .i64 c) rfl rfl rfl ?_ ?_ ?_ Tryz.isAgg47 Tryz.isAgg3 Tryz.isAgg26, ?_⟩
      · exact set_other (set_other (blk_set k0 0 _) (by omega) _) (by omega) _
      · exact set_other (blk_set (set_other k1 (by omega) _) 0 _) (by omega) _
      · exact blk_set (set_other (set_other k2 (by omega) _) (by omega) _) 0 _
      · exact ⟨by rw [hr]; exact rfl, (((hB2.setCell (Nat.le_refl _) _).setCell (by simp) _).setCell (by simp; omega) _).drew⟩
    · have k0 := Lib.hid ((hk.block _ (by have := hDl.out; omega) (by omega)).trans h0.out)
      have k1 := Lib.hid ((hk.block _ (by have := hDl.out; omega) (by omega)).trans h1.out)
      have k2 := Lib.hid ((hk.block _ (by have := hDl.out; omega) (by omega)).trans h2.out)
      have hB2 := Lib.hid (hBd.out.trans ((hk.below hDl.out).mono (by omega)))
      have hr : tokLU s.data.toList (s.data.toList.length + 1) a = r := by rw [← HR.out, hm]
      have ha := declX_le hm
      rw [← Lib.size_eq] at hr ha
      have HTK : Hid (TksW w D s a [] [] (.slice none 0 0) w2) := Lib.hid ⟨hB2.out, by omega, ⟨0, hd⟩, k0.out, k1.out, k2.out, World.ownsRow_nil _ _ _ _, rfl, fun j t a h => (by simp at h)⟩
      have HJ : Hid (joinE [] (tokLU s.data.toList (s.size + 1) a) = r) := Lib.hid (by rw [hr]; cases r <;> rfl)
      have HG := Lib.hid hG
      clear HR h0 h1 h2 hB hG1 hsz hdoc hdc hBd hDl k0 k1 k2 hB2 hr hd hk hm hu
      rw [← hD]
      clear hD
      go_wp2
      go_loopg [] (s.size + 1) (fun g wx => ∃ (at_ : Nat) (acc : List (Nat × Tk)) (ads : List (Option Addr × Nat)) (v : Value), Hid (TksW w D s at_ acc ads v wx) ∧ at_ ≤ s.size ∧ s.size < at_ + g ∧ acc.length ≤ at_ ∧ Hid (joinE acc (tokLU s.data.toList g at_) = r))
      case atStart => exact ⟨a, [], [], _, HTK, ha, by omega, Nat.zero_le _, HJ⟩
      case round =>
        obtain ⟨at_, acc, ads, v, HT, hat, hfl, hal, HJ⟩ := hrel
        obtain ⟨fr0, hdoc⟩ := HT.out.doc
        have c1 := hdoc.c1
        have c2 := hdoc.c2
        have f1 := hdoc.f 1
        by_cases hlt : at_ < s.size
        · have glt : (at_ : Int) < (s.size : Int) := by omega
          obtain ⟨g, rfl⟩ : ∃ g, gk = g + 1 := ⟨gk - 1, by omega⟩
          have HTF := Lib.hid (HT.out.keeps ((Keeps.refl D wr).setCell 1 (.int .i64 at_)) ⟨_, hdoc.set1 at_⟩)
          have hGf : Gv (wr.setCell ⟨D, 1, none⟩ (.int .i64 at_)) := HG.out.next HTF.out.below
          have htk := token_any D s at_ (wr.setCell ⟨D, 1, none⟩ (.int .i64 at_)) (hdoc.set1 at_) hGf (by have := HG.out.sz; omega) hlt (by omega)
          have HDF := Lib.hid (hdoc.set1 at_)
          clear HT hdoc hGf
          go_wp2_with fail
          refine htk.mono ?_
          rintro e wt ⟨hk, he⟩
          have hstep : joinE acc (match tokenU s.data.toList at_ with | .error e => .error e | .ok (t, a) => match tokLU s.data.toList g a with | .error e => .error e | .ok ts => .ok (consT at_ t ts)) = r := by
            have h := HJ.out
            rw [show tokLU s.data.toList (g + 1) at_ = if s.data.toList.length ≤ at_ then .ok [] else match tokenU s.data.toList at_ with | .error e => .error e | .ok (t, a) => match tokLU s.data.toList g a with | .error e => .error e | .ok ts => .ok (consT at_ t ts) from rfl, if_neg (by rw [← Lib.size_eq]; omega)] at h
            exact h
          cases hm : tokenU s.data.toList at_ with
          | error pe =>
            obtain ⟨q, c⟩ := pe
            rw [hm] at he hstep
            obtain rfl := he
            have hr : r = .error (q, c) := hstep.symm
            have hDw := HDF.out.lt
            have k0 := (hk.block _ (blk_lt HTF.out.r0) (by omega)).trans HTF.out.r0
            have k1 := (hk.block _ (blk_lt HTF.out.r1) (by omega)).trans HTF.out.r1
            have k2 := (hk.block _ (blk_lt HTF.out.r2) (by omega)).trans HTF.out.r2
            have hB2 := HTF.out.below.trans ((hk.below hDw).mono (by omega))
            refine leaves_cons (f := 37) (args := #[.pointer (some ⟨w.heap.size, 0, none⟩), .pointer (some ⟨w.heap.size + 1, 0, none⟩), .pointer (some ⟨w.heap.size + 1 + 1, 0, none⟩)]) (by simp) (by simp [go_sem]) ?_
            refine (tcatch_up _ _ _ _ _ _ _ _ _ q c [] wt k0 k1 k2 (by omega) (by omega) (by omega)).mono ?_
            rintro e u' wz ⟨rfl, rfl, rfl⟩
            refine ⟨_, results3 Tryz.results19 _ _ w.heap.size (w.heap.size + 1) (w.heap.size + 1 + 1) 47 3 26 (.slice none 0 0) (.int .i64 q) (.int .i64 c) rfl rfl rfl ?_ ?_ ?_ Tryz.isAgg47 Tryz.isAgg3 Tryz.isAgg26, ?_⟩
            · exact set_other (set_other (blk_set k0 0 _) (by omega) _) (by omega) _
            · exact set_other (blk_set (set_other k1 (by omega) _) 0 _) (by omega) _
            · exact blk_set (set_other (set_other k2 (by omega) _) (by omega) _) 0 _
            · exact ⟨by rw [hr]; exact rfl, (((hB2.setCell (Nat.le_refl _) _).setCell (by simp) _).setCell (by simp; omega) _).drew⟩
          | ok ta =>
            obtain ⟨t, a⟩ := ta
            have hge := tokenU_ge (by rw [← Lib.size_eq]; exact hlt) hm
            rw [← Lib.size_eq] at hge
            rw [hm] at he hstep
            simp only at hstep
            cases t with
            | none =>
              obtain ⟨rfl, hd⟩ := he
              have HT2 := Lib.hid ((HTF.out.keeps hk ⟨_, hd⟩).alloc (.cells (tokZ 0 0 ⟨#[]⟩ ⟨#[]⟩) 52))
              have HJ2 : Hid (joinE acc (tokLU s.data.toList g a) = r) := Lib.hid (by
                rw [← hstep]
                cases tokLU s.data.toList g a <;> rfl)
              clear hstep hm HJ HTF htk hk hd HDF
              unfold tokZ
              go_wp2
              go_roundg g
              case measure => omega
              case rel => exact ⟨a, acc, ads, v, HT2, hge.2, by omega, by omega, HJ2⟩
            | some tk =>
              obtain ⟨k, n, l, x⟩ := tk
              obtain ⟨⟨A, cp, rfl, hS, hF, hl⟩, hd⟩ := he
              obtain ⟨n', hn'⟩ : ∃ b : ByteArray, (⟨n.toArray⟩ : ByteArray) = b := ⟨_, rfl⟩
              obtain ⟨x', hx'⟩ : ∃ b : ByteArray, (⟨x.toArray⟩ : ByteArray) = b := ⟨_, rfl⟩
              rw [hn', hx']
              have HJ2 : Hid (joinE (acc ++ [(at_, (k, n, l, x))]) (tokLU s.data.toList g a) = r) := Lib.hid (by
                rw [← hstep]
                cases tokLU s.data.toList g a with
                | error e => rfl
                | ok ts => simp [joinE, consT])
              have HTT := HTF.out.keeps hk ⟨_, hd⟩
              have HWL := Lib.hid (show ∀ g, v.ownBlock = some g → g < wt.heap.size ∧ g < (wr.setCell ⟨D, 1, none⟩ (.int .i64 at_)).heap.size from fun g hg => ⟨(own_lt HTT.own hg).2, (own_lt HTF.out.own hg).2⟩)
              have HDl := Lib.hid (HTT.doc.elim fun _ h => h.lt)
              have HDr := Lib.hid HDF.out.lt
              have hTl : w.heap.size < wt.heap.size := blk_lt HTT.r0
              have HT2 := Lib.hid (HTT.alloc (.cells #[.int .i64 k, .int .i64 at_, .string n', .slice A l.length cp, .string x'] 52))
              obtain ⟨A0, c0, hv0⟩ := own_shape HTT.own
              subst hv0
              have cR := blk_cell HT2.out.r0 0
              have fR := blk_free HT2.out.r0 0
              obtain ⟨q0, q1, q2, q3, q4, f0, f1, f2, f3, f4⟩ := five_cells (first_block wt (.cells #[.int .i64 k, .int .i64 at_, .string n', .slice A l.length cp, .string x'] 52))
              have HS := Lib.hid (And.intro hS hF)
              have HN := Lib.hid (And.intro hn' hx')
              obtain ⟨i0, hi, hz0, hz1, hz2⟩ := info_parts tok_info
              clear hstep hm HJ HTF htk hk hd HDF HTT hS hF hn' hx'
              have cell_one : ∀ u ∈ [Value.int .i64 k, .int .i64 (at_ : Int), .string n', .slice A l.length cp, .string x'], u.oneCell' = true := by
                intro u hu
                simp only [List.mem_cons, List.mem_nil_iff, or_false] at hu
                rcases hu with rfl | rfl | rfl | rfl | rfl <;> rfl
              have hbs : (wt.alloc (.cells #[.int .i64 k, .int .i64 at_, .string n', .slice A l.length cp, .string x'] 52)).heap.size = wt.heap.size + 1 := by simp
              have HLIT := Lib.hid (Sl.lit (wt.alloc (.cells #[.int .i64 k, .int .i64 at_, .string n', .slice A l.length cp, .string x'] 52)) 5 [.int .i64 k, .int .i64 (at_ : Int), .string n', .slice A l.length cp, .string x'] 52 1 rfl)
              rw [hbs] at HLIT
              have HF := Lib.hid (show prs l ≠ [] → ∀ ad, A = some ad → D + 1 ≤ ad.block ∧ (Value.slice A0 acc.length c0).ownBlock ≠ some ad.block from fun _ ad ha => by
                have h1 := HS.out.2 ad ha
                have h2 := HDr.out
                refine ⟨by omega, fun e => ?_⟩
                have := (HWL.out _ e).2
                omega)
              have HS2 := Lib.hid (Sl2.alloc (Sl2.alloc HS.out.1 (.cells #[.int .i64 k, .int .i64 at_, .string n', .slice A l.length cp, .string x'] 52)) (.cells #[.int .i64 k, .int .i64 at_, .string n', .slice A l.length cp, .string x'] 52))
              have HX := Lib.hid (show [Value.int .i64 k, .int .i64 (at_ : Int), .string n', .slice A l.length cp, .string x'] = tokC (tv (at_, (k, n, l, x))) (A, cp) by simp [tokC, tv, prs_len, HN.out.1, HN.out.2])
              have HT3 := Lib.hid (HT2.out.alloc (.cells #[.int .i64 k, .int .i64 at_, .string n', .slice A l.length cp, .string x'] 52))
              clear hbs
              go_wp2_with (at_builtin; refine wpList_append_sl _ rfl (.tmp 27) (.tmp 29) _ rfl (D + 1) 52 i0 _ 5 72 Tryz.underlying47 hi hz0 hz1 hz2 rfl (by omega) _ acc.length (cells5 (acc.map tv) ads) rfl HT3.out.own (some ⟨wt.heap.size + 1, 0, none⟩) 1 1 [.int .i64 k, .int .i64 (at_ : Int), .string n', .slice A l.length cp, .string x'] rfl HLIT.out cell_one (by simp only [maxLen]; omega) (by omega) (by have := HDl.out; simp; omega) ?_; intro v4 w4 hown4 hg4 hat4; obtain ⟨A4, c4, hsh⟩ := own_shape hown4; subst hsh; have HT4 := Lib.hid (HT3.out.app (at_, (k, n, l, x)) A cp HS2.out HF.out HX.out hown4 hg4 hat4); have c34 : w4.cell? ⟨w.heap.size, 0, none⟩ = some (.slice A0 acc.length c0) := blk_cell (HT3.out.low hg4) 0; have f34 : w4.frozen? ⟨w.heap.size, 0, none⟩ = false := blk_free (HT3.out.low hg4) 0; clear hown4 hg4 hat4)
              go_roundg g
              case measure => omega
              case rel => exact ⟨a, acc ++ [(at_, (k, n, l, x))], ads ++ [(A, cp)], _, HT4, hge.2, by omega, by simp; omega, HJ2⟩
        · have glt : ¬ ((at_ : Int) < (s.size : Int)) := by omega
          obtain ⟨g, rfl⟩ : ∃ g, gk = g + 1 := ⟨gk - 1, by omega⟩
          have hr : r = .ok acc := by
            have h := HJ.out
            rw [show tokLU s.data.toList (g + 1) at_ = if s.data.toList.length ≤ at_ then .ok [] else match tokenU s.data.toList at_ with | .error e => .error e | .ok (t, a) => match tokLU s.data.toList g a with | .error e => .error e | .ok ts => .ok (consT at_ t ts) from rfl, if_pos (by rw [← Lib.size_eq]; omega)] at h
            rw [← h]
            simp [joinE]
          have HR := Lib.hid hr
          obtain ⟨A0, k0, hv0⟩ := own_shape HT.out.own
          subst hv0
          have cR0 := blk_cell HT.out.r0 0
          have fR0 := blk_free HT.out.r0 0
          have cR1 := blk_cell HT.out.r1 0
          have fR1 := blk_free HT.out.r1 0
          have cR2 := blk_cell HT.out.r2 0
          have fR2 := blk_free HT.out.r2 0
          clear hdoc hr HJ c1 f1
          go_wp2
          refine leaves_cons (f := 37) (args := #[.pointer (some ⟨w.heap.size, 0, none⟩), .pointer (some ⟨w.heap.size + 1, 0, none⟩), .pointer (some ⟨w.heap.size + 1 + 1, 0, none⟩)]) (by simp) (by simp [go_sem]) ?_
          refine (tcatch_idle _ _ _ _).mono ?_
          rintro e u' wz ⟨rfl, rfl, rfl⟩
          refine ⟨_, results3 Tryz.results19 _ _ w.heap.size (w.heap.size + 1) (w.heap.size + 1 + 1) 47 3 26 (.slice A0 acc.length k0) (.int .i64 0) (.int .i64 0) rfl rfl rfl ?_ ?_ ?_ Tryz.isAgg47 Tryz.isAgg3 Tryz.isAgg26, ?_⟩
          · exact set_other (set_other (blk_set HT.out.r0 0 _) (by omega) _) (by omega) _
          · exact set_other (blk_set (set_other HT.out.r1 (by omega) _) 0 _) (by omega) _
          · exact blk_set (set_other (set_other HT.out.r2 (by omega) _) (by omega) _) 0 _
          · have hfin : ∀ g, D + 1 ≤ g → ((((wr.setCell ⟨w.heap.size, 0, none⟩ (.slice A0 acc.length k0)).setCell ⟨w.heap.size + 1, 0, none⟩ (.int .i64 0)).setCell ⟨w.heap.size + 1 + 1, 0, none⟩ (.int .i64 0)).heap[g]? = wr.heap[g]?) := fun g hg => by
              rw [Below.heap_setCell _ _ _ _ (by simp; omega), Below.heap_setCell _ _ _ _ (by simp; omega), Below.heap_setCell _ _ _ _ (by simp; omega)]
            have hsz : wr.heap.size ≤ (((wr.setCell ⟨w.heap.size, 0, none⟩ (.slice A0 acc.length k0)).setCell ⟨w.heap.size + 1, 0, none⟩ (.int .i64 0)).setCell ⟨w.heap.size + 1 + 1, 0, none⟩ (.int .i64 0)).heap.size := by simp [World.setCell]
            refine ⟨?_, ((HT.out.below.setCell (Nat.le_refl _) _).setCell (by simp) _).setCell (by simp; omega) _⟩
            rw [HR.out]
            refine ⟨A0, k0, rfl, ads, by rw [List.length_map]; exact HT.out.len, ?_, ?_⟩
            · have h1 := HT.out.own
              rw [List.length_map]
              exact Sl.to (Sl.of_own h1) hsz (fun _ ad ha _ => hfin _ (own_fresh h1 ad ha))
            · intro j t a hj hb
              obtain ⟨h1, h2⟩ := HT.out.each j t a hj hb
              exact Sl.to h1 hsz (fun h0 ad ha _ => hfin _ (h2 (fun e => by rw [e] at h0; simp at h0) ad ha).1)
end Go.Proofs.YtlcjepnaljfpkaaGreatDoor
