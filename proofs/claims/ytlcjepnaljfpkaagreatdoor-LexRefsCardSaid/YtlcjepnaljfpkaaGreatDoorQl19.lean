/- LeR. -/
import Derived.Deep.RegionLaw
import Derived.Test.YtlcjepnaljfpkaaGreatDoorQl18
namespace Go.Proofs.YtlcjepnaljfpkaaGreatDoor
open Go.RowKit Wb
end Go.Proofs.YtlcjepnaljfpkaaGreatDoor
namespace Wb
open Go
theorem seq_skip {y : Code} {P : Program} {Q : Exit → Act → World → Prop} {a : Act} {w : World} (h : y.wp P Q a w) : (Code.seq .skip y).wp P Q a w := wp_seq (wp_skip h)
theorem wp_scope_ghost2 {c : Code} {P : Program} {a : Act} {w : World} {Q : Exit → Act → World → Prop} (J : Nat → Nat → Act → World → Prop)
    (pass : ∀ l n a w, J l n a w → ∃ rest, findLabel c l = some (.seq .skip rest) ∧ rest.wp P (jumpsTo (fun l' a' w' => ∃ n', n' < n ∧ J l' n' a' w') Q) a w)
    (first : (∀ l n a w rest, J l n a w → findLabel c l = some (.seq .skip rest) → rest.wp P (jumpsTo (fun l' a' w' => ∃ n', J l' n' a' w') Q) a w) → c.wp P (jumpsTo (fun l a' w' => ∃ n, J l n a' w') Q) a w) : (Code.scope c).wp P Q a w := by
  refine wp_scope_ghost J (first ?_) (fun l n a w hJ => (pass l n a w hJ).elim fun rest h => ⟨_, h.1, Wb.seq_skip h.2⟩)
  intro l n a w rest hJ hf
  obtain ⟨rest', hf', hp⟩ := pass l n a w hJ
  obtain rfl : rest' = rest := by have := Option.some.inj (hf'.symm.trans hf); injection this
  exact jumpsTo_weaken (fun l a w ⟨n', _, h⟩ => ⟨n', h⟩) hp
end Wb
namespace Go.Proofs.YtlcjepnaljfpkaaGreatDoor
open Go.RowKit Wb
abbrev AL := List (List UInt8 × List UInt8)
def prs (l : AL) : List Pr := l.map fun p => (⟨p.1.toArray⟩, ⟨p.2.toArray⟩)
theorem prs_len (l : AL) : (prs l).length = l.length := by simp [prs]
theorem attribute_two (D : Nat) (s : ByteArray) (fr at_ others : Nat) (apart : Bool) (w : World) (h : DocW w D s fr at_) (hG : Gv w) (hD : 11 ≤ D) (hat : at_ ≤ s.size) (hs : s.size ≤ 1000000) (ho : others ≤ 1000000) :
    Calls Tryz.prog 113 #[.pointer (some ⟨D, 0, none⟩), .int .i64 others, .bool apart] w fun e w' =>
      (∃ q c, attributeX s.data.toList fr at_ others apart = .error (q, c) ∧ e = .panicked [flt q c] ∧ Keeps D w w') ∨
      (∃ n v a, attributeX s.data.toList fr at_ others apart = .ok ((n, v), a) ∧ e = .returned (.agg #[.string ⟨n.toArray⟩, .string ⟨v.toArray⟩]) ∧ DocW w' D s fr a ∧ Keeps D w w') := by
  refine (attribute_any D s fr at_ others apart w h hG hD hat hs ho).mono ?_
  rintro e w' ⟨hk, he⟩
  cases hn : attributeX s.data.toList fr at_ others apart with
  | error pe =>
    obtain ⟨q, c⟩ := pe
    rw [hn] at he
    exact .inl ⟨q, c, rfl, he, hk⟩
  | ok nva =>
    obtain ⟨⟨n, v⟩, a⟩ := nva
    rw [hn] at he
    exact .inr ⟨n, v, a, rfl, he.1, he.2, hk⟩
theorem tag_grown {w w4 : World} {T B : Nat} {k fr : Int} {x : ByteArray} {v : Value} {xs : List Value} {n : Nat} {cs : Array Value}
    (hv : w.heap[T]? = some (.cells #[.int .i64 k, .int .i64 fr, .string x, v, .string ⟨#[]⟩] 52 (0, 0))) (hown : w.ownsRow B 54 2 v n xs) (hg : (w.alloc (.cells cs 54)).grownBy w4 v.ownBlock) :
    w4.heap[T]? = some (.cells #[.int .i64 k, .int .i64 fr, .string x, v, .string ⟨#[]⟩] 52 (0, 0)) :=
  (hg.block T (by have := blk_lt hv; simp; omega) (fun e => own_blk_ne hown hv (by decide) e.symm)).trans ((Below.heap_alloc _ _ _ (blk_lt hv)).trans hv)
theorem TagW.app2 {w0 w : World} {D : Nat} {s : ByteArray} {fr at_ T : Nat} {k : Int} {x : ByteArray} {acc : AL} (h : TagW w0 D s fr at_ T k x (prs acc) w) (hD : D < w0.heap.size) (nn vv : List UInt8) (x1 x2 : ByteArray) (h1 : (⟨nn.toArray⟩ : ByteArray) = x1) (h2 : (⟨vv.toArray⟩ : ByteArray) = x2) {v v4 : Value} {w4 : World} {cs : Array Value}
    (hv : w.heap[T]? = some (.cells #[.int .i64 k, .int .i64 fr, .string x, v, .string ⟨#[]⟩] 52 (0, 0))) (hown : w.ownsRow w0.heap.size 54 2 v acc.length (cells2 (prs acc)))
    (h4 : w4.ownsRow w0.heap.size 54 2 v4 (acc.length + 1) (cells2 (prs acc) ++ [.string x1, .string x2])) (hg : (w.alloc (.cells cs 54)).grownBy w4 v.ownBlock) :
    TagW w0 D s fr at_ T k x (prs (acc ++ [(nn, vv)])) (w4.setCell ⟨T, 3, none⟩ v4) := by
  have e : prs (acc ++ [(nn, vv)]) = prs acc ++ [(x1, x2)] := by simp [prs, h1, h2]
  rw [e]
  exact h.app hD (x1, x2) hv (by rw [prs_len]; exact hown) (by rw [prs_len]; exact h4) hg
def TagF (D : Nat) (w0 : World) (T : Nat) (ap : Bool) (a : Act) : Prop := ∃ (u1 u5 u6 u7 u8 u9 u10 u11 u12 u13 u14 u15 u16 u17 u18 u19 u20 u21 u22 u23 u24 u25 u26 u27 u28 u29 u30 u31 u32 u33 u34 u35 u36 u37 u38 u39 u40 u41 : Value), a = { tmps := #[.pointer (some ⟨D, 0, none⟩), u1, .pointer (some ⟨w0.heap.size, 0, none⟩), .pointer (some ⟨T, 0, none⟩), .bool ap, u5, u6, u7, u8, u9, u10, u11, u12, u13, u14, u15, u16, u17, u18, u19, u20, u21, u22, u23, u24, u25, u26, u27, u28, u29, u30, u31, u32, u33, u34, u35, u36, u37, u38, u39, u40, u41], defers := [] }
def TagJ0 (D : Nat) (s : ByteArray) (fr : Nat) (w0 : World) (x : ByteArray) (r : Er ((Int × AL) × Nat)) (n : Nat) (a : Act) (w : World) : Prop :=
  ∃ (T : Nat) (ap : Bool) (at_ f : Nat) (acc : AL), TagF D w0 T ap a ∧ n = 2 * f + 2 ∧ Hid (TagW w0 D s fr at_ T 1 x (prs acc) w) ∧ at_ ≤ s.size ∧ acc.length + f = 67 ∧ acc.length ≤ 65 ∧ Hid (attrsX s.data.toList fr f at_ acc = r)
def TagJ1 (D : Nat) (s : ByteArray) (fr : Nat) (w0 : World) (x : ByteArray) (r : Er ((Int × AL) × Nat)) (n : Nat) (a : Act) (w : World) : Prop :=
  ∃ (T : Nat) (ap : Bool) (at_ : Nat) (acc : AL), TagF D w0 T ap a ∧ n = 1 ∧ Hid (TagW w0 D s fr at_ T 1 x (prs acc) w) ∧ at_ < s.size ∧ acc.length ≤ 65 ∧ Hid ((match takeX s.data.toList fr (at_ + 1) 62 with | .error e => .error e | .ok b => .ok ((3, acc), b) : Er ((Int × AL) × Nat)) = r)
def TagJ2 (D : Nat) (s : ByteArray) (fr : Nat) (w0 : World) (x : ByteArray) (r : Er ((Int × AL) × Nat)) (n : Nat) (a : Act) (w : World) : Prop :=
  ∃ (T : Nat) (ap : Bool) (at_ : Nat) (k : Int) (acc : AL), TagF D w0 T ap a ∧ n = 0 ∧ Hid (TagW w0 D s fr at_ T k x (prs acc) w) ∧ at_ ≤ s.size ∧ acc.length ≤ 65 ∧ Hid ((match takeX s.data.toList fr at_ 62 with | .error e => .error e | .ok b => .ok ((k, acc), b) : Er ((Int × AL) × Nat)) = r)
def TagJ3 (D : Nat) (s : ByteArray) (fr : Nat) (w0 : World) (x : ByteArray) (r : Er ((Int × AL) × Nat)) (n : Nat) (a : Act) (w : World) : Prop :=
  ∃ (T : Nat) (ap : Bool) (at_ f : Nat) (acc : AL), TagF D w0 T ap a ∧ n = 2 * f + 3 ∧ Hid (TagW w0 D s fr at_ T 1 x (prs acc) w) ∧ at_ ≤ s.size ∧ acc.length + f = 66 ∧ acc.length ≤ 65 ∧
      Hid ((match attributeX s.data.toList fr at_ acc.length ap with | .error e => .error e | .ok (a, b) => attrsX s.data.toList fr f b (acc ++ [a]) : Er ((Int × AL) × Nat)) = r)
def TagR (s : ByteArray) (fr : Nat) (x : ByteArray) (r : Er ((Int × AL) × Nat)) : Prop := ∃ y q, namedX s.data.toList fr (fr + 1) = .ok (y, q) ∧ (⟨y.toArray⟩ : ByteArray) = x ∧ attrsX s.data.toList fr 67 q [] = r
def TagJ (D : Nat) (s : ByteArray) (fr : Nat) (w0 : World) (l n : Nat) (a : Act) (w : World) : Prop :=
  ∃ x r, Hid (TagR s fr x r) ∧ ((l = 0 ∧ TagJ0 D s fr w0 x r n a w) ∨ (l = 1 ∧ TagJ1 D s fr w0 x r n a w) ∨ (l = 2 ∧ TagJ2 D s fr w0 x r n a w) ∨ (l = 3 ∧ TagJ3 D s fr w0 x r n a w))
def StartPost (D : Nat) (s : ByteArray) (fr : Nat) (w : World) (e : Ending) (w' : World) : Prop := Keeps D w w' ∧ match startTagX s.data.toList fr with
      | .ok ((k, n, l, _), a) => (∃ A c, e = .returned (.agg #[.int .i64 k, .int .i64 fr, .string ⟨n.toArray⟩, .slice A l.length c, .string ⟨#[]⟩]) ∧ Sl2 w' A (prs l) ∧ (∀ ad, A = some ad → w.heap.size ≤ ad.block) ∧ l.length ≤ 65) ∧ DocW w' D s fr a
      | .error (p, c) => e = .panicked [flt p c]
theorem StartPost.bad {D : Nat} {s : ByteArray} {fr : Nat} {w w' : World} {q c : Nat} (h : namedX s.data.toList fr (fr + 1) = .error (q, c)) (hk : Keeps D w w') : StartPost D s fr w (.panicked [flt q c]) w' := by
  refine ⟨hk, ?_⟩
  have e1 : startTagX s.data.toList fr = .error (q, c) := by unfold startTagX; rw [h]
  rw [e1]
theorem TagR.err {s : ByteArray} {fr : Nat} {x : ByteArray} {r : Er ((Int × AL) × Nat)} (h : TagR s fr x r) {D : Nat} {w w' : World} {p c : Nat} (hr : r = .error (p, c)) (hk : Keeps D w w') : StartPost D s fr w (.panicked [flt p c]) w' := by
  obtain ⟨y, q, h1, h2, h3⟩ := h
  refine ⟨hk, ?_⟩
  have e1 : startTagX s.data.toList fr = .error (p, c) := by unfold startTagX; rw [h1]; simp only [h3, hr]
  rw [e1]
theorem own_fresh {w : World} {base sz n m c : Nat} {e : TypeId} {A : Option Addr} {xs : List Value} (h : w.ownsRow base e sz (.slice A n c) m xs) : ∀ ad, A = some ad → base ≤ ad.block := by
  intro ad ha
  subst ha
  rcases h.2 with ⟨hn, _⟩ | ⟨g, cap, cur, hv, hbg, _⟩
  · cases hn
  · injection hv with h1
    injection h1 with h1
    rw [h1]
    exact hbg
theorem TagR.ok {s : ByteArray} {fr : Nat} {x : ByteArray} {r : Er ((Int × AL) × Nat)} (h : TagR s fr x r) {D : Nat} {w w' : World} {k : Int} {l : AL} {b : Nat} (hr : r = .ok ((k, l), b)) (hk : Keeps D w w') {v : Value} {B : Nat}
    (hB : w.heap.size ≤ B) (hv : w'.ownsRow B 54 2 v l.length (cells2 (prs l))) (hl : l.length ≤ 65) (hd : DocW w' D s fr b) : StartPost D s fr w (.returned (.agg #[.int .i64 k, .int .i64 fr, .string x, v, .string ⟨#[]⟩])) w' := by
  obtain ⟨y, q, h1, rfl, h3⟩ := h
  refine ⟨hk, ?_⟩
  have e1 : startTagX s.data.toList fr = .ok ((k, y, l, []), b) := by unfold startTagX; rw [h1]; simp only [h3, hr]
  rw [e1]
  obtain ⟨A, c, rfl⟩ := own_shape hv
  have hv' : w'.ownsRow B 54 2 (.slice A (prs l).length c) (prs l).length (cells2 (prs l)) := by rw [prs_len]; exact hv
  exact ⟨⟨A, c, rfl, Sl2.of_own hv', fun ad ha => Nat.le_trans hB (own_fresh hv' ad ha), hl⟩, hd⟩
theorem attrsX_step (L : List UInt8) (fr f at_ : Nat) (acc : AL) : attrsX L fr (f + 1) at_ acc = match L.drop (at_ + blankN L at_) with
    | [] => .error (fr, 2)
    | c :: _ =>
      if c = 47 then match takeX L fr (at_ + blankN L at_ + 1) 62 with
        | .error e => .error e
        | .ok b => .ok ((3, acc), b)
      else if c = 62 then .ok ((1, acc), at_ + blankN L at_ + 1)
      else match attributeX L fr (at_ + blankN L at_) acc.length (decide (0 < blankN L at_)) with
        | .error e => .error e
        | .ok (a, b) => attrsX L fr f b (acc ++ [a]) := rfl
theorem takeX_at {L : List UInt8} {fr at_ : Nat} {c : UInt8} {l : List UInt8} (h : L.drop at_ = c :: l) : takeX L fr at_ c = .ok (at_ + 1) := by unfold takeX; rw [h]; simp
theorem attributeX_le {L : List UInt8} {fr at_ o : Nat} {ap : Bool} {n v : List UInt8} {b : Nat} (h : attributeX L fr at_ o ap = .ok ((n, v), b)) : o ≠ 65 := by
  intro e
  subst e
  unfold attributeX at h
  split at h
  · cases h
  · rw [if_pos rfl] at h; cases h
theorem valueX_le {L : List UInt8} {fr at_ : Nat} {v : List UInt8} {b : Nat} (h : valueX L fr at_ = .ok (v, b)) : b ≤ L.length := by
  unfold valueX at h
  split at h
  · cases h
  · rename_i q l hl
    have h1 := drop_cons_len hl
    have h2 : l.length = L.length - (at_ + 1) := by have := congrArg List.length (drop_cons_next hl); simp at this; omega
    split at h
    · split at h
      · cases h
      · rename_i hu
        have := untilR_le hu
        split at h
        · cases h
        · split at h
          · cases h
          · simp only [Except.ok.injEq, Prod.mk.injEq] at h
            omega
    · cases h
theorem attributeX_at {L : List UInt8} {fr at_ o : Nat} {ap : Bool} {n v : List UInt8} {b : Nat} (h : attributeX L fr at_ o ap = .ok ((n, v), b)) : b ≤ L.length := by
  unfold attributeX at h
  split at h
  · cases h
  · split at h
    · cases h
    · split at h
      · cases h
      · split at h
        · cases h
        · split at h
          · cases h
          · rename_i hv
            simp only [Except.ok.injEq, Prod.mk.injEq] at h
            have := valueX_le hv
            omega
set_option maxHeartbeats 800000 in
set_option maxRecDepth 100000 in
theorem startTag_any (D : Nat) (s : ByteArray) (fr : Nat) (w0 : World) (h : DocW w0 D s fr fr) (hG : Gv w0) (hD : 11 ≤ D) (hat : fr + 1 ≤ s.size) (hs : s.size ≤ 1000000) :
    Calls Tryz.prog 74 #[.pointer (some ⟨D, 0, none⟩)] w0 fun e w' => StartPost D s fr w0 e w' := by
  have HN := Lib.hid fun w2 (hw : DocW w2 D s fr fr) => named_two D s ⟨#[60]⟩ fr fr w2 hw hat hs
  have HD := Lib.hid h
  have c1 := h.c1
  have HBK := Lib.hid fun a (ha : a ≤ s.size) w2 (hw : DocW w2 D s fr a) => blanks_any D s fr a w2 hw ha hs
  have HTK := Lib.hid fun a (ha : a ≤ s.size) w2 (hw : DocW w2 D s fr a) => take_any D s fr a 62 w2 hw ha hs
  have HNX := Lib.hid fun a (ha : a ≤ s.size) w2 (hw : DocW w2 D s fr a) => next_k D s fr a w2 hw ha
  have HAT := Lib.hid fun a o ap (ha : a ≤ s.size) (ho : o ≤ 1000000) w2 (hw : DocW w2 D s fr a) (hg : Gv w2) => attribute_two D s fr a o ap w2 hw hg hD ha hs ho
  have hDl := Lib.hid h.lt
  have hD1 : D ≠ w0.heap.size + 1 := by have := h.lt; omega
  clear h
  go_enter Tryz.func74, Tryz.ntmps74
  go_wp2
  refine wp_scope_ghost2 (TagJ D s fr w0) ?_ ?_
  · rintro l n a w ⟨x, r, HX, hJ⟩
    rcases hJ with ⟨rfl, T, ap, at_, f, acc, ⟨u1, u5, u6, u7, u8, u9, u10, u11, u12, u13, u14, u15, u16, u17, u18, u19, u20, u21, u22, u23, u24, u25, u26, u27, u28, u29, u30, u31, u32, u33, u34, u35, u36, u37, u38, u39, u40, u41, rfl⟩, rfl, hT, ha, hf, hf2, hr⟩ | ⟨rfl, T, ap, at_, acc, ⟨u1, u5, u6, u7, u8, u9, u10, u11, u12, u13, u14, u15, u16, u17, u18, u19, u20, u21, u22, u23, u24, u25, u26, u27, u28, u29, u30, u31, u32, u33, u34, u35, u36, u37, u38, u39, u40, u41, rfl⟩, rfl, hT, ha, hf2, hr⟩ | ⟨rfl, T, ap, at_, k, acc, ⟨u1, u5, u6, u7, u8, u9, u10, u11, u12, u13, u14, u15, u16, u17, u18, u19, u20, u21, u22, u23, u24, u25, u26, u27, u28, u29, u30, u31, u32, u33, u34, u35, u36, u37, u38, u39, u40, u41, rfl⟩, rfl, hT, ha, hf2, hr⟩ | ⟨rfl, T, ap, at_, f, acc, ⟨u1, u5, u6, u7, u8, u9, u10, u11, u12, u13, u14, u15, u16, u17, u18, u19, u20, u21, u22, u23, u24, u25, u26, u27, u28, u29, u30, u31, u32, u33, u34, u35, u36, u37, u38, u39, u40, u41, rfl⟩, rfl, hT, ha, hf, hf2, hr⟩
    · refine ⟨_, rfl, ?_⟩
      obtain ⟨f, rfl⟩ : ∃ f', f = f' + 1 := ⟨f - 1, by omega⟩
      have hbl := blankN_le s.data.toList at_ (by rw [lenL]; exact ha)
      rw [lenL] at hbl
      have hr' := Lib.hid ((attrsX_step s.data.toList fr f at_ acc).symm.trans hr.out)
      clear hr
      go_wp2_with fail
      refine (HBK.out at_ ha _ hT.out.doc).mono ?_
      rintro e w1 ⟨rfl, hk1, hd1⟩
      replace hT := Lib.hid (hT.out.step hk1 hd1 hDl.out)
      clear hk1 hd1
      go_wp2_with fail
      refine (HNX.out _ hbl _ hT.out.doc).mono ?_
      rintro e w2 ⟨he, hd2, hk2⟩
      replace hT := Lib.hid (hT.out.step hk2 hd2 hDl.out)
      clear hk2 hd2
      cases hl : s.data.toList.drop (at_ + blankN s.data.toList at_) with
      | nil =>
        obtain rfl := next_nil hl he
        have hr := hr'.out
        rw [hl] at hr
        exact ⟨rfl, HX.out.err hr.symm hT.out.keeps⟩
      | cons c q =>
        obtain rfl := next_cons hl he
        have hr := hr'.out
        rw [hl] at hr
        simp only at hr
        clear hr' he
        have hlt := drop_cons_len hl
        rw [lenL] at hlt
        by_cases h47 : c = 47
        · rw [if_pos h47] at hr
          subst h47
          have HR := Lib.hid hr
          clear hr hl
          go_wp2
          go_step3
          exact ⟨1, by omega, x, r, HX, .inr (.inl ⟨rfl, T, _, _, acc, ⟨_, _, _, _, _, _, _, _, _, _, _, _, _, _, _, _, _, _, _, _, _, _, _, _, _, _, _, _, _, _, _, _, _, _, _, _, _, _, rfl⟩, rfl, hT, hlt, hf2, HR⟩)⟩
        · rw [if_neg h47] at hr
          have n47 : ((c.toNat : Int) == 47) = false := by
            simp only [beq_eq_false_iff_ne, ne_eq]
            intro e
            exact h47 (UInt8.toNat_inj.1 (by simpa using (by omega : c.toNat = 47)))
          by_cases h62 : c = 62
          · rw [if_pos h62] at hr
            subst h62
            have HR := Lib.hid (show (match takeX s.data.toList fr (at_ + blankN s.data.toList at_) 62 with | .error e => .error e | .ok b => .ok ((1, acc), b) : Er ((Int × AL) × Nat)) = r by rw [takeX_at hl]; exact hr)
            clear hr hl h47 n47
            go_wp2
            go_step3
            exact ⟨0, by omega, x, r, HX, .inr (.inr (.inl ⟨rfl, T, _, _, 1, acc, ⟨_, _, _, _, _, _, _, _, _, _, _, _, _, _, _, _, _, _, _, _, _, _, _, _, _, _, _, _, _, _, _, _, _, _, _, _, _, _, rfl⟩, rfl, hT, Nat.le_of_lt hlt, hf2, HR⟩))⟩
          · rw [if_neg h62] at hr
            have n62 : ((c.toNat : Int) == 62) = false := by
              simp only [beq_eq_false_iff_ne, ne_eq]
              intro e
              exact h62 (UInt8.toNat_inj.1 (by simpa using (by omega : c.toNat = 62)))
            have HR := Lib.hid hr
            clear hr hl h47 h62
            go_wp2
            go_step3
            exact ⟨2 * f + 3, by omega, x, r, HX, .inr (.inr (.inr ⟨rfl, T, _, _, f, acc, ⟨_, _, _, _, _, _, _, _, _, _, _, _, _, _, _, _, _, _, _, _, _, _, _, _, _, _, _, _, _, _, _, _, _, _, _, _, _, _, rfl⟩, rfl, hT, Nat.le_of_lt hlt, by omega, hf2, HR⟩))⟩
    · refine ⟨_, rfl, ?_⟩
      obtain ⟨v, hv, hown⟩ := hT.out.ex
      have hd := hT.out.doc
      obtain ⟨q0, q1, q2, q3, q4, f0, f1, f2, f3, f4⟩ := five_cells hv
      have c2 := hd.c2
      have e2 := hd.f 2
      have hTD : T ≠ D := by have := hT.out.lt; have := hDl.out; omega
      clear hv hown hd q1 q2 q3 q4 f1 f2 f3 f4
      go_wp2
      go_step3
      have hT1 := hT.out.kind 3 hDl.out
      have hT2 := hT1.step ((Keeps.refl D _).setCell 2 (.int .i64 ((at_ : Int) + 1))) (hT1.doc.set2' (a := at_ + 1) rfl) hDl.out
      exact ⟨0, by omega, x, r, HX, .inr (.inr (.inl ⟨rfl, T, _, _, 3, acc, ⟨_, _, _, _, _, _, _, _, _, _, _, _, _, _, _, _, _, _, _, _, _, _, _, _, _, _, _, _, _, _, _, _, _, _, _, _, _, _, rfl⟩, rfl, Lib.hid hT2, ha, hf2, hr⟩))⟩
    · refine ⟨_, rfl, ?_⟩
      go_wp2_with fail
      refine (HTK.out _ ha _ hT.out.doc).mono ?_
      rintro e w1 ⟨hk1, he⟩
      cases hq : takeX s.data.toList fr at_ 62 with
      | error pe =>
        obtain ⟨p, c⟩ := pe
        have hr' := hr.out
        rw [hq] at hr' he
        obtain rfl := he
        exact ⟨rfl, HX.out.err hr'.symm (hT.out.keeps.trans hk1)⟩
      | ok b =>
        have hr' := hr.out
        rw [hq] at hr' he
        obtain ⟨rfl, hd1⟩ := he
        replace hT := Lib.hid (hT.out.step hk1 hd1 hDl.out)
        have HR := Lib.hid hr'
        clear hq hr' hr hk1 hd1
        obtain ⟨v, hv, hown⟩ := hT.out.ex
        rw [prs_len] at hown
        obtain ⟨q0, q1, q2, q3, q4, f0, f1, f2, f3, f4⟩ := five_cells hv
        obtain ⟨r0, r1, r2, r3, r4, g0, g1, g2, g3, g4⟩ := five_cells hT.out.rblk
        obtain ⟨A, cp, hsh⟩ := own_shape hown
        subst hsh
        have HOWN := Lib.hid hown
        clear hv hown f0 f1 f2 f3 f4
        go_wp2
        change bodyPost Tryz.prog Tryz.f74 (fun e w' => StartPost D s fr w0 e w') Exit.ret _ _
        refine bodyPost_ret (results_cell_row Tryz.results74 _ _ w0.heap.size 52 _ (0, 0) _ rfl (five_set hT.out.rblk _ _ _ _ _) Tryz.underlying52 rfl (by kernel_rfl)) rfl ?_
        have hRD : D ≠ w0.heap.size := by have := hDl.out; omega
        have hne := own_blk_ne HOWN.out hT.out.rblk (by decide)
        exact HX.out.ok HR.out.symm (((((hT.out.keeps.other (Nat.le_refl _) _ _).other (Nat.le_refl _) _ _).other (Nat.le_refl _) _ _).other (Nat.le_refl _) _ _).other (Nat.le_refl _) _ _) (Nat.le_refl _) (own_set (own_set (own_set (own_set (own_set HOWN.out hne _ _) hne _ _) hne _ _) hne _ _) hne _ _) hf2 (hT.out.doc.five hRD _ _ _ _ _)
    · refine ⟨_, rfl, ?_⟩
      obtain ⟨v, hv, hown⟩ := hT.out.ex
      rw [prs_len] at hown
      obtain ⟨A, cp, hsh⟩ := own_shape hown
      subst hsh
      obtain ⟨i0, hi, hz0, hz1, hz2⟩ := info_parts raw_info
      have c3 : w.cell? ⟨T, 3, none⟩ = some (.slice A acc.length cp) := blk_cell hv 3
      have f3 := blk_free hv 3
      have HV := Lib.hid hv
      have HO := Lib.hid hown
      have hGw := Lib.hid (hT.out.keeps.gv hG hD)
      have hTl := Lib.hid (blk_lt hv)
      have hTD : T ≠ D := by have := hT.out.lt; have := hDl.out; omega
      have HTD := Lib.hid hTD
      have hlw : w0.heap.size ≤ w.heap.size := hT.out.keeps.size
      clear hv hown hTD
      go_upto_region 7 with fail
      go_region_law (first
        | (have hq := HO1.out; clear hq; refine step_append_sl _ rfl (.tmp 21) (.tmp 28) _ rfl w0.heap.size 54 i0 _ 2 32 Tryz.underlying50 hi hz0 hz1 hz2 rfl (by omega) _ acc.length (cells2 (prs acc)) rfl (HO1.out.alloc _) (some ⟨w'.heap.size, 0, none⟩) 1 1 [.string x1, .string x2] rfl (Sl.lit w' 2 [.string x1, .string x2] _ 1 rfl) (cells2_one [(x1, x2)]) (by simp only [maxLen]; omega) (by omega) (by simp; omega) ?_; intro v4 w4 hown4 hg4 hat4; obtain ⟨A4, cp4, hsh4⟩ := own_shape hown4; subst hsh4; have HT4 := Lib.hid ((hT1.out).app2 hDl.out nn vv x1 x2 HX1.out HX2.out HV1.out HO1.out hown4 hg4); have c34 : w4.cell? ⟨T, 3, none⟩ = some (.slice A acc.length cp) := blk_cell (tag_grown HV1.out HO1.out hg4) 3; have f34 : w4.frozen? ⟨T, 3, none⟩ = false := blk_free (tag_grown HV1.out HO1.out hg4) 3; clear hown4 hg4 hat4)
        | (go_simp; go_at_call 113; refine (HAT.out at_ acc.length ap ha (by omega) _ hT.out.doc.drew hGw.out.drew).mono ?_; rintro e w' (⟨q, c, hn, rfl, hk⟩ | ⟨nn, vv, b, hn, rfl, hd, hk⟩) <;> replace hk := (Keeps.refl D w).drew.trans hk; (exact ⟨rfl, HX.out.err (hr.out.symm.trans (by rw [hn])) (hT.out.keeps.trans hk)⟩); have HO1 := Lib.hid (own_keeps HO.out hk hDl.out); have HV1 := Lib.hid ((hk.block T hTl.out HTD.out).trans HV.out); have c31 : w'.cell? ⟨T, 3, none⟩ = some (.slice A acc.length cp) := blk_cell HV1.out 3; have hT1 := Lib.hid (hT.out.step hk hd hDl.out); have hlw1 : w0.heap.size ≤ w'.heap.size := Nat.le_trans hlw hk.size; have HN1 := Lib.hid hn; clear hn hk hd; obtain ⟨x1, hx1⟩ : ∃ x1 : ByteArray, (⟨nn.toArray⟩ : ByteArray) = x1 := ⟨_, rfl⟩; obtain ⟨x2, hx2⟩ : ∃ x2 : ByteArray, (⟨vv.toArray⟩ : ByteArray) = x2 := ⟨_, rfl⟩; rw [hx1, hx2]; have HX1 := Lib.hid hx1; have HX2 := Lib.hid hx2; have c32 : (w'.alloc (.cells #[.string x1, .string x2] 54)).cell? ⟨T, 3, none⟩ = some (.slice A acc.length cp) := blk_cell ((Below.heap_alloc _ _ _ (blk_lt HV1.out)).trans HV1.out) 3; clear hx1 hx2))
      all_goals (
        clear c3 f3
        go_wp2_with fail
        go_step3
        refine ⟨2 * f + 2, by omega, x, r, HX, .inl ⟨rfl, T, _, b, f, acc ++ [(nn, vv)], ⟨_, _, _, _, _, _, _, _, _, _, _, _, _, _, _, _, _, _, _, _, _, _, _, _, _, _, _, _, _, _, _, _, _, _, _, _, _, _, rfl⟩, rfl, HT4, ?_, ?_, ?_, ?_⟩⟩
        · have := attributeX_at HN1.out
          rw [lenL] at this
          exact this
        · simp; omega
        · have := attributeX_le HN1.out
          simp; omega
        · refine Lib.hid ?_
          have h := hr.out
          rw [HN1.out] at h
          exact h)
  · intro here
    go_upto_region 1 with fail
    go_cut [3] (fun s3 wx => ∃ (T : Nat) (x : List UInt8) (a : Nat), s3 = .pointer (some ⟨T, 0, none⟩) ∧ w0.heap.size < T ∧ Hid (namedX s.data.toList fr (fr + 1) = .ok (x, a)) ∧ Hid (wx.heap[T]? = some (.cells (tokZ 1 fr ⟨x.toArray⟩ ⟨#[]⟩) 52 (0, 0))) ∧ Hid (wx.heap[w0.heap.size]? = some (.cells (tokZ 0 0 ⟨#[]⟩ ⟨#[]⟩) 52 (0, 0))) ∧ Hid (Keeps D w0 wx) ∧ Hid (DocW wx D s fr a))
    case first =>
      go_region_held2 (fun w' => w'.cell? ⟨D, 1, none⟩ = some (.int .i64 fr)) (with_reducible (first | exact HD.out.c1 | exact HD.out.drew.c1 | exact (HD.out.alloc _).c1 | exact ((HD.out.alloc _).drew).c1 | exact ((HD.out.alloc _).alloc _).drew.c1 | exact hd.c1 | exact (hd.alloc _).c1 | exact (hd.five hD1 _ _ _ _ _).c1))
        (first
          | (go_at_call 109; refine (HN.out (((w0.alloc _).alloc _).drew) ((HD.out.alloc _).alloc _).drew).mono ?_; rintro e w' (⟨q, c, hn, rfl, hk⟩ | ⟨x, a, hn, rfl, hd, hk⟩); (exact ⟨rfl, StartPost.bad hn ((((Keeps.refl D w0).alloc _).alloc _).drew.trans hk)⟩); obtain ⟨q0, q1, q2, q3, q4, f0, f1, f2, f3, f4⟩ := five_cells (hk.five (second_block w0 _ _) (by simp) (fun e => hD1 e.symm)))
          | (go_at_call 109; refine (HN.out _ (HD.out.alloc _).drew).mono ?_; rintro e w' (⟨q, c, hn, rfl, hk⟩ | ⟨x, a, hn, rfl, hd, hk⟩); (exact ⟨rfl, StartPost.bad hn (((Keeps.refl D w0).alloc _).drew.trans hk)⟩)))
      all_goals (go_wp2_with fail; go_meet)
      · have hl : w0.heap.size < w'.heap.size := Nat.lt_of_lt_of_le (by simp) hk.size
        have hr := hk.block w0.heap.size (by simp) (by have := hDl.out; omega)
        exact ⟨w'.heap.size, x, a, rfl, hl, Lib.hid hn, Lib.hid (first_block _ _), Lib.hid ((Below.heap_alloc _ _ _ hl).trans (hr.trans (first_block w0 _))), Lib.hid ((((Keeps.refl D w0).alloc _).drew.trans hk).alloc _), Lib.hid (hd.alloc _)⟩
      · have hr := hk.block w0.heap.size (by simp; omega) (by have := hDl.out; omega)
        refine ⟨w0.heap.size + 1, x, a, rfl, by omega, Lib.hid hn, Lib.hid (five_set (hk.five (second_block w0 _ _) (by simp) (fun e => hD1 e.symm)) _ _ _ _ _), Lib.hid ((five_other (by omega) _ _ _ _ _).trans (hr.trans (first_block2 w0 _ _))), Lib.hid ?_, Lib.hid (hd.five hD1 _ _ _ _ _)⟩
        exact ((((((((Keeps.refl D w0).alloc _).alloc _).drew.trans hk).other (by omega) _ _).other (by omega) _ _).other (by omega) _ _).other (by omega) _ _).other (by omega) _ _
    case rest =>
      obtain ⟨T, y, q, rfl, hT, h0, h1, h2, hk, hd⟩ := hcut
      have hq := namedX_le hat h0.out
      have HR : Hid (TagR s fr ⟨y.toArray⟩ (attrsX s.data.toList fr 67 q [])) := Lib.hid ⟨y, q, h0.out, rfl, rfl⟩
      have HT : Hid (TagW w0 D s fr q T 1 ⟨y.toArray⟩ (prs []) wc) := Lib.hid ⟨hk.out, hd.out, h2.out, hT, _, h1.out, World.ownsRow_nil _ _ _ _⟩
      clear h0 h1 h2 hk hd
      go_upto_region 3 with fail
      rename_i hK
      apply wp_label
      refine hK _ _ ?_
      have hJ := fun a (h : TagJ D s fr w0 0 (2 * 67 + 2) a wc) => here 0 _ a wc _ h rfl
      clear here
      exact hJ _ ⟨_, _, HR, .inl ⟨rfl, T, _, q, 67, [], ⟨_, _, _, _, _, _, _, _, _, _, _, _, _, _, _, _, _, _, _, _, _, _, _, _, _, _, _, _, _, _, _, _, _, _, _, _, _, _, rfl⟩, rfl, HT, hq, rfl, by simp, Lib.hid rfl⟩⟩
end Go.Proofs.YtlcjepnaljfpkaaGreatDoor
