/- LeJ LeK. -/
import Derived.Test.YtlcjepnaljfpkaaGreatDoorQl12
namespace Go.Proofs.YtlcjepnaljfpkaaGreatDoor
open Go.RowKit Wb
theorem heap3 (w : World) (o0 o1 o2 : Obj) : (((w.alloc o0).alloc o1).alloc o2).heap[w.heap.size]? = some o0 ∧ (((w.alloc o0).alloc o1).alloc o2).heap[w.heap.size + 1]? = some o1 ∧
    (((w.alloc o0).alloc o1).alloc o2).heap[w.heap.size + 1 + 1]? = some o2 ∧ (((w.alloc o0).alloc o1).alloc o2).heap.size = w.heap.size + 3 := by
  have e : (((w.alloc o0).alloc o1).alloc o2).heap = ((w.heap.push o0).push o1).push o2 := rfl
  rw [e]
  refine ⟨?_, ?_, ?_, ?_⟩
  · rw [Array.getElem?_push, if_neg (by simp; omega), Array.getElem?_push, if_neg (by simp), Array.getElem?_push, if_pos rfl]
  · rw [Array.getElem?_push, if_neg (by simp), Array.getElem?_push, if_pos (by simp)]
  · rw [Array.getElem?_push, if_pos (by simp)]
  · simp
theorem set_other {w : World} {g : Nat} {o : Obj} (h : w.heap[g]? = some o) {b : Nat} (hb : g ≠ b) (v : Value) : (w.setCell ⟨b, 0, none⟩ v).heap[g]? = some o := by
  rw [Below.heap_setCell _ _ _ _ (by simpa using hb)]; exact h
theorem results3 {P : Program} {fn : Func} {p0 p1 p2 : Tmp} {t0 t1 t2 : TypeId} (h : fn.results = #[.cell p0 t0, .cell p1 t1, .cell p2 t2]) (tmps : Array Value) (w : World) (b0 b1 b2 : Nat) (u0 u1 u2 : TypeId) (v0 v1 v2 : Value)
    (e0 : tmps[p0]?.getD undef = .pointer (some ⟨b0, 0, none⟩)) (e1 : tmps[p1]?.getD undef = .pointer (some ⟨b1, 0, none⟩)) (e2 : tmps[p2]?.getD undef = .pointer (some ⟨b2, 0, none⟩))
    (h0 : w.heap[b0]? = some (.cells #[v0] u0 (0, 0))) (h1 : w.heap[b1]? = some (.cells #[v1] u1 (0, 0))) (h2 : w.heap[b2]? = some (.cells #[v2] u2 (0, 0)))
    (a0 : ∀ w, (isAgg t0).run P w = .ok false w) (a1 : ∀ w, (isAgg t1).run P w = .ok false w) (a2 : ∀ w, (isAgg t2).run P w = .ok false w) :
    (results fn tmps).run P w = .ok (.tuple #[v0, v1, v2]) w := by
  have c0 : w.cell? ⟨b0, 0, none⟩ = some v0 := blk_cell h0 0
  have c1 : w.cell? ⟨b1, 0, none⟩ = some v1 := blk_cell h1 0
  have c2 : w.cell? ⟨b2, 0, none⟩ = some v2 := blk_cell h2 0
  unfold results
  rw [h]
  simp [go_sem, e0, e1, e2, c0, c1, c2, a0, a1, a2]
set_option maxRecDepth 100000 in
theorem Unescape_any (s : ByteArray) (attr : Bool) (w : World) (hG : Gv w) (hs : s.size ≤ 100000000) :
    Calls Tryz.prog 8 #[.string s, .bool attr] w fun e w' => e = .returned (.tuple #[.string (unB s attr).1, .int .i64 (unB s attr).2.1, .int .i64 (unB s attr).2.2]) ∧ Below w.heap.size w w' := by
  have hmf : ∀ (fn : Fn) (first cap : Array Value) (w : World), (Instr.makeFunc fn first cap).run Tryz.prog w = .ok (.func fn first cap) w := fun _ _ _ _ => rfl
  obtain ⟨g0, g1, g2, gs⟩ := heap3 w (.cells #[.string ⟨#[]⟩] 9) (.cells #[.int .i64 0] 3) (.cells #[.int .i64 0] 26)
  have hG3 : Gv (((w.alloc (.cells #[.string ⟨#[]⟩] 9)).alloc (.cells #[.int .i64 0] 3)).alloc (.cells #[.int .i64 0] 26)) := ((hG.alloc _).alloc _).alloc _
  have hB3 : Below w.heap.size w (((w.alloc (.cells #[.string ⟨#[]⟩] 9)).alloc (.cells #[.int .i64 0] 3)).alloc (.cells #[.int .i64 0] 26)) :=
    (((Below.refl _ w).alloc (Nat.le_refl _) _).alloc (by simp) _).alloc (by simp; omega) _
  have hun := unescape_any s attr 0
  have next : ∀ w1, Below (((w.alloc (.cells #[.string ⟨#[]⟩] 9)).alloc (.cells #[.int .i64 0] 3)).alloc (.cells #[.int .i64 0] 26)).heap.size (((w.alloc (.cells #[.string ⟨#[]⟩] 9)).alloc (.cells #[.int .i64 0] 3)).alloc (.cells #[.int .i64 0] 26)) w1 →
      w1.heap[w.heap.size]? = some (.cells #[.string ⟨#[]⟩] 9 (0, 0)) ∧ w1.heap[w.heap.size + 1]? = some (.cells #[.int .i64 0] 3 (0, 0)) ∧ w1.heap[w.heap.size + 1 + 1]? = some (.cells #[.int .i64 0] 26 (0, 0)) ∧ Below w.heap.size w w1 := fun w1 hb =>
    ⟨(hb.block _ (by omega)).trans g0, (hb.block _ (by omega)).trans g1, (hb.block _ (by omega)).trans g2, hB3.trans (hb.mono (by omega))⟩
  cases hu : unL attr (s.size + 1) s.data.toList 0 with
  | ok x =>
    rw [unB_ok hu]
    rw [hu] at hun
    clear hu g0 g1 g2 hB3
    go_enter_defers Tryz.func8, Tryz.ntmps8
    go_wp2_with fail
    refine (hun _ hG3 hs (by omega)).mono ?_
    rintro e w1 ⟨h1, hb1⟩
    obtain rfl := h1
    obtain ⟨h0, h1, h2, hB⟩ := next w1 hb1
    clear next hb1 gs
    have HB := Lib.hid hB
    have H0 := Lib.hid h0
    have H1 := Lib.hid h1
    have H2 := Lib.hid h2
    have c0 : w1.cell? ⟨w.heap.size, 0, none⟩ = some (.string ⟨#[]⟩) := blk_cell h0 0
    have c1 : w1.cell? ⟨w.heap.size + 1, 0, none⟩ = some (.int .i64 0) := blk_cell h1 0
    have c2 : w1.cell? ⟨w.heap.size + 1 + 1, 0, none⟩ = some (.int .i64 0) := blk_cell h2 0
    have f0 := blk_free h0 0
    have f1 := blk_free h1 0
    have f2 := blk_free h2 0
    clear h0 h1 h2 hB
    go_wp2
    refine leaves_cons (f := 22) (args := #[.pointer (some ⟨w.heap.size, 0, none⟩), .pointer (some ⟨w.heap.size + 1, 0, none⟩), .pointer (some ⟨w.heap.size + 1 + 1, 0, none⟩)]) (by simp) (by simp [go_sem]) ?_
    refine (catch_idle _ _ _ _).mono ?_
    rintro e u' w2 ⟨rfl, rfl, rfl⟩
    refine ⟨_, results3 Tryz.results8 _ _ w.heap.size (w.heap.size + 1) (w.heap.size + 1 + 1) 9 3 26 (.string ⟨x.toArray⟩) (.int .i64 0) (.int .i64 0) rfl rfl rfl ?_ ?_ ?_ Tryz.isAgg9 Tryz.isAgg3 Tryz.isAgg26, rfl, ?_⟩
    · exact set_other (set_other (blk_set H0.out 0 _) (by omega) _) (by omega) _
    · exact set_other (blk_set (set_other H1.out (by omega) _) 0 _) (by omega) _
    · exact blk_set (set_other (set_other H2.out (by omega) _) (by omega) _) 0 _
    · exact ((HB.out.setCell (Nat.le_refl _) _).setCell (by simp) _).setCell (by simp; omega) _
  | error p =>
    rw [unB_bad hu]
    rw [hu] at hun
    clear hu g0 g1 g2 hB3
    go_enter_defers Tryz.func8, Tryz.ntmps8
    go_wp2_with fail
    refine (hun _ hG3 hs (by omega)).mono ?_
    rintro e w1 ⟨h1, hb1⟩
    obtain rfl := h1
    obtain ⟨h0, h1, h2, hB⟩ := next w1 hb1
    refine leaves_cons (f := 22) (args := #[.pointer (some ⟨w.heap.size, 0, none⟩), .pointer (some ⟨w.heap.size + 1, 0, none⟩), .pointer (some ⟨w.heap.size + 1 + 1, 0, none⟩)]) (by simp) (by simp [go_sem]) ?_
    refine (catch_up _ _ _ _ _ _ _ _ _ p 16 [] w1 h0 h1 h2 (by omega) (by omega) (by omega)).mono ?_
    rintro e u' w2 ⟨rfl, rfl, rfl⟩
    refine ⟨_, results3 Tryz.results8 _ _ w.heap.size (w.heap.size + 1) (w.heap.size + 1 + 1) 9 3 26 (.string ⟨#[]⟩) (.int .i64 p) (.int .i64 16) rfl rfl rfl ?_ ?_ ?_ Tryz.isAgg9 Tryz.isAgg3 Tryz.isAgg26, rfl, ?_⟩
    · exact set_other (set_other (blk_set h0 0 _) (by omega) _) (by omega) _
    · exact set_other (blk_set (set_other h1 (by omega) _) 0 _) (by omega) _
    · exact blk_set (set_other (set_other h2 (by omega) _) (by omega) _) 0 _
    · exact (((hB.setCell (Nat.le_refl _) _).setCell (by simp) _).setCell (by simp; omega) _).drew
end Go.Proofs.YtlcjepnaljfpkaaGreatDoor
namespace Go.Proofs.YtlcjepnaljfpkaaGreatDoor
open Go.RowKit Wb
structure Keeps (D : Nat) (w w' : World) : Prop where
  os : w'.os = w.os
  tape : w'.tape = w.tape
  output : w'.output = w.output
  size : w.heap.size ≤ w'.heap.size
  block : ∀ k, k < w.heap.size → k ≠ D → w'.heap[k]? = w.heap[k]?
theorem Keeps.refl (D : Nat) (w : World) : Keeps D w w := ⟨rfl, rfl, rfl, Nat.le_refl _, fun _ _ _ => rfl⟩
theorem Keeps.trans {D : Nat} {a b c : World} (h : Keeps D a b) (k : Keeps D b c) : Keeps D a c :=
  ⟨k.os.trans h.os, k.tape.trans h.tape, k.output.trans h.output, Nat.le_trans h.size k.size, fun i hi hd => (k.block i (Nat.lt_of_lt_of_le hi h.size) hd).trans (h.block i hi hd)⟩
theorem Keeps.of_below {D : Nat} {w w' : World} (h : Below w.heap.size w w') : Keeps D w w' := ⟨h.os, h.tape, h.output, h.size, fun k hk _ => h.block k hk⟩
theorem Keeps.drewN (D : Nat) (w : World) (m : Nat) : Keeps D w (w.drewN m) := ⟨rfl, rfl, rfl, Nat.le_refl _, fun _ _ _ => rfl⟩
theorem Keeps.drew {D : Nat} {a w : World} (h : Keeps D a w) : Keeps D a w.drew := ⟨h.os, h.tape, h.output, h.size, h.block⟩
theorem Keeps.setCell {D : Nat} {a w : World} (h : Keeps D a w) (o : Nat) (v : Value) : Keeps D a (w.setCell ⟨D, o, none⟩ v) :=
  h.trans ⟨rfl, rfl, rfl, by simp [World.setCell], fun k _ hd => Below.heap_setCell _ _ _ _ (by simpa using hd)⟩
theorem Keeps.below {D : Nat} {w w' : World} (h : Keeps D w w') (hD : D < w.heap.size) : Below D w w' := ⟨h.os, h.tape, h.output, h.size, fun k hk => h.block k (by omega) (by omega)⟩
theorem Keeps.gv {D : Nat} {w w' : World} (h : Keeps D w w') (hG : Gv w) (hD : 11 ≤ D) : Gv w' := hG.keep h.size (fun k hk => h.block k (by have := hG.sz; omega) (by omega))
theorem Keeps.next {D : Nat} {a b c : World} (h : Keeps D a b) (k : Below b.heap.size b c) : Keeps D a c := h.trans (Keeps.of_below k)
def DocW (w : World) (D : Nat) (s : ByteArray) (fr at_ : Nat) : Prop := w.heap[D]? = some (.cells #[.string s, .int .i64 fr, .int .i64 at_] 81 (0, 0))
theorem DocW.lt {w : World} {D : Nat} {s : ByteArray} {fr at_ : Nat} (h : DocW w D s fr at_) : D < w.heap.size := by
  rcases Nat.lt_or_ge D w.heap.size with hl | hl
  · exact hl
  · unfold DocW at h
    rw [Array.getElem?_eq_none hl] at h
    cases h
theorem DocW.below {w w' : World} {D : Nat} {s : ByteArray} {fr at_ : Nat} (h : DocW w D s fr at_) (hb : Below w.heap.size w w') : DocW w' D s fr at_ := (hb.block D h.lt).trans h
theorem DocW.c0 {w : World} {D : Nat} {s : ByteArray} {fr at_ : Nat} (h : DocW w D s fr at_) : w.cell? ⟨D, 0, none⟩ = some (.string s) := blk_cell h 0
theorem DocW.c1 {w : World} {D : Nat} {s : ByteArray} {fr at_ : Nat} (h : DocW w D s fr at_) : w.cell? ⟨D, 1, none⟩ = some (.int .i64 fr) := blk_cell h 1
theorem DocW.c2 {w : World} {D : Nat} {s : ByteArray} {fr at_ : Nat} (h : DocW w D s fr at_) : w.cell? ⟨D, 2, none⟩ = some (.int .i64 at_) := blk_cell h 2
theorem DocW.f {w : World} {D : Nat} {s : ByteArray} {fr at_ : Nat} (h : DocW w D s fr at_) (i : Nat) : w.frozen? ⟨D, i, none⟩ = false := blk_free h i
theorem DocW.set2 {w : World} {D : Nat} {s : ByteArray} {fr at_ : Nat} (h : DocW w D s fr at_) (a : Nat) : DocW (w.setCell ⟨D, 2, none⟩ (.int .i64 a)) D s fr a := blk_set h 2 _
theorem DocW.set1 {w : World} {D : Nat} {s : ByteArray} {fr at_ : Nat} (h : DocW w D s fr at_) (a : Nat) : DocW (w.setCell ⟨D, 1, none⟩ (.int .i64 a)) D s a at_ := blk_set h 1 _
theorem DocW.drewN {w : World} {D : Nat} {s : ByteArray} {fr at_ : Nat} (h : DocW w D s fr at_) (m : Nat) : DocW (w.drewN m) D s fr at_ := h
theorem DocW.drew {w : World} {D : Nat} {s : ByteArray} {fr at_ : Nat} (h : DocW w D s fr at_) : DocW w.drew D s fr at_ := h
theorem rest_any (D : Nat) (s : ByteArray) (fr at_ : Nat) (w : World) (h : DocW w D s fr at_) (hat : at_ ≤ s.size) :
    Calls Tryz.prog 67 #[.pointer (some ⟨D, 0, none⟩)] w fun e w' => e = .returned (.string (s.extract at_ s.size)) ∧ w' = w.drew := by
  have c0 := h.c0
  have c2 := h.c2
  have g1 : (at_ : Int) ≤ (s.size : Int) := by omega
  have g0 : (0 : Int) ≤ (at_ : Int) := by omega
  clear h
  go_enter Tryz.func67, Tryz.ntmps67
  go_wp2
  go_region
  go_wp2
  go_ret
  exact ⟨rfl, rfl⟩
def NextOut (L : List UInt8) (fr at_ : Nat) (e : Ending) : Prop :=
  match L.drop at_ with
  | [] => e = .panicked [flt fr 2]
  | c :: _ => e = .returned (.int .u8 c.toNat)
theorem next_any (D : Nat) (s : ByteArray) (fr at_ : Nat) (w : World) (h : DocW w D s fr at_) (hat : at_ ≤ s.size) :
    Calls Tryz.prog 112 #[.pointer (some ⟨D, 0, none⟩)] w fun e w' => NextOut s.data.toList fr at_ e ∧ ∃ m, w' = w.drewN m := by
  have c0 := h.c0
  have c1 := h.c1
  have c2 := h.c2
  clear h
  by_cases hlt : at_ < s.size
  · have hd : s.data.toList.drop at_ = s[at_] :: s.data.toList.drop (at_ + 1) := drop_ne s at_ hlt
    have HE : Hid (∀ e, NextOut s.data.toList fr at_ e = (e = .returned (.int .u8 s[at_].toNat))) := Lib.hid (fun e => by unfold NextOut; rw [hd])
    have g0 : ((at_ : Int) == (s.size : Int)) = false := by simp; omega
    clear hd
    go_enter Tryz.func112, Tryz.ntmps112
    go_wp2
    go_region
    go_wp2
    go_region
    go_wp2
    go_ret
    exact ⟨by rw [HE.out]; rfl, 2, rfl⟩
  · obtain rfl : at_ = s.size := by omega
    have HE : Hid (∀ e, NextOut s.data.toList fr s.size e = (e = .panicked [flt fr 2])) := Lib.hid (fun e => by unfold NextOut; rw [List.drop_eq_nil_of_le (by rw [← Lib.size_eq]; exact Nat.le_refl _)])
    clear hlt
    go_enter Tryz.func112, Tryz.ntmps112
    go_wp2
    go_region
    go_wp2_with fail
    refine (fail_any fr 2 _).mono ?_
    rintro e w1 ⟨rfl, rfl⟩
    exact ⟨rfl, by rw [HE.out], 1, rfl⟩
theorem blk_all : ∀ n : Fin 256, blkB (UInt8.ofNat n.val) = blk (n.val : Int) := by decide +kernel
theorem blkB_eq (c : UInt8) : blk (c.toNat : Int) = blkB c := by
  have := blk_all ⟨c.toNat, c.toNat_lt⟩
  simp only [UInt8.ofNat_toNat] at this
  exact this.symm
theorem blankC (c : UInt8) (w : World) : Calls Tryz.prog 63 #[.int .u8 (c.toNat : Int)] w fun e w' => e = .returned (.bool (blkB c)) ∧ w = w' := by
  rw [← blkB_eq]; exact blank_any _ w
theorem skip_any (s : ByteArray) (w : World) (hs : s.size ≤ 100000000) :
    Calls Tryz.prog 65 #[.string s] w fun e w' => e = .returned (.string ⟨(s.data.toList.dropWhile blkB).toArray⟩) ∧ w = w' := by
  obtain ⟨r, hr⟩ : ∃ r, s.data.toList.dropWhile blkB = r := ⟨_, rfl⟩
  have HR := Lib.hid hr
  rw [hr]
  clear hr
  go_enter Tryz.func65, Tryz.ntmps65
  go_wp2
  go_loop [0] (fun v => ∃ sk : ByteArray, v = .string sk ∧ sk.size ≤ 100000000 ∧ Hid (sk.data.toList.dropWhile blkB = r)) (fun v => sLen v)
  case atStart => exact ⟨s, rfl, hs, HR⟩
  case round =>
    obtain ⟨sk, rfl, hsk, HK⟩ := hrel
    by_cases h0 : 0 < sk.size
    · have hd : sk.data.toList = sk[0] :: sk.data.toList.drop 1 := by have := drop_ne sk 0 h0; simpa using this
      have e0 : sk.toList.isEmpty = false := by
        rw [ByteArray.toList_eq, hd]; rfl
      have e1 : ¬ sk.toList = [] := by
        rw [ByteArray.toList_eq, hd]; simp
      cases hb : blkB sk[0]
      · have HE : Hid (r = sk.data.toList) := Lib.hid (by rw [← HK.out, hd, List.dropWhile_cons, hb]; rfl)
        have HBB := Lib.hid hb
        clear hb hd HK
        go_wp2_with fail
        refine (blankC _ _).mono ?_
        rw [HBB.out]
        rintro e w1 ⟨rfl, rfl⟩
        go_wp2
        go_ret
        rw [HE.out]
        exact ⟨rfl, rfl⟩
      · have HN : Hid ((sk.extract 1 sk.size).data.toList.dropWhile blkB = r) := Lib.hid (by
          rw [← HK.out]
          conv => rhs; rw [hd, List.dropWhile_cons, hb]
          rw [extract_L, List.take_of_length_le (by simp)]
          rfl)
        have HBB := Lib.hid hb
        have h1 : (1 : Int) ≤ (sk.size : Int) := by omega
        clear hb hd HK
        go_wp2_with fail
        refine (blankC _ _).mono ?_
        rw [HBB.out]
        rintro e w1 ⟨rfl, rfl⟩
        go_wp2
        go_round
        case rel => exact ⟨sk.extract 1 sk.size, rfl, by simp; omega, HN⟩
        case measure => simp [sLen]; omega
    · have hz : sk = ⟨#[]⟩ := by
        apply ByteArray.ext
        exact Array.eq_empty_of_size_eq_zero (by have : sk.data.size = sk.size := rfl; omega)
      subst hz
      have HE : Hid (r = []) := Lib.hid (by rw [← HK.out]; rfl)
      have e0 : (⟨#[]⟩ : ByteArray).toList.isEmpty = true := by rw [ByteArray.toList_eq]; rfl
      have e1 : (⟨#[]⟩ : ByteArray).toList = [] := by rw [ByteArray.toList_eq]
      clear HK
      go_wp2
      go_ret
      rw [HE.out]
      exact ⟨rfl, rfl⟩
def sWordEnd : List UInt8 := [47, 62, 61, 60, 34, 39, 38]
theorem word_all : ∀ n : Fin 256, wordB (UInt8.ofNat n.val) = (!(blkB (UInt8.ofNat n.val)) && decide (Lib.indexByte sWordEnd (UInt8.ofNat n.val) < 0)) := by decide +kernel
theorem wordB_eq (c : UInt8) : wordB c = (!(blkB c) && decide (Lib.indexByte sWordEnd c < 0)) := by
  have := word_all ⟨c.toNat, c.toNat_lt⟩
  simp only [UInt8.ofNat_toNat] at this
  exact this
theorem ofWord_any (c : UInt8) (w : World) : Calls Tryz.prog 164 #[.int .u8 (c.toNat : Int)] w fun e w' => e = .returned (.bool (wordB c)) ∧ w = w' := by
  have hix : ∀ w, Calls Tryz.prog 45 #[.string ⟨#[47, 62, 61, 60, 34, 39, 38]⟩, .int .u8 (c.toNat : Int)] w fun e w' => e = .returned (.int .i64 (Lib.indexByte sWordEnd c)) ∧ w = w' := fun w =>
    (Tryz.strings_IndexByte ⟨#[47, 62, 61, 60, 34, 39, 38]⟩ c.toNat w).mono (by
      rintro e w' ⟨rfl, rfl⟩
      refine ⟨?_, rfl⟩
      simp [sWordEnd])
  have HW := Lib.hid (wordB_eq c)
  rw [HW.out]
  clear HW
  cases hb : blkB c
  · have HB := Lib.hid hb
    clear hb
    generalize Lib.indexByte sWordEnd c = v at *
    go_enter Tryz.func164, Tryz.ntmps164
    go_wp2_with fail
    refine (blankC _ _).mono ?_
    rw [HB.out]
    rintro e w1 ⟨rfl, rfl⟩
    go_wp2_with fail
    refine (hix _).mono ?_
    rintro e w1 ⟨rfl, rfl⟩
    go_wp2
    go_ret
    exact ⟨rfl, rfl⟩
  · have HB := Lib.hid hb
    clear hb hix
    go_enter Tryz.func164, Tryz.ntmps164
    go_wp2_with fail
    refine (blankC _ _).mono ?_
    rw [HB.out]
    rintro e w1 ⟨rfl, rfl⟩
    go_wp2
    go_ret
    exact ⟨rfl, rfl⟩
end Go.Proofs.YtlcjepnaljfpkaaGreatDoor
