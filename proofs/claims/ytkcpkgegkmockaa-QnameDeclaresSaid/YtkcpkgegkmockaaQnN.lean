
/- Walk of the statement on declarations and attributes. -/
import Derived.Test.YtkcpkgegkmockaaQnM
namespace Go.Proofs.Ytkcpkgegkmockaa
open Go.RowKit Wb Go.Maps

def declR (sc l : List Pr) : List Pr × List Pr × Int :=
  match declL l [] [] [] with
  | .ok (b, r) => (sc ++ b, r, 0)
  | .error er => ([], [], er)
def attrR (sc l : List Pr) : List Tr × Int :=
  match attrL sc l [] with
  | .ok r => (r, 0)
  | .error er => ([], er)

theorem declL_len : ∀ (l : List Pr) (seen : List ByteArray) (binds rest b r : List Pr), declL l seen binds rest = .ok (b, r) → b.length ≤ binds.length + l.length ∧ r.length ≤ rest.length + l.length
  | [], _, binds, rest, b, r, h => by
    simp only [declL, Except.ok.injEq, Prod.mk.injEq] at h
    obtain ⟨rfl, rfl⟩ := h
    simp
  | x :: l, seen, binds, rest, b, r, h => by
    unfold declL at h
    split at h
    · split at h
      · cases h
      · split at h
        · cases h
        · split at h
          · have := declL_len l _ _ _ b r h
            simp at this ⊢
            omega
          · cases h
    · have := declL_len l _ _ _ b r h
      simp at this ⊢
      omega

theorem declR_len {sc l X Y : List Pr} {er : Int} (h : declR sc l = (X, Y, er)) : X.length ≤ sc.length + l.length ∧ Y.length ≤ l.length := by
  unfold declR at h
  cases hd : declL l [] [] [] with
  | error e =>
    rw [hd] at h
    simp only [Prod.mk.injEq] at h
    obtain ⟨rfl, rfl, _⟩ := h
    simp
  | ok br =>
    obtain ⟨b, r⟩ := br
    rw [hd] at h
    simp only [Prod.mk.injEq] at h
    obtain ⟨rfl, rfl, _⟩ := h
    have := declL_len _ _ _ _ _ _ hd
    simp at this ⊢
    omega
theorem attrR_len {sc l : List Pr} {X : List Tr} {er : Int} (h : attrR sc l = (X, er)) : X.length ≤ l.length := by
  unfold attrR at h
  cases hd : attrL sc l [] with
  | error e =>
    rw [hd] at h
    simp only [Prod.mk.injEq] at h
    obtain ⟨rfl, _⟩ := h
    simp
  | ok r =>
    rw [hd] at h
    simp only [Prod.mk.injEq] at h
    obtain ⟨rfl, _⟩ := h
    rw [(attrL_turn hd).2]
    exact Nat.le_refl _

theorem DeclPost.out {sc l X Y : List Pr} {er : Int} {w w' : World} {e : Ending} (h : DeclPost sc l w e w') (hr : declR sc l = (X, Y, er)) :
    Below w.heap.size w w' ∧ ∃ C k D m, e = .returned (.tuple #[.slice C X.length k, .slice D Y.length m, .int .i64 er]) ∧ Sl2 w' C X ∧ Sl2 w' D Y := by
  obtain ⟨h1, h2⟩ := h
  refine ⟨h1, ?_⟩
  unfold declR at hr
  cases hd : declL l [] [] [] with
  | error e =>
    rw [hd] at hr
    simp only [Prod.mk.injEq] at hr
    obtain ⟨rfl, rfl, rfl⟩ := hr
    exact ⟨none, 0, none, 0, (h2 _ hd.symm).2, Sl2.nil _ _, Sl2.nil _ _⟩
  | ok br =>
    obtain ⟨b, r⟩ := br
    rw [hd] at hr
    simp only [Prod.mk.injEq] at hr
    obtain ⟨rfl, rfl, rfl⟩ := hr
    exact h2 _ hd.symm
theorem AttrsPost.out {sc l : List Pr} {X : List Tr} {er : Int} {w w' : World} {e : Ending} (h : AttrsPost sc l w e w') (hr : attrR sc l = (X, er)) :
    Below w.heap.size w w' ∧ ∃ C k, e = .returned (.tuple #[.slice C X.length k, .int .i64 er]) ∧ Sl3 w' C X := by
  obtain ⟨h1, h2⟩ := h
  refine ⟨h1, ?_⟩
  unfold attrR at hr
  cases hd : attrL sc l [] with
  | error e =>
    rw [hd] at hr
    simp only [Prod.mk.injEq] at hr
    obtain ⟨rfl, rfl⟩ := hr
    exact ⟨none, 0, (h2 _ hd.symm).2, Sl3.nil _ _⟩
  | ok r =>
    rw [hd] at hr
    simp only [Prod.mk.injEq] at hr
    obtain ⟨rfl, rfl⟩ := hr
    exact h2 _ hd.symm

/-- What few enough means for each text. -/
theorem tot_mem : ∀ {l : List Pr} {x : Pr}, x ∈ l → x.1.size + x.2.size ≤ tot l
  | [], _, h => by simp at h
  | y :: l, x, h => by
    have e : tot (y :: l) = y.1.size + y.2.size + tot l := by simp [tot]
    rcases List.mem_cons.1 h with rfl | h
    · omega
    · have := tot_mem h
      omega

set_option maxHeartbeats 4000000 in
set_option maxRecDepth 100000 in
theorem declares_walk (A B : Option Addr) (sc l : List Pr) (c d : Nat) (w : World) (hA : Sl2 w A sc) (hB : Sl2 w B l) :
    Calls Try.prog 6 #[.slice A sc.length c, .slice B l.length d] w fun e w' => e = .returned (.bool true) ∧ Below w.heap.size w w' := by
  obtain ⟨i1, hj, hy0, hy1, hy2⟩ := info_parts raw_info
  go_enter Try.func6, Try.ntmps6
  go_wp2_with fail
  refine (awake_any _).mono ?_
  rintro e w1 ⟨rfl, hb⟩
  go_wp2_with fail
  refine (few_any A sc c _ (hA.below hb)).mono ?_
  rintro e w2 ⟨hb2, b, rfl, hfew⟩
  replace hb := hb.trans (hb2.mono hb.size)
  clear hb2
  cases b
  · clear hfew
    go_wp2
    go_ret
    exact ⟨rfl, hb⟩
  have hfs := Lib.hid (hfew rfl)
  clear hfew
  go_wp2_with fail
  refine (fewRaw_any B l d _ (hB.below hb)).mono ?_
  rintro e w3 ⟨hb2, b, rfl, hfew⟩
  replace hb := hb.trans (hb2.mono hb.size)
  clear hb2
  cases b
  · clear hfew
    go_wp2
    go_ret
    exact ⟨rfl, hb⟩
  have hfl := Lib.hid (hfew rfl)
  clear hfew
  have hsl : sc.length < 3000 := by have := hfs.out; omega
  have hl : l.length < 3000 := by have := hfl.out; omega
  have hs1 : ∀ x ∈ sc, x.2.size ≤ 1000000000 := fun x hx => by have := tot_mem hx; have := hfs.out; omega
  have hs2 : ∀ x ∈ l, x.1.size ≤ 1000000000 := fun x hx => by have := tot_mem hx; have := hfl.out; omega
  have HS1 := Lib.hid hs1
  have HS2 := Lib.hid hs2
  clear hs1 hs2 hfs hfl
  have e0 : World.ownsRow (w3.alloc (.cells #[] 61)) w.heap.size 61 2 (.slice (some ⟨w3.heap.size, 0, none⟩) 0 0) 0 [] := World.ownsRow_lit w3 #[] 0 hb.size (Nat.zero_le _) rfl
  go_wp2_with (at_builtin; refine wpList_append_sl _ rfl (.tmp 26) (.tmp 27) _ rfl w.heap.size 61 i1 _ 2 32 Try.underlying46 hj hy0 hy1 hy2 rfl (by omega) _ 0 [] rfl e0 B l.length d (cells2 l) rfl ((hB.below hb).alloc _) (cells2_one l) (by simp only [maxLen]; omega) (by omega) (hb.alloc hb.size _).size ?_; intro v4 w4 hown4 hg4 hat4; have hb4 : Below w.heap.size w w4 := (hb.alloc hb.size _).grown hg4 (hb.alloc hb.size _).size (fun k hk => (e0.lt k hk).1); obtain ⟨M, mc, hvM, hM, _⟩ := own2 l hown4 (by simp) (by simp); subst hvM; clear hown4 hg4 hat4 e0)
  clear hb
  have hb := hb4
  clear hb4
  obtain ⟨X, Y, er, hdr⟩ : ∃ X Y er, declR sc l = (X, Y, er) := ⟨_, _, _, rfl⟩
  obtain ⟨Z, ar, har⟩ : ∃ Z ar, attrR sc l = (Z, ar) := ⟨_, _, rfl⟩
  obtain ⟨hX, hY⟩ := declR_len hdr
  have hZ := attrR_len har
  have HDR := Lib.hid hdr
  have HAR := Lib.hid har
  clear hdr har
  refine (declare_any A M sc l c mc _ (by omega) (by omega) HS2.out (hA.below hb) hM).mono ?_
  rintro e w5 hP
  obtain ⟨hb2, C, k1, D, k2, rfl, hC, hD⟩ := hP.out HDR.out
  replace hM := hM.below hb2
  replace hb := hb.trans (hb2.mono hb.size)
  clear hP hb2
  go_wp2_with fail
  refine (rdeclare_any A B sc l c d _ (by omega) (by omega) HS2.out (hA.below hb) (hB.below hb)).mono ?_
  rintro e w6 hP
  obtain ⟨hb2, E, k3, F, k4, rfl, hE, hF⟩ := hP.out HDR.out
  replace hM := hM.below hb2
  replace hC := hC.below hb2
  replace hD := hD.below hb2
  replace hb := hb.trans (hb2.mono hb.size)
  clear hP hb2
  go_wp2_with fail
  refine (attrs_any A M sc l c mc _ (by omega) (by omega) HS1.out HS2.out (hA.below hb) hM).mono ?_
  rintro e w7 hP
  obtain ⟨hb2, G, k5, rfl, hG⟩ := hP.out HAR.out
  replace hM := hM.below hb2
  replace hC := hC.below hb2
  replace hD := hD.below hb2
  replace hE := hE.below hb2
  replace hF := hF.below hb2
  replace hb := hb.trans (hb2.mono hb.size)
  clear hP hb2
  go_wp2_with fail
  refine (rattrs_any A B sc l c d _ (by omega) (by omega) HS2.out (hA.below hb) (hB.below hb)).mono ?_
  rintro e w8 hP
  obtain ⟨hb2, H, k6, rfl, hH⟩ := hP.out HAR.out
  replace hM := hM.below hb2
  replace hC := hC.below hb2
  replace hD := hD.below hb2
  replace hE := hE.below hb2
  replace hF := hF.below hb2
  replace hG := hG.below hb2
  replace hb := hb.trans (hb2.mono hb.size)
  clear hP hb2
  go_wp2_with fail
  refine (binds_same C E X k1 k3 _ (by omega) hC hE).mono ?_
  rintro e w9 ⟨rfl, hb2⟩
  replace hM := hM.below hb2
  replace hD := hD.below hb2
  replace hF := hF.below hb2
  replace hG := hG.below hb2
  replace hH := hH.below hb2
  replace hb := hb.trans (hb2.mono hb.size)
  clear hb2 hC hE
  go_wp2_with fail
  refine (raws_same D F Y k2 k4 _ (by omega) hD hF).mono ?_
  rintro e w10 ⟨rfl, hb2⟩
  replace hM := hM.below hb2
  replace hG := hG.below hb2
  replace hH := hH.below hb2
  replace hb := hb.trans (hb2.mono hb.size)
  clear hb2 hD hF
  go_wp2_with fail
  refine (same_same G H Z k5 k6 _ (by omega) hG hH).mono ?_
  rintro e w11 ⟨rfl, hb2⟩
  replace hM := hM.below hb2
  replace hb := hb.trans (hb2.mono hb.size)
  clear hb2 hG hH
  go_wp2_with fail
  refine (raws_same M B l mc d _ (by omega) hM (hB.below hb)).mono ?_
  rintro e w12 ⟨rfl, hb2⟩
  replace hb := hb.trans (hb2.mono hb.size)
  clear hb2
  go_wp2
  go_ret
  exact ⟨rfl, hb⟩
end Go.Proofs.Ytkcpkgegkmockaa
