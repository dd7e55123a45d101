/- SbI SbJ SaH SaI ScD. -/
import Derived.Test.YtbeglliabpflpaaGreatDoorCA5
import Derived.Test.YtbeglliabpflpaaGreatDoorCA8
import Derived.Test.YtbeglliabpflpaaGreatDoorCA9
import Derived.Test.YtbeglliabpflpaaGreatDoorCA13
import Derived.Test.YtbeglliabpflpaaGreatDoorCA14
namespace Wb
def sUrnD : ByteArray := ⟨#[117, 114, 110, 58, 100]⟩
def sUrnX : ByteArray := ⟨#[117, 114, 110, 58, 120]⟩
def aw1 : List StV := [⟨1, false, (sUrnD, ⟨#[97]⟩), 0, false, nE, sE⟩, ⟨1, false, (sUrnD, ⟨#[98]⟩), 2, false, nE, sE⟩, ⟨2, false, (sE, ⟨#[99]⟩), 0, false, nE, sE⟩]
theorem aw_p1 : parseS [97, 47, 98, 91, 50, 93, 47, 64, 99] sUrnD [] = .ok aw1 := by kernel_rfl
theorem aw_p2 : parseS [98, 91, 64, 112, 58, 120, 61, 49, 93] sE [] = .error 33 := by kernel_rfl
theorem aw_b : bindsP [120, 109, 108, 110, 115, 40, 112, 61, 117, 114, 110, 58, 120, 41] = ([(⟨#[112]⟩, sUrnX)], 0) := by kernel_rfl
def aw4 : StV := ⟨1, false, (sUrnX, ⟨#[97]⟩), 0, false, nE, sE⟩
theorem aw_r : printS sUrnD [aw4] = .ok ([110, 49, 37, 51, 65, 97], [120, 109, 108, 110, 115, 37, 50, 56, 110, 49, 37, 51, 68, 117, 114, 110, 37, 51, 65, 120, 37, 50, 57]) := by kernel_rfl
end Wb
namespace Go.Proofs.YtbeglliabpflpaaGreatDoor
open Go.RowKit Wb
def StepsOut (o : Except Int (List StV)) (w : World) (e : Ending) (w' : World) : Prop :=
  Below w.heap.size w w' ∧ ((∀ k, o = .error k → e = .returned (.tuple #[.slice none 0 0, .int .i64 k])) ∧
    ∀ l, o = .ok l → ∃ C k, e = .returned (.tuple #[.slice C l.length k, .int .i64 0]) ∧ Sl9 w' C l)
def PBc (w : World) : Prop := ∀ (q : ByteArray) (v : World), Below w.heap.size w v → q.size ≤ 1000000 → Calls Tryz.prog 8 #[.string q] v (BindsOut (bindsP q.data.toList) v)
def PAc (w : World) : Prop := ∀ (s space : ByteArray) (B : Option Addr) (binds : List Pr) (c : Nat) (v : World), Below w.heap.size w v → Sl2 v B binds → s.size ≤ 1000000 → space.size ≤ 1000000 → binds.length ≤ 100000 → (∀ b ∈ binds, b.1.size ≤ 1000000 ∧ b.2.size ≤ 1000000) →
  Calls Tryz.prog 15 #[.string s, .string space, .slice B binds.length c] v (StepsOut (parseS s.data.toList space binds) v)
def PRc (w : World) : Prop := ∀ (space : ByteArray) (A : Option Addr) (l : List StV) (c : Nat) (v : World), Below w.heap.size w v → Sl9 v A l → space.size ≤ 1000000 → l.length ≤ 1000000 →
  (∀ x ∈ l, x.name.1.size ≤ 60000 ∧ x.name.2.size ≤ 60000 ∧ x.attr.1.size ≤ 60000 ∧ x.attr.2.size ≤ 60000 ∧ x.val.size ≤ 60000) →
  Calls Tryz.prog 12 #[.string space, .slice A l.length c] v fun e w' => e = .returned (PrintV (printS space l)) ∧ Below v.heap.size v w'
set_option maxRecDepth 100000 in
set_option maxHeartbeats 8000000 in
theorem awake10 (w : World) (hB : PBc w) (hP : PAc w) (hR : PRc w) : Calls Tryz.prog 7 #[] w fun e w' => e = .returned (.bool true) ∧ Below w.heap.size w w' := by
  have h1 := fun (v : World) (hb : Below w.heap.size w v) => hP (⟨#[97, 47, 98, 91, 50, 93, 47, 64, 99]⟩ : ByteArray) sUrnD none [] 0 v hb (Sl2.nil _ _) (by decide) (by decide) (by decide) (fun b h => by simp at h)
  have h2 := fun (v : World) (hb : Below w.heap.size w v) => hB (⟨#[120, 109, 108, 110, 115, 40, 112, 61, 117, 114, 110, 58, 120, 41]⟩ : ByteArray) v hb (by decide)
  have h3 := fun (v : World) (hb : Below w.heap.size w v) => hP (⟨#[98, 91, 64, 112, 58, 120, 61, 49, 93]⟩ : ByteArray) sE none [] 0 v hb (Sl2.nil _ _) (by decide) (by decide) (by decide) (fun b h => by simp at h)
  have h4 := fun (v : World) (A : Option Addr) (c : Nat) (hb : Below w.heap.size w v) (hA : Sl9 v A [aw4]) => hR sUrnD A [aw4] c v hb hA (by decide) (by decide) (fun x h => by rw [List.mem_singleton.1 h]; decide)
  rw [show (⟨#[97, 47, 98, 91, 50, 93, 47, 64, 99]⟩ : ByteArray).data.toList = [97, 47, 98, 91, 50, 93, 47, 64, 99] from rfl, aw_p1] at h1
  rw [show (⟨#[120, 109, 108, 110, 115, 40, 112, 61, 117, 114, 110, 58, 120, 41]⟩ : ByteArray).data.toList = [120, 109, 108, 110, 115, 40, 112, 61, 117, 114, 110, 58, 120, 41] from rfl, aw_b] at h2
  rw [show (⟨#[98, 91, 64, 112, 58, 120, 61, 49, 93]⟩ : ByteArray).data.toList = [98, 91, 64, 112, 58, 120, 61, 49, 93] from rfl, aw_p2] at h3
  rw [aw_r] at h4
  have H2 := Lib.hid h2
  have H3 := Lib.hid h3
  have H4 := Lib.hid h4
  clear h2 h3 h4 hB hP hR
  go_enter Tryz.func7, Tryz.ntmps7
  go_wp2_with fail
  refine (h1 _ (Below.refl _ _)).mono ?_
  rintro e w1 ⟨hb1, -, he⟩
  obtain ⟨C1, k1, rfl, hC1⟩ := he _ rfl
  have HB1 := Lib.hid hb1
  have HC1 := Lib.hid hC1
  clear hb1 he hC1 h1
  go_wp2_with fail
  refine (H2.out _ HB1.out).mono ?_
  rintro e w2 ⟨C2, k2, rfl, hC2, hb2⟩
  have HB2 := Lib.hid (HB1.out.trans (hb2.mono HB1.out.size))
  have HC12 := Lib.hid (HC1.out.below hb2)
  have HC2 := Lib.hid hC2
  clear hb2 hC2 H2 HC1
  go_wp2_with fail
  refine (H3.out _ HB2.out).mono ?_
  rintro e w3 ⟨hb3, he, -⟩
  obtain rfl := he _ rfl
  have HB3 := Lib.hid (HB2.out.trans (hb3.mono HB2.out.size))
  have HC13 := Lib.hid (HC12.out.below hb3)
  have HC23 := Lib.hid (HC2.out.below hb3)
  clear hb3 he H3 HC12 HC2
  go_wp2_with fail
  (try rw [show sUrnD = (⟨#[117, 114, 110, 58, 100]⟩ : ByteArray) from rfl])
  have hc4 : ∀ v : World, Sl9 (v.alloc (.cells (cells9L [aw4]).toArray 47)) (some ⟨v.heap.size, 0, none⟩) [aw4] := fun v => Sl.lit v 9 (cells9L [aw4]) 47 1 rfl
  have hb4 := HB3.out.alloc HB3.out.size (.cells (cells9L [aw4]).toArray 47)
  refine (H4.out _ _ _ hb4 (hc4 _)).mono ?_
  rintro e w4 ⟨rfl, hb5⟩
  have HB4 := Lib.hid (hb4.trans (hb5.mono hb4.size))
  have hx := (Below.refl w3.heap.size w3).alloc (Nat.le_refl _) (.cells (cells9L [aw4]).toArray 47)
  have HX := hx.trans (hb5.mono hx.size)
  have A1 := HC13.out.below HX
  have A2 := HC23.out.below HX
  obtain ⟨ad, rfl, -, c00, c0j⟩ := A1.at_ (k := 0) (x := ⟨1, false, (sUrnD, ⟨#[97]⟩), 0, false, nE, sE⟩) rfl
  obtain ⟨ad', e', -, c10, c1j⟩ := A1.at_ (k := 1) (x := ⟨1, false, (sUrnD, ⟨#[98]⟩), 2, false, nE, sE⟩) rfl
  injection e' with e'
  subst e'
  obtain ⟨ad', e', -, c20, c2j⟩ := A1.at_ (k := 2) (x := ⟨2, false, (sE, ⟨#[99]⟩), 0, false, nE, sE⟩) rfl
  injection e' with e'
  subst e'
  obtain ⟨bd, rfl, -, d0, d1⟩ := A2.at_ (k := 0) (x := (⟨#[112]⟩, sUrnX)) rfl
  have f2 : w4.cell? ⟨ad.block, ad.off + 2, none⟩ = some (.string sUrnD) := c0j 2 _ (by omega) rfl
  have f3 : w4.cell? ⟨ad.block, ad.off + 2 + 1, none⟩ = some (.string ⟨#[97]⟩) := c0j 3 _ (by omega) rfl
  have g4 : w4.cell? ⟨ad.block, ad.off + 9 + 4, none⟩ = some (.int .i64 2) := c1j 4 _ (by omega) rfl
  have k1c : w4.cell? ⟨ad.block, ad.off + 18, none⟩ = some (.int .i64 2) := c20
  have k2 : w4.cell? ⟨ad.block, ad.off + 18 + 2, none⟩ = some (.string sE) := c2j 2 _ (by omega) rfl
  have k3 : w4.cell? ⟨ad.block, ad.off + 18 + 2 + 1, none⟩ = some (.string ⟨#[99]⟩) := c2j 3 _ (by omega) rfl
  have d2 : w4.cell? ⟨bd.block, bd.off + 1, none⟩ = some (.string sUrnX) := d1
  have hl : aw1.length = 3 := rfl
  rw [hl]
  rw [show PrintV (.ok ([110, 49, 37, 51, 65, 97], [120, 109, 108, 110, 115, 37, 50, 56, 110, 49, 37, 51, 68, 117, 114, 110, 37, 51, 65, 120, 37, 50, 57])) = .tuple #[.string ⟨#[110, 49, 37, 51, 65, 97]⟩, .string ⟨#[120, 109, 108, 110, 115, 37, 50, 56, 110, 49, 37, 51, 68, 117, 114, 110, 37, 51, 65, 120, 37, 50, 57]⟩, .int .i64 0] from rfl]
  simp only [show sUrnD = (⟨#[117, 114, 110, 58, 100]⟩ : ByteArray) from rfl, show sUrnX = (⟨#[117, 114, 110, 58, 120]⟩ : ByteArray) from rfl, show sE = (⟨#[]⟩ : ByteArray) from rfl] at f2 f3 g4 k2 k3 d2
  clear c00 c10 c20 d0 d1 c0j c1j c2j A1 A2 HX hx hb4 hb5 hc4 H4 HC13 HC23 hl
  go_wp2
  go_ret
  exact ⟨rfl, HB4.out⟩
end Go.Proofs.YtbeglliabpflpaaGreatDoor
namespace Wb
theorem bindsP_len {q : List UInt8} : (bindsP q).1.length ≤ 16 := by
  obtain ⟨l, e, h⟩ : ∃ l e, bindsP q = (l, e) := ⟨_, _, rfl⟩
  rw [h]
  show l.length ≤ 16
  by_cases h0 : e = 0
  · subst h0
    exact (bindsP_ok h).choose_spec.2.2
  · have := bindsP_bad q (by rw [h]; exact h0)
    rw [h] at this
    simp only at this
    rw [this]
    decide
end Wb
namespace Go.Proofs.YtbeglliabpflpaaGreatDoor
open Go.RowKit Wb
set_option maxRecDepth 100000 in
set_option maxHeartbeats 4000000 in
theorem selbinds_walk (q : ByteArray) (w : World) (hB : PBc w) (hP : PAc w) (hR : PRc w) :
    Calls Tryz.prog 3 #[.string q] w fun e w' => e = .returned (.bool true) ∧ Below w.heap.size w w' := by
  have ha := awake10 w hB hP hR
  by_cases h0 : 5000 < q.size
  · clear hB hP hR
    go_enter Tryz.func3, Tryz.ntmps3
    go_wp2_with fail
    refine ha.mono ?_
    rintro e w1 ⟨rfl, hb1⟩
    clear ha
    go_wp2
    go_ret
    exact ⟨rfl, hb1⟩
  · have h2 := fun (v : World) (hb : Below w.heap.size w v) => hB q v hb (by omega)
    have h3 := fun (v : World) => rbinds_any q v (by omega)
    have hl := bindsP_len (q := q.data.toList)
    obtain ⟨m, k, hm⟩ : ∃ m k, bindsP q.data.toList = (m, k) := ⟨_, _, rfl⟩
    rw [hm] at h2 h3 hl
    have H2 := Lib.hid h2
    have H3 := Lib.hid h3
    clear h2 h3 hB hP hR hm
    go_enter Tryz.func3, Tryz.ntmps3
    go_wp2_with fail
    refine ha.mono ?_
    rintro e w1 ⟨rfl, hb1⟩
    have HB1 := Lib.hid hb1
    clear ha hb1
    go_wp2_with fail
    refine (H2.out _ HB1.out).mono ?_
    rintro e w2 ⟨C2, k2, rfl, hC2, hb2⟩
    have HB2 := Lib.hid (HB1.out.trans (hb2.mono HB1.out.size))
    have HC2 := Lib.hid hC2
    clear hb2 hC2 H2
    go_wp2_with fail
    refine (H3.out _).mono ?_
    rintro e w3 ⟨C3, k3, rfl, hC3, hb3⟩
    have HB3 := Lib.hid (HB2.out.trans (hb3.mono HB2.out.size))
    have HC23 := Lib.hid (HC2.out.below hb3)
    have HC3 := Lib.hid hC3
    clear hb3 hC3 H3 HC2
    go_wp2_with fail
    refine (binds_same _ _ m _ _ _ (by omega) HC23.out HC3.out).mono ?_
    rintro e w4 ⟨rfl, hb4⟩
    go_wp2
    go_ret
    exact ⟨rfl, HB3.out.trans (hb4.mono HB3.out.size)⟩
end Go.Proofs.YtbeglliabpflpaaGreatDoor
namespace Wb
def w9 (x : StV) : Nat := x.name.2.size + x.attr.2.size + 6 * x.val.size
theorem stp_w {x : StV} {space : ByteArray} {l l' : List ByteArray} {t : List UInt8} (h : stpT x space l = .ok (t, l')) (hl : l.length ≤ 16) (hp : x.pos ≤ 9999) : t.length ≤ w9 x + 40 ∧ l'.length ≤ 16 := by
  obtain ⟨kind, any, n, pos, by_, a, val⟩ := x
  unfold w9
  simp only at hp ⊢
  unfold stpT at h
  simp only at h
  split at h
  · injection h with h
    injection h with h1 h2
    subst h1 h2
    refine ⟨?_, hl⟩
    have : sNsAll.length = 12 := rfl
    omega
  split at h
  · split at h
    · cases h
    · rename_i t' l2 hn
      injection h with h
      injection h with h1 h2
      subst h1 h2
      obtain ⟨b1, b2⟩ := nameT_len hn hl
      exact ⟨by rw [List.length_cons]; omega, b2⟩
  split at h
  · cases h
  rename_i t0 l0 he
  have h0 : t0.length ≤ n.2.size + 8 ∧ l0.length ≤ 16 := by
    unfold elemT at he
    simp only at he
    split at he
    · injection he with he
      injection he with h1 h2
      subst h1 h2
      exact ⟨by simp, hl⟩
    · exact nameT_len he hl
  have hp : (posT pos).length ≤ 6 := by
    unfold posT
    split
    · have := dgN_le pos.toNat 4 (by omega)
      simp
      omega
    · simp
  split at h
  · injection h with h
    injection h with h1 h2
    subst h1 h2
    exact ⟨by rw [List.length_append]; omega, h0.2⟩
  split at h
  · cases h
  rename_i ta l2 ha
  obtain ⟨b1, b2⟩ := nameT_len ha h0.2
  split at h
  · cases h
  injection h with h
  injection h with h1 h2
  subst h1 h2
  refine ⟨?_, b2⟩
  have hz : val.data.toList.length = val.size := by simp
  have := (escL_len true val.data.toList).2
  unfold testT
  simp only [List.length_append, List.length_cons, List.length_nil]
  omega
theorem join_size (c : UInt8) : ∀ ts : List (List UInt8), (joinB c ts).length ≤ (ts.map List.length).sum + ts.length
  | [] => by simp [joinB]
  | t :: ts => by
    by_cases h : ts = []
    · subst h
      simp [joinB]
    · rw [joinB_cons c t h]
      have := join_size c ts
      simp only [List.length_append, List.length_cons, List.map_cons, List.sum_cons]
      omega
theorem nameT_sp {M : Nat} {n : Pr} {plain : ByteArray} {l l' : List ByteArray} {t : List UInt8} (h : nameT n plain l = .ok (t, l')) (hl : ∀ s ∈ l, s.size ≤ M) (h1 : n.1.size ≤ M) : ∀ s ∈ l', s.size ≤ M := by
  obtain ⟨_, ⟨_, _, rfl⟩ | ⟨_, _, _, rfl⟩ | ⟨_, _, _, _, _, rfl | ⟨rfl, _⟩⟩⟩ := nameT_cases h
  · exact hl
  · exact hl
  · exact hl
  · intro s hs
    rcases List.mem_append.1 hs with hs | hs
    · exact hl s hs
    · rw [List.mem_singleton.1 hs]
      exact h1
theorem stp_sp {M : Nat} {x : StV} {space : ByteArray} {l l' : List ByteArray} {t : List UInt8} (h : stpT x space l = .ok (t, l')) (hl : ∀ s ∈ l, s.size ≤ M) (h1 : x.name.1.size ≤ M) (h2 : x.attr.1.size ≤ M) : ∀ s ∈ l', s.size ≤ M := by
  unfold stpT at h
  split at h
  · injection h with h
    injection h with _ h
    subst h
    exact hl
  split at h
  · split at h
    · cases h
    · rename_i hn
      injection h with h
      injection h with _ h
      subst h
      exact nameT_sp hn hl h1
  split at h
  · cases h
  rename_i t0 l0 he
  have h0 : ∀ s ∈ l0, s.size ≤ M := by
    unfold elemT at he
    split at he
    · injection he with he
      injection he with _ he
      subst he
      exact hl
    · exact nameT_sp he hl h1
  split at h
  · injection h with h
    injection h with _ h
    subst h
    exact h0
  split at h
  · cases h
  rename_i ha
  split at h
  · cases h
  injection h with h
  injection h with _ h
  subst h
  exact nameT_sp ha h0 h2
theorem resB_sp {M : Nat} {sc : List Pr} (q : ByteArray) (attr : Bool) (hM : 64 ≤ M) (h : ∀ x ∈ sc, x.2.size ≤ M) : (resB sc q attr).1.1.size ≤ M := by
  unfold resB
  split
  · exact Nat.zero_le _
  split
  · exact Nat.zero_le _
  split
  · exact Nat.zero_le _
  · exact findB_size hM h
theorem cutC_len {c : UInt8} {s a b : List UInt8} (h : cutC c s = some (a, b)) : a.length + b.length + 1 = s.length := by
  have := (cutC_some h).1
  rw [this]
  simp
  omega
theorem testP_len {r a v : List UInt8} (h : testP r = some (a, v)) : a.length ≤ r.length ∧ v.length ≤ r.length := by
  unfold testP at h
  split at h
  · split at h
    · cases h
    rename_i n t hc
    have h1 := cutC_len hc
    have h0 : (r.drop 2).length ≤ r.length := by rw [List.length_drop]; omega
    split at h
    · cases h
    rename_i q u
    rw [List.length_cons] at h1
    split at h
    · split at h
      · cases h
      rename_i v' e hv
      have h2 := cutC_len hv
      split at h
      · injection h with h
        injection h with e1 e2
        subst e1 e2
        exact ⟨by omega, by omega⟩
      · cases h
    · cases h
  · cases h
theorem posnP_len {r r' : List UInt8} {p : Nat} (h : posnP r = some (p, r')) : r'.length ≤ r.length := by
  unfold posnP at h
  split at h
  · injection h with h
    injection h with _ h
    subst h
    exact Nat.le_refl _
  split at h
  · cases h
  rename_i t r2 hc
  have h1 := cutC_len hc
  have h0 : (r.drop 1).length ≤ r.length := by rw [List.length_drop]; omega
  split at h
  · cases h
  injection h with h
  injection h with _ h
  subst h
  omega
theorem headP_len (d : List UInt8) : (headP d).1.length ≤ d.length ∧ (headP d).2.length ≤ d.length := by
  unfold headP
  exact ⟨(List.takeWhile_sublist _).length_le, (List.dropWhile_sublist _).length_le⟩
end Wb
namespace Wb
theorem stepP_nz {sc : List Pr} {d : List UInt8} {k : Int} (h : stepP sc d = .error k) : k ≠ 0 := by
  unfold stepP at h
  repeat' (split at h)
  all_goals first
    | (cases h; done)
    | (injection h with h; subst h; decide)
    | (rename_i hz; injection h with h; subst h; exact hz)
    | (rename_i hz; injection h with h; subst h; exact hz.2)
    | (rename_i hz _; injection h with h; subst h; exact hz.2)
theorem oneP_nz {sc : List Pr} {last : Bool} {d : List UInt8} {k : Int} (h : oneP sc last d = .error k) : k ≠ 0 := by
  unfold oneP at h
  split at h
  · cases h
  split at h
  · split at h
    · cases h
    · rename_i hz
      injection h with h
      subst h
      exact hz
  · exact stepP_nz h
end Wb
namespace Wb
open Go
theorem head_cut (s : List UInt8) : (Lib.cut s [91]).1 = (headP s).1 ∧ s.drop (headP s).1.length = (headP s).2 := by
  have hs := List.takeWhile_append_dropWhile (p := fun x : UInt8 => x != 91) (l := s)
  refine ⟨?_, ?_⟩
  · cases h : cutC 91 s with
    | none =>
      rw [cut_none1 h]
      have hf := cutC_free h
      have e := dw_none (p := fun x : UInt8 => x != 91) (l := s) fun x hx => bne_iff_ne.2 (hf x hx)
      rw [e, List.append_nil] at hs
      exact hs.symm
    | some x =>
      obtain ⟨a, b⟩ := x
      rw [cut_some1 h]
      obtain ⟨rfl, hf⟩ := cutC_some h
      exact (tw_free (c := 91) b hf).1.symm
  · unfold headP
    simp only
    conv => lhs; arg 2; rw [← hs]
    rw [List.drop_left]
theorem cpos_let {s P R : List UInt8} {b1 b2 : Bool} {n : Nat} (h1 : Lib.hasPrefix s [91] = b1) (h2 : Lib.cut (Lib.trimPrefix s [91]) [93] = (P, R, b2)) (h3 : posP P = n) :
    cposP s = if (b1 && (b2 && !decide (n = 0))) = true then (n, R) else (0, s) := by
  unfold cposP
  rw [pre_take'] at h1
  by_cases hk : s.take 1 = [91]
  · have e1 : b1 = true := by rw [← h1]; exact decide_eq_true hk
    subst e1
    have et : Lib.trimPrefix s [91] = s.drop 1 := by
      unfold Lib.trimPrefix
      rw [pre_take']
      show (if decide (List.take 1 s = [91]) = true then s.drop 1 else s) = _
      rw [if_pos (decide_eq_true hk)]
    rw [et] at h2
    rw [if_pos hk]
    cases h93 : cutC 93 (s.drop 1) with
    | none =>
      rw [cut_none1 h93] at h2
      injection h2 with h2 h5
      injection h5 with h5 h6
      subst h6
      rfl
    | some x =>
      obtain ⟨t, r⟩ := x
      rw [cut_some1 h93] at h2
      injection h2 with h2 h5
      injection h5 with h5 h6
      subst h2 h5 h6
      simp only [h3, Bool.true_and]
      by_cases h0 : n = 0
      · simp [h0]
      · simp [h0]
  · have e1 : b1 = false := by rw [← h1]; exact decide_eq_false hk
    subst e1
    rw [if_neg hk]
    rfl
def quoV (t : List UInt8) : Option (List UInt8) :=
  match t with
  | [] => none
  | q :: u => if q = 34 ∨ q = 39 then match cutC q u with
      | none => none
      | some (v, e) => if e = [93] then some v else none
    else none
theorem testP_let {s N U : List UInt8} {b1 b2 b3 : Bool} (h1 : Lib.hasPrefix s [91, 64] = b1) (h2 : Lib.cut (Lib.trimPrefix s [91, 64]) [61] = (N, U, b2)) (h3 : (splitB ⟨N.toArray⟩).2.2 = b3) :
    testP s = if (b1 && (b2 && b3)) = true then (quoV U).map fun v => (N, v) else none := by
  unfold testP
  rw [pre_take'] at h1
  by_cases hk : s.take 2 = [91, 64]
  · have e1 : b1 = true := by rw [← h1]; exact decide_eq_true hk
    subst e1
    have et : Lib.trimPrefix s [91, 64] = s.drop 2 := by
      unfold Lib.trimPrefix
      rw [pre_take']
      show (if decide (List.take 2 s = [91, 64]) = true then s.drop 2 else s) = _
      rw [if_pos (decide_eq_true hk)]
    rw [et] at h2
    rw [if_pos hk]
    cases h61 : cutC 61 (s.drop 2) with
    | none =>
      rw [cut_none1 h61] at h2
      injection h2 with h2 h5
      injection h5 with h5 h6
      subst h6
      rfl
    | some x =>
      obtain ⟨n, t⟩ := x
      rw [cut_some1 h61] at h2
      injection h2 with h2 h5
      injection h5 with h5 h6
      subst h2 h5 h6
      simp only [h3, Bool.true_and]
      cases t with
      | nil => simp [quoV]
      | cons q u =>
        unfold quoV
        simp only
        by_cases hq : q = 34 ∨ q = 39
        · rw [if_pos hq, if_pos hq]
          cases cutC q u with
          | none => simp
          | some x =>
            obtain ⟨v, e⟩ := x
            simp only
            cases b3 with
            | false => simp
            | true =>
              by_cases he : e = [93]
              · simp [he]
              · simp [he]
        · rw [if_neg hq, if_neg hq]
          simp
  · have e1 : b1 = false := by rw [← h1]; exact decide_eq_false hk
    subst e1
    rw [if_neg hk]
    rfl
def cutK (d : List UInt8) : Option (List UInt8 × Nat × Option (List UInt8 × List UInt8)) :=
  if (headP d).1 ≠ [42] ∧ (splitB ⟨(headP d).1.toArray⟩).2.2 = false then none
  else if (cposP (headP d).2).2 = [] then some ((headP d).1, (cposP (headP d).2).1, none)
  else match testP (cposP (headP d).2).2 with
    | none => none
    | some av => some ((headP d).1, (cposP (headP d).2).1, some av)
theorem step_none {sc : List Pr} {d : List UInt8} (h : cutK d = none) : stepP sc d = .error 33 := by
  unfold cutK at h
  unfold stepP
  split at h
  · rename_i hc
    rw [if_pos hc]
  · rename_i hc
    rw [if_neg hc]
    cases hp : posnP (headP d).2 with
    | none => rfl
    | some x =>
      obtain ⟨p, r⟩ := x
      have e := cpos_some (head_rest d) hp
      rw [e] at h
      simp only at h ⊢
      split at h
      · cases h
      · rename_i hr
        rw [if_neg hr]
        cases ht : testP r with
        | none => rfl
        | some av =>
          rw [ht] at h
          cases h
theorem step_some {sc : List Pr} {d n : List UInt8} {p : Nat} (h : cutK d = some (n, p, none)) :
    p ≤ 9999 ∧ n.length ≤ d.length ∧ stepP sc d = if n = [42] then .ok ⟨1, true, nE, p, false, nE, sE⟩ else if (resB sc ⟨n.toArray⟩ false).2 = 0 then .ok ⟨1, false, (resB sc ⟨n.toArray⟩ false).1, p, false, nE, sE⟩ else .error (resB sc ⟨n.toArray⟩ false).2 := by
  have hh := (headP_len d).1
  unfold cutK at h
  unfold stepP
  split at h
  · cases h
  · rename_i hc
    rw [if_neg hc]
    cases hp : posnP (headP d).2 with
    | none =>
      have := cpos_none hp
      rw [if_neg this.1, this.2] at h
      cases h
    | some x =>
      obtain ⟨q, r⟩ := x
      have e := cpos_some (head_rest d) hp
      rw [e] at h
      simp only at h ⊢
      split at h
      · rename_i hr
        injection h with h
        injection h with h1 h
        injection h with h2 h
        subst h1 h2
        rw [if_pos hr]
        refine ⟨?_, hh, rfl⟩
        unfold posnP at hp
        split at hp
        · injection hp with hp
          injection hp with hp _
          omega
        · split at hp
          · cases hp
          · split at hp
            · cases hp
            · rename_i t r' _ _
              injection hp with hp
              injection hp with hp _
              have := posP_le t
              omega
      · split at h
        · cases h
        · injection h with h
          injection h with h1 h
          injection h with h2 h
          cases h
theorem step_test {sc : List Pr} {d n a v : List UInt8} {p : Nat} (h : cutK d = some (n, p, some (a, v))) :
    p ≤ 9999 ∧ n.length ≤ d.length ∧ a.length ≤ d.length ∧ v.length ≤ d.length ∧ stepP sc d = if n ≠ [42] ∧ (resB sc ⟨n.toArray⟩ false).2 ≠ 0 then .error (resB sc ⟨n.toArray⟩ false).2
          else if (resB sc ⟨a.toArray⟩ true).2 ≠ 0 then .error (resB sc ⟨a.toArray⟩ true).2
          else if (unV v).2 ≠ 0 then .error (unV v).2
          else .ok ⟨1, decide (n = [42]), if n = [42] then nE else (resB sc ⟨n.toArray⟩ false).1, p, true, (resB sc ⟨a.toArray⟩ true).1, ⟨(unV v).1.toArray⟩⟩ := by
  have hh := headP_len d
  unfold cutK at h
  unfold stepP
  split at h
  · cases h
  · rename_i hc
    rw [if_neg hc]
    cases hp : posnP (headP d).2 with
    | none =>
      have := cpos_none hp
      rw [if_neg this.1, this.2] at h
      cases h
    | some x =>
      obtain ⟨q, r⟩ := x
      have e := cpos_some (head_rest d) hp
      have hrl := posnP_len hp
      rw [e] at h
      simp only at h ⊢
      split at h
      · injection h with h
        injection h with h1 h
        injection h with h2 h
        cases h
      · rename_i hr
        rw [if_neg hr]
        split at h
        · cases h
        · rename_i av ht
          injection h with h
          injection h with h1 h
          injection h with h2 h
          injection h with h
          subst h1 h2 h
          have htl := testP_len ht
          rw [ht]
          refine ⟨?_, hh.1, by omega, by omega, rfl⟩
          unfold posnP at hp
          split at hp
          · injection hp with hp
            injection hp with hp _
            omega
          · split at hp
            · cases hp
            · split at hp
              · cases hp
              · rename_i t r' _ _
                injection hp with hp
                injection hp with hp _
                have := posP_le t
                omega
end Wb
namespace Go.Proofs.YtbeglliabpflpaaGreatDoor
open Go.RowKit Wb
set_option maxHeartbeats 1000000 in
theorem qualified_any (s : ByteArray) (w : World) (hs : s.size ≤ 1000000000) :
    Calls Tryz.prog 120 #[.string s] w fun e w' => e = .returned (.bool (splitB s).2.2) ∧ Below w.heap.size w w' := by
  go_enter Tryz.func120, Tryz.ntmps120
  go_wp2_with fail
  refine (split_any s _ hs).mono ?_
  rintro e w1 ⟨rfl, hb⟩
  go_wp2
  go_ret
  exact ⟨rfl, hb⟩
set_option maxHeartbeats 4000000 in
set_option maxRecDepth 100000 in
theorem position_any (t : ByteArray) (w : World) (hs : t.size ≤ 1000000000) (hG : GvS w) :
    Calls Tryz.prog 137 #[.string t] w fun e w' => e = .returned (.int .i64 (posP t.data.toList : Nat)) ∧ Below w.heap.size w w' := by
  cases hp : Lib.parseUintB 64 t.data.toList with
  | ok u =>
    have hpu := Tryz.strconv_ParseUint_10_at64_ok t (by omega) u hp
    obtain ⟨hne, hpos⟩ := pos_ok hp
    have hu := Lib.parseUintB_le hp
    have h0 : 0 < t.size := by
      cases h : t.data.toList with
      | nil => exact absurd h hne
      | cons c r =>
        have := congrArg List.length h
        simp at this
        omega
    have hd : t.data.toList.head? = some t[0] := by
      rw [List.head?_eq_getElem?, List.getElem?_eq_getElem (by simpa using h0)]
      rfl
    rw [hpos, hd]
    clear hpos hp hne hd
    have hwr : u ≤ 9999 → IntKind.i64.wrap (u : Int) = (u : Int) := fun h => by rw [IntKind.wrap_i64]; omega
    by_cases h9 : 9999 < u
    · have h9i : (9999 : Int) < (u : Int) := by omega
      rw [if_pos (.inl h9)]
      clear h9 hwr
      go_enter Tryz.func137, Tryz.ntmps137
      go_wp2_with fail
      refine (hpu _).mono ?_
      rintro e w1 ⟨rfl, hw⟩
      have hb : Below w.heap.size w w1 := by
        rcases hw with rfl | rfl
        · exact Below.refl _ _
        · exact Lib.bytesWorld_below _ _ _
      clear hw hpu
      go_wp2
      go_ret
      exact ⟨rfl, hb⟩
    · have h9i : ¬ (9999 : Int) < (u : Int) := by omega
      have hwu := hwr (by omega)
      cases h48 : (t[0] == 48) with
      | true =>
        have e48 : t[0] = 48 := by simpa using h48
        rw [if_pos (.inr (by rw [e48]))]
        clear h9 hwr
        go_enter Tryz.func137, Tryz.ntmps137
        go_wp2_with fail
        refine (hpu _).mono ?_
        rintro e w1 ⟨rfl, hw⟩
        have hb : Below w.heap.size w w1 := by
          rcases hw with rfl | rfl
          · exact Below.refl _ _
          · exact Lib.bytesWorld_below _ _ _
        clear hw hpu
        go_wp2
        go_ret
        exact ⟨rfl, hb⟩
      | false =>
        have e48 : t[0] ≠ 48 := by simpa using h48
        have hne : ((t[0].toNat : Int) == 48) = false := by
          rw [beq_eq_false_iff_ne]
          intro h
          exact e48 (UInt8.toNat_inj.1 (by show t[0].toNat = 48; omega))
        have hdec : decide ((9999 : Int) < (u : Int)) = false := decide_eq_false h9i
        rw [if_neg (by simp only [Option.some.injEq, not_or]; exact ⟨h9, e48⟩)]
        clear h9 hwr
        go_enter Tryz.func137, Tryz.ntmps137
        go_wp2_with fail
        refine (hpu _).mono ?_
        rintro e w1 ⟨rfl, hw⟩
        have hb : Below w.heap.size w w1 := by
          rcases hw with rfl | rfl
          · exact Below.refl _ _
          · exact Lib.bytesWorld_below _ _ _
        clear hw hpu
        go_wp2
        go_ret
        exact ⟨by rw [← hwu]; rfl, hb⟩
  | «syntax» =>
    have hz := pos_bad (t := t.data.toList) (by rw [hp]; intro u h; cases h)
    obtain ⟨ev, hv, hev⟩ := hG.1.es
    have hpu := Tryz.strconv_ParseUint_10_at64_syntax t (by omega) hp ev w hv hev
    rw [hz]
    clear hz hp
    go_enter Tryz.func137, Tryz.ntmps137
    go_wp2_with fail
    refine hpu.mono ?_
    rintro e w1 ⟨N, rfl, -, -, hb⟩
    go_wp2
    go_ret
    exact ⟨rfl, hb⟩
  | range =>
    have hz := pos_bad (t := t.data.toList) (by rw [hp]; intro u h; cases h)
    obtain ⟨ev, hv, hev⟩ := hG.1.er
    have hpu := Tryz.strconv_ParseUint_10_at64_range t (by omega) hp ev w hv hev
    rw [hz]
    clear hz hp
    go_enter Tryz.func137, Tryz.ntmps137
    go_wp2_with fail
    refine hpu.mono ?_
    rintro e w1 ⟨N, rfl, -, -, hb⟩
    go_wp2
    go_ret
    exact ⟨rfl, hb⟩
set_option maxHeartbeats 4000000 in
set_option maxRecDepth 100000 in
theorem cutName_any (s : ByteArray) (w : World) (hs : s.size ≤ 1000000000) (hG : GvS w) :
    Calls Tryz.prog 118 #[.string s] w fun e w' => e = .returned (.tuple #[.string (mkT (headP s.data.toList).1), .string (mkT (headP s.data.toList).2)]) ∧ Below w.heap.size w w' := by
  obtain ⟨h1, h2⟩ := head_cut s.data.toList
  have k1 := cut1_any s 91 w hs hG
  rw [h1] at k1
  have hl : (mkT (headP s.data.toList).1).size ≤ s.size := by
    rw [mkT_size]
    have := (headP_len s.data.toList).1
    simpa using this
  have he : s.extract (mkT (headP s.data.toList).1).size s.size = mkT (headP s.data.toList).2 := by
    rw [mkT_size, ← h2, ← ext_drop]
    exact (to_list _).symm
  rw [← he]
  clear h1 h2 he
  generalize (Lib.cut s.data.toList [91]).2.1 = Q at *
  generalize (Lib.cut s.data.toList [91]).2.2 = b at *
  generalize mkT (headP s.data.toList).1 = P at *
  have hl2 : (P.size : Int) ≤ (s.size : Int) := by omega
  go_enter Tryz.func118, Tryz.ntmps118
  go_wp2_with fail
  refine k1.mono ?_
  rintro e w1 ⟨rfl, hb⟩
  clear k1
  go_wp2
  go_region
  go_wp2
  go_ret2
  exact ⟨rfl, hb.drew⟩
set_option maxHeartbeats 4000000 in
set_option maxRecDepth 100000 in
theorem cutPos_any (s : ByteArray) (w : World) (hs : s.size ≤ 1000000) (hG : GvS w) :
    Calls Tryz.prog 119 #[.string s] w fun e w' => e = .returned (.tuple #[.int .i64 ((cposP s.data.toList).1 : Nat), .string (mkT (cposP s.data.toList).2)]) ∧ Below w.heap.size w w' := by
  obtain ⟨b1, h1⟩ : ∃ b, Lib.hasPrefix s.data.toList [91] = b := ⟨_, rfl⟩
  obtain ⟨P, R, b2, h2⟩ : ∃ P R b, Lib.cut (Lib.trimPrefix s.data.toList [91]) [93] = (P, R, b) := ⟨_, _, _, rfl⟩
  obtain ⟨n, h3⟩ : ∃ n, posP P = n := ⟨_, rfl⟩
  have hn9 : n ≤ 9999 := by rw [← h3]; exact posP_le P
  have hL := cpos_let h1 h2 h3
  have ll := trimP_le s.data.toList [91]
  have l1 := cut_le (Lib.trimPrefix s.data.toList [91]) 93
  rw [h2] at l1
  have hsl : s.data.toList.length = s.size := by simp
  have hsm : mkT s.data.toList = s := to_list s
  have k1 := cutP_any s ⟨#[91]⟩
  have ek : (⟨#[91]⟩ : ByteArray).data.toList = [91] := rfl
  rw [ek, h1] at k1
  obtain ⟨T, hT⟩ : ∃ T, Lib.trimPrefix s.data.toList [91] = T := ⟨_, rfl⟩
  rw [hT] at k1 l1 h2 ll
  have k2 := cut1_any (mkT T) 93 w (by rw [mkT_size]; omega) hG
  rw [mkT_list, h2] at k2
  have k3 := fun v hv => position_any (mkT P) v (by rw [mkT_size]; simp only at l1; omega) hv
  rw [mkT_list, h3] at k3
  simp only at k2
  obtain ⟨o, ho⟩ : ∃ o, cposP s.data.toList = o := ⟨_, rfl⟩
  rw [ho]
  rw [ho] at hL
  clear h1 h2 h3 l1 ll hsl hT ek ho
  generalize s.data.toList = sl at *
  have K3 := Lib.hid k3
  have hc : b1 = false ∨ (b1 = true ∧ b2 = false) ∨ (b1 = true ∧ b2 = true ∧ n = 0) ∨ (b1 = true ∧ b2 = true ∧ n ≠ 0) := by
    cases b1 <;> cases b2 <;> simp <;> omega
  rcases hc with rfl | ⟨rfl, rfl⟩ | ⟨rfl, rfl, rfl⟩ | ⟨rfl, rfl, hn⟩
  all_goals
    clear k3
    go_enter Tryz.func119, Tryz.ntmps119
    go_wp2_with fail
    refine (k1 _).mono ?_
    rintro e w1 ⟨rfl, rfl⟩
    go_wp2_with fail
    refine k2.mono ?_
    rintro e w2 ⟨rfl, hb2⟩
    go_wp2_with fail
    refine (K3.out _ (hG.next hb2)).mono ?_
    rintro e w3 ⟨rfl, hb3⟩
    have HB3 := Lib.hid (hb2.trans (hb3.mono hb2.size))
    clear hb2 hb3 k1 k2 K3 hG
  · obtain rfl : o = (0, sl) := by simpa using hL
    go_wp2
    go_ret2
    exact ⟨by rw [← hsm]; rfl, HB3.out⟩
  · obtain rfl : o = (0, sl) := by simpa using hL
    go_wp2
    go_ret2
    exact ⟨by rw [← hsm]; rfl, HB3.out⟩
  · obtain rfl : o = (0, sl) := by simpa using hL
    go_wp2
    go_ret2
    exact ⟨by rw [← hsm]; rfl, HB3.out⟩
  · obtain rfl : o = (n, R) := by simpa [hn] using hL
    have hn0 : ((n : Int) == 0) = false := by rw [beq_eq_false_iff_ne]; omega
    clear hL
    go_wp2
    go_ret2
    exact ⟨rfl, HB3.out⟩
end Go.Proofs.YtbeglliabpflpaaGreatDoor
