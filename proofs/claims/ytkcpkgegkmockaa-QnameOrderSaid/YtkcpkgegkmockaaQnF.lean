
/- Contracts: extend; Add on both sides. -/
import Derived.Test.YtkcpkgegkmockaaQnE
namespace Go.Proofs.Ytkcpkgegkmockaa
open Go.RowKit Wb

theorem bind_info : (Try.prog.info? 35).map (fun i => (i.zero, i.size, i.bytes)) = some (some (.agg #[.string ⟨#[]⟩, .string ⟨#[]⟩]), 2, 32) := by kernel_rfl

/-- It lies in a block from B on. -/
def Fresh (B : Nat) (A : Option Addr) : Prop := ∀ ad, A = some ad → B ≤ ad.block
theorem Fresh.mono {B B' : Nat} {A : Option Addr} (h : Fresh B A) (hB : B' ≤ B) : Fresh B' A := fun ad e => Nat.le_trans hB (h ad e)

/-- What an own row that reads as pairs is as a slice. -/
theorem own2 {w : World} {base n : Nat} {e : TypeId} {v : Value} {xs : List Value} (l : List Pr) (h : w.ownsRow base e 2 v n xs) (hn : n = l.length) (hx : xs = cells2 l) :
    ∃ A c, v = .slice A l.length c ∧ Sl2 w A l ∧ Fresh base A := by
  subst hn; subst hx
  obtain ⟨A, c, rfl⟩ := own_shape h
  refine ⟨A, c, rfl, Sl2.of_own h, fun ad e => ?_⟩
  subst e
  exact (h.lt ad.block rfl).1

set_option maxHeartbeats 1000000 in
set_option maxRecDepth 100000 in
theorem extend_any (A B : Option Addr) (l m : List Pr) (c d : Nat) (w : World) (hl : l.length ≤ 1000000) (hm : m.length ≤ 1000000) (hA : Sl2 w A l) (hB : Sl2 w B m) :
    Calls Try.prog 31 #[.slice A l.length c, .slice B m.length d] w fun e w' =>
      ∃ C k, e = .returned (.slice C (l ++ m).length k) ∧ Sl2 w' C (l ++ m) ∧ Fresh w.heap.size C ∧ Below w.heap.size w w' := by
  obtain ⟨i0, hi, hz0, hz1, hz2⟩ := info_parts bind_info
  go_enter Try.func31, Try.ntmps31
  go_wp2_with (at_make; refine wpList_make_own _ rfl _ _ 26 rfl w.heap.size 35 i0 _ 2 Try.underlying26 hi hz0 hz1 .i64 .i64 _ (l.length + m.length) rfl rfl ?b1 ?b2 ?b3 (Nat.le_refl _) ?_)
  case b1 => omega
  case b2 => rw [hz2]; omega
  case b3 => simp only [maxLen]; omega
  intro w1 hown1 hg1
  have hb1 : Below w.heap.size w w1 := (Below.refl _ _).grown hg1 (Nat.le_refl _) (by simp)
  go_wp2_with (first
    | (at_builtin; refine wpList_append_sl _ rfl (.tmp 12) (.tmp 13) _ rfl w.heap.size 35 i0 _ 2 32 Try.underlying26 hi hz0 hz1 hz2 rfl (by omega) _ 0 [] rfl hown1 A l.length c (cells2 l) rfl (hA.below hb1) (cells2_one l) (by simp only [maxLen]; omega) (by omega) hb1.size ?_; intro v2 w2 hown2 hg2 hat2; have hb2 : Below w.heap.size w w2 := hb1.grown hg2 hb1.size (fun k hk => (hown1.lt k hk).1))
    | (at_builtin; refine wpList_append_sl _ rfl (.tmp 14) (.tmp 15) _ rfl w.heap.size 35 i0 _ 2 32 Try.underlying26 hi hz0 hz1 hz2 rfl (by omega) _ _ _ rfl hown2 B m.length d (cells2 m) rfl (hB.below hb2) (cells2_one m) (by simp only [maxLen]; omega) (by omega) hb2.size ?_; intro v3 w3 hown3 hg3 hat3; have hb3 : Below w.heap.size w w3 := hb2.grown hg3 hb2.size (fun k hk => (hown2.lt k hk).1)))
  go_ret
  obtain ⟨C, k, rfl, hC, hF⟩ := own2 (l ++ m) hown3 (by simp) (by simp [cells2_append])
  exact ⟨C, k, rfl, hC, hF, hb3⟩

/-- What Add leaves: the scope with the binding behind it in memory of its own, or the error. -/
def AddPost (l : List Pr) (p s : ByteArray) (w : World) (e : Ending) (w' : World) : Prop :=
  Below w.heap.size w w' ∧ (∀ B, B = bindB p s → if B = 0 then ∃ C k, e = .returned (.tuple #[.slice C (l ++ [(p, s)]).length k, .int .i64 0]) ∧ Sl2 w' C (l ++ [(p, s)]) ∧ Fresh w.heap.size C
    else e = .returned (.tuple #[.slice none 0 0, .int .i64 B]))

theorem AddPost.ok {l : List Pr} {p s : ByteArray} {w w' : World} {C : Option Addr} {k : Nat} (h : bindB p s = 0) (hb : Below w.heap.size w w') (hC : Sl2 w' C (l ++ [(p, s)])) (hF : Fresh w.heap.size C) :
    AddPost l p s w (.returned (.tuple #[.slice C (l.length + 1) k, .int .i64 0])) w' := by
  refine ⟨hb, fun B hB => ?_⟩
  rw [if_pos (hB.trans h)]
  exact ⟨C, k, by simp, hC, hF⟩
theorem AddPost.bad {l : List Pr} {p s : ByteArray} {w w' : World} {b : Int} (h : bindB p s = b) (h0 : b ≠ 0) (hb : Below w.heap.size w w') :
    AddPost l p s w (.returned (.tuple #[.slice none 0 0, .int .i64 b])) w' := by
  refine ⟨hb, fun B hB => ?_⟩
  rw [if_neg (by rw [hB, h]; exact h0), hB, h]

set_option maxHeartbeats 1000000 in
theorem add_any (A : Option Addr) (l : List Pr) (c : Nat) (p s : ByteArray) (w : World) (hl : l.length ≤ 1000000) (hp : p.size ≤ 1000000000) (hA : Sl2 w A l) :
    Calls Try.prog 13 #[.slice A l.length c, .string p, .string s] w (AddPost l p s w) := by
  obtain ⟨b, hb0⟩ : ∃ b, bindB p s = b := ⟨_, rfl⟩
  have HB := Lib.hid hb0
  clear hb0
  go_enter Try.func13, Try.ntmps13
  go_wp2_with fail
  refine (bind_any p s w hp).mono ?_
  rw [HB.out]
  rintro e w2 ⟨rfl, hb⟩
  by_cases h0 : b = 0
  · subst h0
    go_wp2_with fail
    refine (extend_any A (some ⟨w2.heap.size, 0, none⟩) l [(p, s)] c 1 _ hl (by simp) ((hA.below hb).alloc _) (Sl.lit w2 2 [.string p, .string s] _ 1 rfl)).mono ?_
    rintro e w3 ⟨C, k, rfl, hC, hF, hb3⟩
    have hF' : Fresh w.heap.size C := hF.mono (by have := hb.size; simp; omega)
    replace hb := hb.trans ((of_alloc hb3).mono hb.size)
    go_wp2
    go_ret2
    exact AddPost.ok HB.out hb hC hF'
  · have h1 : (b != 0) = true := by simpa using h0
    go_wp2
    go_ret2
    exact AddPost.bad HB.out h0 hb
theorem AddPost.okR {l : List Pr} {p s : ByteArray} {w w' : World} {C : Option Addr} {k : Nat} (h : bindB p s = 0) (hb : Below w.heap.size w w') (hC : Sl2 w' C (l ++ [(p, s)])) (hF : Fresh w.heap.size C) :
    AddPost l p s w (.returned (.tuple #[.slice C (l ++ [(p, s)]).length k, .int .i64 0])) w' := by
  have := AddPost.ok (k := k) h hb hC hF
  simpa using this

set_option maxHeartbeats 4000000 in
set_option maxRecDepth 100000 in
theorem radd_any (A : Option Addr) (l : List Pr) (c : Nat) (p s : ByteArray) (w : World) (hl : l.length ≤ 1000000) (hp : p.size ≤ 1000000000) (hA : Sl2 w A l) :
    Calls Try.prog 14 #[.slice A l.length c, .string p, .string s] w (AddPost l p s w) := by
  have t1 : (p.toList == [120, 109, 108, 110, 115]) = eqT p sXmlns := lit_of p sXmlns _ rfl
  have t2 : (p.toList == [120, 109, 108]) = eqT p sXml := lit_of p sXml _ rfl
  have t3 : (s.toList == [104, 116, 116, 112, 58, 47, 47, 119, 119, 119, 46, 119, 51, 46, 111, 114, 103, 47, 88, 77, 76, 47, 49, 57, 57, 56, 47, 110, 97, 109, 101, 115, 112, 97, 99, 101]) = eqT s sXML := lit_of s sXML _ rfl
  have t4 : (s.toList == [104, 116, 116, 112, 58, 47, 47, 119, 119, 119, 46, 119, 51, 46, 111, 114, 103, 47, 50, 48, 48, 48, 47, 120, 109, 108, 110, 115, 47]) = eqT s sXMLNS := lit_of s sXMLNS _ rfl
  obtain ⟨b1, k1⟩ : ∃ b, eqT p sXmlns = b := ⟨_, rfl⟩
  obtain ⟨b2, k2⟩ : ∃ b, eqT p sXml = b := ⟨_, rfl⟩
  obtain ⟨b3, k3⟩ : ∃ b, eqT s sXML = b := ⟨_, rfl⟩
  obtain ⟨b4, k4⟩ : ∃ b, eqT s sXMLNS = b := ⟨_, rfl⟩
  obtain ⟨n, hn⟩ : ∃ b, nameB p.data.toList = b := ⟨_, rfl⟩
  obtain ⟨e1, h1⟩ : ∃ b, eqT p sE = b := ⟨_, rfl⟩
  obtain ⟨e5, h5⟩ : ∃ b, eqT s sE = b := ⟨_, rfl⟩
  have HB := Lib.hid (bind_fact p s h1 hn k1 k2 k3 k4 h5)
  have z1 : e1 = true → b1 = false ∧ b2 = false := by
    rintro rfl
    have := eqT_nil p h1
    subst this
    exact ⟨k1.symm.trans (eqT_false.2 (by decide)), k2.symm.trans (eqT_false.2 (by decide))⟩
  have z2 : e5 = true → b3 = false ∧ b4 = false := by
    rintro rfl
    have := eqT_nil s h5
    subst this
    exact ⟨k3.symm.trans (eqT_false.2 (by decide)), k4.symm.trans (eqT_false.2 (by decide))⟩
  have z3 : b3 = false ∨ b4 = false := by
    cases hb3 : b3
    · left; rfl
    · right
      rw [hb3] at k3
      rw [← k4, (eqT_iff _ _).1 k3]
      exact eqT_false.2 sXML_ne
  rw [k1] at t1; rw [k2] at t2; rw [k3] at t3; rw [k4] at t4
  clear k1 k2 k3 k4
  have HN := Lib.hid hn
  clear hn
  obtain ⟨i0, hi, hz0, hz1, hz2⟩ := info_parts bind_info
  cases e1
  · have hp0 := ne_nil p h1
    have hp1 := ne_empty p h1
    clear h1 z1
    go_enter Try.func14, Try.ntmps14
    go_wp2_with fail
    refine (rname_any _ _ hp).mono ?_
    rw [HN.out]
    rintro e w3 ⟨rfl, hb⟩
    cases n
    · go_wp2
      go_ret2
      exact AddPost.bad HB.out (by decide) hb
    · cases e5
      · have hs0 := ne_nil s h5
        have hs1 := ne_empty s h5
        clear h5 z2
        rcases z3 with rfl | rfl
        · cases b1 <;> cases b2 <;> cases b4 <;> (
            have e0 : World.ownsRow (w3.alloc (.cells #[] 35)) w.heap.size 35 2 (.slice (some ⟨w3.heap.size, 0, none⟩) 0 0) 0 [] := World.ownsRow_lit w3 #[] 0 hb.size (Nat.zero_le _) rfl
            go_wp2_with (first
              | (at_builtin; refine wpList_append_sl _ rfl (.tmp 36) (.tmp 37) _ rfl w.heap.size 35 i0 _ 2 32 Try.underlying26 hi hz0 hz1 hz2 rfl (by omega) _ 0 [] rfl e0 A l.length c (cells2 l) rfl ((hA.below hb).alloc _) (cells2_one l) (by simp only [maxLen]; omega) (by omega) (hb.alloc hb.size _).size ?_; intro v2 w4 hown2 hg2 hat2; have hb2 : Below w.heap.size w w4 := (hb.alloc hb.size _).grown hg2 (hb.alloc hb.size _).size (fun k hk => (e0.lt k hk).1); clear hg2 hat2 e0)
              | (at_builtin; refine wpList_append_sl _ rfl (.tmp 38) (.tmp 42) _ rfl w.heap.size 35 i0 _ 2 32 Try.underlying26 hi hz0 hz1 hz2 rfl (by omega) v2 (0 + l.length) ([] ++ cells2 l) rfl (hown2.alloc _) (some ⟨w4.heap.size, 0, none⟩) 1 1 [.string p, .string s] rfl (Sl.lit w4 2 [.string p, .string s] _ 1 rfl) (cells2_one [(p, s)]) (by simp only [maxLen]; omega) (by omega) (hb2.alloc hb2.size _).size ?_; intro v3 w5 hown3 hg3 hat3; have hb3 : Below w.heap.size w w5 := (hb2.alloc hb2.size _).grown hg3 (hb2.alloc hb2.size _).size (fun k hk => (hown2.lt k hk).1)))
            go_ret2
            first
              | exact AddPost.bad HB.out (by decide) hb
              | (obtain ⟨C, k, rfl, hC, hF⟩ := own2 (l ++ [(p, s)]) hown3 (by simp) (by simp [cells2])
                 exact AddPost.okR HB.out hb3 hC hF))
        · cases b1 <;> cases b2 <;> cases b3 <;> (
            have e0 : World.ownsRow (w3.alloc (.cells #[] 35)) w.heap.size 35 2 (.slice (some ⟨w3.heap.size, 0, none⟩) 0 0) 0 [] := World.ownsRow_lit w3 #[] 0 hb.size (Nat.zero_le _) rfl
            go_wp2_with (first
              | (at_builtin; refine wpList_append_sl _ rfl (.tmp 36) (.tmp 37) _ rfl w.heap.size 35 i0 _ 2 32 Try.underlying26 hi hz0 hz1 hz2 rfl (by omega) _ 0 [] rfl e0 A l.length c (cells2 l) rfl ((hA.below hb).alloc _) (cells2_one l) (by simp only [maxLen]; omega) (by omega) (hb.alloc hb.size _).size ?_; intro v2 w4 hown2 hg2 hat2; have hb2 : Below w.heap.size w w4 := (hb.alloc hb.size _).grown hg2 (hb.alloc hb.size _).size (fun k hk => (e0.lt k hk).1); clear hg2 hat2 e0)
              | (at_builtin; refine wpList_append_sl _ rfl (.tmp 38) (.tmp 42) _ rfl w.heap.size 35 i0 _ 2 32 Try.underlying26 hi hz0 hz1 hz2 rfl (by omega) v2 (0 + l.length) ([] ++ cells2 l) rfl (hown2.alloc _) (some ⟨w4.heap.size, 0, none⟩) 1 1 [.string p, .string s] rfl (Sl.lit w4 2 [.string p, .string s] _ 1 rfl) (cells2_one [(p, s)]) (by simp only [maxLen]; omega) (by omega) (hb2.alloc hb2.size _).size ?_; intro v3 w5 hown3 hg3 hat3; have hb3 : Below w.heap.size w w5 := (hb2.alloc hb2.size _).grown hg3 (hb2.alloc hb2.size _).size (fun k hk => (hown2.lt k hk).1)))
            go_ret2
            first
              | exact AddPost.bad HB.out (by decide) hb
              | (obtain ⟨C, k, rfl, hC, hF⟩ := own2 (l ++ [(p, s)]) hown3 (by simp) (by simp [cells2])
                 exact AddPost.okR HB.out hb3 hC hF))
      · have hs0 := nil_of s h5
        clear h5 t3 t4
        obtain ⟨rfl, rfl⟩ := z2 rfl
        cases b1 <;> cases b2 <;> (go_wp2; go_ret2; exact AddPost.bad HB.out (by decide) hb)
  · have hp0 := nil_of p h1
    clear h1 t1 t2
    obtain ⟨rfl, rfl⟩ := z1 rfl
    have hb : Below w.heap.size w w := Below.refl _ _
    cases e5
    · have hs0 := ne_nil s h5
      have hs1 := ne_empty s h5
      clear h5 z2 z1
      rcases z3 with rfl | rfl
      · cases b4 <;> (
          go_enter Try.func14, Try.ntmps14
          have e0 : World.ownsRow (w.alloc (.cells #[] 35)) w.heap.size 35 2 (.slice (some ⟨w.heap.size, 0, none⟩) 0 0) 0 [] := World.ownsRow_lit w #[] 0 hb.size (Nat.zero_le _) rfl
          go_wp2_with (first
            | (at_builtin; refine wpList_append_sl _ rfl (.tmp 36) (.tmp 37) _ rfl w.heap.size 35 i0 _ 2 32 Try.underlying26 hi hz0 hz1 hz2 rfl (by omega) _ 0 [] rfl e0 A l.length c (cells2 l) rfl ((hA.below hb).alloc _) (cells2_one l) (by simp only [maxLen]; omega) (by omega) (hb.alloc hb.size _).size ?_; intro v2 w4 hown2 hg2 hat2; have hb2 : Below w.heap.size w w4 := (hb.alloc hb.size _).grown hg2 (hb.alloc hb.size _).size (fun k hk => (e0.lt k hk).1); clear hg2 hat2 e0)
            | (at_builtin; refine wpList_append_sl _ rfl (.tmp 38) (.tmp 42) _ rfl w.heap.size 35 i0 _ 2 32 Try.underlying26 hi hz0 hz1 hz2 rfl (by omega) v2 (0 + l.length) ([] ++ cells2 l) rfl (hown2.alloc _) (some ⟨w4.heap.size, 0, none⟩) 1 1 [.string p, .string s] rfl (Sl.lit w4 2 [.string p, .string s] _ 1 rfl) (cells2_one [(p, s)]) (by simp only [maxLen]; omega) (by omega) (hb2.alloc hb2.size _).size ?_; intro v3 w5 hown3 hg3 hat3; have hb3 : Below w.heap.size w w5 := (hb2.alloc hb2.size _).grown hg3 (hb2.alloc hb2.size _).size (fun k hk => (hown2.lt k hk).1)))
          go_ret2
          first
            | exact AddPost.bad HB.out (by decide) hb
            | (obtain ⟨C, k, rfl, hC, hF⟩ := own2 (l ++ [(p, s)]) hown3 (by simp) (by simp [cells2])
               exact AddPost.okR HB.out hb3 hC hF))
      · cases b3 <;> (
          go_enter Try.func14, Try.ntmps14
          have e0 : World.ownsRow (w.alloc (.cells #[] 35)) w.heap.size 35 2 (.slice (some ⟨w.heap.size, 0, none⟩) 0 0) 0 [] := World.ownsRow_lit w #[] 0 hb.size (Nat.zero_le _) rfl
          go_wp2_with (first
            | (at_builtin; refine wpList_append_sl _ rfl (.tmp 36) (.tmp 37) _ rfl w.heap.size 35 i0 _ 2 32 Try.underlying26 hi hz0 hz1 hz2 rfl (by omega) _ 0 [] rfl e0 A l.length c (cells2 l) rfl ((hA.below hb).alloc _) (cells2_one l) (by simp only [maxLen]; omega) (by omega) (hb.alloc hb.size _).size ?_; intro v2 w4 hown2 hg2 hat2; have hb2 : Below w.heap.size w w4 := (hb.alloc hb.size _).grown hg2 (hb.alloc hb.size _).size (fun k hk => (e0.lt k hk).1); clear hg2 hat2 e0)
            | (at_builtin; refine wpList_append_sl _ rfl (.tmp 38) (.tmp 42) _ rfl w.heap.size 35 i0 _ 2 32 Try.underlying26 hi hz0 hz1 hz2 rfl (by omega) v2 (0 + l.length) ([] ++ cells2 l) rfl (hown2.alloc _) (some ⟨w4.heap.size, 0, none⟩) 1 1 [.string p, .string s] rfl (Sl.lit w4 2 [.string p, .string s] _ 1 rfl) (cells2_one [(p, s)]) (by simp only [maxLen]; omega) (by omega) (hb2.alloc hb2.size _).size ?_; intro v3 w5 hown3 hg3 hat3; have hb3 : Below w.heap.size w w5 := (hb2.alloc hb2.size _).grown hg3 (hb2.alloc hb2.size _).size (fun k hk => (hown2.lt k hk).1)))
          go_ret2
          first
            | exact AddPost.bad HB.out (by decide) hb
            | (obtain ⟨C, k, rfl, hC, hF⟩ := own2 (l ++ [(p, s)]) hown3 (by simp) (by simp [cells2])
               exact AddPost.okR HB.out hb3 hC hF))
    · have hs0 := nil_of s h5
      clear h5 t3 t4 z1
      obtain ⟨rfl, rfl⟩ := z2 rfl
      go_enter Try.func14, Try.ntmps14
      have e0 : World.ownsRow (w.alloc (.cells #[] 35)) w.heap.size 35 2 (.slice (some ⟨w.heap.size, 0, none⟩) 0 0) 0 [] := World.ownsRow_lit w #[] 0 hb.size (Nat.zero_le _) rfl
      go_wp2_with (first
        | (at_builtin; refine wpList_append_sl _ rfl (.tmp 36) (.tmp 37) _ rfl w.heap.size 35 i0 _ 2 32 Try.underlying26 hi hz0 hz1 hz2 rfl (by omega) _ 0 [] rfl e0 A l.length c (cells2 l) rfl ((hA.below hb).alloc _) (cells2_one l) (by simp only [maxLen]; omega) (by omega) (hb.alloc hb.size _).size ?_; intro v2 w4 hown2 hg2 hat2; have hb2 : Below w.heap.size w w4 := (hb.alloc hb.size _).grown hg2 (hb.alloc hb.size _).size (fun k hk => (e0.lt k hk).1); clear hg2 hat2 e0)
        | (at_builtin; refine wpList_append_sl _ rfl (.tmp 38) (.tmp 42) _ rfl w.heap.size 35 i0 _ 2 32 Try.underlying26 hi hz0 hz1 hz2 rfl (by omega) v2 (0 + l.length) ([] ++ cells2 l) rfl (hown2.alloc _) (some ⟨w4.heap.size, 0, none⟩) 1 1 [.string p, .string s] rfl (Sl.lit w4 2 [.string p, .string s] _ 1 rfl) (cells2_one [(p, s)]) (by simp only [maxLen]; omega) (by omega) (hb2.alloc hb2.size _).size ?_; intro v3 w5 hown3 hg3 hat3; have hb3 : Below w.heap.size w w5 := (hb2.alloc hb2.size _).grown hg3 (hb2.alloc hb2.size _).size (fun k hk => (hown2.lt k hk).1)))
      go_ret2
      first
        | exact AddPost.bad HB.out (by decide) hb
        | (obtain ⟨C, k, rfl, hC, hF⟩ := own2 (l ++ [(p, s)]) hown3 (by simp) (by simp [cells2])
           exact AddPost.okR HB.out hb3 hC hF)
end Go.Proofs.Ytkcpkgegkmockaa
