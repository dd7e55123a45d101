/- UfA. -/
import Derived.Test.YtbdamneophbnnaaGreatDoorCZ30
namespace Go.Proofs.YtbdamneophbnnaaGreatDoor
open Go.RowKit Wb
theorem upc_of {w : World} (hG : GvS w) (s : ByteArray) (v : World) (hv : Below w.heap.size w v) (hs : s.size ≤ 1000000) : Calls Tryz.prog 7 #[.string s] v (UriOut (uri11 s.data.toList) v) := uparse_any s v hs (hG.next hv)
theorem urc_of {w : World} (hG : GvS w) (x : WhV) (A : Option Addr) (ca : Nat) (C : Option Addr) (cc : Nat) (v : World) (hv : Below w.heap.size w v) (hA : Sl9 v A x.steps) (hl : SzOK x.steps) (hu : x.user.size ≤ 1000000) (hd : x.doc.size ≤ 1000000) :
    Calls Tryz.prog 13 #[whV x A ca C cc] v (P11Out (prt11 x) v) := by
  obtain ⟨u, us, d, nd, l, r, m⟩ := x
  exact uprint_any u us d r nd A C l m ca cc v hA hl hu hd (hG.next hv)
set_option maxHeartbeats 4000000 in
set_option maxRecDepth 100000 in
theorem rspace2_any (u : ByteArray) (w : World) :
    Calls Tryz.prog 11 #[.string u] w fun e w' => e = .returned (.string ⟨(spc11 u.data.toList).toArray⟩) ∧ w = w' := by
  by_cases h : u.data.toList ∈ usg11
  · have := (spc_len h).2
    exact rspace_any u w (by have e : u.data.toList.length = u.size := (by simp); omega)
  · obtain ⟨o, ho⟩ : ∃ o : ByteArray, ⟨(spc11 u.data.toList).toArray⟩ = o := ⟨_, rfl⟩
    rw [ho]
    unfold spc11 at ho
    rw [if_neg h] at ho
    subst ho
    rw [usg_in] at h
    have h1 : ¬ u = ⟨#[114, 101, 115, 111, 117, 114, 99, 101, 45, 108, 105, 115, 116, 115]⟩ := fun e => h (.inl e)
    have b1 : (u.toList == [114, 101, 115, 111, 117, 114, 99, 101, 45, 108, 105, 115, 116, 115]) = false := (lit_of u _ _ rfl).trans (eqT_false.2 h1)
    have h2 : ¬ u = ⟨#[114, 108, 115, 45, 115, 101, 114, 118, 105, 99, 101, 115]⟩ := fun e => h (.inr (.inl e))
    have b2 : (u.toList == [114, 108, 115, 45, 115, 101, 114, 118, 105, 99, 101, 115]) = false := (lit_of u _ _ rfl).trans (eqT_false.2 h2)
    have h3 : ¬ u = ⟨#[112, 114, 101, 115, 45, 114, 117, 108, 101, 115]⟩ := fun e => h (.inr (.inr (.inl e)))
    have b3 : (u.toList == [112, 114, 101, 115, 45, 114, 117, 108, 101, 115]) = false := (lit_of u _ _ rfl).trans (eqT_false.2 h3)
    have h4 : ¬ u = ⟨#[120, 99, 97, 112, 45, 99, 97, 112, 115]⟩ := fun e => h (.inr (.inr (.inr e)))
    have b4 : (u.toList == [120, 99, 97, 112, 45, 99, 97, 112, 115]) = false := (lit_of u _ _ rfl).trans (eqT_false.2 h4)
    clear h
    go_enter Tryz.func11, Tryz.ntmps11
    go_wp2
    go_ret
    exact ⟨rfl, rfl⟩
def awB1 : ByteArray := ⟨(List.append [47, 114, 101, 115, 111, 117, 114, 99, 101, 45, 108, 105, 115, 116, 115, 47, 117, 115, 101, 114, 115, 47, 115, 105, 112, 58, 97, 64, 120, 47, 105, 110] [100, 101, 120, 47, 126, 126, 47, 114, 101, 115, 111, 117, 114, 99, 101, 45, 108, 105, 115, 116, 115, 47, 108, 105, 115, 116, 37, 53, 98, 49, 37, 53, 100]).toArray⟩
theorem awB1_is : awB1.data.toList = awS1 := by kernel_rfl
set_option maxRecDepth 100000 in
set_option maxHeartbeats 8000000 in
theorem awake11 (w : World) (hG : GvS w) : Calls Tryz.prog 6 #[] w fun e w' => e = .returned (.bool true) ∧ Below w.heap.size w w' := by
  have h1 := upc_of hG awB1 w (Below.refl _ _) (by decide +kernel)
  rw [awB1_is, awU1] at h1
  have h2 := fun (v : World) (hb : Below w.heap.size w v) => upc_of hG (⟨#[47, 120, 47, 117, 115, 101, 114, 115, 47, 97, 47, 98]⟩ : ByteArray) v hb (by decide)
  rw [show (⟨#[47, 120, 47, 117, 115, 101, 114, 115, 47, 97, 47, 98]⟩ : ByteArray).data.toList = [47, 120, 47, 117, 115, 101, 114, 115, 47, 97, 47, 98] from rfl, awU2] at h2
  have h3 := fun (v : World) (hb : Below w.heap.size w v) => urc_of hG ⟨⟨#[112, 114, 101, 115, 45, 114, 117, 108, 101, 115]⟩, ⟨#[]⟩, ⟨#[105, 110, 100, 101, 120]⟩, false, [], ⟨#[]⟩, []⟩ none 0 none 0 v hb (Sl.nil _ 9 _) SzOK.nil (by decide) (by decide)
  rw [awU3] at h3
  unfold whV P11Out P11V at h3
  simp only [List.length_nil] at h3
  have H2 := Lib.hid h2
  have H3 := Lib.hid h3
  clear h2 h3 hG
  unfold awB1 at h1
  go_enter Tryz.func6, Tryz.ntmps6
  go_wp2_with fail
  refine h1.mono ?_
  rintro e w1 ⟨hb1, -, he⟩
  obtain ⟨A, ca, C, cc, rfl, hA, hC⟩ := he _ rfl
  have HA1 := Lib.hid hA
  clear he hA hC h1
  unfold whV
  have hx2 := OwnB.new #[.string awW1.usage, .string awW1.user, .string awW1.doc, .bool awW1.node, .slice A awW1.steps.length ca, .string awW1.raw, .slice C awW1.binds.length cc] 26 hb1
  have hb2 := hb1.alloc hb1.size (.cells #[.string awW1.usage, .string awW1.user, .string awW1.doc, .bool awW1.node, .slice A awW1.steps.length ca, .string awW1.raw, .slice C awW1.binds.length cc] 26)
  have HA2 := Lib.hid (Sl9.below HA1.out ((Below.refl w1.heap.size w1).alloc (Nat.le_refl _) (.cells #[.string awW1.usage, .string awW1.user, .string awW1.doc, .bool awW1.node, .slice A awW1.steps.length ca, .string awW1.raw, .slice C awW1.binds.length cc] 26)))
  clear HA1 hb1
  go_upto_region 2 with fail
  generalize w1.alloc (.cells #[.string awW1.usage, .string awW1.user, .string awW1.doc, .bool awW1.node, .slice A awW1.steps.length ca, .string awW1.raw, .slice C awW1.binds.length cc] 26) = w2 at *
  generalize w1.heap.size = g1 at *
  go_wp2_with fail
  refine (H2.out _ hb2).mono ?_
  rintro e w3 ⟨hbx, he, -⟩
  obtain rfl := he _ rfl
  have hx3 := (hx2.next hbx).alloc (.cells #[.string ⟨#[]⟩, .string ⟨#[]⟩, .string ⟨#[]⟩, .bool false, .slice none 0 0, .string ⟨#[]⟩, .slice none 0 0] 26)
  have hb3a := hb2.trans (hbx.mono hb2.size)
  have hb3 := hb3a.alloc hb3a.size (.cells #[.string ⟨#[]⟩, .string ⟨#[]⟩, .string ⟨#[]⟩, .bool false, .slice none 0 0, .string ⟨#[]⟩, .slice none 0 0] 26)
  have HA3 := Lib.hid (Sl9.below (Sl9.below HA2.out hbx) ((Below.refl w3.heap.size w3).alloc (Nat.le_refl _) (.cells #[.string ⟨#[]⟩, .string ⟨#[]⟩, .string ⟨#[]⟩, .bool false, .slice none 0 0, .string ⟨#[]⟩, .slice none 0 0] 26)))
  clear HA2 hb2 hx2 hbx he hb3a H2
  go_upto_region 3 with fail
  generalize w3.alloc (.cells #[.string ⟨#[]⟩, .string ⟨#[]⟩, .string ⟨#[]⟩, .bool false, .slice none 0 0, .string ⟨#[]⟩, .slice none 0 0] 26) = w4 at *
  go_wp2_with fail
  refine (H3.out _ hb3).mono ?_
  rintro e w5 ⟨rfl, hbx⟩
  have hx5 := hx3.next hbx
  have HB5 := Lib.hid (hb3.trans (hbx.mono hb3.size))
  have hA5 := HA3.out.below hbx
  obtain ⟨ad, rfl, -, c10, c1j⟩ := Sl9.at_ hA5 (k := 1) (x := ⟨1, false, (awSp, ⟨#[108, 105, 115, 116]⟩), 1, false, nE, sE⟩) rfl
  have x1 : w5.cell? ⟨g1, 1, none⟩ = some (.string ⟨#[115, 105, 112, 58, 97, 64, 120]⟩) := hx5.cell 1
  have x2 : w5.cell? ⟨g1, 2, none⟩ = some (.string ⟨#[105, 110, 100, 101, 120]⟩) := hx5.cell 2
  have x4 : w5.cell? ⟨g1, 4, none⟩ = some (.slice (some ad) 2 ca) := hx5.cell 4
  have g4 : w5.cell? ⟨ad.block, ad.off + 9 + 4, none⟩ = some (.int .i64 1) := c1j 4 _ (by omega) rfl
  clear hx5 hA5 HA3 hbx hb3 hx3 H3 c10 c1j
  go_wp2
  go_ret
  exact ⟨rfl, HB5.out⟩
end Go.Proofs.YtbdamneophbnnaaGreatDoor
