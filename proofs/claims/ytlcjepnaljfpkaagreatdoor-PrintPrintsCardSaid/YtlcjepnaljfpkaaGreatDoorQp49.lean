/- PrT SpH PrN SmZ. -/
import Derived.Test.YtlcjepnaljfpkaaGreatDoorQp20
import Derived.Test.YtlcjepnaljfpkaaGreatDoorQp33
import Derived.Test.YtlcjepnaljfpkaaGreatDoorQp38
import Derived.Test.YtlcjepnaljfpkaaGreatDoorQp41
import Derived.Test.YtlcjepnaljfpkaaGreatDoorQp44
import Derived.Test.YtlcjepnaljfpkaaGreatDoorQp46
import Derived.Test.YtlcjepnaljfpkaaGreatDoorQp48
namespace Wb
def printR (n : Nd) : List UInt8 × Int := if rightB n = true then printX n else ([], 4)
end Wb
namespace Go.Proofs.YtlcjepnaljfpkaaGreatDoor
open Go.RowKit Wb
set_option maxRecDepth 100000 in
theorem Print_any (n : Nd) (A K : Option Addr) (ca ck : Nat) (w : World) (hsz : szN n) (hsm : smallN n) (hV : NodeV w n A K) :
    Calls Tryz.prog 14 #[ndV n A ca K ck] w fun e w' => e = .returned (.tuple #[.string ⟨(printR n).1.toArray⟩, .int .i64 (printR n).2]) ∧ Below w.heap.size w w' := by
  by_cases hr : rightB n = true
  · obtain ⟨h1, h2, h3⟩ := (rightB_iff n).1 hr
    have hp : printR n = printX n := if_pos hr
    rw [hp]
    exact Print_ok n A K ca ck w h2 h1 hsz h3 hsm hV
  · have hp : printR n = ([], 4) := if_neg hr
    rw [hp]
    have hb1 : Below w.heap.size w (w.alloc (.cells (ndCells n.kind n.name A n.attrs.length ca K n.kids.length ck n.text).toArray 37)) := (Below.refl _ w).alloc (Nat.le_refl _) _
    have hrb := Right_b n A K ca ck (w.alloc (.cells (ndCells n.kind n.name A n.attrs.length ca K n.kids.length ck n.text).toArray 37)) hsz hsm (NodeV.below hV hb1)
    have hrf : rightB n = false := by simpa using hr
    rw [hrf] at hrb
    have HB := Lib.hid hb1
    clear hr hrf hp hb1 hsz hsm hV
    unfold ndV ndCells at *
    have hsz2 : w.heap.size ≤ (w.alloc (.cells [Value.int .i64 n.kind, .string n.name.1, .string n.name.2, .slice A n.attrs.length ca, .slice K n.kids.length ck, .string n.text].toArray 37)).heap.size := by simp
    go_enter Tryz.func14, Tryz.ntmps14
    go_wp2_with fail
    refine hrb.mono ?_
    rintro e w1 ⟨rfl, hb1⟩
    have HB1 := Lib.hid (HB.out.trans (hb1.mono hsz2))
    clear hrb hb1
    go_wp2
    go_ret2
    exact ⟨rfl, HB1.out⟩
end Go.Proofs.YtlcjepnaljfpkaaGreatDoor
namespace Go.Proofs.YtlcjepnaljfpkaaGreatDoor
open Go.RowKit Wb
set_option maxRecDepth 100000 in
set_option maxHeartbeats 2000000 in
theorem rPrint_any (n : Nd) (A K : Option Addr) (ca ck : Nat) (w : World) (hsz : szN n) (hsm : smallN n) (hV : NodeV w n A K) :
    Calls Tryz.prog 15 #[ndV n A ca K ck] w fun e w' => e = .returned (.tuple #[.string ⟨(printR n).1.toArray⟩, .int .i64 (printR n).2]) ∧ Below w.heap.size w w' := by
  obtain ⟨q, hq⟩ : ∃ q, printR n = q := ⟨_, rfl⟩
  rw [hq]
  have HQ := Lib.hid hq
  clear hq
  have hb1 := (Below.refl w.heap.size w).alloc (Nat.le_refl _) (.cells #[.int .i64 n.kind, .string n.name.1, .string n.name.2, .slice A n.attrs.length ca, .slice K n.kids.length ck, .string n.text] 37)
  have HN := Lib.hid (heap_alloc_new w (.cells #[.int .i64 n.kind, .string n.name.1, .string n.name.2, .slice A n.attrs.length ca, .slice K n.kids.length ck, .string n.text] 37))
  have HV := Lib.hid (NodeV.below hV hb1)
  have HB := Lib.hid hb1
  have HSZ := Lib.hid hsz
  have HSM := Lib.hid hsm
  clear hb1 hV hsz hsm
  unfold ndV ndCells
  go_enter Tryz.func15, Tryz.ntmps15
  go_upto_region 1 with fail
  revert HN HV HB
  generalize w.alloc (.cells #[.int .i64 n.kind, .string n.name.1, .string n.name.2, .slice A n.attrs.length ca, .slice K n.kids.length ck, .string n.text] 37) = wz
  intro HN HV HB
  generalize hT : w.heap.size = T at *
  have HT := Lib.hid hT
  clear hT
  obtain ⟨n0, n1, n2, n3, n4, n5⟩ := cells_of_nd HN.out
  have hrr := rright_any n A K ca ck wz HV.out HSM.out HSZ.out
  unfold ndV ndCells at hrr
  by_cases hr : rightB n = true
  case neg =>
    have HP : Hid (q = ([], 4)) := Lib.hid (by rw [← HQ.out]; exact if_neg hr)
    rw [show rightB n = false from by simpa using hr] at hrr
    clear hr
    go_wp2_with fail
    refine hrr.mono ?_
    rintro e w2 ⟨rfl, hb2⟩
    have HB2 := Lib.hid hb2
    clear hrr hb2 n0 n1 n2 n3 n4 n5
    go_wp2
    go_ret2
    exact ⟨by rw [HP.out]; rfl, by rw [HT.out]; exact HB.out.trans (HB2.out.mono (by rw [← HT.out]; exact HB.out.size))⟩
  case pos =>
  obtain ⟨h1, h2, h3⟩ := (rightB_iff n).1 hr
  have hp : printR n = printX n := if_pos hr
  rw [hr] at hrr
  have hnd := fun (v : World) (hv : NodeV v n A K) => node_of n 1 ⟨#[]⟩ A K ca ck v h2 HSZ.out HSM.out h3 hv
  have hnl := nodeT_len n 1 ⟨#[]⟩ h2 HSZ.out
  obtain ⟨L, hL⟩ : ∃ L, nodeT n ⟨#[]⟩ = L := ⟨_, rfl⟩
  have hpx : printX n = if 32768 < L.length then ([], 3) else (L, 0) := by rw [← hL]; rfl
  rw [hL] at hnd hnl
  obtain ⟨S, hS⟩ : ∃ S : ByteArray, ByteArray.mk L.toArray = S := ⟨_, rfl⟩
  have hSz : S.size = L.length := by rw [← hS]; exact List.size_toArray
  rw [hS] at hnd
  unfold ndV ndCells at hnd
  have HND := Lib.hid hnd
  have HPX := Lib.hid (show q = if 32768 < L.length then ([], 3) else (L, 0) from by rw [← HQ.out, hp, hpx])
  have HS := Lib.hid hS
  have HZ := Lib.hid hSz
  clear hr hp h1 h2 hnd hpx hL hS hSz hnl
  go_wp2_with fail
  refine hrr.mono ?_
  rintro e w2 ⟨rfl, hb2⟩
  have HB2 := Lib.hid hb2
  clear hrr hb2 n0 n1 n2 n3 n4 n5
  obtain ⟨n0, n1, n2, n3, n4, n5⟩ := cells_of_nd (still_block HN.out HB2.out)
  go_wp2_with fail
  refine (HND.out _ (NodeV.below HV.out HB2.out)).mono ?_
  rintro e w3 ⟨rfl, hb3⟩
  have HB3 := Lib.hid (HB2.out.trans (hb3.mono HB2.out.size))
  clear hb3 n0 n1 n2 n3 n4 n5
  by_cases hl : 32768 < L.length
  · have hli : (32768 : Int) < (S.size : Int) := by have := HZ.out; omega
    have HQ3 : Hid (q = ([], 3)) := Lib.hid (by rw [HPX.out, if_pos hl])
    clear hl
    go_wp2
    go_ret2
    exact ⟨by rw [HQ3.out]; rfl, by rw [HT.out]; exact HB.out.trans (HB3.out.mono (by rw [← HT.out]; exact HB.out.size))⟩
  · have hli : ¬ (32768 : Int) < (S.size : Int) := by have := HZ.out; omega
    have HQ3 : Hid (q = (L, 0)) := Lib.hid (by rw [HPX.out, if_neg hl])
    clear hl
    go_wp2
    go_ret2
    exact ⟨by rw [HQ3.out, ← HS.out]; rfl, by rw [HT.out]; exact HB.out.trans (HB3.out.mono (by rw [← HT.out]; exact HB.out.size))⟩
end Go.Proofs.YtlcjepnaljfpkaaGreatDoor
namespace Go.Proofs.YtlcjepnaljfpkaaGreatDoor
open Go.RowKit Wb
theorem esc3 : (escL false (ByteArray.mk #[97, 60, 98]).data.toList) = [97, 38, 108, 116, 59, 98] := by rfl
theorem docP_lit : ((ByteArray.mk (docP.data.toList).toArray).toList == [60, 97, 32, 120, 109, 108, 110, 115, 61, 34, 117, 114, 110, 58, 120, 34, 32, 120, 109, 108, 110, 115, 58, 110, 49, 61, 34, 117, 114, 110, 58, 121, 34, 32, 110, 49, 58, 98, 61, 34, 49, 34, 47, 62]) = true := by
  rw [ByteArray.toList_eq]
  rfl
set_option maxRecDepth 100000 in
set_option maxHeartbeats 4000000 in
theorem awake5 (w : World) : Calls Tryz.prog 11 #[] w fun e w' => e = .returned (.bool true) ∧ Below w.heap.size w w' := by
  have hB2 : Below w.heap.size w ((w.alloc (.cells #[.string ⟨#[117, 114, 110, 58, 121]⟩, .string ⟨#[98]⟩, .string ⟨#[49]⟩] 66)).alloc (.cells #[.int .i64 1, .string ⟨#[117, 114, 110, 58, 120]⟩, .string ⟨#[97]⟩, .slice (some ⟨w.heap.size, 0, none⟩) 1 1, .slice none 0 0, .string ⟨#[]⟩] 37)) := ((Below.refl _ w).alloc (Nat.le_refl _) _).alloc (by simp) _
  have hsl : Sl3 (w.alloc (.cells #[.string ⟨#[117, 114, 110, 58, 121]⟩, .string ⟨#[98]⟩, .string ⟨#[49]⟩] 66)) (some ⟨w.heap.size, 0, none⟩) [((⟨#[117, 114, 110, 58, 121]⟩, ⟨#[98]⟩), ⟨#[49]⟩)] := Sl.lit w 3 [.string ⟨#[117, 114, 110, 58, 121]⟩, .string ⟨#[98]⟩, .string ⟨#[49]⟩] 66 1 rfl
  have hV : NodeV ((w.alloc (.cells #[.string ⟨#[117, 114, 110, 58, 121]⟩, .string ⟨#[98]⟩, .string ⟨#[49]⟩] 66)).alloc (.cells #[.int .i64 1, .string ⟨#[117, 114, 110, 58, 120]⟩, .string ⟨#[97]⟩, .slice (some ⟨w.heap.size, 0, none⟩) 1 1, .slice none 0 0, .string ⟨#[]⟩] 37)) treeP (some ⟨w.heap.size, 0, none⟩) none := ⟨Sl.alloc hsl _, .inl rfl⟩
  have h1 := Print_ok treeP (some ⟨w.heap.size, 0, none⟩) none 1 0 _ okP.1 rfl szP okP.2 smP hV
  rw [printP] at h1
  have H2 := Lib.hid (fun (v : World) => Print_not 0 (by decide) ⟨#[]⟩ ⟨#[]⟩ ⟨#[]⟩ none none 0 0 0 0 v)
  have H3 := Lib.hid (fun (v : World) => Escape_any ⟨#[97, 60, 98]⟩ false v (by decide))
  rw [esc3] at H3
  have HL := Lib.hid docP_lit
  have HB2 := Lib.hid hB2
  clear hB2 hsl hV
  unfold ndV ndCells treeP at h1
  simp only [Nd.kind, Nd.name, Nd.attrs, Nd.kids, Nd.text, List.length_cons, List.length_nil, sE] at h1
  have hl := HL.out
  generalize (ByteArray.mk (docP.data.toList).toArray) = dp at *
  go_enter Tryz.func11, Tryz.ntmps11
  go_wp2_with fail
  refine h1.mono ?_
  rintro e w3 ⟨rfl, hb3⟩
  have HB3 := Lib.hid (HB2.out.trans (hb3.mono HB2.out.size))
  clear h1 hb3 HB2
  go_wp2_with fail
  refine (H2.out _).mono ?_
  rintro e w4 ⟨rfl, hb4⟩
  have HB4 := Lib.hid (HB3.out.trans (hb4.mono HB3.out.size))
  clear H2 hb4 HB3
  go_wp2_with fail
  refine (H3.out _).mono ?_
  rintro e w5 ⟨rfl, hb5⟩
  have HB5 := Lib.hid (HB4.out.trans (hb5.mono HB4.out.size))
  clear H3 hb5 HB4
  go_wp2
  go_ret
  exact ⟨rfl, HB5.out⟩
end Go.Proofs.YtlcjepnaljfpkaaGreatDoor
namespace Wb
theorem attrs_mem {a : Tr} : ∀ {l : List Tr}, a ∈ l → attrS a ≤ attrsS l
  | x :: l, h => by
    have e : attrsS (x :: l) = attrS x + attrsS l := by simp [attrsS]
    rcases List.mem_cons.1 h with rfl | h
    · omega
    · have := attrs_mem h; omega
theorem few_sz (n : Nd) : ∀ m, m ≤ 1000000 → weighN n m ≤ m → szN n := by
  induction n using Nd.induct with
  | h n ih =>
    intro m hm h
    rw [weighN_is] at h
    have h3 := weighKs_ge n.kids m (weighAs m (headW m n) n.attrs)
    have h4 := attrs_few (m := m) n.attrs (headW m n) (by unfold headW; omega) (by omega)
    have h5 := (weighAs_le m n.attrs (headW m n)).1
    have h6 : 1 + n.text.size + n.name.1.size + n.name.2.size ≤ m := by
      have h5 : headW m n ≤ m := by omega
      unfold headW at h5
      omega
    have key : ∀ (ks : List Nd), (∀ k ∈ ks, ∀ m, m ≤ 1000000 → weighN k m ≤ m → szN k) → ∀ w, weighKs ks m w ≤ m → ∀ k ∈ ks, szN k := by
      intro ks
      induction ks with
      | nil => intro _ w _ k hk; cases hk
      | cons k ks ihk =>
        intro hk w h x hx
        unfold weighKs at h
        by_cases hw : w ≤ m
        · rw [if_pos hw] at h
          have h1 := weighKs_ge ks m (w + weighN k (m - w))
          rcases List.mem_cons.1 hx with rfl | hx
          · exact hk x (by simp) (m - w) (by omega) (by omega)
          · exact ihk (fun y hy => hk y (by simp [hy])) _ h x hx
        · rw [if_neg hw] at h
          omega
    have hks := key n.kids ih _ h
    have hat : ∀ a ∈ n.attrs, a.1.1.size ≤ 1000000 ∧ a.1.2.size ≤ 1000000 ∧ a.2.size ≤ 1000000 := fun a ha => by
      have h7 := attrs_mem ha
      have h8 : attrS a = a.1.1.size + a.1.2.size + a.2.size := rfl
      omega
    obtain ⟨k, nm, al, ks, t⟩ := n
    simp only [Nd.text, Nd.name, Nd.attrs, Nd.kids] at h6 hat hks
    unfold szN
    refine ⟨by omega, by omega, fun a ha => ?_, by omega, (szKs_iff ks).2 hks⟩
    have := hat a ha
    omega
end Wb
