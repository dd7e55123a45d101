import Derived.Test.YtjohfljkhlkjoaaGreatDoorProg
import Derived.Test.YtjohfljkhlkjoaaGreatDoorMgKi
import Derived.Test.YtjohfljkhlkjoaaGreatDoorMgP
import Derived.Test.YtjohfljkhlkjoaaGreatDoorTrF
import Derived.Test.YtjohfljkhlkjoaaGreatDoorMgU
import Derived.Laws.ComplexArith
import Derived.Laws.Cover2
import Derived.Laws.Cover3
namespace Go.Proofs.YtjohfljkhlkjoaaGreatDoor
open Go.RowKit Wb
def cst (a b : Nat) : Value := .complex .f64 (dbl a) (dbl b)
theorem cst_add (P : Program) {a b c d : Nat} (h1 : a + c < 2 ^ 53) (h2 : b + d < 2 ^ 53) (t : TypeId) (w : World) :
    (binOp .add t (cst a b) (cst c d)).run P w = .ok (cst (a + c) (b + d)) w := by
  refine run_complex_sum w .add (.inl rfl) t .f64 _ _ _ _ _ _ ?_
  unfold cSumBits floatBits
  show (Option.bind (Ieee.double.add (dbl a) (dbl c)) fun re => Option.bind (Ieee.double.add (dbl b) (dbl d)) fun im => some (re, im)) = _
  rw [add_dbl h1, add_dbl h2]
  rfl
theorem cst_zero : cst 0 0 = .complex .f64 0 0 := by unfold cst; rw [dbl_zero]
theorem dbl_one : dbl 1 = 4607182418800017408 := by decide +kernel
theorem cst_one : cst 1 0 = .complex .f64 4607182418800017408 0 := by unfold cst; rw [dbl_zero, dbl_one]
theorem cst_bytes (n : Nat) : (Value.complex .f64 0 (floatOfInt .f64 (n : Int))) = cst 0 n := by unfold cst; rw [dbl_zero]; rfl
def sumSz (l : List ByteArray) : Nat := (l.map ByteArray.size).sum
theorem sumSz_step {l : List ByteArray} {k : Nat} {s : ByteArray} (h : l[k]? = some s) : sumSz (l.take (k + 1)) = sumSz (l.take k) + s.size := by
  unfold sumSz
  rw [List.take_add_one, h]
  simp
theorem sumSz_le (l : List ByteArray) (k : Nat) : sumSz (l.take k) ≤ sumSz l := by
  unfold sumSz
  conv => rhs; rw [← List.take_append_drop k l]
  rw [List.map_append, List.sum_append]
  omega
def cells1 (l : List ByteArray) : List Value := l.map .string
set_option maxHeartbeats 1000000 in
theorem bytes_any (A : Option Addr) (l : List ByteArray) (c : Nat) (w : World) (hl : l.length ≤ 1000) (hs : sumSz l < 2 ^ 53) (hA : Sl w 1 A l.length (cells1 l)) :
    Calls Tryz.prog 108 #[.slice A l.length c] w fun e w' => e = .returned (cst 0 (sumSz l)) ∧ w = w' := by
  have H0 := Lib.hid cst_zero
  go_enter Tryz.func108, Tryz.ntmps108
  rw [← H0.out]
  go_wp2
  go_loop [3, 8] (fun vs vi => ∃ k : Nat, k ≤ l.length ∧ vi = .int .i64 k ∧ vs = cst 0 (sumSz (l.take k))) (fun _ vi => ((l.length : Int) - intOf vi).toNat)
  case atStart => exact ⟨0, by omega, rfl, rfl⟩
  case round =>
    obtain ⟨k, hk, rfl, rfl⟩ := hrel
    by_cases h0 : k < l.length
    · obtain ⟨s, he⟩ : ∃ s, l[k]? = some s := ⟨l[k], List.getElem?_eq_getElem h0⟩
      obtain ⟨ad, rfl, hb, hc⟩ := hA.2 (by omega)
      have hcell := hc k (.string s) (by unfold cells1; rw [List.getElem?_map, he]; rfl)
      have hst := sumSz_step he
      have hle := sumSz_le l (k + 1)
      have hadd : ∀ (t : TypeId) (w : World), (binOp .add t (cst 0 (sumSz (l.take k))) (.complex .f64 0 (floatOfInt .f64 (s.size : Int)))).run Tryz.prog w = .ok (cst 0 (sumSz (l.take (k + 1)))) w := fun t w => by
        rw [cst_bytes, cst_add Tryz.prog (by omega) (by omega), hst]
      clear hc hst hle he
      go_wp2_with (simp only [hadd])
      go_round
      case rel => exact ⟨k + 1, by omega, by go_num, rfl⟩
      case measure => simp [intOf]; omega
    · have : k = l.length := by omega
      subst this
      rw [List.take_length]
      go_wp2
      go_ret
      exact ⟨rfl, rfl⟩
end Go.Proofs.YtjohfljkhlkjoaaGreatDoor

namespace Go.Proofs.YtjohfljkhlkjoaaGreatDoor
open Go.RowKit Wb
theorem Sl1.built (w : World) (l : List ByteArray) (T : TypeId) : Sl (w.alloc (.cells (cells1 l).toArray T)) 1 (some ⟨w.heap.size, 0, none⟩) l.length (cells1 l) := by
  refine ⟨by simp [cells1], fun _ => ⟨_, rfl, by simp, fun j u hu => ?_⟩⟩
  have e : (⟨w.heap.size, 0, none⟩ : Addr).add j = ⟨w.heap.size, j, none⟩ := by unfold Addr.add; split <;> simp_all
  rw [e]
  have hj := (List.getElem?_eq_some_iff.1 hu).1
  have hblk : (w.alloc (.cells (cells1 l).toArray T)).heap[w.heap.size]? = some (.cells (cells1 l).toArray T (0, 0)) := by
    show (w.heap.push _)[w.heap.size]? = _
    simp
  simp only [World.cell?, hblk]
  simpa using hu
theorem attrsS_step {l : List Tr} {k : Nat} {x : Tr} (h : l[k]? = some x) : attrsS (l.take (k + 1)) = attrsS (l.take k) + (x.1.1.size + x.1.2.size + x.2.size) := by
  unfold attrsS
  rw [List.take_add_one, h]
  simp [attrS]
theorem attrsS_le (l : List Tr) (k : Nat) : attrsS (l.take k) ≤ attrsS l := by
  unfold attrsS
  conv => rhs; rw [← List.take_append_drop k l]
  rw [List.map_append, List.sum_append]
  omega
set_option maxHeartbeats 1000000 in
theorem own_any (n : Nd) (A K : Option Addr) (ca ck : Nat) (w : World) (hA : Sl3 w A n.attrs) (hl : n.attrs.length ≤ 1000000) (hb : ownB n < 2 ^ 52) :
    Calls Tryz.prog 66 #[ndV n A ca K ck] w fun e w' => e = .returned (cst 1 (ownB n)) ∧ Below w.heap.size w w' := by
  obtain ⟨kd, ⟨sp, lo⟩, al, ks, tx⟩ := n
  have H0 := Lib.hid cst_zero
  have H1 := Lib.hid cst_one
  by_cases hk : kd = 1
  · subst hk
    have ho : ownB (.mk 1 (sp, lo) al ks tx) = sp.size + lo.size + attrsS al := by unfold ownB; rw [if_pos (show (Nd.mk 1 (sp, lo) al ks tx).kind = 1 from rfl)]; rfl
    rw [ho] at hb ⊢
    simp only [Nd.attrs] at hl hA
    have hadd1 : ∀ (t : TypeId) (w : World), (binOp .add t (.complex .f64 4607182418800017408 0) (cst 0 (sp.size + lo.size))).run Tryz.prog w = .ok (cst 1 (sp.size + lo.size)) w := fun t w => by
      rw [← H1.out, cst_add Tryz.prog (by omega) (by omega), Nat.zero_add]
    clear ho
    unfold ndV ndCells
    simp only [Nd.kind, Nd.name, Nd.attrs, Nd.kids, Nd.text]
    go_enter Tryz.func66, Tryz.ntmps66
    go_wp2_with fail
    refine (bytes_any _ [sp, lo] 2 _ (by simp) (by simp [sumSz]; omega) (by have h := Sl1.built (w.alloc (.cells #[.int .i64 1, .string sp, .string lo, .slice A al.length ca, .slice K ks.length ck, .string tx] 37)) [sp, lo] 9; simpa [cells1] using h)).mono ?_
    rintro e w' ⟨rfl, rfl⟩
    rw [show sumSz [sp, lo] = sp.size + lo.size from by simp [sumSz]]
    go_wp2
    go_loopw [3, 26] (fun vs vi wr => ∃ k : Nat, k ≤ al.length ∧ vi = .int .i64 k ∧ vs = cst 1 (sp.size + lo.size + attrsS (al.take k)) ∧ Below w.heap.size w wr) (fun _ vi _ => ((al.length : Int) - intOf vi).toNat)
    case atStart => exact ⟨0, by omega, rfl, by simp [attrsS], ((Below.refl _ w).alloc (Nat.le_refl _) _).alloc (by simp) _⟩
    case round =>
      obtain ⟨k, hk, rfl, rfl, hbw⟩ := hrel
      by_cases h0 : k < al.length
      · obtain ⟨⟨⟨a1, a2⟩, a3⟩, he⟩ : ∃ x, al[k]? = some x := ⟨al[k], List.getElem?_eq_getElem h0⟩
        obtain ⟨ad, rfl, had, c1, c2, c3⟩ := (hA.below hbw).at_ he
        have hst := attrsS_step he
        simp only at hst c1 c2 c3
        have hle := attrsS_le al (k + 1)
        have hadd2 : ∀ (t : TypeId) (w : World), (binOp .add t (cst 1 (sp.size + lo.size + attrsS (al.take k))) (cst 0 (a1.size + a2.size + a3.size))).run Tryz.prog w = .ok (cst 1 (sp.size + lo.size + attrsS (al.take (k + 1)))) w := fun t w => by
          rw [cst_add Tryz.prog (by omega) (by omega), hst, Nat.add_zero]
          congr 2
          omega
        have hsum : a1.size + a2.size + a3.size < 2 ^ 53 := by omega
        clear hst hle he had hadd1
        go_wp2_with fail
        refine (bytes_any _ [a1, a2, a3] 3 _ (by simp) (by simp [sumSz]; omega) (by have h := Sl1.built (wr.alloc (.cells #[.string a1, .string a2, .string a3] 42)) [a1, a2, a3] 9; simpa [cells1] using h)).mono ?_
        rintro e w' ⟨rfl, rfl⟩
        rw [show sumSz [a1, a2, a3] = a1.size + a2.size + a3.size from by simp [sumSz]; omega]
        go_wp2
        go_roundw
        case rel => exact ⟨k + 1, by omega, by go_num, rfl, (hbw.alloc hbw.size _).alloc (by have := hbw.size; simp; omega) _⟩
        case measure => simp [intOf]; omega
      · have : k = al.length := by omega
        subst this
        rw [List.take_length]
        go_wp2
        go_ret
        exact ⟨rfl, hbw⟩
  · have hk' : (kd == 1) = false := by simpa using hk
    have ho : ownB (.mk kd (sp, lo) al ks tx) = tx.size := by unfold ownB; rw [if_neg (by simpa [Nd.kind] using hk)]; rfl
    rw [ho] at hb ⊢
    have hadd : ∀ (t : TypeId) (w : World), (binOp .add t (.complex .f64 4607182418800017408 0) (cst 0 (tx.size))).run Tryz.prog w = .ok (cst 1 tx.size) w := fun t w => by
      rw [← H1.out, cst_add Tryz.prog (by omega) (by omega), Nat.zero_add]
    clear hk ho hA hl
    unfold ndV ndCells
    simp only [Nd.kind, Nd.name, Nd.attrs, Nd.kids, Nd.text]
    go_enter Tryz.func66, Tryz.ntmps66
    go_wp2_with fail
    refine (bytes_any _ [tx] 1 _ (by simp) (by simp [sumSz]; omega) (by have h := Sl1.built (w.alloc (.cells #[.int .i64 kd, .string sp, .string lo, .slice A al.length ca, .slice K ks.length ck, .string tx] 37)) [tx] 9; simpa [cells1] using h)).mono ?_
    rintro e w' ⟨rfl, rfl⟩
    rw [show sumSz [tx] = tx.size from by simp [sumSz]]
    go_wp2
    go_ret
    exact ⟨rfl, ((Below.refl _ w).alloc (Nat.le_refl _) _).alloc (by simp) _⟩
end Go.Proofs.YtjohfljkhlkjoaaGreatDoor

namespace Go.Proofs.YtjohfljkhlkjoaaGreatDoor
open Go.RowKit Wb
set_option maxHeartbeats 2000000 in
theorem cost_any (n : Nd) : ∀ (A K : Option Addr) (ca ck : Nat) (w : World), NodeV w n A K → smallN n → costN n + costB n < 2 ^ 52 →
    Calls Tryz.prog 36 #[ndV n A ca K ck] w fun e w' => e = .returned (cst (costN n) (costB n)) ∧ Below w.heap.size w w' := by
  induction n using Nd.induct with
  | h n ih =>
    intro A K ca ck w hV hsm hb
    obtain ⟨hA, hK⟩ := hV
    obtain ⟨s1, s2, s3⟩ := (smallN_is n).1 hsm
    have hO := own_any n A K ca ck (w.alloc (.cells (ndCells n.kind n.name A n.attrs.length ca K n.kids.length ck n.text).toArray 37)) (Sl.alloc hA _) s1 (by rw [costB_is] at hb; omega)
    have IH := Lib.hid ih
    have S3 := Lib.hid s3
    rw [costN_is, costB_is] at hb ⊢
    obtain ⟨kd, ⟨sp, lo⟩, al, ks, tx⟩ := n
    generalize ownB (.mk kd (sp, lo) al ks tx) = ob at hb hO ⊢
    simp only [Nd.kids] at hb IH S3 hK s2 ⊢
    unfold ndV ndCells at hO ⊢
    simp only [Nd.kind, Nd.name, Nd.attrs, Nd.kids, Nd.text] at hO ⊢
    clear ih hsm s3 s1 hA
    go_enter Tryz.func36, Tryz.ntmps36
    go_wp2_with fail
    refine hO.mono ?_
    rintro e w1 ⟨rfl, hb1⟩
    have hbw := ((Below.refl w.heap.size w).alloc (Nat.le_refl _) _).trans (hb1.mono (by simp))
    clear hO
    have hbx : w1.heap[w.heap.size]? = some (.cells #[.int .i64 kd, .string sp, .string lo, .slice A al.length ca, .slice K ks.length ck, .string tx] 37 (0, 0)) :=
      (hb1.block _ (by simp)).trans (by show (w.heap.push _)[w.heap.size]? = _; simp)
    have c4 : w1.cell? ⟨w.heap.size, 4, none⟩ = some (.slice K ks.length ck) := by simp [World.cell?, hbx]
    clear hbx hb1
    go_wp2
    go_loopw [3, 11] (fun vs vi wr => ∃ k : Nat, k ≤ ks.length ∧ vi = .int .i64 k ∧ vs = cst (1 + costNs (ks.take k)) (ob + costBs (ks.take k)) ∧ Below w.heap.size w wr) (fun _ vi _ => ((ks.length : Int) - intOf vi).toNat)
    case atStart => exact ⟨0, by omega, rfl, rfl, hbw⟩
    case round =>
      obtain ⟨k, hk, rfl, rfl, hbr⟩ := hrel
      by_cases h0 : k < ks.length
      · obtain ⟨x, he⟩ : ∃ x, ks[k]? = some x := ⟨ks[k], List.getElem?_eq_getElem h0⟩
        obtain ⟨ad, A1, ca1, K1, ck1, rfl, had, d0, d1, d2, d3, d4, d5, hA1, hK1⟩ := (hK.below hbr).at_ he
        obtain ⟨t1, t2⟩ := costs_take he
        obtain ⟨t3, t4⟩ := costs_le ks (k + 1)
        have hI := IH.out x (List.mem_of_getElem? he) A1 K1 ca1 ck1 (wr.alloc (.cells (ndCells x.kind x.name A1 x.attrs.length ca1 K1 x.kids.length ck1 x.text).toArray 37)) ⟨Sl.alloc hA1 _, hK1.below ((Below.refl _ _).alloc (Nat.le_refl _) _)⟩ (S3.out x (List.mem_of_getElem? he)) (by omega)
        have hadd : ∀ (t : TypeId) (w : World), (binOp .add t (cst (1 + costNs (ks.take k)) (ob + costBs (ks.take k))) (cst (costN x) (costB x))).run Tryz.prog w = .ok (cst (1 + costNs (ks.take (k + 1))) (ob + costBs (ks.take (k + 1)))) w := fun t w => by
          rw [cst_add Tryz.prog (by omega) (by omega), t1, t2]
          congr 2 <;> omega
        unfold ndV ndCells at hI
        clear t1 t2 t3 t4 he had hA1 hK1 c4
        go_wp2_with fail
        refine hI.mono ?_
        rintro e w2 ⟨rfl, hb2⟩
        clear hI
        have hb3 := ((Below.refl wr.heap.size wr).alloc (Nat.le_refl _) _).trans (hb2.mono (by simp))
        go_wp2
        go_roundw
        case rel => exact ⟨k + 1, by omega, by go_num, rfl, hbr.trans (hb3.mono hbr.size)⟩
        case measure => simp [intOf]; omega
      · have : k = ks.length := by omega
        subst this
        rw [List.take_length]
        go_wp2
        go_ret
        exact ⟨rfl, hbr⟩
end Go.Proofs.YtjohfljkhlkjoaaGreatDoor

