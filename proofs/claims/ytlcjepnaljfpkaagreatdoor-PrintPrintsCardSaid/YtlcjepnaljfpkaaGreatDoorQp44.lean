/- SpE PrJ. -/
import Derived.Test.YtlcjepnaljfpkaaGreatDoorQp11
import Derived.Test.YtlcjepnaljfpkaaGreatDoorQp24
import Derived.Test.YtlcjepnaljfpkaaGreatDoorQp40
import Derived.Test.YtlcjepnaljfpkaaGreatDoorQp43
namespace Go.Proofs.YtlcjepnaljfpkaaGreatDoor
open Go.RowKit Wb
set_option maxRecDepth 100000 in
set_option maxHeartbeats 4000000 in
theorem rright_any (n : Nd) (A K : Option Addr) (ca ck : Nat) (w : World) (hV : NodeV w n A K) (hsm : smallN n) (hsz : szN n) :
    Calls Tryz.prog 32 #[ndV n A ca K ck] w fun e w' => e = .returned (.bool (rightB n)) ∧ Below w.heap.size w w' := by
  have HND := Lib.hid (fun (v : World) (h : NodeV v n A K) => nodes_any n A K ca ck 2000 v (by omega) h hsm)
  have HDP := Lib.hid (fun (v : World) (h : NodeV v n A K) => deep_any n A K ca ck 31 v (by omega) h hsm)
  have HSH := Lib.hid (fun (v : World) (h : NodeV v n A K) => shape_any n A K ca ck v h hsm hsz)
  have hr := right_ref n
  obtain ⟨q1, g1⟩ : ∃ q, nodesR n 2000 = q := ⟨_, rfl⟩
  obtain ⟨q2, g2⟩ : ∃ q, deepR n 31 = q := ⟨_, rfl⟩
  obtain ⟨q3, g3⟩ : ∃ q, shapeB n = q := ⟨_, rfl⟩
  obtain ⟨r, g4⟩ : ∃ q, rightB n = q := ⟨_, rfl⟩
  rw [g1, g2, g3, g4] at hr
  rw [g1] at HND
  rw [g2, show (((31 : Nat) : Int) - 1) = 30 from rfl] at HDP
  rw [g3] at HSH
  rw [g4]
  clear g1 g2 g3 g4 hsm hsz
  obtain ⟨kd, ⟨sp, lo⟩, al, ks, t⟩ := n
  have HR : Hid (r = (decide (kd = 1) && (decide (q1 ≤ 2000) && (decide (q2 ≤ 24) && q3)))) := Lib.hid hr.symm
  clear hr
  have hb1 : Below w.heap.size w (w.alloc (.cells #[.int .i64 kd, .string sp, .string lo, .slice A al.length ca, .slice K ks.length ck, .string t] 37)) := (Below.refl _ w).alloc (Nat.le_refl _) _
  have HVN := Lib.hid (NodeV.below hV hb1)
  have HN := Lib.hid (heap_alloc_new w (.cells #[.int .i64 kd, .string sp, .string lo, .slice A al.length ca, .slice K ks.length ck, .string t] 37))
  have HB := Lib.hid hb1
  have hws := hb1.size
  clear hb1 hV
  unfold ndV ndCells at HND HDP HSH ⊢
  simp only [Nd.kind, Nd.name, Nd.attrs, Nd.kids, Nd.text] at HND HDP HSH ⊢
  go_enter Tryz.func32, Tryz.ntmps32
  go_upto_region 1 with fail
  revert HVN HN HB hws
  generalize (w.alloc (.cells #[.int .i64 kd, .string sp, .string lo, .slice A al.length ca, .slice K ks.length ck, .string t] 37)) = wb
  intro HVN HN HB hws
  generalize hT : w.heap.size = T at *
  have HT := Lib.hid hT
  clear hT
  have CN := Lib.hid (fun (v : World) (h : Below wb.heap.size wb v) => cells_of_nd (still_block HN.out h))
  clear HN
  obtain ⟨n0, n1, n2, n3, n4, n5⟩ := CN.out wb (Below.refl _ _)
  by_cases hk1 : kd = 1
  case neg =>
    have HF : Hid (decide (kd = 1) = false) := Lib.hid (decide_eq_false hk1)
    have hke : (kd == 1) = false := by simpa using hk1
    go_wp2
    go_ret
    exact ⟨by rw [HR.out, HF.out]; rfl, by rw [HT.out]; exact HB.out⟩
  case pos =>
  subst hk1
  have h1 := HND.out wb HVN.out
  go_wp2_with fail
  refine h1.mono ?_
  rintro e w2 ⟨rfl, hb2⟩
  have HB2 := Lib.hid hb2
  clear h1 hb2 n0 n1 n2 n3 n4 n5
  obtain ⟨n0, n1, n2, n3, n4, n5⟩ := CN.out _ HB2.out
  by_cases hq1 : q1 ≤ 2000
  case neg =>
    have HF : Hid (decide (q1 ≤ 2000) = false) := Lib.hid (decide_eq_false hq1)
    have hqe : ¬ ((q1 : Int) ≤ 2000) := by omega
    go_wp2
    go_ret
    exact ⟨by rw [HR.out, HF.out]; rfl, by rw [HT.out]; exact HB.out.trans (HB2.out.mono hws)⟩
  case pos =>
  have HF1 : Hid (decide (q1 ≤ 2000) = true) := Lib.hid (decide_eq_true hq1)
  have hqe : (q1 : Int) ≤ 2000 := by omega
  have h1 := HDP.out w2 (NodeV.below HVN.out HB2.out)
  go_wp2_with fail
  refine h1.mono ?_
  rintro e w3 ⟨rfl, hb3⟩
  have HB3 := Lib.hid (HB2.out.trans (hb3.mono HB2.out.size))
  clear h1 hb3 n0 n1 n2 n3 n4 n5 HB2
  obtain ⟨n0, n1, n2, n3, n4, n5⟩ := CN.out _ HB3.out
  by_cases hq2 : q2 ≤ 24
  case neg =>
    have HF : Hid (decide (q2 ≤ 24) = false) := Lib.hid (decide_eq_false hq2)
    have hqe : ¬ ((q2 : Int) ≤ 24) := by omega
    go_wp2
    go_ret
    exact ⟨by rw [HR.out, HF1.out, HF.out]; rfl, by rw [HT.out]; exact HB.out.trans (HB3.out.mono hws)⟩
  case pos =>
  have HF2 : Hid (decide (q2 ≤ 24) = true) := Lib.hid (decide_eq_true hq2)
  have hqe2 : (q2 : Int) ≤ 24 := by omega
  have h1 := HSH.out w3 (NodeV.below HVN.out HB3.out)
  go_wp2_with fail
  refine h1.mono ?_
  rintro e w4 ⟨rfl, hb4⟩
  have HB4 := Lib.hid (HB3.out.trans (hb4.mono HB3.out.size))
  clear h1 hb4 n0 n1 n2 n3 n4 n5 HB3
  go_wp2
  go_ret
  exact ⟨by rw [HR.out, HF1.out, HF2.out]; rfl, by rw [HT.out]; exact HB.out.trans (HB4.out.mono hws)⟩
end Go.Proofs.YtlcjepnaljfpkaaGreatDoor
namespace Wb
theorem attrs_sorted {l l' : List Tr} (hp : l'.Perm l) (hr : Rise l') (hn : (l.map (·.1)).Pairwise (· ≠ ·)) : l' = sortT l := by
  refine rise_one l' (sortT l) hr (sortT_rise l) (hp.trans (sortT_perm l).symm) ?_
  have h2 : (l'.map (·.1)).Perm (l.map (·.1)) := hp.map _
  exact (h2.pairwise_iff (fun h e => h e.symm)).2 hn
theorem pre_size (sp : List ByteArray) (s : ByteArray) : (preT sp s).length ≤ 5 := by
  unfold preT
  split
  · simp
  · split
    · simp [sXmlK]
    · unfold numT digT
      split <;> simp
end Wb
namespace Go.Proofs.YtlcjepnaljfpkaaGreatDoor
open Go.RowKit Wb
theorem PgT.beside {base b most : Nat} {t : List UInt8} {w w' : World} {S : Nat → Prop} (h : PgT base b t most w) (hk : Keep S w w') (h1 : ¬ S b) (h2 : ∀ k, S k → ¬ isU8 w k) : PgT base b t most w' := by
  rcases h with ⟨h0, h⟩ | ⟨h0, bs, h3, h⟩
  · exact .inl ⟨h0, h.beside hk h1 h2⟩
  · exact .inr ⟨h0, bs, h3, h.beside hk h1 h2⟩
theorem not_u8 {w : World} {k : Nat} {cs : Array Value} {t : TypeId} {f : Nat × Nat} (h : w.heap[k]? = some (.cells cs t f)) (ht : t ≠ 5) : ¬ isU8 w k := by
  rintro ⟨cs', f', h'⟩
  rw [h] at h'
  injection h' with h'
  injection h' with _ h'
  exact ht h'
theorem own_u8 {w : World} {base sz n : Nat} {e : TypeId} {v : Value} {xs : List Value} (h : w.ownsRow base e sz v n xs) (he : e ≠ 5) {k : Nat} (hk : v.ownBlock = some k) : ¬ isU8 w k := by
  rcases h.2 with ⟨rfl, _⟩ | ⟨g, cap, cur, rfl, _, hg, _⟩
  · simp [Value.ownBlock] at hk
  · simp only [Value.ownBlock, Option.some.injEq] at hk
    subst hk
    exact not_u8 hg he
set_option maxRecDepth 100000 in
set_option maxHeartbeats 4000000 in
theorem pattrs_any {base b most : Nat} {t : List UInt8} {w : World} (A : Option Addr) (l : List Tr) (c : Nat) (h : PgT base b t most w) (hm : most ≤ 140737488355328) (hA : Sl3 w A l) (hl : l.length ≤ 32) (hn : (l.map (·.1)).Pairwise (· ≠ ·))
    (hz : ∀ a ∈ l, a.1.1.size ≤ 1000000000 ∧ a.1.2.size ≤ 1000000000 ∧ a.2.size ≤ 1000000000) :
    Calls Tryz.prog 53 #[.pointer (some ⟨b, 0, none⟩), .slice A l.length c] w fun e w' => e = .returned (.tuple #[]) ∧ PgT base b (t ++ attrsT l) most w' ∧ PgK base b w w' := by
  have hm2 : most ≤ 9223372036854775807 := by omega
  have hc := clone_any A l c w hA (by omega)
  have H0 := Lib.hid h
  have HN := Lib.hid hn
  obtain ⟨l2, hl2⟩ : ∃ l2, sortT l = l2 := ⟨_, rfl⟩
  obtain ⟨sp, hsp⟩ : ∃ sp, spacesT l2 = sp := ⟨_, rfl⟩
  have hat : attrsT l = declT 0 sp ++ eachT sp l2 := by rw [← hsp, ← hl2]; rfl
  rw [hat]
  have HL2 := Lib.hid hl2
  have HSP := Lib.hid hsp
  have HZ := Lib.hid (show ∀ a ∈ sortT l, a.1.1.size ≤ 1000000000 ∧ a.1.2.size ≤ 1000000000 ∧ a.2.size ≤ 1000000000 from fun a ha => hz a ((sortT_perm l).mem_iff.1 ha))
  have hbb := h.lt
  clear h hn hz hA hat hl2 hsp
  go_enter Tryz.func53, Tryz.ntmps53
  go_wp2_with fail
  refine hc.mono ?_
  rintro e w1 ⟨v1, rfl, hown1, hb1⟩
  obtain ⟨A1, c1, rfl⟩ := own_shape hown1
  have hs := sort_any l hown1 (by omega)
  have HO1 := Lib.hid hown1
  have HB1 := Lib.hid hb1
  have hbs1 := hb1.size
  clear hc hown1 hb1
  go_wp2_with fail
  refine hs.mono ?_
  rintro e w2 ⟨rfl, l', hp, hr, hown2, hk2⟩
  have hl2' : l' = l2 := (attrs_sorted hp hr HN.out).trans HL2.out
  subst l'
  have hk2' : Keep (fun k => (Value.slice A1 l.length c1).ownBlock = some k) w1 w2 := hk2
  have hB2 : Below w.heap.size w w2 := HB1.out.trans (hk2'.below (fun k hk => (own_in HO1.out hk).1) hbs1)
  have hP2 : PgT base b t most w2 := ((H0.out.other HB1.out).beside hk2' (fun hk => by have := (own_in HO1.out hk).1; omega) (fun k hk => own_u8 HO1.out (by decide) hk))
  have hl' : l2.length = l.length := by rw [← HL2.out]; exact sortT_len l
  have hown2' : w2.ownsRow w.heap.size 66 3 (.slice A1 l2.length c1) l2.length (cells3 l2) := by rw [hl']; exact hown2
  have hl32 : l2.length ≤ 32 := by omega
  have HO2 := Lib.hid hown2'
  have HB2 := Lib.hid hB2
  have HP2 := Lib.hid hP2
  have hbs2 := hB2.size
  rw [← hl']
  clear hs hp hr hown2 hk2 hk2' hB2 hP2 hown2' HN HO1 HB1 H0 hl' hl
  rw [HL2.out] at HZ
  clear HL2
  have hd := pdeclared_any A1 l2 c1 w2 (Sl3.of_own HO2.out) hl32
  have hsl := spaces_len l2
  rw [HSP.out] at hd hsl
  have HSM := Lib.hid (fun x (hx : x ∈ l2) => HSP.out ▸ spaces_mem (l := l2) hx)
  have HSZ := Lib.hid (show ∀ s ∈ sp, s.size ≤ 1000000000 from fun s hs => by
    rw [← HSP.out] at hs
    unfold spacesT at hs
    rw [once_mem] at hs
    obtain ⟨hs1, _⟩ := List.mem_filter.1 hs
    obtain ⟨x, hx, rfl⟩ := List.mem_map.1 hs1
    exact (HZ.out x hx).1)
  clear HSP
  go_wp2_with fail
  refine hd.mono ?_
  rintro e w3 ⟨v3, rfl, hown3, hb3⟩
  obtain ⟨Q, cq, rfl⟩ := own_shape hown3
  have HO3 := Lib.hid hown3
  have HB3 := Lib.hid (HB2.out.trans (hb3.mono hbs2))
  have HP3 := Lib.hid (HP2.out.other hb3)
  have HOA3 := Lib.hid (own_below HO2.out hb3)
  have HGQ := Lib.hid (show (Value.slice Q sp.length cq).ownBlock ≠ some b from fun hk => by have := (own_in hown3 hk).1; omega)
  have HGA := Lib.hid (show (Value.slice A1 l2.length c1).ownBlock ≠ some b from fun hk => by have := (own_in HO2.out hk).1; omega)
  clear hd hown3 hb3 HO2 HB2 HP2
  go_wp2
  go_loopw [17] (fun vi wr => ∃ i : Nat, i ≤ sp.length ∧ vi = .int .i64 i ∧ Hid (PgT base b (t ++ declT 0 (sp.take i)) most wr) ∧ Hid (PgK base b w3 wr)) (fun vi _ => ((sp.length : Int) - intOf vi).toNat)
  case atStart => exact ⟨0, by omega, rfl, Lib.hid (by simpa [declT] using HP3.out), Lib.hid (PgK.refl _ _ _)⟩
  case round =>
    obtain ⟨i, hi, rfl, HP, HK⟩ := hrel
    by_cases h0 : i < sp.length
    · obtain ⟨s, he⟩ : ∃ s, sp[i]? = some s := ⟨sp[i], List.getElem?_eq_getElem h0⟩
      have hrow := HK.out.own HO3.out (by decide) HGQ.out
      obtain ⟨g3, cap3, hv3, hg3, hgl3⟩ := hrow.form (by omega)
      have hQ : Q = some ⟨g3, 0, none⟩ := by injection hv3
      subst hQ
      have hcell := hrow.cells (g := g3) rfl i (.string s) (by simp [cells1, he])
      rw [Addr.add_lit, Nat.zero_add] at hcell
      have hss : s.size ≤ 1000000000 := by
        have hmem := List.mem_of_getElem? he
        exact HSZ.out s hmem
      have hnum := pnumbered_any i (by omega) wr
      have hdt := declT_take he
      have hrr : (ByteArray.mk #[120, 109, 108, 110, 115, 58]) ++ (ByteArray.mk (numT i).toArray) = ByteArray.mk (sXmlnsK ++ numT i).toArray := ba_app sXmlnsK (numT i)
      have hzr : (ByteArray.mk (numT i).toArray).size ≤ 3 := by
        show (numT i).toArray.size ≤ 3
        unfold numT digT
        split <;> simp
      have hat := pattr_any (ByteArray.mk (sXmlnsK ++ numT i).toArray) s HP.out hm2 hss (.inl hm)
      rw [List.append_assoc] at hat
      rw [show (ByteArray.mk (sXmlnsK ++ numT i).toArray).data.toList = sXmlnsK ++ numT i from rfl, ← hdt, ← hrr] at hat
      have HKd := HK
      clear hrow hv3 hg3 hgl3 he hdt hrr HP
      generalize (ByteArray.mk (numT i).toArray) = r at *
      have hz2 : ¬ 9223372036854775807 < 6 + r.size := by omega
      go_wp2_with fail
      refine hnum.mono ?_
      rintro e w' ⟨rfl, rfl⟩
      go_wp2_with fail
      refine hat.mono ?_
      rintro e w4 ⟨rfl, hp4, hk4⟩
      have HP4 := Lib.hid hp4
      have HK4 := Lib.hid (HKd.out.trans hk4)
      clear hnum hat hp4 hk4 hcell
      go_wp2
      go_roundw
      case rel => exact ⟨i + 1, by omega, by go_num, HP4, HK4⟩
      case measure => simp [intOf]; omega
    · have : i = sp.length := by omega
      subst this
      rw [List.take_length] at HP
      go_wp2
      go_loopw [31] (fun vi wr => ∃ k : Nat, k ≤ l2.length ∧ vi = .int .i64 k ∧ Hid (PgT base b (t ++ declT 0 sp ++ eachT sp (l2.take k)) most wr) ∧ Hid (PgK base b w3 wr)) (fun vi _ => ((l2.length : Int) - intOf vi).toNat)
      case atStart => exact ⟨0, by omega, rfl, Lib.hid (by simpa [eachT] using HP.out), HK⟩
      case round =>
        obtain ⟨k, hk, rfl, HP, HK⟩ := hrel
        by_cases h1 : k < l2.length
        · obtain ⟨⟨⟨a1, a2⟩, a3⟩, he⟩ : ∃ x, l2[k]? = some x := ⟨l2[k], List.getElem?_eq_getElem h1⟩
          have hrow := HK.out.own HOA3.out (by decide) HGA.out
          obtain ⟨ad, rfl, had, d1, d2, d3⟩ := (Sl3.of_own hrow).at_ he
          have hmem := List.mem_of_getElem? he
          obtain ⟨z1, z2, z3⟩ := HZ.out _ hmem
          have hsm := HSM.out _ hmem
          have het := eachT_take (sp := sp) he
          simp only at d1 d2 d3 z1 z2 z3 hsm het
          have hrq := HK.out.own HO3.out (by decide) HGQ.out
          have hslq : Sl wr 1 Q sp.length (cells1 sp) := Sl.of_own hrq
          have hT := heap_alloc_new wr (.cells #[.string a1, .string a2, .string a3] 66)
          have hpa := HP.out.alloc (.cells #[.string a1, .string a2, .string a3] 66)
          have hka := HK.out.trans (PgK.alloc (base := base) (b := b) wr (.cells #[.string a1, .string a2, .string a3] 66))
          have hsa := hslq.alloc (.cells #[.string a1, .string a2, .string a3] 66)
          have hTb : wr.heap.size ≠ b := by have := HP.out.lt; omega
          have HT := Lib.hid hT
          have HPA := Lib.hid hpa
          have HKA := Lib.hid hka
          have HSA := Lib.hid hsa
          clear hrow hrq hslq hT hpa hka hsa hmem he HP HK
          go_upto_region 11 with fail
          clear d1 d2 d3 had
          revert HT HPA HKA HSA
          generalize (wr.alloc (.cells #[.string a1, .string a2, .string a3] 66)) = wz
          intro HT HPA HKA HSA
          generalize wr.heap.size = T at *
          have hpre := prefix_any Q sp a1 cq wz.drew (HSA.out.drew) hsm (by omega)
          have hrr : (ByteArray.mk (preT sp a1).toArray) ++ a2 = ByteArray.mk (preT sp a1 ++ a2.data.toList).toArray := by
            have := ba_app (preT sp a1) a2.data.toList
            exact this
          have hpz := pre_size sp a1
          have hzr : (ByteArray.mk (preT sp a1).toArray).size ≤ 5 := by
            show (preT sp a1).toArray.size ≤ 5
            simpa using hpz
          have hat := pattr_any (ByteArray.mk (preT sp a1 ++ a2.data.toList).toArray) a3 (HPA.out.other (Below.refl _ wz).drew) hm2 z3 (.inl hm)
          rw [List.append_assoc, show (ByteArray.mk (preT sp a1 ++ a2.data.toList).toArray).data.toList = preT sp a1 ++ a2.data.toList from rfl, ← het, ← hrr] at hat
          have n0 : wz.drew.cell? ⟨T, 0, none⟩ = some (.string a1) := blk_cell HT.out 0
          have n1 : wz.drew.cell? ⟨T, 1, none⟩ = some (.string a2) := blk_cell HT.out 1
          have n2 : wz.drew.cell? ⟨T, 2, none⟩ = some (.string a3) := blk_cell HT.out 2
          have HN2 := Lib.hid (fun (v : World) (hv : PgK base b wz.drew v) => (show v.cell? ⟨T, 0, none⟩ = some (.string a1) ∧ v.cell? ⟨T, 1, none⟩ = some (.string a2) ∧ v.cell? ⟨T, 2, none⟩ = some (.string a3) from by
            have hb := PgK.blk (w := wz.drew) hv HT.out (by decide) hTb
            exact ⟨blk_cell hb 0, blk_cell hb 1, blk_cell hb 2⟩))
          have HKD := Lib.hid (HKA.out.drew)
          clear hrr het hsm HPA hpz HSA
          generalize (ByteArray.mk (preT sp a1).toArray) = r at *
          have hz2 : ¬ 9223372036854775807 < r.size + a2.size := by omega
          go_wp2_with fail
          (try simp only [List.append])
          refine wp_region_held_drew (S := (fun v => v.cell? ⟨T, 0, none⟩ = some (.string a1) ∧ v.cell? ⟨T, 1, none⟩ = some (.string a2) ∧ v.cell? ⟨T, 2, none⟩ = some (.string a3))) (by kernel_rfl) (⟨n0, n1, n2⟩) (fun hHeld => ?_)
          refine takeW 0 ?_
          refine takeW 1 ?_
          refine takeW 2 ?_
          refine takeW 3 ?_
          (try simp only [Act.put, List.setIfInBounds_toArray, List.set_cons_zero, List.set_cons_succ])
          refine takeW 4 ?_
          refine takeW 6 ?_
          refine takeW 7 ?_
          refine takeW 8 ?_
          (try simp only [Act.put, List.setIfInBounds_toArray, List.set_cons_zero, List.set_cons_succ])
          refine takeW 10 ?_
          refine takeW 11 ?_
          (try simp only [Act.put, List.setIfInBounds_toArray, List.set_cons_zero, List.set_cons_succ])
          refine wpAnyH_ready (rs := [5]) (by kernel_rfl) (by simp) ?_
          refine AllReadyH.cons rfl (fun K2 hK2 => ?_) AllReadyH.nil
          go_simp
          refine hpre.mono ?_
          rintro e w4 ⟨rfl, rfl⟩
          refine hK2.out _ _ hHeld (fun hHeld2 => ?_)
          refine takeW 9 ?_
          (try simp only [Act.put, List.setIfInBounds_toArray, List.set_cons_zero, List.set_cons_succ])
          refine wpAnyH_ready (rs := [12]) (by kernel_rfl) (by simp) ?_
          refine AllReadyH.cons rfl (fun K2 hK2 => ?_) AllReadyH.nil
          go_simp
          refine hat.mono ?_
          rintro e w4 ⟨rfl, hp4, hk4⟩
          refine hK2.out _ _ (HN2.out _ hk4) (fun hHeld2 => ?_)
          have HP4 := Lib.hid hp4
          have HK4 := Lib.hid (HKD.out.trans hk4)
          (try simp only [Act.put, List.setIfInBounds_toArray, List.set_cons_zero, List.set_cons_succ])
          refine wpAnyH_done (by kernel_rfl) ?_ _
          clear hat hp4 hk4 hpre
          go_wp2
          go_roundw
          case rel => exact ⟨k + 1, by omega, by go_num, HP4, HK4⟩
          case measure => simp [intOf]; omega
        · have : k = l2.length := by omega
          subst this
          rw [List.take_length] at HP
          go_wp2
          go_end0
          exact ⟨rfl, by rw [← List.append_assoc]; exact HP.out, (PgK.of_below HB3.out).trans HK.out⟩
end Go.Proofs.YtlcjepnaljfpkaaGreatDoor
