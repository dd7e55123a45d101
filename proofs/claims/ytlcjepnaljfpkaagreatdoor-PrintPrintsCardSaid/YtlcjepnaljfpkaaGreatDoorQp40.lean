/- SpB SpA. -/
import Derived.Test.YtlcjepnaljfpkaaGreatDoorQp6
import Derived.Test.YtlcjepnaljfpkaaGreatDoorQp21
import Derived.Test.YtlcjepnaljfpkaaGreatDoorQp37
import Derived.Test.YtlcjepnaljfpkaaGreatDoorQp39
namespace Wb
theorem nodesRs_go {m v k : Nat} {ks : List Nd} {x : Nd} (he : ks[k]? = some x) (h : v ≤ m) : nodesRs (ks.drop k) m v = nodesRs (ks.drop (k + 1)) m (v + nodesR x (m - v)) := by
  obtain ⟨hk, e⟩ := List.getElem?_eq_some_iff.1 he
  rw [List.drop_eq_getElem_cons hk, e, nodesRs_cons, if_pos h]
theorem nodesRs_done {m v : Nat} {l : List Nd} (h : m < v ∨ l = []) : nodesRs l m v = v := by
  rcases h with h | h
  · exact nodesRs_stop l m v (by omega)
  · subst h; rw [nodesRs]
theorem deepRs_go {m d k : Nat} {ks : List Nd} {x : Nd} (he : ks[k]? = some x) : deepRs (ks.drop k) m d = deepRs (ks.drop (k + 1)) m (if d < deepR x m then deepR x m else d) := by
  obtain ⟨hk, e⟩ := List.getElem?_eq_some_iff.1 he
  rw [List.drop_eq_getElem_cons hk, e, deepRs_cons]
end Wb
namespace Go.Proofs.YtlcjepnaljfpkaaGreatDoor
open Go.RowKit Wb
set_option maxRecDepth 100000 in
set_option maxHeartbeats 4000000 in
theorem nodes_any (n : Nd) : ∀ (A K : Option Addr) (ca ck m : Nat) (w : World), m ≤ 2000 → NodeV w n A K → smallN n →
    Calls Tryz.prog 54 #[ndV n A ca K ck, .int .i64 m] w fun e w' => e = .returned (.int .i64 (nodesR n m)) ∧ Below w.heap.size w w' := by
  induction n using Nd.induct with
  | h n ih =>
    intro A K ca ck m w hm hV hsm
    obtain ⟨_, hlk, hl3⟩ := (smallN_is n).1 hsm
    have HNR := Lib.hid (nodesR_is n m)
    obtain ⟨kd, ⟨sp, lo⟩, al, ks, t⟩ := n
    simp only [Nd.kids] at ih hlk hl3
    have IH := Lib.hid ih
    have L3 := Lib.hid hl3
    have hb1 : Below w.heap.size w (w.alloc (.cells #[.int .i64 kd, .string sp, .string lo, .slice A al.length ca, .slice K ks.length ck, .string t] 37)) := (Below.refl _ w).alloc (Nat.le_refl _) _
    have HK := Lib.hid (hV.2.below hb1)
    have HN := Lib.hid (heap_alloc_new w (.cells #[.int .i64 kd, .string sp, .string lo, .slice A al.length ca, .slice K ks.length ck, .string t] 37))
    have HB := Lib.hid hb1
    have hws := hb1.size
    clear ih hsm hl3 hb1 hV
    simp only [Nd.kids] at HK HNR
    obtain ⟨r, hr⟩ : ∃ r, nodesR (.mk kd (sp, lo) al ks t) m = r := ⟨_, rfl⟩
    rw [hr] at HNR ⊢
    clear hr
    unfold ndV ndCells
    simp only [Nd.kind, Nd.name, Nd.attrs, Nd.kids, Nd.text]
    go_enter Tryz.func54, Tryz.ntmps54
    go_upto_region 1 with fail
    revert HK HN HB hws
    generalize (w.alloc (.cells #[.int .i64 kd, .string sp, .string lo, .slice A al.length ca, .slice K ks.length ck, .string t] 37)) = wb
    intro HK HN HB hws
    generalize hT : w.heap.size = T at *
    have HT := Lib.hid hT
    clear hT
    have CN := Lib.hid (fun (v : World) (h : Below wb.heap.size wb v) => cells_of_nd (still_block HN.out h))
    clear HN
    obtain ⟨n0, n1, n2, n3, n4, n5⟩ := CN.out wb (Below.refl _ _)
    go_wp2
    go_loopw [5, 6] (fun vk vi wr => ∃ i k : Nat, i ≤ ks.length ∧ vi = .int .i64 i ∧ vk = .int .i64 k ∧ k ≤ m + 1 ∧ Hid (r = nodesRs (ks.drop i) m k) ∧ Hid (Below wb.heap.size wb wr)) (fun _ vi _ => ((ks.length : Int) - intOf vi).toNat)
    case atStart => exact ⟨0, 1, by omega, rfl, rfl, by omega, HNR, Lib.hid (Below.refl _ _)⟩
    case round =>
      obtain ⟨i, k, hi, rfl, rfl, hk, hW, HR⟩ := hrel
      clear n0 n1 n2 n3 n4 n5
      obtain ⟨n0, n1, n2, n3, n4, n5⟩ := CN.out _ HR.out
      by_cases h3 : i < ks.length ∧ k ≤ m
      · obtain ⟨h4, h5⟩ := h3
        obtain ⟨x, he⟩ : ∃ x, ks[i]? = some x := ⟨ks[i], List.getElem?_eq_getElem h4⟩
        obtain ⟨ad, A1, ca1, K1, ck1, rfl, had, d0, d1, d2, d3, d4, d5, hA2, hK2⟩ := (HK.out.below HR.out).at_ he
        have hgo := nodesRs_go he h5
        have hmx := List.mem_of_getElem? he
        have hI := IH.out x hmx A1 K1 ca1 ck1 (m - k) _ (by omega) ⟨hA2, hK2⟩ (L3.out x hmx)
        have hb5 := (nodesR_all x (m - k)).1
        have hmv : ((m - k : Nat) : Int) = (m : Int) - (k : Int) := by omega
        rw [hmv] at hI
        obtain ⟨z, hz⟩ : ∃ z, nodesR x (m - k) = z := ⟨_, rfl⟩
        rw [hz] at hI hgo hb5
        have hW3 := Lib.hid (hW.out.trans hgo)
        have h6 : k + z ≤ m + 1 := by omega
        unfold ndV ndCells at hI
        clear hgo he hA2 hK2 hmv hW hz hmx had hb5
        go_wp2_with fail
        refine hI.mono ?_
        rintro e w2 ⟨rfl, hb2⟩
        have HR3 := Lib.hid (HR.out.trans (hb2.mono HR.out.size))
        clear hI hb2 d0 d1 d2 d3 d4 d5 n0 n1 n2 n3 n4 n5
        go_wp2
        go_roundw
        case rel => exact ⟨i + 1, k + z, by omega, by go_num, by go_num, h6, hW3, HR3⟩
        case measure => simp [intOf]; omega
      · have hx2 : m < k ∨ ks.drop i = [] := by
          by_cases h4 : i < ks.length
          · left; omega
          · right; exact List.drop_eq_nil_of_le (by omega)
        have hd2 := Lib.hid (hW.out.trans (nodesRs_done hx2))
        clear hx2 hW
        have hh2 : ks.length ≤ i ∨ (i < ks.length ∧ m < k) := by omega
        clear h3
        rcases hh2 with h4 | ⟨h4, h5⟩
        all_goals
          go_wp2
          go_ret
          refine ⟨?_, by rw [HT.out]; exact HB.out.trans (HR.out.mono hws)⟩
          show Ending.returned (.int .i64 (k : Int)) = _
          rw [hd2.out]
set_option maxRecDepth 100000 in
set_option maxHeartbeats 4000000 in
theorem deep_any (n : Nd) : ∀ (A K : Option Addr) (ca ck m : Nat) (w : World), m ≤ 2000 → NodeV w n A K → smallN n →
    Calls Tryz.prog 55 #[ndV n A ca K ck, .int .i64 ((m : Int) - 1)] w fun e w' => e = .returned (.int .i64 (deepR n m)) ∧ Below w.heap.size w w' := by
  induction n using Nd.induct with
  | h n ih =>
    intro A K ca ck m w hm hV hsm
    obtain ⟨_, hlk, hl3⟩ := (smallN_is n).1 hsm
    have HNR := Lib.hid (deepR_is n m)
    obtain ⟨kd, ⟨sp, lo⟩, al, ks, t⟩ := n
    simp only [Nd.kids] at ih hlk hl3
    have IH := Lib.hid ih
    have L3 := Lib.hid hl3
    have hb1 : Below w.heap.size w (w.alloc (.cells #[.int .i64 kd, .string sp, .string lo, .slice A al.length ca, .slice K ks.length ck, .string t] 37)) := (Below.refl _ w).alloc (Nat.le_refl _) _
    have HK := Lib.hid (hV.2.below hb1)
    have HN := Lib.hid (heap_alloc_new w (.cells #[.int .i64 kd, .string sp, .string lo, .slice A al.length ca, .slice K ks.length ck, .string t] 37))
    have HB := Lib.hid hb1
    have hws := hb1.size
    clear ih hsm hl3 hb1 hV
    simp only [Nd.kids, Nd.kind] at HK HNR
    obtain ⟨r, hr⟩ : ∃ r, deepR (.mk kd (sp, lo) al ks t) m = r := ⟨_, rfl⟩
    rw [hr] at HNR ⊢
    clear hr
    unfold ndV ndCells
    simp only [Nd.kind, Nd.name, Nd.attrs, Nd.kids, Nd.text]
    go_enter Tryz.func55, Tryz.ntmps55
    go_upto_region 1 with fail
    revert HK HN HB hws
    generalize (w.alloc (.cells #[.int .i64 kd, .string sp, .string lo, .slice A al.length ca, .slice K ks.length ck, .string t] 37)) = wb
    intro HK HN HB hws
    generalize hT : w.heap.size = T at *
    have HT := Lib.hid hT
    clear hT
    have CN := Lib.hid (fun (v : World) (h : Below wb.heap.size wb v) => cells_of_nd (still_block HN.out h))
    clear HN
    obtain ⟨n0, n1, n2, n3, n4, n5⟩ := CN.out wb (Below.refl _ _)
    by_cases hk1 : kd = 1
    case neg =>
      have HD : Hid (r = 0) := Lib.hid (HNR.out.trans (if_neg (fun h => hk1 h.1)))
      have hke : (kd == 1) = false := by simpa using hk1
      go_wp2
      go_ret
      exact ⟨by rw [HD.out]; rfl, by rw [HT.out]; exact HB.out⟩
    case pos =>
    subst hk1
    by_cases hm0 : m = 0
    · have HD : Hid (r = 0) := Lib.hid (HNR.out.trans (if_neg (fun h => by omega)))
      subst hm0
      go_wp2
      go_ret
      exact ⟨by rw [HD.out]; rfl, by rw [HT.out]; exact HB.out⟩
    · obtain ⟨q, rfl⟩ : ∃ q, m = q + 1 := ⟨m - 1, by omega⟩
      have HD : Hid (r = deepRs ks q 0 + 1) := Lib.hid (HNR.out.trans (if_pos ⟨rfl, by omega⟩))
      have hmq : (((q + 1 : Nat) : Int) - 1) = (q : Int) := by omega
      rw [hmq]
      have hq0 : ¬ ((q : Int) < 0) := by omega
      clear HNR hmq hm0
      go_wp2
      go_loopw [5, 6] (fun vd vi wr => ∃ i d : Nat, i ≤ ks.length ∧ vi = .int .i64 i ∧ vd = .int .i64 d ∧ d ≤ 2000 ∧ Hid (deepRs ks q 0 = deepRs (ks.drop i) q d) ∧ Hid (Below wb.heap.size wb wr)) (fun _ vi _ => ((ks.length : Int) - intOf vi).toNat)
      case atStart => exact ⟨0, 0, by omega, rfl, rfl, by omega, Lib.hid rfl, Lib.hid (Below.refl _ _)⟩
      case round =>
        obtain ⟨i, d, hi, rfl, rfl, hd, hW, HR⟩ := hrel
        clear n0 n1 n2 n3 n4 n5
        obtain ⟨n0, n1, n2, n3, n4, n5⟩ := CN.out _ HR.out
        by_cases h4 : i < ks.length
        · obtain ⟨x, he⟩ : ∃ x, ks[i]? = some x := ⟨ks[i], List.getElem?_eq_getElem h4⟩
          obtain ⟨ad, A1, ca1, K1, ck1, rfl, had, d0, d1, d2, d3, d4, d5, hA2, hK2⟩ := (HK.out.below HR.out).at_ he
          have hgo := deepRs_go (m := q) (d := d) he
          have hmx := List.mem_of_getElem? he
          have hI := IH.out x hmx A1 K1 ca1 ck1 q _ (by omega) ⟨hA2, hK2⟩ (L3.out x hmx)
          have hb5 := deepR_most x q
          obtain ⟨z, hz⟩ : ∃ z, deepR x q = z := ⟨_, rfl⟩
          rw [hz] at hI hgo hb5
          have hz2 : z ≤ 2000 := by omega
          have hW3 := Lib.hid (hW.out.trans hgo)
          unfold ndV ndCells at hI
          clear hgo he hA2 hK2 hW hz hmx had hb5
          go_wp2_with fail
          refine hI.mono ?_
          rintro e w2 ⟨rfl, hb2⟩
          have HR3 := Lib.hid (HR.out.trans (hb2.mono HR.out.size))
          clear hI hb2 d0 d1 d2 d3 d4 d5 n0 n1 n2 n3 n4 n5
          by_cases hdz : d < z
          · have hW5 : Hid (deepRs ks q 0 = deepRs (ks.drop (i + 1)) q z) := Lib.hid (by rw [hW3.out, if_pos hdz])
            have hzi : (d : Int) < (z : Int) := by omega
            clear hW3
            go_wp2
            go_roundw
            case rel => exact ⟨i + 1, z, by omega, by go_num, rfl, hz2, hW5, HR3⟩
            case measure => simp [intOf]; omega
          · have hW5 : Hid (deepRs ks q 0 = deepRs (ks.drop (i + 1)) q d) := Lib.hid (by rw [hW3.out, if_neg hdz])
            have hzi : ¬ ((d : Int) < (z : Int)) := by omega
            clear hW3
            go_wp2
            go_roundw
            case rel => exact ⟨i + 1, d, by omega, by go_num, rfl, hd, hW5, HR3⟩
            case measure => simp [intOf]; omega
        · have hd2 : Hid (r = d + 1) := Lib.hid (by
            rw [HD.out, hW.out, List.drop_eq_nil_of_le (by omega)]; rw [deepRs])
          clear hW
          go_wp2
          go_ret
          refine ⟨?_, by rw [HT.out]; exact HB.out.trans (HR.out.mono hws)⟩
          show Ending.returned (.int .i64 ((d : Int) + 1)) = _
          rw [hd2.out]
          rfl
end Go.Proofs.YtlcjepnaljfpkaaGreatDoor
namespace Wb
theorem txt_step {l : List UInt8} (hne : l ≠ []) : TxtOK l ↔ (dec l).2 ≠ 0 ∧ charB (dec l).1 = true ∧ TxtOK (l.drop (dec l).2.toNat) := by
  constructor
  · rintro ⟨ns, h1, h2⟩
    cases ns with
    | nil => exact absurd h2 (by simpa using hne)
    | cons n ns =>
      have hn := char_sgn n (h1 n (by simp))
      have hd := flat_dec n ns [] hn
      have hr := flat_drop n ns []
      rw [List.append_nil] at hd hr
      rw [List.append_nil] at hr
      have hsl := slen_one n hn
      rw [h2, hd]
      refine ⟨by show slen n ≠ 0; omega, h1 n (by simp), ?_⟩
      show TxtOK (List.drop (slen n).toNat _)
      rw [hr]
      exact ⟨ns, fun m hm => h1 m (by simp [hm]), rfl⟩
  · rintro ⟨h0, hc, ns, h1, h2⟩
    obtain ⟨n, k, hd⟩ := dec_pair l
    rw [hd] at h0 hc h2
    simp only at h0 hc h2
    obtain ⟨a1, a2, rest, a3⟩ := dec_some _ n k hd h0
    have hl := enc_length n
    have hs := slen_one n a1
    have hrest : l.drop k.toNat = rest := by
      rw [a3, show k.toNat = (enc n).length by omega, List.drop_left]
    rw [hrest] at h2
    refine ⟨n :: ns, fun m hm => ?_, by rw [List.flatMap_cons, ← h2]; exact a3⟩
    rcases List.mem_cons.1 hm with rfl | hm
    · exact hc
    · exact h1 m hm
theorem txt_no {s : ByteArray} {l : List UInt8} (h : TxtB s ↔ TxtOK l) (hne : l ≠ []) {r m : Int} (hd : dec l = (r, m)) (hb : m = 0 ∨ charB r = false) : sgB s = false := by
  cases hs : sgB s with
  | false => rfl
  | true =>
    have := (txt_step hne).1 (h.1 ((sgB_iff s).1 hs))
    rw [hd] at this
    rcases hb with e | e
    · exact absurd e this.1
    · rw [this.2.1] at e; cases e
theorem txt_go {s : ByteArray} {p m : Nat} {r : Int} (h : TxtB s ↔ TxtOK (s.data.toList.drop p)) (hne : s.data.toList.drop p ≠ []) (hd : dec (s.data.toList.drop p) = (r, (m : Int))) (h0 : m ≠ 0) (hc : charB r = true) : TxtB s ↔ TxtOK (s.data.toList.drop (p + m)) := by
  rw [h, txt_step hne, hd]
  simp only [Int.toNat_natCast, List.drop_drop]
  exact ⟨fun g => g.2.2, fun g => ⟨by omega, hc, g⟩⟩
end Wb
namespace Go.Proofs.YtlcjepnaljfpkaaGreatDoor
open Go.RowKit Wb
set_option maxHeartbeats 1000000 in
theorem rsigns_any (s : ByteArray) (w : World) (hs : s.size ≤ 1000000000) :
    Calls Tryz.prog 94 #[.string s] w fun e w' => e = .returned (.bool (sgB s)) ∧ Below w.heap.size w w' := by
  go_enter Tryz.func94, Tryz.ntmps94
  go_wp2
  go_loopw [3] (fun i wr => ∃ p : Nat, p ≤ s.size ∧ i = .int .i64 p ∧ Hid (TxtB s ↔ TxtOK (s.data.toList.drop p)) ∧ Below w.heap.size w wr) (fun i _ => s.size - (intOf i).toNat)
  case atStart => exact ⟨0, by omega, rfl, Lib.hid Iff.rfl, Below.refl _ _⟩
  case round =>
    obtain ⟨p, hp, rfl, HC, hbel⟩ := hrel
    by_cases hlt : p < s.size
    · obtain ⟨b0, b4, bl⟩ := dec_bd (s.data.toList.drop p)
      obtain ⟨r', k, hd⟩ := dec_pair (s.data.toList.drop p)
      have HD := Lib.hid hd
      rw [hd] at b0 bl
      obtain ⟨m', rfl⟩ := Int.eq_ofNat_of_zero_le (show 0 ≤ k from b0)
      have hle : p + m' ≤ s.size := by simp at bl; omega
      have HR := Lib.hid (runeS_dec s p hlt)
      have HNE := Lib.hid (show s.data.toList.drop p ≠ [] by rw [drop_cons s p hlt]; simp)
      clear b0 b4 bl hd
      go_wp2_with fail
      refine (rrune_any s p _ hs).mono ?_
      rw [HR.out, HD.out]
      rintro e w3 ⟨rfl, hb3⟩
      have hbw3 := hbel.trans (hb3.mono hbel.size)
      clear hb3 hbel
      by_cases h0 : m' = 0
      · subst h0
        go_wp2
        go_ret
        exact ⟨ret_b (txt_no HC.out HNE.out HD.out (.inl rfl)).symm, hbw3⟩
      · have hne : ((m' : Int) == 0) = false := by simpa using h0
        have HB := Lib.hid hbw3
        clear hbw3
        go_wp2_with fail
        refine (rchar_any r' _).mono ?_
        cases hst : charB r' with
        | false =>
          have HS := Lib.hid (txt_no HC.out HNE.out HD.out (.inr hst)).symm
          clear hst
          rintro e w4 ⟨rfl, hb4⟩
          have HB4 := Lib.hid (HB.out.trans (hb4.mono HB.out.size))
          clear hb4
          go_wp2
          go_ret
          exact ⟨ret_b HS.out, HB4.out⟩
        | true =>
          have HS := Lib.hid (txt_go HC.out HNE.out HD.out h0 hst)
          clear hst
          rintro e w4 ⟨rfl, hb4⟩
          have hb5 := HB.out.trans (hb4.mono HB.out.size)
          clear hb4
          go_wp2
          go_roundw
          case rel => exact ⟨p + m', hle, by go_num, HS, hb5⟩
          case measure => simp [intOf]; omega
    · have HS : Hid (true = sgB s) := Lib.hid (by
        have h1 := HC.out.2 (by rw [List.drop_eq_nil_of_le (by simp; omega)]; exact TxtOK.nil)
        exact ((sgB_iff s).2 h1).symm)
      clear HC
      go_wp2
      go_ret
      exact ⟨ret_b HS.out, hbel⟩
set_option maxRecDepth 100000 in
set_option maxHeartbeats 1000000 in
theorem rnamed_any (n : Pr) (w : World) (h1 : n.1.size ≤ 1000000000) (h2 : n.2.size ≤ 1000000000) :
    Calls Tryz.prog 95 #[.agg #[.string n.1, .string n.2]] w fun e w' => e = .returned (.bool (nmB n)) ∧ Below w.heap.size w w' := by
  obtain ⟨a, b⟩ := n
  have HB := Lib.hid ((Below.refl w.heap.size w).alloc (Nat.le_refl _) (.cells #[.string a, .string b] 33))
  have hN := heap_alloc_new w (.cells #[.string a, .string b] 33)
  have hg : w.heap.size < (w.alloc (.cells #[.string a, .string b] 33)).heap.size := by simp
  have C := Lib.hid (fun (v : World) (h : Below (w.alloc (.cells #[.string a, .string b] 33)).heap.size (w.alloc (.cells #[.string a, .string b] 33)) v) => (show v.cell? ⟨w.heap.size, 0, none⟩ = some (.string a) ∧ v.cell? ⟨w.heap.size, 1, none⟩ = some (.string b) from ⟨blk_cell (still_block hN h) 0, blk_cell (still_block hN h) 1⟩))
  have HA := Lib.hid h1
  obtain ⟨q1, g1⟩ : ∃ q, nameB b.data.toList = q := ⟨_, rfl⟩
  obtain ⟨q2, g2⟩ : ∃ q, sgB a = q := ⟨_, rfl⟩
  obtain ⟨q3, g3⟩ : ∃ q, eqT a sXMLNS = q := ⟨_, rfl⟩
  have HQ : Hid (nmB (a, b) = (q1 && (q2 && !q3))) := Lib.hid (by unfold nmB; rw [g1, g2, g3])
  have h3 : (a.toList == [104, 116, 116, 112, 58, 47, 47, 119, 119, 119, 46, 119, 51, 46, 111, 114, 103, 47, 50, 48, 48, 48, 47, 120, 109, 108, 110, 115, 47]) = q3 := (lit_of a sXMLNS _ rfl).trans g3
  have hn := rname_any b (w.alloc (.cells #[.string a, .string b] 33)) h2
  have HSG := Lib.hid (fun v => rsigns_any a v h1)
  rw [g1] at hn
  rw [g2] at HSG
  clear g1 g2 g3 hN h1 h2
  go_enter Tryz.func95, Tryz.ntmps95
  go_wp2_with fail
  refine hn.mono ?_
  rintro e w1 ⟨rfl, hb1⟩
  obtain ⟨c0, c1⟩ := C.out w1 hb1
  have HB1 := Lib.hid (HB.out.trans (hb1.mono (Nat.le_of_lt hg)))
  cases q1 with
  | false =>
    clear hn hb1
    go_wp2
    go_ret
    exact ⟨by rw [HQ.out]; rfl, HB1.out⟩
  | true =>
    have hs := HSG.out w1
    go_wp2_with fail
    refine hs.mono ?_
    rintro e w2 ⟨rfl, hb2⟩
    have h12 := hb1.trans (hb2.mono hb1.size)
    clear c0 c1
    obtain ⟨c0, c1⟩ := C.out w2 h12
    have HB2 := Lib.hid (HB1.out.trans (hb2.mono HB1.out.size))
    clear hs hn hb1 hb2 h12
    cases q2 with
    | false =>
      go_wp2
      go_ret
      exact ⟨by rw [HQ.out]; rfl, HB2.out⟩
    | true =>
      go_wp2
      go_ret
      exact ⟨by rw [HQ.out]; simp, HB2.out⟩
end Go.Proofs.YtlcjepnaljfpkaaGreatDoor
