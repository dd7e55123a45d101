
/- LexRemarks. -/
import Derived.Test.YtflfnnkdkfcpkaaGreatDoorLdT
import Derived.Test.YtflfnnkdkfcpkaaGreatDoorLdS
namespace Go.Proofs.YtflfnnkdkfcpkaaGreatDoor
open Go.RowKit Wb
set_option linter.unusedVariables false

def SameC : Prop := ∀ (A B : Option Addr) (ts us : List TokV) (c d : Nat) (w : World), ts.length ≤ 1000000 → ts.length = us.length → (∀ t ∈ ts, t.attrs.length ≤ 1000000) →
    (∀ (k : Nat) (t u : TokV), ts[k]? = some t → us[k]? = some u → t.kind = u.kind ∧ t.name = u.name ∧ t.attrs = u.attrs ∧ t.text = u.text) → TokS w A ts → TokS w B us →
    Calls Tryz.prog 19 #[.slice A ts.length c, .slice B us.length d, .bool false] w fun e w' => e = .returned (.bool true) ∧ Below w.heap.size w w' ∧ w'.heap = w.heap

theorem same_doc (HSM : SameC) {ts us : List (Nat × Tk)} (hm : us.map (·.2) = ts.map (·.2)) (hlen : ts.length ≤ 1000000) (hfew : ∀ x ∈ ts, x.2.2.2.1.length ≤ 67) (A B : Option Addr) (c d : Nat) (v : World) (hA : TokS v A (us.map tv)) (hB : TokS v B (ts.map tv)) :
    Calls Tryz.prog 19 #[.slice A us.length c, .slice B ts.length d, .bool false] v fun e w' => e = .returned (.bool true) ∧ Below v.heap.size v w' ∧ w'.heap = v.heap := by
  obtain ⟨h1, h2⟩ := alike_of hm
  have h := HSM A B (us.map tv) (ts.map tv) c d v (by rw [List.length_map]; omega) (by rw [List.length_map, List.length_map, h1]) (fun t ht => by
    obtain ⟨x, hx, rfl⟩ := List.mem_map.1 ht
    have hx2 : x.2 ∈ us.map (·.2) := List.mem_map.2 ⟨x, hx, rfl⟩
    rw [hm] at hx2
    obtain ⟨y, hy, e⟩ := List.mem_map.1 hx2
    have := hfew y hy
    rw [e] at this
    simp only [tv, prs, List.length_map]
    omega) h2 hA hB
  rwa [List.length_map, List.length_map] at h

set_option maxHeartbeats 8000000 in
set_option maxRecDepth 100000 in
theorem remarks_all (HSM : SameC) (s r : ByteArray) (K : Int) (hK0 : -9223372036854775808 ≤ K) (hK1 : K ≤ 9223372036854775807) (w : World) (hG : Gv w) :
    Calls Tryz.prog 6 #[.string s, .string r, .int .i64 K] w fun e w' => e = .returned (.bool true) ∧ Below w.heap.size w w' := by
  have HA := Lib.hid (awake_any w hG)
  have HG := Lib.hid hG
  clear hG
  by_cases hl : (20000 : Int) < s.size
  · go_enter Tryz.func6, Tryz.ntmps6
    go_wp2_with fail
    refine HA.out.mono ?_
    rintro e w1 ⟨rfl, hb⟩
    go_wp2
    go_ret
    exact ⟨rfl, hb⟩
  by_cases hl2 : (1000 : Int) < r.size
  · go_enter Tryz.func6, Tryz.ntmps6
    go_wp2_with fail
    refine HA.out.mono ?_
    rintro e w1 ⟨rfl, hb⟩
    go_wp2
    go_ret
    exact ⟨rfl, hb⟩
  have hrl : r.data.toList.length = r.size := by simp
  rcases chk_bd r.data.toList with hc | ⟨hc, _⟩
  · have HC := Lib.hid hc
    clear hc
    go_enter Tryz.func6, Tryz.ntmps6
    go_wp2_with fail
    refine HA.out.mono ?_
    rintro e w1 ⟨rfl, hb⟩
    go_wp2_with fail
    refine (rcheck_any r _ (by omega)).mono ?_
    rw [HC.out]
    rintro e w2 ⟨rfl, hb2⟩
    replace hb := hb.trans (hb2.mono hb.size)
    clear hb2
    go_wp2
    go_loop [7] (fun i => ∃ k : Nat, k ≤ r.size ∧ i = .int .i64 k ∧ Hid (∀ j (h : j < r.size), j < k → 32 ≤ r[j].toNat ∧ r[j] ≠ 45 ∧ r[j] ≠ 63 ∧ r[j] ≠ 239)) (fun i => ((r.size : Int) - intOf i).toNat)
    case atStart => exact ⟨0, by omega, rfl, Lib.hid (fun j _ h => absurd h (by omega))⟩
    case round =>
      obtain ⟨k, hk, rfl, HK⟩ := hrel
      by_cases hlt : k < r.size
      · by_cases h32 : (r[k].toNat : Int) < 32
        · go_wp2
          go_ret
          exact ⟨rfl, hb⟩
        · by_cases h45 : r[k] = 45
          · have t45 : ((r[k].toNat : Int) == 45) = true := (byte_eq r k hlt 45).trans (decide_eq_true h45)
            clear h45
            go_wp2
            go_ret
            exact ⟨rfl, hb⟩
          · have t45 : ((r[k].toNat : Int) == 45) = false := (byte_eq r k hlt 45).trans (decide_eq_false h45)
            by_cases h63 : r[k] = 63
            · have t63 : ((r[k].toNat : Int) == 63) = true := (byte_eq r k hlt 63).trans (decide_eq_true h63)
              clear h45 h63
              go_wp2
              go_ret
              exact ⟨rfl, hb⟩
            · have t63 : ((r[k].toNat : Int) == 63) = false := (byte_eq r k hlt 63).trans (decide_eq_false h63)
              by_cases h239 : r[k] = 239
              · have t239 : ((r[k].toNat : Int) == 239) = true := (byte_eq r k hlt 239).trans (decide_eq_true h239)
                clear h45 h63 h239
                go_wp2
                go_ret
                exact ⟨rfl, hb⟩
              · have t239 : ((r[k].toNat : Int) == 239) = false := (byte_eq r k hlt 239).trans (decide_eq_false h239)
                have HS : Hid (∀ j (h : j < r.size), j < k + 1 → 32 ≤ r[j].toNat ∧ r[j] ≠ 45 ∧ r[j] ≠ 63 ∧ r[j] ≠ 239) := Lib.hid (fun j h hj => by
                  by_cases e : j = k
                  · subst e; exact ⟨by omega, h45, h63, h239⟩
                  · exact HK.out j h (by omega))
                clear h45 h63 h239
                go_wp2
                go_round
                case rel => exact ⟨k + 1, by omega, by go_num, HS⟩
                case measure => simp [intOf]; omega
      · have HR : Hid (RemOK r) := Lib.hid ⟨by omega, HC.out, fun b hb => by
          obtain ⟨j, hj, rfl⟩ := List.getElem_of_mem hb
          have hj' : j < r.size := by simpa using hj
          exact HK.out j hj' (by omega)⟩
        clear HK HC
        rcases tokens_fit s.data.toList with ⟨ts, hd, ht⟩ | ⟨_, p, c, ht, _, hcp⟩
        · have HT := Lib.hid ht
          have HD := Lib.hid hd
          clear ht hd
          go_wp2_with fail
          refine (Tokens_any s _ (HG.out.next hb) (by omega)).mono ?_
          rw [HT.out]
          rintro e w3 ⟨⟨A, cp, rfl, hT⟩, hb3⟩
          replace hb := hb.trans (hb3.mono hb.size)
          clear hb3
          have hlen : ts.length ≤ 1000000 := by
            have := toks_few (doc_form HD.out).2 (fun x hx => ((doc_form HD.out).1 x hx).1)
            have hs : s.data.toList.length = s.size := by simp
            omega
          have hHb := hb
          go_wp2
          go_loopw [11] (fun vi wr => ∃ (k : Nat), k ≤ ts.length ∧ vi = .int .i64 k ∧ Below w.heap.size w wr ∧ Below w3.heap.size w3 wr) (fun vi _ => ((ts.length : Int) - intOf vi).toNat)
          case atStart => exact ⟨0, by omega, rfl, hb, Below.refl _ _⟩
          case round =>
            obtain ⟨k, hk, rfl, hbw, hb3⟩ := hrel
            by_cases h0 : k < ts.length
            · have htk : (ts.map tv)[k]? = some (tv ts[k]) := by rw [List.getElem?_map, List.getElem?_eq_getElem h0]; rfl
              obtain ⟨ad, C, cc, rfl, had, c0, c1, c2, c3, c4, hC⟩ := (hT.below hb3).at_ htk
              have HP := Lib.hid (fun (h4 : ts[k].2.1 ≠ 4) => put_tokens HD.out (by omega : s.size ≤ 20000) HR.out h0 h4)
              have hpl := ((doc_form HD.out).1 ts[k] (List.getElem_mem _)).1
              have hs : s.data.toList.length = s.size := by simp
              rw [hs] at hpl
              generalize ts[k] = x at HP hpl c0 c1 c2 c3 c4 hC htk
              obtain ⟨p, kd, nm, at_, tx⟩ := x
              simp only [tv] at c0 c1 HP hpl
              clear htk hC c2 c3 c4 hs
              by_cases h4 : kd = 4
              · subst h4
                clear HP had
                go_wp2
                go_roundw
                case rel => exact ⟨k + 1, by omega, by go_num, hbw, hb3⟩
                case measure => simp [intOf]; omega
              · have hkd : (kd == 4) = false := by simpa using h4
                obtain ⟨⟨us1, hu1, hm1⟩, us2, hu2, hm2⟩ := HP.out h4
                have z1 := putB_size s p ⟨#[60, 33, 45, 45]⟩ r ⟨#[45, 45, 62]⟩ (by omega)
                have z2 := putB_size s p ⟨#[60, 63, 120, 32]⟩ r ⟨#[63, 62]⟩ (by omega)
                have z3 : (⟨#[60, 33, 45, 45]⟩ : ByteArray).size = 4 := rfl
                have z4 : (⟨#[45, 45, 62]⟩ : ByteArray).size = 3 := rfl
                have z5 : (⟨#[60, 63, 120, 32]⟩ : ByteArray).size = 4 := rfl
                have z6 : (⟨#[63, 62]⟩ : ByteArray).size = 2 := rfl
                rw [z3, z4] at z1
                rw [z5, z6] at z2
                have H1 := Lib.hid (fun (v : World) (hv : Gv v) => Tokens_any (putB s p ⟨#[60, 33, 45, 45]⟩ r ⟨#[45, 45, 62]⟩) v hv (by omega))
                have H2 := Lib.hid (fun (v : World) (hv : Gv v) => Tokens_any (putB s p ⟨#[60, 63, 120, 32]⟩ r ⟨#[63, 62]⟩) v hv (by omega))
                rw [hu1] at H1
                rw [hu2] at H2
                simp only [putB] at H1 H2
                have x1 : (s.extract 0 p).size = p := by rw [ByteArray.size_extract]; omega
                have x2 : (s.extract p s.size).size = s.size - p := by rw [ByteArray.size_extract]; omega
                have HAD := Lib.hid had
                have HM1 := Lib.hid hm1
                have HM2 := Lib.hid hm2
                have bl : (ad.add (k * 5)).block = ad.block := by unfold Addr.add; split <;> rfl
                have HS := Lib.hid (fun (v : World) (hb : Below wr.heap.size wr v) => (World.cell?_of_block (w := wr) (a := ⟨(ad.add (k * 5)).block, (ad.add (k * 5)).off + 1, none⟩) (hb.block _ (by rw [bl]; exact had))).trans c1)
                have hbd : Below wr.heap.size wr wr.drew := (Below.refl _ _).drew
                have hgd : Gv wr.drew := (HG.out.next hbw).drew
                clear HP hu1 hu2 hm1 hm2 z1 z2 z3 z4 z5 z6 had bl
                have y0 : (0 : Int) ≤ (p : Int) := by omega
                have y1 : (p : Int) ≤ (s.size : Int) := by omega
                have y2 : ¬ 9223372036854775807 < p + 4 := by omega
                have y3 : ¬ 9223372036854775807 < p + 4 + r.size := by omega
                have y4 : ¬ 9223372036854775807 < p + 4 + r.size + 3 := by omega
                have y5 : ¬ 9223372036854775807 < p + 4 + r.size + 3 + (s.size - p) := by omega
                have y6 : ¬ 9223372036854775807 < p + 4 + r.size + 2 := by omega
                have y7 : ¬ 9223372036854775807 < p + 4 + r.size + 2 + (s.size - p) := by omega
                by_cases hK : 0 < K
                all_goals go_wp2_with fail
                case roundEnd => exact ⟨⟨k + 1, by omega, by go_num, hbw, hb3⟩, by simp [intOf]; omega⟩
                all_goals
                  try simp only [List.append]
                  go_region_held2 (fun v => v.cell? ⟨(ad.add (k * 5)).block, (ad.add (k * 5)).off + 1, none⟩ = some (.int .i64 p))
                    (with_reducible (first | exact HS.out _ hbd | exact hs4))
                    (first | (go_at_call 16; refine (H1.out _ hgd).mono ?_; rintro e w4 ⟨⟨A1, q1, rfl, hT1⟩, hb4⟩; have hs4 := HS.out _ (hbd.trans hb4)))
                all_goals
                  have hgd4 : Gv w4.drew := (hgd.next hb4).drew
                  have hbd4 : Below w4.heap.size w4 w4.drew := (Below.refl _ _).drew
                  have hbw4 : Below wr.heap.size wr w4 := hbd.trans hb4
                  have HS2 := Lib.hid (fun (v : World) (hb : Below w4.heap.size w4 v) => HS.out v (hbw4.trans (hb.mono hbw4.size)))
                  go_wp2_with fail
                  try simp only [List.append]
                  go_region_held2 (fun v => v.cell? ⟨(ad.add (k * 5)).block, (ad.add (k * 5)).off + 1, none⟩ = some (.int .i64 p))
                    (with_reducible (first | exact HS2.out _ hbd4 | exact hs5))
                    (first | (go_at_call 16; refine (H2.out _ hgd4).mono ?_; rintro e w5 ⟨⟨A2, q2, rfl, hT2⟩, hb5⟩; have hs5 := HS2.out _ (hbd4.trans hb5)))
                  go_wp2_with fail
                  refine (same_doc HSM HM1.out hlen (doc_few HD.out) A1 _ q1 cp _ (hT1.below (hbd4.trans hb5)) ((hT.below hb3).below (hbw4.trans ((hbd4.trans hb5).mono hbw4.size)))).mono ?_
                  rintro e w6 ⟨rfl, hb6, hh6⟩
                  go_wp2_with fail
                  refine (same_doc HSM HM2.out hlen (doc_few HD.out) A2 _ q2 cp _ (hT2.below hb6) ((hT.below hb3).below ((hbw4.trans ((hbd4.trans hb5).mono hbw4.size)).trans (hb6.mono (hbw4.trans ((hbd4.trans hb5).mono hbw4.size)).size)))).mono ?_
                  rintro e w7 ⟨rfl, hb7, hh7⟩
                  have ha := hbw4.trans ((hbd4.trans hb5).mono hbw4.size)
                  have hc := ha.trans (hb6.mono ha.size)
                  have hd := hc.trans (hb7.mono hc.size)
                  go_wp2
                  go_roundw
                  all_goals first
                    | exact ⟨k + 1, by omega, by go_num, hbw.trans (hd.mono hbw.size), hb3.trans (hd.mono hb3.size)⟩
                    | (simp [intOf]; omega)
            · go_wp2
              go_ret
              exact ⟨rfl, hbw⟩
        · have HT := Lib.hid ht
          have q : ((c : Int) == 0) = false := decide_eq_false (by omega)
          clear ht hcp
          go_wp2_with fail
          refine (Tokens_any s _ (HG.out.next hb) (by omega)).mono ?_
          rw [HT.out]
          rintro e w3 ⟨rfl, hb3⟩
          replace hb := hb.trans (hb3.mono hb.size)
          clear hb3
          go_wp2
          go_ret
          exact ⟨rfl, hb⟩
  · have HC := Lib.hid hc
    go_enter Tryz.func6, Tryz.ntmps6
    go_wp2_with fail
    refine HA.out.mono ?_
    rintro e w1 ⟨rfl, hb⟩
    go_wp2_with fail
    refine (rcheck_any r _ (by omega)).mono ?_
    rintro e w2 ⟨rfl, hb2⟩
    replace hb := hb.trans (hb2.mono hb.size)
    clear hb2
    go_wp2
    go_ret
    exact ⟨rfl, hb⟩

theorem remarks_fin (s r : ByteArray) (K : Int) (hK0 : -9223372036854775808 ≤ K) (hK1 : K ≤ 9223372036854775807) (w : World) (hG : Gv w) :
    Calls Tryz.prog 6 #[.string s, .string r, .int .i64 K] w fun e w' => e = .returned (.bool true) ∧ Below w.heap.size w w' :=
  remarks_all (fun A B ts us c d w h1 h2 h3 h4 h5 h6 => same_alike A B ts us c d w h1 h2 h3 h4 h5 h6) s r K hK0 hK1 w hG
end Go.Proofs.YtflfnnkdkfcpkaaGreatDoor
