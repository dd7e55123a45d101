/- UbD. -/
import Derived.Test.YtbdamneophbnnaaGreatDoorCZ24
namespace Wb
theorem last_at {s : ByteArray} {n : Nat} (hn : s.size = n + 1) : s.data.toList.getLast? = some (s[n]'(by omega)) := by
  have hl : s.data.toList.length = n + 1 := by simp [hn]
  have hi : s.data.toList.length - 1 = n := by omega
  rw [List.getLast?_eq_getElem?, hi, List.getElem?_eq_getElem (by omega)]
  rfl
end Wb
namespace Go.Proofs.YtbdamneophbnnaaGreatDoor
open Go.RowKit Wb
def TestOut10 (o : Option (List UInt8 × List UInt8)) (w : World) (e : Ending) (w' : World) : Prop :=
  (∃ (a v : ByteArray) (b : Bool), e = .returned (.tuple #[.string a, .string v, .bool b]) ∧ ((b = false ∧ o = none) ∨ (b = true ∧ o = some (a.data.toList, v.data.toList)))) ∧ Below w.heap.size w w'
theorem TestOut10.no {o : Option (List UInt8 × List UInt8)} {w w' : World} (h : o = none) (hb : Below w.heap.size w w') : TestOut10 o w (.returned (.tuple #[.string ⟨#[]⟩, .string ⟨#[]⟩, .bool false])) w' := ⟨⟨_, _, _, rfl, .inl ⟨rfl, h⟩⟩, hb⟩
set_option maxHeartbeats 4000000 in
set_option maxRecDepth 100000 in
theorem rtest_any (s : ByteArray) (w : World) (hs : s.size ≤ 1000000000) :
    Calls Tryz.prog 71 #[.string s] w (TestOut10 (testP s.data.toList) w) := by
  have hlen : s.data.toList.length = s.size := by simp
  obtain ⟨o, ho⟩ : ∃ o, testP s.data.toList = o := ⟨_, rfl⟩
  rw [ho]
  by_cases h7 : s.size < 7
  · have HN : Hid (o = none) := Lib.hid (by rw [← ho]; exact test_not (.inl (by omega)))
    have i1 : (s.size : Int) < 7 := by omega
    clear ho
    go_enter Tryz.func71, Tryz.ntmps71
    go_wp2
    go_ret3
    exact .no HN.out (Below.refl _ _)
  · have i1 : ¬ (s.size : Int) < 7 := by omega
    obtain ⟨n, hn⟩ : ∃ n, s.size = n + 1 := ⟨s.size - 1, by omega⟩
    have hc1 := fun v => begins_any s ⟨#[91, 64]⟩ 0 v hs (by decide) (by omega) (by omega)
    have hc2 := fun v => index_any s ⟨#[61]⟩ 0 v hs (by decide) (by omega)
    have HC2 := Lib.hid hc2
    have HS := Lib.hid ho
    clear hc2 ho
    have w1 : IntKind.i64.wrap ((s.size : Int) - 1) = (n : Int) := by rw [IntKind.wrap_i64]; omega
    go_enter Tryz.func71, Tryz.ntmps71
    go_wp2_with fail
    refine (hc1 _).mono ?_
    rintro e w2 ⟨rfl, rfl⟩
    clear hc1
    cases hb : begB s 0 ⟨#[91, 64]⟩ with
    | false =>
      have HN : Hid (o = none) := Lib.hid (by
        rw [← HS.out]
        refine test_not (.inr (.inl fun h => ?_))
        have := (begB_0 s ⟨#[91, 64]⟩).2 h
        rw [hb] at this
        cases this)
      clear HS hb HC2
      go_wp2
      go_ret3
      exact .no HN.out (Below.refl _ _)
    | true =>
      have HB := Lib.hid ((begB_0 s ⟨#[91, 64]⟩).1 hb)
      clear hb
      have hgl : s.data.toList.getLast? = some (s[n]'(by omega)) := by
        exact last_at hn
      by_cases h93 : s[n]'(by omega) = 93
      · rw [h93] at hgl
        have HG := Lib.hid hgl
        have n93 : ((s[n]'(by omega)).toNat : Int) = 93 := by rw [h93]; rfl
        clear hgl h93
        go_wp2_with fail
        refine (HC2.out _).mono ?_
        rintro e w2 ⟨re, rfl, hre, rfl⟩
        have hre := idx_list hre
        rw [List.drop_zero] at hre
        clear HC2
        rcases hre with ⟨rfl, h61⟩ | ⟨k, rfl, _, hk, hdr, hX⟩
        · have HN : Hid (o = none) := Lib.hid (by rw [← HS.out]; exact test_not (.inr (.inr (.inr h61))))
          clear HS h61 HG HB
          go_wp2
          go_ret3
          exact .no HN.out (Below.refl _ _)
        · have k0 : ¬ (k : Int) < 0 := by omega
          have w2 : IntKind.i64.wrap ((k : Int) + 2) = (k : Int) + 2 := by rw [IntKind.wrap_i64]; omega
          have w3 : IntKind.i64.wrap ((k : Int) + 1) = ((k + 1 : Nat) : Int) := by rw [IntKind.wrap_i64]; omega
          by_cases hkn : n ≤ k + 2
          · have HN : Hid (o = none) := Lib.hid (by
              rw [← HS.out, hdr]
              exact test_short hX (by rw [List.length_drop]; omega))
            have k1 : ¬ (k : Int) + 2 < (n : Int) := by omega
            clear HS hdr hX HG HB
            go_wp2
            go_ret3
            exact .no HN.out (Below.refl _ _)
          · have k1 : (k : Int) + 2 < (n : Int) := by omega
            obtain ⟨h2k, hL, hXa⟩ := test_walk hn HB.out HG.out (by omega) hdr
            rw [hL] at HS
            have HX := Lib.hid hX
            have HA := Lib.hid hXa
            clear hdr hX hXa hL HG HB
            have hVs : (s.extract (k + 1) n).size = n - (k + 1) := by simp; omega
            have hNs : (s.extract 2 k).size ≤ 1000000000 := by simp; omega
            obtain ⟨V, hV⟩ : ∃ V, s.extract (k + 1) n = V := ⟨_, rfl⟩
            rw [hV] at HS hVs
            obtain ⟨m, hm⟩ : ∃ m, V.size = m + 1 := ⟨V.size - 1, by omega⟩
            have h1m : 1 ≤ m := by omega
            have hmn : m ≤ n := by omega
            clear hVs
            have w4 : IntKind.i64.wrap ((V.size : Int) - 1) = (m : Int) := by rw [IntKind.wrap_i64]; omega
            have b1 : (2 : Int) ≤ k := by omega
            have b2 : (k : Int) ≤ s.size := by omega
            have b3 : ((k + 1 : Nat) : Int) ≤ n := by omega
            have b4 : (n : Int) ≤ s.size := by omega
            have b5 : (1 : Int) ≤ (m : Int) := by omega
            have V0 : 0 < V.size := by omega
            by_cases hq : V[0] = 34 ∨ V[0] = 39
            · by_cases hl : V[m]'(by omega) = V[0]
              · have HT : Hid ((∀ j (hj : j < V.size), 1 ≤ j → j < m → V[j] ≠ V[0]) → o = if (splitB (s.extract 2 k)).2.2 = true then some ((s.extract 2 k).data.toList, (V.extract 1 m).data.toList) else none) := Lib.hid fun h => by
                  rw [← HS.out, test_end HX.out HA.out hm h1m hq hl h]
                have HM : Hid (∀ i (hi : i < V.size), 1 ≤ i → i < m → V[i] = V[0] → o = none) := Lib.hid fun i hi h1 h2 h3 => by
                  rw [← HS.out]
                  exact test_mid HX.out hm h1 h2 h3
                have hcs := fun v => rsplit_any (s.extract 2 k) v hNs
                have HCS := Lib.hid hcs
                clear HS HX HA hcs hNs hre
                rcases hq with hq | hq
                · have q0 : (V[0].toNat : Int) = 34 := by rw [hq]; rfl
                  have qm : ((V[m]'(by omega)).toNat : Int) = 34 := by rw [hl, hq]; rfl
                  clear hl
                  go_wp2
                  go_region
                  go_wp2
                  go_loop [9] (fun v9 => ∃ j : Nat, 1 ≤ j ∧ j ≤ m ∧ v9 = .int .i64 j ∧ Hid (∀ x (hx : x < V.size), 1 ≤ x → x < j → V[x] ≠ V[0])) (fun v9 => ((m : Int) - intOf v9).toNat)
                  case atStart => exact ⟨1, by omega, h1m, rfl, Lib.hid (fun x hx h1 h2 => absurd h2 (by omega))⟩
                  case round =>
                    obtain ⟨j, hj1, hjm, rfl, HJ⟩ := hrel
                    by_cases hjl : j < m
                    · have hjV : j < V.size := by omega
                      have wj : IntKind.i64.wrap ((j : Int) + 1) = (j : Int) + 1 := by rw [IntKind.wrap_i64]; omega
                      by_cases he : V[j] = V[0]
                      · have HN : Hid (o = none) := Lib.hid (HM.out j hjV hj1 hjl he)
                        have qj : (V[j].toNat : Int) = 34 := by rw [he, hq]; rfl
                        clear HM HT HJ he hq HCS
                        go_wp2
                        go_ret3
                        exact .no HN.out (Below.refl w.heap.size w).drew
                      · have qj : ((V[j].toNat : Int) == 34) = false := by
                          rw [beq_eq_false_iff_ne]
                          intro h
                          apply he
                          rw [hq]
                          exact UInt8.toNat_inj.1 (by show V[j].toNat = 34; omega)
                        have HJ2 : Hid (∀ x (hx : x < V.size), 1 ≤ x → x < j + 1 → V[x] ≠ V[0]) := Lib.hid fun x hx h1 h2 => by
                          by_cases hxj : x = j
                          · subst hxj; exact he
                          · exact HJ.out x hx h1 (by omega)
                        clear HM HT HJ he hq HCS
                        go_wp2
                        go_round
                        case rel => exact ⟨j + 1, by omega, by omega, by go_num, HJ2⟩
                        case measure => simp [intOf]; omega
                    · have hjm2 : j = m := by omega
                      have HE := Lib.hid (HT.out fun x hx h1 h2 => HJ.out x hx h1 (by omega))
                      have i0 : ¬ (j : Int) < (m : Int) := by omega
                      clear HM HT HJ hq
                      go_wp2_with fail
                      refine (HCS.out _).mono ?_
                      rintro e w5 ⟨rfl, hb⟩
                      have HB := Lib.hid hb
                      clear HCS hb
                      go_wp2
                      go_region
                      go_wp2
                      go_ret3
                      refine ⟨⟨_, _, _, rfl, ?_⟩, (of_drew HB.out.drew)⟩
                      rw [HE.out]
                      by_cases hsp : (splitB (s.extract 2 k)).2.2 = true
                      · exact .inr ⟨hsp, by rw [if_pos hsp]⟩
                      · exact .inl ⟨by simpa using hsp, by rw [if_neg hsp]⟩
                · have q0 : (V[0].toNat : Int) = 39 := by rw [hq]; rfl
                  have qm : ((V[m]'(by omega)).toNat : Int) = 39 := by rw [hl, hq]; rfl
                  clear hl
                  go_wp2
                  go_region
                  go_wp2
                  go_loop [9] (fun v9 => ∃ j : Nat, 1 ≤ j ∧ j ≤ m ∧ v9 = .int .i64 j ∧ Hid (∀ x (hx : x < V.size), 1 ≤ x → x < j → V[x] ≠ V[0])) (fun v9 => ((m : Int) - intOf v9).toNat)
                  case atStart => exact ⟨1, by omega, h1m, rfl, Lib.hid (fun x hx h1 h2 => absurd h2 (by omega))⟩
                  case round =>
                    obtain ⟨j, hj1, hjm, rfl, HJ⟩ := hrel
                    by_cases hjl : j < m
                    · have hjV : j < V.size := by omega
                      have wj : IntKind.i64.wrap ((j : Int) + 1) = (j : Int) + 1 := by rw [IntKind.wrap_i64]; omega
                      by_cases he : V[j] = V[0]
                      · have HN : Hid (o = none) := Lib.hid (HM.out j hjV hj1 hjl he)
                        have qj : (V[j].toNat : Int) = 39 := by rw [he, hq]; rfl
                        clear HM HT HJ he hq HCS
                        go_wp2
                        go_ret3
                        exact .no HN.out (Below.refl w.heap.size w).drew
                      · have qj : ((V[j].toNat : Int) == 39) = false := by
                          rw [beq_eq_false_iff_ne]
                          intro h
                          apply he
                          rw [hq]
                          exact UInt8.toNat_inj.1 (by show V[j].toNat = 39; omega)
                        have HJ2 : Hid (∀ x (hx : x < V.size), 1 ≤ x → x < j + 1 → V[x] ≠ V[0]) := Lib.hid fun x hx h1 h2 => by
                          by_cases hxj : x = j
                          · subst hxj; exact he
                          · exact HJ.out x hx h1 (by omega)
                        clear HM HT HJ he hq HCS
                        go_wp2
                        go_round
                        case rel => exact ⟨j + 1, by omega, by omega, by go_num, HJ2⟩
                        case measure => simp [intOf]; omega
                    · have hjm2 : j = m := by omega
                      have HE := Lib.hid (HT.out fun x hx h1 h2 => HJ.out x hx h1 (by omega))
                      have i0 : ¬ (j : Int) < (m : Int) := by omega
                      clear HM HT HJ hq
                      go_wp2_with fail
                      refine (HCS.out _).mono ?_
                      rintro e w5 ⟨rfl, hb⟩
                      have HB := Lib.hid hb
                      clear HCS hb
                      go_wp2
                      go_region
                      go_wp2
                      go_ret3
                      refine ⟨⟨_, _, _, rfl, ?_⟩, (of_drew HB.out.drew)⟩
                      rw [HE.out]
                      by_cases hsp : (splitB (s.extract 2 k)).2.2 = true
                      · exact .inr ⟨hsp, by rw [if_pos hsp]⟩
                      · exact .inl ⟨by simpa using hsp, by rw [if_neg hsp]⟩
              · have HN : Hid (o = none) := Lib.hid (by rw [← HS.out]; exact test_last HX.out hm h1m hl)
                have qm : (((V[m]'(by omega)).toNat : Int) != (V[0].toNat : Int)) = true := by
                  rw [bne_iff_ne]
                  exact fun h => hl (UInt8.toNat_inj.1 (by show (V[m]'(by omega)).toNat = V[0].toNat; omega))
                clear HS HX HA hre hl
                rcases hq with hq | hq
                · have q0 : (V[0].toNat : Int) = 34 := by rw [hq]; rfl
                  rw [q0] at qm
                  clear hq
                  go_wp2
                  go_region
                  go_wp2
                  go_ret3
                  exact .no HN.out (Below.refl w.heap.size w).drew
                · have q0 : (V[0].toNat : Int) = 39 := by rw [hq]; rfl
                  rw [q0] at qm
                  clear hq
                  go_wp2
                  go_region
                  go_wp2
                  go_ret3
                  exact .no HN.out (Below.refl w.heap.size w).drew
            · have HN : Hid (o = none) := Lib.hid (by rw [← HS.out]; exact test_q HX.out V0 hq)
              have q1 : ¬ (V[0].toNat : Int) = 34 := fun h => hq (.inl (UInt8.toNat_inj.1 (by show V[0].toNat = 34; omega)))
              have q2 : ¬ (V[0].toNat : Int) = 39 := fun h => hq (.inr (UInt8.toNat_inj.1 (by show V[0].toNat = 39; omega)))
              have m1 : ((V[0].toNat : Int) != 34) = true := by rw [bne_iff_ne]; exact q1
              have m2 : ((V[0].toNat : Int) != 39) = true := by rw [bne_iff_ne]; exact q2
              clear HS HX HA hre hq
              go_wp2
              go_region
              go_wp2
              go_ret3
              exact .no HN.out (Below.refl w.heap.size w).drew
      · have HN : Hid (o = none) := Lib.hid (by
          rw [← HS.out]
          refine test_not (.inr (.inr (.inl fun h => ?_)))
          rw [hgl] at h
          exact h93 (Option.some.inj h))
        have n93 : ¬ ((s[n]'(by omega)).toNat : Int) = 93 := fun h => h93 (UInt8.toNat_inj.1 (by show (s[n]'(by omega)).toNat = 93; omega))
        have m93 : (((s[n]'(by omega)).toNat : Int) != 93) = true := by rw [bne_iff_ne]; exact n93
        clear hgl h93 HS HC2
        go_wp2
        go_ret3
        exact .no HN.out (Below.refl _ _)
end Go.Proofs.YtbdamneophbnnaaGreatDoor
