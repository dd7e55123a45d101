
/- Contracts: the reference's Split; binding's errors; Find on both sides; what a name declares. -/
import Derived.Test.YtkcpkgegkmockaaQnA
namespace Go.Proofs.Ytkcpkgegkmockaa
open Go.RowKit Wb

theorem colon_at (q : ByteArray) (k : Nat) (h : k < q.size) (ht : ((q[k].toNat : Int) == 58) = true) (HN : ∀ j, j < k → q[j]! ≠ 58) : cIx q = some k := by
  refine (cIx_some q k).2 ⟨h, ?_, HN⟩
  rw [getElem!_pos q k h]
  have : (q[k].toNat : Int) = 58 := by simpa using ht
  have : q[k].toNat = 58 := by omega
  exact UInt8.toNat_inj.1 (by simpa using this)
theorem colon_not (q : ByteArray) (k : Nat) (h : k < q.size) (ht : ((q[k].toNat : Int) == 58) = false) (HN : ∀ j, j < k → q[j]! ≠ 58) : ∀ j, j < k + 1 → q[j]! ≠ 58 := by
  intro j hj
  by_cases e : j = k
  · subst e
    rw [getElem!_pos q j h]
    intro he
    rw [he] at ht
    simp at ht
  · exact HN j (by omega)

set_option maxHeartbeats 1000000 in
theorem rsplit_any (q : ByteArray) (w : World) (hs : q.size ≤ 1000000000) :
    Calls Try.prog 11 #[.string q] w fun e w' => e = .returned (.tuple #[.string (splitB q).1, .string (splitB q).2.1, .bool (splitB q).2.2]) ∧ Below w.heap.size w w' := by
  go_enter Try.func11, Try.ntmps11
  go_wp2
  go_loop [5] (fun i => ∃ k : Nat, k ≤ q.size ∧ i = .int .i64 k ∧ Hid (∀ j, j < k → q[j]! ≠ 58)) (fun i => ((q.size : Int) - intOf i).toNat)
  case atStart => exact ⟨0, by omega, rfl, Lib.hid (fun j hj => absurd hj (by omega))⟩
  case round =>
    obtain ⟨k, hk, rfl, HN⟩ := hrel
    by_cases hlt : k < q.size
    · go_wp2_with fail
      · have ht : ((q[k].toNat : Int) == 58) = true := by assumption
        have HC := Lib.hid (colon_at q k hlt ht HN.out)
        clear ht HN
        have h1 : (q.extract 0 k).size ≤ 1000000000 := by simp; omega
        have h2 : (q.extract (k + 1) q.size).size ≤ 1000000000 := by simp; omega
        go_region
        go_wp2_with fail
        cases ha : nameB (q.extract 0 k).data.toList
        · have HA := Lib.hid ha
          have H := Lib.hid (splitB_half HC.out ha)
          clear ha
          refine (rname_any _ _ h1).mono ?_
          rw [HA.out]
          rintro e w3 ⟨rfl, hb⟩
          replace hb := of_drew hb
          go_wp2
          go_ret3
          rw [H.out]
          exact ⟨rfl, hb⟩
        · have HA := Lib.hid ha
          clear ha
          refine (rname_any _ _ h1).mono ?_
          rw [HA.out]
          rintro e w3 ⟨rfl, hb⟩
          replace hb := of_drew hb
          go_wp2_with fail
          cases hd : nameB (q.extract (k + 1) q.size).data.toList
          all_goals
            have HD := Lib.hid hd
            have H := Lib.hid (splitB_some HC.out HA.out hd)
            clear hd
            refine (rname_any _ _ h2).mono ?_
            rw [HD.out]
            rintro e w3 ⟨rfl, hb2⟩
            replace hb := hb.trans (hb2.mono hb.size)
            clear hb2
            go_wp2
            go_ret3
            rw [H.out]
            exact ⟨rfl, hb⟩
      · have ht : ((q[k].toNat : Int) == 58) = false := by assumption
        have HN' := Lib.hid (colon_not q k hlt ht HN.out)
        go_round
        case rel => exact ⟨k + 1, by omega, by go_num, HN'⟩
        case measure => simp [intOf]; omega
    · have HC : Hid (cIx q = none) := (cIx_none q).2 (fun j hj => HN.out j (by omega))
      clear HN
      go_wp2_with fail
      cases ha : nameB q.data.toList
      all_goals
        have HA := Lib.hid ha
        have H := Lib.hid (splitB_none HC.out ha)
        clear ha
        refine (rname_any _ _ hs).mono ?_
        rw [HA.out]
        rintro e w3 ⟨rfl, hb⟩
        go_wp2
        go_ret3
        rw [H.out]
        exact ⟨rfl, hb⟩
/-! ### what may be bound -/
theorem eqT_nil (p : ByteArray) (h : eqT p sE = true) : p = ⟨#[]⟩ := (eqT_iff _ _).1 h
theorem ne_nil (p : ByteArray) (h : eqT p sE = false) : ¬ p.toList = [] := by
  rw [toList_nil_iff]; exact eqT_false.1 h
theorem ne_empty (p : ByteArray) (h : eqT p sE = false) : p.toList.isEmpty = false := by
  have := ne_nil p h
  simpa using this
theorem lit_of (p q : ByteArray) (l : List UInt8) (h : q.data.toList = l) : (p.toList == l) = eqT p q := by
  unfold eqT; rw [ByteArray.toList_eq q, h]

theorem nil_of (p : ByteArray) (h : eqT p sE = true) : p.toList = [] := (toList_nil_iff _).2 (eqT_nil p h)


theorem bind_fact (p s : ByteArray) {e1 n b1 b2 b3 b4 e5 : Bool} (h1 : eqT p sE = e1) (hn : nameB p.data.toList = n) (k1 : eqT p sXmlns = b1) (k2 : eqT p sXml = b2) (k3 : eqT s sXML = b3) (k4 : eqT s sXMLNS = b4) (h5 : eqT s sE = e5) :
    bindB p s = if !e1 && !n then 12 else if b1 || (b2 && !b3) || (!b2 && (b3 || b4)) || (!e1 && e5) then 13 else 0 := by
  subst h1; subst hn; subst k1; subst k2; subst k3; subst k4; subst h5; rfl

set_option maxHeartbeats 4000000 in
theorem bind_any (p s : ByteArray) (w : World) (hp : p.size ≤ 1000000000) :
    Calls Try.prog 30 #[.string p, .string s] w fun e w' => e = .returned (.int .i64 (bindB p s)) ∧ Below w.heap.size w w' := by
  have t1 : (p.toList == [120, 109, 108, 110, 115]) = eqT p sXmlns := lit_of p sXmlns _ rfl
  have t2 : (p.toList == [120, 109, 108]) = eqT p sXml := lit_of p sXml _ rfl
  have t3 : (s.toList == [104, 116, 116, 112, 58, 47, 47, 119, 119, 119, 46, 119, 51, 46, 111, 114, 103, 47, 88, 77, 76, 47, 49, 57, 57, 56, 47, 110, 97, 109, 101, 115, 112, 97, 99, 101]) = eqT s sXML := lit_of s sXML _ rfl
  have t4 : (s.toList == [104, 116, 116, 112, 58, 47, 47, 119, 119, 119, 46, 119, 51, 46, 111, 114, 103, 47, 50, 48, 48, 48, 47, 120, 109, 108, 110, 115, 47]) = eqT s sXMLNS := lit_of s sXMLNS _ rfl
  obtain ⟨b1, k1⟩ : ∃ b, eqT p sXmlns = b := ⟨_, rfl⟩
  obtain ⟨b2, k2⟩ : ∃ b, eqT p sXml = b := ⟨_, rfl⟩
  obtain ⟨b3, k3⟩ : ∃ b, eqT s sXML = b := ⟨_, rfl⟩
  obtain ⟨b4, k4⟩ : ∃ b, eqT s sXMLNS = b := ⟨_, rfl⟩
  obtain ⟨n, hn⟩ : ∃ b, nameB p.data.toList = b := ⟨_, rfl⟩
  obtain ⟨e1, h1⟩ : ∃ b, eqT p sE = b := ⟨_, rfl⟩
  obtain ⟨e5, h5⟩ : ∃ b, eqT s sE = b := ⟨_, rfl⟩
  rw [bind_fact p s h1 hn k1 k2 k3 k4 h5]
  have z1 : e1 = true → b1 = false ∧ b2 = false := by
    rintro rfl
    have := eqT_nil p h1
    subst this
    exact ⟨k1.symm.trans (eqT_false.2 (by decide)), k2.symm.trans (eqT_false.2 (by decide))⟩
  have z2 : e5 = true → b3 = false ∧ b4 = false := by
    rintro rfl
    have := eqT_nil s h5
    subst this
    exact ⟨k3.symm.trans (eqT_false.2 (by decide)), k4.symm.trans (eqT_false.2 (by decide))⟩
  rw [k1] at t1; rw [k2] at t2; rw [k3] at t3; rw [k4] at t4
  clear k1 k2 k3 k4
  have HN := Lib.hid hn
  clear hn
  cases e1
  · have hp0 := ne_nil p h1
    have hp1 := ne_empty p h1
    clear h1 z1
    go_enter Try.func30, Try.ntmps30
    go_wp2_with fail
    refine (name_any _ _ hp).mono ?_
    rw [HN.out]
    rintro e w3 ⟨rfl, hb⟩
    cases n
    · go_wp2
      go_ret
      exact ⟨rfl, hb⟩
    · cases e5
      · have hs0 := ne_nil s h5
        have hs1 := ne_empty s h5
        clear h5 z2
        cases b1 <;> cases b2 <;> cases b3 <;> cases b4 <;> (go_wp2; go_ret; exact ⟨rfl, hb⟩)
      · have hs0 := nil_of s h5
        clear h5 t3 t4
        obtain ⟨rfl, rfl⟩ := z2 rfl
        cases b1 <;> cases b2 <;> (go_wp2; go_ret; exact ⟨rfl, hb⟩)
  · have hp0 := nil_of p h1
    clear h1 t1 t2
    obtain ⟨rfl, rfl⟩ := z1 rfl
    clear z1 z2 h5
    cases b3 <;> cases b4 <;> (
      go_enter Try.func30, Try.ntmps30
      go_wp2
      go_ret
      exact ⟨rfl, Below.refl _ _⟩)
end Go.Proofs.Ytkcpkgegkmockaa
