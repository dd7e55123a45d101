
/- LexRises. -/
import Derived.Test.YtflfnnkdkfcpkaaGreatDoorLdE
import Derived.Test.YtflfnnkdkfcpkaaGreatDoorLxC
import Derived.Deep.RegionWith
import Derived.Test.YtflfnnkdkfcpkaaGreatDoorMgF
namespace Go.Proofs.YtflfnnkdkfcpkaaGreatDoor
open Go.RowKit Wb

theorem ts_few {ts : List (Nat × Tk)} {n : Nat} (h : (ts.map (·.1)).Pairwise (· < ·)) (hb : ∀ x ∈ ts, x.1 < n) : ts.length ≤ n := by
  have key : ∀ (l : List Nat) (a : Nat), l.Pairwise (· < ·) → (∀ x ∈ l, a ≤ x ∧ x < n) → l.length + a ≤ n ∨ l = [] := by
    intro l
    induction l with
    | nil => intro a _ _; exact .inr rfl
    | cons c l ih =>
      intro a hp hx
      left
      rw [List.pairwise_cons] at hp
      have hc := hx c (by simp)
      rcases ih (c + 1) hp.2 (fun x hm => ⟨hp.1 x hm, (hx x (by simp [hm])).2⟩) with h | h
      · simp only [List.length_cons]; omega
      · subst h; simp only [List.length_cons, List.length_nil]; omega
  rcases key (ts.map (·.1)) 0 h (fun x hx => by
    obtain ⟨y, hy, rfl⟩ := List.mem_map.1 hx
    exact ⟨Nat.zero_le _, hb y hy⟩) with h | h
  · simpa using h
  · have := congrArg List.length h
    simp at this
    simp [this]
theorem tv_kind (x : Nat × Tk) : (tv x).kind = x.2.1 := rfl
/-- What the statement asks of a token's place. -/
theorem begins_sec (s : ByteArray) (p : Nat) (hp : p < s.size) : (begB s p ⟨#[60, 33, 91]⟩ = true ↔ (s.data.toList.drop p).take 3 = [60, 33, 91]) := by
  have hs : s.size = s.data.toList.length := by simp
  have e3 : (⟨#[60, 33, 91]⟩ : ByteArray).size = 3 := rfl
  have e := begAt_L s ⟨#[60, 33, 91]⟩ p
  rw [e3] at e
  unfold begB
  rw [e3]
  simp only [Int.toNat_natCast, Bool.and_eq_true, decide_eq_true_eq]
  constructor
  · rintro ⟨_, _, h⟩
    exact e.1 h
  · intro h
    refine ⟨by omega, ?_, e.2 h⟩
    have := congrArg List.length h
    simp only [List.length_take, List.length_drop, List.length_cons, List.length_nil] at this
    omega
theorem head_byte (s : ByteArray) (p : Nat) (hp : p < s.size) : ((s.data.toList.drop p).take 1 = [60] ↔ s[p] = 60) := by
  rw [drop_cons s p hp]
  simp
theorem tk_cases {s : ByteArray} {p : Nat} {t : Tk} (hp : p < s.size) (h : TkForm (s.data.toList.drop p) t) :
    (t.1 = 4 ∧ t.2.1 = [] ∧ t.2.2.1 = [] ∧ ((s[p].toNat : Int) == 60) = false) ∨
    (t.1 = 4 ∧ t.2.1 = [] ∧ t.2.2.1 = [] ∧ ((s[p].toNat : Int) == 60) = true ∧ begB s p ⟨#[60, 33, 91]⟩ = true) ∨
    (t.1 = 2 ∧ t.2.2.1 = [] ∧ ((s[p].toNat : Int) == 60) = true ∧ begB s p ⟨#[60, 33, 91]⟩ = false) ∨
    ((t.1 = 1 ∨ t.1 = 3) ∧ ((s[p].toNat : Int) == 60) = true ∧ begB s p ⟨#[60, 33, 91]⟩ = false) := by
  obtain ⟨h1, h2, h3, h4, h5⟩ := h
  have b1 := begins_sec s p hp
  have b2 := head_byte s p hp
  have b3 := byte_eq s p hp 60
  by_cases hk : t.1 = 4
  · obtain ⟨n1, n2⟩ := h3 hk
    by_cases hb : s[p] = 60
    · refine .inr (.inl ⟨hk, n1, n2, b3.trans (decide_eq_true hb), b1.2 ?_⟩)
      apply Classical.byContradiction
      intro hn
      exact h5.2 ⟨b2.2 hb, hn⟩ hk
    · exact .inl ⟨hk, n1, n2, b3.trans (decide_eq_false hb)⟩
  · obtain ⟨m1, m2⟩ := h5.1 hk
    have hb := b3.trans (decide_eq_true (b2.1 m1))
    have hn : begB s p ⟨#[60, 33, 91]⟩ = false := Bool.eq_false_iff.2 (fun h => m2 (b1.1 h))
    by_cases hk2 : t.1 = 2
    · exact .inr (.inr (.inl ⟨hk2, h4 hk2, hb, hn⟩))
    · exact .inr (.inr (.inr ⟨by omega, hb, hn⟩))

set_option maxHeartbeats 4000000 in
set_option maxRecDepth 100000 in
theorem rises_all (s : ByteArray) (w : World) (hG : Gv w) :
    Calls Tryz.prog 5 #[.string s] w fun e w' => e = .returned (.bool true) ∧ Below w.heap.size w w' := by
  have HA := Lib.hid (awake_any w hG)
  have HG := Lib.hid hG
  clear hG
  by_cases hl : (40000 : Int) < s.size
  · go_enter Tryz.func5, Tryz.ntmps5
    go_wp2_with fail
    refine HA.out.mono ?_
    rintro e w1 ⟨rfl, hb⟩
    go_wp2
    go_ret
    exact ⟨rfl, hb⟩
  have hsz : s.data.toList.length = s.size := by simp
  rcases tokens_fit s.data.toList with ⟨ts, hd, ht⟩ | ⟨_, p, c, ht, hp, hc⟩
  · have HT := Lib.hid ht
    have HD := Lib.hid (doc_form hd)
    clear ht hd
    go_enter Tryz.func5, Tryz.ntmps5
    go_wp2_with fail
    refine HA.out.mono ?_
    rintro e w1 ⟨rfl, hb⟩
    go_wp2_with fail
    refine (Tokens_any s _ (HG.out.next hb) (by omega)).mono ?_
    rw [HT.out]
    rintro e w2 ⟨⟨A, cp, rfl, hT⟩, hb2⟩
    replace hb := hb.trans (hb2.mono hb.size)
    clear hb2
    have hlen : ts.length ≤ 1000000 := by
      have := ts_few HD.out.2 (fun x hx => (HD.out.1 x hx).1)
      omega
    have HF : Hid (∀ (k : Nat) (h : k < ts.length), ∃ hp : ts[k].1 < s.size, TkForm (s.data.toList.drop ts[k].1) ts[k].2) := Lib.hid (fun k h => by
      have := HD.out.1 ts[k] (List.getElem_mem _)
      exact ⟨by rw [← hsz]; exact this.1, this.2⟩)
    have HR : Hid (∀ (j k : Nat) (h : k < ts.length) (hj : j < k), (ts[j]'(by omega)).1 < ts[k].1) := Lib.hid (fun j k h hj => by
      have := List.pairwise_iff_getElem.1 HD.out.2 j k (by rw [List.length_map]; omega) (by rw [List.length_map]; exact h) hj
      simpa using this)
    clear HD HT HA
    have hwb := hb
    go_wp2
    go_loopw [6, 7] (fun vz vi wr => ∃ (k : Nat) (z : Int), k ≤ ts.length ∧ vi = .int .i64 k ∧ vz = .int .i64 z ∧ Hid (∀ (j : Nat) (h : j < ts.length), k ≤ j → z < (ts[j].1 : Int)) ∧ Below w.heap.size w wr ∧ Below w2.heap.size w2 wr) (fun _ vi _ => ((ts.length : Int) - intOf vi).toNat)
    case atStart => exact ⟨0, -1, by omega, rfl, rfl, Lib.hid (fun j h _ => by omega), hb, Below.refl _ _⟩
    case round =>
      obtain ⟨k, z, hk, rfl, rfl, hz, hbw, hb2⟩ := hrel
      by_cases h0 : k < ts.length
      · obtain ⟨hp, hf⟩ := HF.out k h0
        have hzk := hz.out k h0 (Nat.le_refl _)
        have HN : Hid (∀ (j : Nat) (h : j < ts.length), k + 1 ≤ j → ((ts[k].1 : Nat) : Int) < (ts[j].1 : Int)) := Lib.hid (fun j h hj => by
          have := HR.out k j h hj
          omega)
        have htk : (ts.map tv)[k]? = some (tv ts[k]) := by rw [List.getElem?_map, List.getElem?_eq_getElem h0]; rfl
        obtain ⟨ad, C, cc, rfl, had, c0, c1, c2, c3, c4, hC⟩ := (hT.below hb2).at_ htk
        generalize ts[k] = x at hp hf hzk HN c0 c1 c2 c3 c4 hC htk
        obtain ⟨p, kd, nm, at_, tx⟩ := x
        simp only [tv] at c0 c1 c2 c3 c4 hC hp hf hzk HN
        have hcs := tk_cases hp hf
        simp only at hcs
        have hg := begins_any s ⟨#[60, 33, 91]⟩ p
        clear htk hz had hC hf
        have hcs' : (kd = 4 ∧ nm = [] ∧ at_ = [] ∧ ((s[p].toNat : Int) == 60) = false) ∨ (kd = 4 ∧ nm = [] ∧ at_ = [] ∧ ((s[p].toNat : Int) == 60) = true ∧ begB s p ⟨#[60, 33, 91]⟩ = true) ∨
            (((s[p].toNat : Int) == 60) = true ∧ begB s p ⟨#[60, 33, 91]⟩ = false ∧ (kd == 4) = false ∧ Hid ((kd = 2 ∧ at_ = []) ∨ kd = 1 ∨ kd = 3)) := by
          rcases hcs with h | h | ⟨h1, h2, h3, h4⟩ | ⟨h1, h3, h4⟩
          · exact .inl h
          · exact .inr (.inl h)
          · exact .inr (.inr ⟨h3, h4, by rw [h1]; rfl, Lib.hid (.inl ⟨h1, h2⟩)⟩)
          · exact .inr (.inr ⟨h3, h4, by rcases h1 with h1 | h1 <;> rw [h1] <;> rfl, Lib.hid (.inr h1)⟩)
        clear hcs
        rcases hcs' with ⟨rfl, rfl, rfl, hq⟩ | ⟨rfl, rfl, rfl, hq, hbg⟩ | ⟨hq, hbg, hkd, HK⟩
        · have hL : (prs ([] : List (List UInt8 × List UInt8))).length = 0 := rfl
          rw [hL] at c3
          clear hg hL
          go_wp2_with fail
          go_region
          all_goals go_wp2
          all_goals go_roundw
          all_goals first
            | exact ⟨k + 1, p, by omega, by go_num, rfl, HN, (hbw.alloc hbw.size _).drew, (hb2.alloc hb2.size _).drew⟩
            | (simp [intOf]; omega)
        · have hL : (prs ([] : List (List UInt8 × List UInt8))).length = 0 := rfl
          rw [hL] at c3
          rw [hbg] at hg
          clear hL
          go_wp2_with fail
          go_region_with (go_at_call 17; refine (hg _ (by omega) (by decide) (by omega) (by omega)).mono ?_; rintro e w' ⟨rfl, rfl⟩)
          all_goals go_wp2
          all_goals go_roundw
          all_goals first
            | exact ⟨k + 1, p, by omega, by go_num, rfl, HN, (hbw.alloc hbw.size _).drew, (hb2.alloc hb2.size _).drew⟩
            | (simp [intOf]; omega)
        · rw [hbg] at hg
          go_wp2_with fail
          go_region_with (go_at_call 17; refine (hg _ (by omega) (by decide) (by omega) (by omega)).mono ?_; rintro e w' ⟨rfl, rfl⟩)
          all_goals
            rcases HK.out with ⟨rfl, rfl⟩ | rfl | rfl
            · have hL : (prs ([] : List (List UInt8 × List UInt8))).length = 0 := rfl
              rw [hL] at c3
              go_wp2
              go_roundw
              case rel => exact ⟨k + 1, p, by omega, by go_num, rfl, HN, (hbw.alloc hbw.size _).drew, (hb2.alloc hb2.size _).drew⟩
              case measure => simp [intOf]; omega
            · go_wp2
              go_roundw
              case rel => exact ⟨k + 1, p, by omega, by go_num, rfl, HN, (hbw.alloc hbw.size _).drew, (hb2.alloc hb2.size _).drew⟩
              case measure => simp [intOf]; omega
            · go_wp2
              go_roundw
              case rel => exact ⟨k + 1, p, by omega, by go_num, rfl, HN, (hbw.alloc hbw.size _).drew, (hb2.alloc hb2.size _).drew⟩
              case measure => simp [intOf]; omega
      · go_wp2
        go_ret
        exact ⟨rfl, hbw⟩
  · have HT := Lib.hid ht
    have q : ((c : Int) == 0) = false := decide_eq_false (by omega)
    have hp' : p ≤ s.size := by omega
    clear ht hp hc
    go_enter Tryz.func5, Tryz.ntmps5
    go_wp2_with fail
    refine HA.out.mono ?_
    rintro e w1 ⟨rfl, hb⟩
    go_wp2_with fail
    refine (Tokens_any s _ (HG.out.next hb) (by omega)).mono ?_
    rw [HT.out]
    rintro e w2 ⟨rfl, hb2⟩
    replace hb := hb.trans (hb2.mono hb.size)
    clear hb2
    go_wp2
    go_ret
    exact ⟨rfl, hb⟩
end Go.Proofs.YtflfnnkdkfcpkaaGreatDoor
