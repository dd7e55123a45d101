/- QcS FhB. -/
import Derived.Test.YtmabhbihgenmcaaGreatDoorKc21
import Derived.Test.YtmabhbihgenmcaaGreatDoorKc22
namespace Go.Proofs.YtmabhbihgenmcaaGreatDoor
open Go.RowKit Wb
theorem text1_at (u : World) (g : Nat) (v : UInt8) (h : u.cell? ⟨g, 0, none⟩ = some (.int .u8 (v.toNat : Int))) : (convert 49 9 (.slice (some ⟨g, 0, none⟩) 1 1)).run Tryz.prog u = .ok (.string ⟨#[v]⟩) u := by
  have h2 := run_convert_bytes_back (P := Tryz.prog) u 49 9 5 ⟨g, 0, none⟩ 1 [v] Tryz.underlying49 Tryz.underlying5 Tryz.underlying9 (fun j hj => by
    have hj0 : j = 0 := by simpa using hj
    subst hj0
    rw [Addr.add_zero']
    exact h)
  exact h2
set_option maxRecDepth 100000 in
set_option maxHeartbeats 8000000 in
theorem rdigits_any : ∀ (n : Nat) (w : World), n ≤ 10000000 → Calls Tryz.prog 31 #[.int .i64 n] w fun e w' => e = .returned (.string (mkB (digs n))) ∧ Below w.heap.size w w' := by
  intro n
  induction n using Nat.strongRecOn with
  | _ n ih =>
    intro w hn
    by_cases h0 : n = 0
    · subst h0
      have HE : Hid (mkB (digs 0) = ⟨#[]⟩) := Lib.hid (by rw [digs, dif_pos rfl]; rfl)
      go_enter Tryz.func31, Tryz.ntmps31
      go_wp2
      go_ret
      exact ⟨by rw [HE.out]; rfl, Below.refl _ _⟩
    · have hih := fun v => ih (n / 10) (by omega) v (by omega)
      obtain ⟨v, hv⟩ : ∃ v : UInt8, UInt8.ofNat (48 + n % 10) = v := ⟨_, rfl⟩
      have hvn : v.toNat = 48 + n % 10 := by rw [← hv]; exact dig_nat n
      have HE : Hid (mkB (digs (n / 10)) ++ ⟨#[v]⟩ = mkB (digs n)) := Lib.hid (by
        rw [show (⟨#[v]⟩ : ByteArray) = mkB [v] from rfl, mkB_app]
        conv => rhs; rw [digs, dif_neg h0]
        rw [hv])
      have hd8 : (mkB (digs (n / 10))).size ≤ 8 := by
        rw [mkB_size]
        exact digs_le _ 8 (by omega)
      have a1 : (n : Int) / 10 = ((n / 10 : Nat) : Int) := by omega
      have a2 : (48 : Int) + (n : Int) % 10 = (v.toNat : Int) := by omega
      have a3 : ((n : Int) == 0) = false := by rw [beq_eq_false_iff_ne]; omega
      have a4 : IntKind.u8.wrap (v.toNat : Int) = (v.toNat : Int) := by
        have := v.toNat_lt
        rw [IntKind.wrap_u8]; omega
      have w1 : IntKind.i64.wrap (((n / 10 : Nat) : Int)) = ((n / 10 : Nat) : Int) := by rw [IntKind.wrap_i64]; omega
      have w2 : IntKind.u8.wrap (IntKind.i64.wrap (48 + (n : Int).tmod 10)) = (v.toNat : Int) := by
        have e : (n : Int).tmod 10 = (n : Int) % 10 := Int.tmod_eq_emod_of_nonneg (by omega)
        have := v.toNat_lt
        rw [e, IntKind.wrap_i64, IntKind.wrap_u8]; omega
      have HCV := Lib.hid (fun u g h => text1_at u g v h)
      have k1 := fun (u : World) => text1_at (u.alloc (.cells #[.int .u8 (v.toNat : Int)] 5)) u.heap.size v (by
        have := blk_cell (heap_alloc_new u (.cells #[.int .u8 (v.toNat : Int)] 5)) 0
        exact this)
      have g1 : ¬ 9223372036854775807 < (mkB (digs (n / 10))).size + (⟨#[v]⟩ : ByteArray).size := by have : (⟨#[v]⟩ : ByteArray).size = 1 := rfl; omega
      have g2 : ¬ 9223372036854775807 < (mkB (digs (n / 10))).size + 1 := by omega
      generalize n / 10 = q at *
      have HIH := Lib.hid hih
      clear ih hv hih hvn
      generalize mkB (digs q) = db at *
      go_enter Tryz.func31, Tryz.ntmps31
      go_wp2
      have hc0 : ((w.alloc (.cells #[.int .u8 (v.toNat : Int)] 5)).drew).cell? ⟨w.heap.size, 0, none⟩ = some (.int .u8 (v.toNat : Int)) := by
        have := blk_cell (heap_alloc_new w (.cells #[.int .u8 (v.toNat : Int)] 5)) 0
        exact this
      have k2 := text1_at _ _ _ hc0
      have HC0 := Lib.hid hc0
      have HBB := Lib.hid (((Below.refl w.heap.size w).alloc (Nat.le_refl _) (.cells #[.int .u8 (v.toNat : Int)] 5)).drew)
      clear hc0
      (try simp only [List.append])
      refine wp_region_held_drew (S := (fun _ => True)) (by kernel_rfl) (trivial) (fun hHeld => ?_)
      refine takeW 0 ?_
      refine takeW 1 ?_
      refine takeW 3 ?_
      refine takeW 4 ?_
      (try simp only [Act.put, List.setIfInBounds_toArray, List.set_cons_zero, List.set_cons_succ])
      refine takeW 5 ?_
      refine takeW 6 ?_
      (try simp only [Act.put, List.setIfInBounds_toArray, List.set_cons_zero, List.set_cons_succ])
      clear a1 a2 a4 w1 w2
      generalize IntKind.i64.wrap (48 + (n : Int).tmod 10) = t10 at *
      generalize (n : Int).tmod 10 = t9 at *
      refine wpAnyH_ready (rs := [2, 7]) (by kernel_rfl) (by simp) ?_
      refine AllReadyH.cons rfl (fun K2 hK2 => ?_) (AllReadyH.cons rfl (fun K2 hK2 => ?_) AllReadyH.nil)
      · go_simp
        refine (HIH.out _).mono ?_
        rintro e w2 ⟨rfl, hb2⟩
        have HB2 : Hid (Below w.heap.size w w2) := Lib.hid (by first | exact (Below.refl w.heap.size w).drew.trans hb2 | exact HBB.out.trans (hb2.mono HBB.out.size))
        try have kB := HCV.out w2 w.heap.size ((hb2.cell (p := ⟨w.heap.size, 0, none⟩) (by simp)).trans HC0.out)
        refine hK2.out _ _ trivial (fun _ => ?_)
        (try simp only [Act.put, List.setIfInBounds_toArray, List.set_cons_zero, List.set_cons_succ])
        refine wpAnyH_ready (rs := [7]) (by kernel_rfl) (by simp) ?_
        refine AllReadyH.cons rfl (fun K2 hK2 => ?_) AllReadyH.nil
        go_simp
        refine hK2.out _ _ trivial (fun _ => ?_)
        (try simp only [Act.put, List.setIfInBounds_toArray, List.set_cons_zero, List.set_cons_succ])
        refine wpAnyH_ready (rs := [8]) (by kernel_rfl) (by simp) ?_
        refine AllReadyH.cons rfl (fun K2 hK2 => ?_) AllReadyH.nil
        go_simp
        refine hK2.out _ _ trivial (fun _ => ?_)
        refine takeW 9 ?_
        refine takeW 10 ?_
        (try simp only [Act.put, List.setIfInBounds_toArray, List.set_cons_zero, List.set_cons_succ])
        refine wpAnyH_done (by kernel_rfl) ?_ _
        go_wp2
        go_ret
        exact ⟨by rw [← HE.out]; rfl, by first | exact HB2.out | exact HB2.out.alloc HB2.out.size _⟩
      · go_simp
        refine hK2.out _ _ trivial (fun _ => ?_)
        (try simp only [Act.put, List.setIfInBounds_toArray, List.set_cons_zero, List.set_cons_succ])
        refine wpAnyH_ready (rs := [2, 8]) (by kernel_rfl) (by simp) ?_
        refine AllReadyH.cons rfl (fun K2 hK2 => ?_) (AllReadyH.cons rfl (fun K2 hK2 => ?_) AllReadyH.nil)
        · go_simp
          refine (HIH.out _).mono ?_
          rintro e w2 ⟨rfl, hb2⟩
          have HB2 : Hid (Below w.heap.size w w2) := Lib.hid (by first | exact (Below.refl w.heap.size w).drew.trans hb2 | exact HBB.out.trans (hb2.mono HBB.out.size))
          try have kB := HCV.out w2 w.heap.size ((hb2.cell (p := ⟨w.heap.size, 0, none⟩) (by simp)).trans HC0.out)
          refine hK2.out _ _ trivial (fun _ => ?_)
          (try simp only [Act.put, List.setIfInBounds_toArray, List.set_cons_zero, List.set_cons_succ])
          refine wpAnyH_ready (rs := [8]) (by kernel_rfl) (by simp) ?_
          refine AllReadyH.cons rfl (fun K2 hK2 => ?_) AllReadyH.nil
          go_simp
          refine hK2.out _ _ trivial (fun _ => ?_)
          (try simp only [Act.put, List.setIfInBounds_toArray, List.set_cons_zero, List.set_cons_succ])
          refine takeW 9 ?_
          refine takeW 10 ?_
          (try simp only [Act.put, List.setIfInBounds_toArray, List.set_cons_zero, List.set_cons_succ])
          refine wpAnyH_done (by kernel_rfl) ?_ _
          go_wp2
          go_ret
          exact ⟨by rw [← HE.out]; rfl, by first | exact HB2.out | exact HB2.out.alloc HB2.out.size _⟩
        · go_simp
          refine hK2.out _ _ trivial (fun _ => ?_)
          (try simp only [Act.put, List.setIfInBounds_toArray, List.set_cons_zero, List.set_cons_succ])
          refine wpAnyH_ready (rs := [2]) (by kernel_rfl) (by simp) ?_
          refine AllReadyH.cons rfl (fun K2 hK2 => ?_) AllReadyH.nil
          go_simp
          refine (HIH.out _).mono ?_
          rintro e w2 ⟨rfl, hb2⟩
          have HB2 : Hid (Below w.heap.size w w2) := Lib.hid (by first | exact (Below.refl w.heap.size w).drew.trans hb2 | exact HBB.out.trans (hb2.mono HBB.out.size))
          try have kB := HCV.out w2 w.heap.size ((hb2.cell (p := ⟨w.heap.size, 0, none⟩) (by simp)).trans HC0.out)
          refine hK2.out _ _ trivial (fun _ => ?_)
          refine takeW 9 ?_
          refine takeW 10 ?_
          (try simp only [Act.put, List.setIfInBounds_toArray, List.set_cons_zero, List.set_cons_succ])
          refine wpAnyH_done (by kernel_rfl) ?_ _
          go_wp2
          go_ret
          exact ⟨by rw [← HE.out]; rfl, by first | exact HB2.out | exact HB2.out.alloc HB2.out.size _⟩
end Go.Proofs.YtmabhbihgenmcaaGreatDoor
namespace Wb
open Go
def pbB (L : List UInt8) (i : Nat) : Bool := decide (i = 0) || decide (L[i - 1]? = some 32)
theorem prP_at {L : List UInt8} {i : Nat} {c : UInt8} (h : L[i]? = some c) : prP (pbB L i) (L.drop i) = (decide (32 ≤ c.toNat) && decide (c.toNat ≤ 126) && (c != 32 || !pbB L i) && prP (pbB L (i + 1)) (L.drop (i + 1))) := by
  obtain ⟨hi, e⟩ := List.getElem?_eq_some_iff.1 h
  have hb : pbB L (i + 1) = (c == 32) := by
    unfold pbB
    rw [decide_eq_false (by omega), Nat.add_sub_cancel, h, Bool.false_or]
    by_cases hc : c = 32
    · subst hc; rfl
    · rw [decide_eq_false (fun x => hc (Option.some.inj x))]
      exact (beq_eq_false_iff_ne.2 hc).symm
  rw [hb, List.drop_eq_getElem_cons hi, e, prP]
theorem prP_end : ∀ (p : Bool) (l : List UInt8), prP p l = true → ∀ k, l[k]? = some 32 → k + 1 < l.length
  | _, [], _, k, hk => by simp at hk
  | p, c :: l, h, k, hk => by
    rw [prP] at h
    simp only [Bool.and_eq_true] at h
    cases k with
    | zero =>
      simp only [List.getElem?_cons_zero, Option.some.injEq] at hk
      subst hk
      cases l with
      | nil => have := h.2; simp [prP] at this
      | cons a r => simp
    | succ k =>
      rw [List.getElem?_cons_succ] at hk
      have := prP_end _ l h.2 k hk
      rw [List.length_cons]
      omega
theorem printable_end {v : List UInt8} (h : printableF v = true) : ∀ k, v[k]? = some 32 → k + 1 < v.length := by
  unfold printableF at h
  cases v with
  | nil => intro k hk; simp at hk
  | cons c l =>
    rw [List.isEmpty_cons, Bool.false_or] at h
    exact prP_end _ _ h
def restW (v : List UInt8) (i : Nat) : List (List UInt8) := if i < v.length then splitS (v.drop i) else []
theorem restW_zero (v : List UInt8) : wordsF v = restW v 0 := by
  unfold wordsF restW
  cases v with
  | nil => rfl
  | cons c l => simp
theorem splitS_step : ∀ L : List UInt8, splitS L = L.takeWhile (· != 32) :: (match L.dropWhile (· != 32) with | [] => [] | _ :: r => splitS r)
  | [] => rfl
  | c :: l => by
    have ih := splitS_step l
    rw [splitS]
    by_cases hc : c = 32
    · subst hc
      simp
    · rw [if_neg hc, ih]
      simp [hc]
theorem drop_while (p : UInt8 → Bool) : ∀ L : List UInt8, L.dropWhile p = L.drop (L.takeWhile p).length
  | [] => rfl
  | c :: l => by
    have ih := drop_while p l
    rw [List.dropWhile_cons, List.takeWhile_cons]
    split
    · rw [ih]; rfl
    · rfl
theorem restW_step {v : List UInt8} (hv : ∀ k, v[k]? = some 32 → k + 1 < v.length) {i : Nat} (hi : i < v.length) :
    restW v i = (v.drop i).takeWhile (· != 32) :: restW v (i + ((v.drop i).takeWhile (· != 32)).length + 1) := by
  have h0 : restW v i = splitS (v.drop i) := by unfold restW; rw [if_pos hi]
  rw [h0, splitS_step, drop_while, List.drop_drop]
  congr 1
  generalize hW : ((v.drop i).takeWhile (· != 32)).length = m
  cases hd : v.drop (i + m) with
  | nil =>
    have : v.length ≤ i + m := List.drop_eq_nil_iff.1 hd
    unfold restW
    rw [if_neg (by omega)]
  | cons c r =>
    have h1 : v[i + m]? = some c := by
      have := congrArg (fun l : List UInt8 => l[0]?) hd
      simpa [List.getElem?_drop] using this
    have hr : v.drop (i + m + 1) = r := by
      rw [← List.drop_drop, hd]
      rfl
    have hc : c = 32 := by
      have e := List.takeWhile_append_dropWhile (p := (· != 32)) (l := v.drop i)
      have h2 := drop_while (· != 32) (v.drop i)
      rw [List.drop_drop, hW, hd] at h2
      have h3 : ∀ (l : List UInt8) (a : UInt8) (b : List UInt8), l.dropWhile (· != 32) = a :: b → a = 32 := by
        intro l
        induction l with
        | nil => intro a b h; cases h
        | cons x l ih =>
          intro a b h
          rw [List.dropWhile_cons] at h
          split at h
          · exact ih a b h
          · rename_i hx
            injection h with h h'
            subst h
            simpa using hx
      exact h3 _ _ _ h2
    subst hc
    have := hv _ h1
    unfold restW
    rw [if_pos (by omega), hr]
theorem while_le (v : List UInt8) (i : Nat) : ((v.drop i).takeWhile (· != 32)).length ≤ v.length - i := by
  have : ((v.drop i).takeWhile (· != 32)).length ≤ (v.drop i).length := (List.takeWhile_sublist _).length_le
  rwa [List.length_drop] at this
theorem while_in {v : List UInt8} {i j : Nat} {c : UInt8} (hj : j < ((v.drop i).takeWhile (· != 32)).length) (h : v[i + j]? = some c) : c ≠ 32 := by
  have h1 : ((v.drop i).takeWhile (· != 32))[j]? = some c := by
    have h2 := List.getElem?_eq_getElem hj
    have h3 : (v.drop i)[j]? = some c := by rw [List.getElem?_drop]; exact h
    have h4 : ((v.drop i).takeWhile (· != 32)) <+: v.drop i := List.takeWhile_prefix _
    rw [h2]
    have h5 := List.prefix_iff_getElem?.1 h4 j hj
    rw [h5] at h3
    exact h3
  have h2 := List.mem_of_getElem? h1
  have h3 : ∀ l : List UInt8, (l.takeWhile (· != 32)).all (· != 32) = true := by
    intro l
    induction l with
    | nil => rfl
    | cons x l ih =>
      rw [List.takeWhile_cons]
      split
      · rename_i hx
        rw [List.all_cons, hx, ih]; rfl
      · rfl
  have := List.all_eq_true.1 (h3 _) _ h2
  simpa using this
theorem while_out {v : List UInt8} {i : Nat} {c : UInt8} (h : v[i + ((v.drop i).takeWhile (· != 32)).length]? = some c) : c = 32 := by
  have h2 := drop_while (· != 32) (v.drop i)
  rw [List.drop_drop] at h2
  have h3 : ∀ (l : List UInt8) (a : UInt8), (l.dropWhile (· != 32)).head? = some a → a = 32 := by
    intro l
    induction l with
    | nil => intro a h; cases h
    | cons x l ih =>
      intro a h
      rw [List.dropWhile_cons] at h
      split at h
      · exact ih a h
      · rename_i hx
        simp only [List.head?_cons, Option.some.injEq] at h
        subst h
        simpa using hx
  refine h3 (v.drop i) c ?_
  rw [h2, List.head?_drop]
  exact h
theorem while_eq (v : List UInt8) (i : Nat) : (v.drop i).takeWhile (· != 32) = (v.drop i).take ((v.drop i).takeWhile (· != 32)).length := by
  exact (List.prefix_iff_eq_take.1 (List.takeWhile_prefix _))
end Wb
namespace Go.Proofs.YtmabhbihgenmcaaGreatDoor
open Go.RowKit Wb
set_option maxRecDepth 100000 in
set_option maxHeartbeats 4000000 in
theorem rprintable_any (s : ByteArray) (w : World) (hs : s.size ≤ 1000000) :
    Calls Tryz.prog 48 #[.string s] w fun e w' => e = .returned (.bool (printableF s.data.toList)) ∧ Below w.heap.size w w' := by
  go_enter Tryz.func48, Tryz.ntmps48
  go_wp2
  go_loopw [3] (fun v3 wr => ∃ i : Nat, i ≤ s.size ∧ v3 = .int .i64 i ∧ Hid (0 < s.size → printableF s.data.toList = prP (pbB s.data.toList i) (s.data.toList.drop i)) ∧ Hid (i = s.size → 0 < i → pbB s.data.toList i = false) ∧ Hid (Below w.heap.size w wr)) (fun v3 _ => s.size - (intOf v3).toNat)
  case atStart => exact ⟨0, by omega, rfl, Lib.hid (fun h => by
    rw [ba_size] at h
    unfold printableF
    cases hl : s.data.toList with
    | nil => rw [hl] at h; simp at h
    | cons a r => rfl), Lib.hid (fun _ h => absurd h (by omega)), Lib.hid (Below.refl _ _)⟩
  case round =>
    obtain ⟨i, hi, rfl, HA, HE, HB⟩ := hrel
    by_cases h0 : i < s.size
    · have hg := ba_get h0
      have hP := (HA.out (by omega)).trans (prP_at hg)
      by_cases c1 : 32 ≤ s[i].toNat
      · by_cases c2 : s[i].toNat ≤ 126
        · rw [decide_eq_true c1, decide_eq_true c2] at hP
          by_cases c3 : s[i] = 32
          · have hP : printableF s.data.toList = (!pbB s.data.toList i && prP (pbB s.data.toList (i + 1)) (s.data.toList.drop (i + 1))) := by
              rw [hP, c3]; simp
            have c3n : s[i].toNat = 32 := by rw [c3]; rfl
            have hn1 : i + 1 < s.size ∨ i + 1 = s.size := by omega
            have hEnd : i + 1 = s.size → prP (pbB s.data.toList (i + 1)) (s.data.toList.drop (i + 1)) = false := fun h => by
              have hb : pbB s.data.toList (i + 1) = true := by
                unfold pbB
                rw [Nat.add_sub_cancel, hg, c3]
                simp
              rw [hb, List.drop_eq_nil_of_le (by rw [← ba_size]; omega)]
              rfl
            rcases Nat.eq_zero_or_pos i with hz | hz
            · have HF : Hid (printableF s.data.toList = false) := Lib.hid (by rw [hP, show pbB s.data.toList i = true from by unfold pbB; rw [decide_eq_true hz]; rfl]; rfl)
              subst hz
              clear hP hEnd hg c3
              go_wp2
              go_ret
              exact ⟨by rw [HF.out]; rfl, HB.out⟩
            · obtain ⟨j, rfl⟩ : ∃ j, i = j + 1 := ⟨i - 1, by omega⟩
              rcases hn1 with hn1 | hn1
              · have hj : j < s.size := by omega
                have hgj := ba_get hj
                have hpj : pbB s.data.toList (j + 1) = decide (s[j] = 32) := by
                  unfold pbB
                  rw [Nat.add_sub_cancel, hgj]
                  simp
                by_cases c4 : s[j] = 32
                · have HF : Hid (printableF s.data.toList = false) := Lib.hid (by rw [hP, hpj, decide_eq_true c4]; rfl)
                  have c4n : s[j].toNat = 32 := by rw [c4]; rfl
                  clear hP hEnd hg c3 hgj hpj c4
                  have q1 : (((j : Int) + 1 == (s.size : Int) - 1)) = false := by rw [beq_eq_false_iff_ne]; omega
                  have q2 : (((j : Int) + 1 == 0)) = false := by rw [beq_eq_false_iff_ne]; omega
                  go_wp2
                  go_ret
                  exact ⟨by rw [HF.out]; rfl, HB.out⟩
                · have HN : Hid (0 < s.size → printableF s.data.toList = prP (pbB s.data.toList (j + 1 + 1)) (s.data.toList.drop (j + 1 + 1))) := Lib.hid (fun _ => by rw [hP, hpj, decide_eq_false c4]; rfl)
                  have c4n : (((s[j].toNat : Int)) == 32) = false := by
                    rw [beq_eq_false_iff_ne]
                    intro e
                    exact c4 (UInt8.toNat_inj.1 (show s[j].toNat = 32 by omega))
                  clear hP hEnd hg c3 hgj hpj c4
                  have q1 : (((j : Int) + 1 == (s.size : Int) - 1)) = false := by rw [beq_eq_false_iff_ne]; omega
                  have q2 : (((j : Int) + 1 == 0)) = false := by rw [beq_eq_false_iff_ne]; omega
                  go_wp2
                  go_roundw
                  case rel => exact ⟨j + 1 + 1, by omega, by go_num, HN, Lib.hid (fun h => by omega), HB⟩
                  case measure => simp [intOf]; omega
              · have HF : Hid (printableF s.data.toList = false) := Lib.hid (by rw [hP, hEnd hn1, Bool.and_false])
                have q1 : (((j : Int) + 1 == (s.size : Int) - 1)) = true := by rw [beq_iff_eq]; omega
                have q2 : (((j : Int) + 1 == 0)) = false := by rw [beq_eq_false_iff_ne]; omega
                clear hP hEnd hg c3
                go_wp2
                go_ret
                exact ⟨by rw [HF.out]; rfl, HB.out⟩
          · have hb1 : pbB s.data.toList (i + 1) = false := by
              unfold pbB
              rw [Nat.add_sub_cancel, hg, decide_eq_false (by omega), decide_eq_false (fun x => c3 (Option.some.inj x))]
              rfl
            have HN : Hid (0 < s.size → printableF s.data.toList = prP (pbB s.data.toList (i + 1)) (s.data.toList.drop (i + 1))) := Lib.hid (fun _ => by
              rw [hP, show (s[i] != 32) = true from by simpa using c3]
              simp)
            have HE2 := Lib.hid hb1
            have c3n : (((s[i].toNat : Int)) == 32) = false := by
              rw [beq_eq_false_iff_ne]
              intro e
              exact c3 (UInt8.toNat_inj.1 (show s[i].toNat = 32 by omega))
            clear hP hg c3 hb1
            go_wp2
            go_roundw
            case rel => exact ⟨i + 1, by omega, by go_num, HN, Lib.hid (fun _ _ => HE2.out), HB⟩
            case measure => simp [intOf]; omega
        · have HF : Hid (printableF s.data.toList = false) := Lib.hid (by rw [hP, decide_eq_false c2]; simp)
          clear hP hg
          go_wp2
          go_ret
          exact ⟨by rw [HF.out]; rfl, HB.out⟩
      · have HF : Hid (printableF s.data.toList = false) := Lib.hid (by rw [hP, decide_eq_false c1]; simp)
        clear hP hg
        go_wp2
        go_ret
        exact ⟨by rw [HF.out]; rfl, HB.out⟩
    · obtain rfl : i = s.size := by omega
      have HT : Hid (printableF s.data.toList = true) := Lib.hid (by
        by_cases hz : 0 < s.size
        · rw [HA.out hz, HE.out rfl hz, List.drop_eq_nil_of_le (by rw [← ba_size]; omega)]
          rfl
        · have : s.data.toList = [] := List.eq_nil_of_length_eq_zero (by rw [← ba_size]; omega)
          rw [this]
          rfl)
      go_wp2
      go_ret
      exact ⟨by rw [HT.out]; rfl, HB.out⟩
end Go.Proofs.YtmabhbihgenmcaaGreatDoor
