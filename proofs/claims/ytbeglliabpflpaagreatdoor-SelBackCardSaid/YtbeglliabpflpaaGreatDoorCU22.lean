/- SbL SaH SaI SbM. -/
import Derived.Test.YtbeglliabpflpaaGreatDoorCU6
import Derived.Test.YtbeglliabpflpaaGreatDoorCU11
import Derived.Test.YtbeglliabpflpaaGreatDoorCU20
import Derived.Test.YtbeglliabpflpaaGreatDoorCU21
namespace Go.Proofs.YtbeglliabpflpaaGreatDoor
open Go.RowKit Wb
theorem wpList_append_slg {P : Program} {w : World} {ops : Array Oper} {rest : List Oper} {o : Oper} {a : Act} {Q : Exit → Act → World → Prop} (hgd : Region.wanted o (yielded ops a.tmps) = true) (s x : Operand) (t : TypeId)
    (ho : o.op = .call { callee := .builtin .append, args := #[s, x], argTypes := #[t, t] })
    (base : Nat) (e : TypeId) (i : TypeInfo) (z : Value) (size bytes : Nat) (ht : P.underlying t = some (.slice e)) (hi : P.info? e = some i) (hz : i.zero = some z)
    (hsize : i.size = size) (hby : i.bytes = bytes) (hzs : z.cells.size = size) (hsz : 0 < size)
    (v : Value) (n : Nat) (xs : List Value) (hs : a.eval s = v) (hown : w.ownsRow base e size v n xs) (A : Option Addr) (m c : Nat) (news : List Value) (hx : a.eval x = .slice A m c)
    (hr : Sl w size A m news) (h1 : ∀ u ∈ news, u.oneCell' = true) (h63 : n + m ≤ maxLen) (hbytes : (n + m) * bytes ≤ 140737488355328) (hbase : base ≤ w.heap.size)
    (h : ∀ v' w', w'.ownsRow base e size v' (n + m) (xs ++ news) → w.grownBy w' v.ownBlock → (v'.ownBlock = v.ownBlock ∨ v'.ownBlock = some w.heap.size) → wpList P ops Q rest (a.put o.dst v') w') : wpList P ops Q (o :: rest) a w :=
  wpList_step fun K hK => by
    rw [if_pos hgd]
    exact wp_append_sl w s x t ho base e i z size bytes ht hi hz hsize hby hzs hsz v n xs hs hown A m c news hx hr h1 h63 hbytes hbase fun v' w' h2 h3 h4 => hK _ _ (h v' w' h2 h3 h4)
set_option maxRecDepth 100000 in
set_option maxHeartbeats 4000000 in
theorem selblanks_walk (a b : ByteArray) (w : World) (hB : PBc w) (hP : PAc w) (hR : PRc w) :
    Calls Tryz.prog 6 #[.string a, .string b] w fun e w' => e = .returned (.bool true) ∧ Below w.heap.size w w' := by
  have ha := awake10 w hB hP hR
  by_cases h0 : (2000 : Int) < a.size ∨ (2000 : Int) < b.size
  · clear hB hP hR
    go_enter Tryz.func6, Tryz.ntmps6
    go_wp2_with fail
    refine ha.mono ?_
    rintro e w1 ⟨rfl, hb1⟩
    clear ha
    by_cases h1 : (2000 : Int) < a.size
    · go_wp2
      go_ret
      exact ⟨rfl, hb1⟩
    · have h2 : (2000 : Int) < b.size := by omega
      go_wp2
      go_ret
      exact ⟨rfl, hb1⟩
  have h01 : ¬ (2000 : Int) < a.size := by omega
  have h02 : ¬ (2000 : Int) < b.size := by omega
  clear h0 hP hR
  have k1 := fun (v : World) (hb : Below w.heap.size w v) => hB a v hb (by omega)
  have k2 := fun (v : World) (hb : Below w.heap.size w v) => hB b v hb (by omega)
  have hla := bindsP_len (q := a.data.toList)
  have hlb := bindsP_len (q := b.data.toList)
  have hq : (((⟨#[37, 50, 48]⟩ ++ a) ++ ⟨#[37, 48, 57]⟩) ++ b ++ ⟨#[32]⟩ : ByteArray).data.toList = ([37, 50, 48] ++ a.data.toList) ++ [37, 48, 57] ++ b.data.toList ++ [32] := by simp [ByteArray.data_append]
  have k3 := fun (v : World) (hb : Below w.heap.size w v) => hB (((⟨#[37, 50, 48]⟩ ++ a) ++ ⟨#[37, 48, 57]⟩) ++ b ++ ⟨#[32]⟩) v hb (by simp only [ByteArray.size_append]; have e1 : (⟨#[37, 50, 48]⟩ : ByteArray).size = 3 := rfl; have e2 : (⟨#[37, 48, 57]⟩ : ByteArray).size = 3 := rfl; have e3 : (⟨#[32]⟩ : ByteArray).size = 1 := rfl; omega)
  rw [hq] at k3
  obtain ⟨l, x, hx⟩ : ∃ l x, bindsP a.data.toList = (l, x) := ⟨_, _, rfl⟩
  obtain ⟨m, y, hy⟩ : ∃ m y, bindsP b.data.toList = (m, y) := ⟨_, _, rfl⟩
  have hbad : x ≠ 0 → l = [] := fun h => by
    have := bindsP_bad a.data.toList (by rw [hx]; exact h)
    rw [hx] at this
    exact this
  have hblk : x = 0 → y = 0 → bindsP (([37, 50, 48] ++ a.data.toList) ++ [37, 48, 57] ++ b.data.toList ++ [32]) = if l.length + m.length ≤ 16 then (l ++ m, 0) else ([], 3) := fun h1 h2 => by
    subst h1 h2
    exact binds_blanks hx hy
  rw [hx] at k1 hla
  rw [hy] at k2 hlb
  generalize hQ : bindsP (([37, 50, 48] ++ a.data.toList) ++ [37, 48, 57] ++ b.data.toList ++ [32]) = Q at *
  have HBLK := Lib.hid hblk
  have HBAD := Lib.hid hbad
  have K1 := Lib.hid k1
  have K2 := Lib.hid k2
  have K3 := Lib.hid k3
  have hll : l.length ≤ 16 := hla
  have hlm : m.length ≤ 16 := hlb
  clear hblk hbad k1 k2 k3 hq hx hy hQ hla hlb hB
  go_enter Tryz.func6, Tryz.ntmps6
  go_wp2_with fail
  refine ha.mono ?_
  rintro e w1 ⟨rfl, hb1⟩
  have HB1 := Lib.hid hb1
  clear ha hb1
  go_wp2_with fail
  refine (K1.out _ HB1.out).mono ?_
  rintro e w2 ⟨C1, c1, rfl, hC1, hb2⟩
  have HB2 := Lib.hid (HB1.out.trans (hb2.mono HB1.out.size))
  have HC1 := Lib.hid hC1
  clear hb2 hC1 K1
  go_wp2_with fail
  refine (K2.out _ HB2.out).mono ?_
  rintro e w3 ⟨C2, c2, rfl, hC2, hb3⟩
  have HB3 := Lib.hid (HB2.out.trans (hb3.mono HB2.out.size))
  have HC13 := Lib.hid (HC1.out.below hb3)
  have HC2 := Lib.hid hC2
  clear hb3 hC2 K2 HC1
  by_cases hx0 : x = 0
  · subst hx0
    by_cases hy0 : y = 0
    · subst hy0
      have hQ := HBLK.out rfl rfl
      clear HBLK HBAD
      have g1 : ¬ 9223372036854775807 < 3 + a.size := by omega
      have g2 : ¬ 9223372036854775807 < 3 + a.size + 3 := by omega
      have g3 : ¬ 9223372036854775807 < 3 + a.size + 3 + b.size := by omega
      have g4 : ¬ 9223372036854775807 < 3 + a.size + 3 + b.size + 1 := by omega
      by_cases h16 : l.length + m.length ≤ 16
      · rw [if_pos h16] at hQ
        subst hQ
        have h16b : ¬ (16 : Int) < (l.length : Int) + (m.length : Int) := by omega
        go_wp2_with fail
        refine (K3.out _ HB3.out).mono ?_
        rintro e w4 ⟨C3, c3, rfl, hC3, hb4⟩
        have HB4 := Lib.hid (HB3.out.trans (hb4.mono HB3.out.size))
        have HC14 := Lib.hid (HC13.out.below hb4)
        have HC24 := Lib.hid (HC2.out.below hb4)
        have HC3 := Lib.hid hC3
        clear hb4 hC3 K3 HC13 HC2
        obtain ⟨i0, hi, hz0, hz1, hz2⟩ := info_parts bind_info
        go_upto_region 12 with fail
        have HOWN := Lib.hid (World.ownsRow_made (base := w4.heap.size) (e := 49) (size := 2) w4 #[] 0 (Nat.le_refl _) (Nat.zero_le _) (by simp))
        have HBA := Lib.hid ((Below.refl w4.heap.size w4).alloc (Nat.le_refl _) (.cells #[] 49))
        have HSL := Lib.hid (HC14.out.below HBA.out)
        have hm1 : 0 + l.length ≤ maxLen := by unfold maxLen; omega
        have hm2 : (0 + l.length) * 32 ≤ 140737488355328 := by omega
        have hs : w4.heap.size ≤ (w4.alloc (.cells #[] 49)).heap.size := by simp
        go_wp2_with (at_builtin; refine wpList_append_slg (by rfl) (.tmp 66) (.tmp 67) _ rfl w4.heap.size 49 i0 _ 2 32 Tryz.underlying23 hi hz0 hz1 hz2 rfl (by omega) _ 0 [] rfl HOWN.out C1 l.length c1 (cells2 l) rfl HSL.out (cells2_one l) hm1 hm2 hs ?_)
        intro v5 w5 hown5 hg5 hat5
        have HB5 := Lib.hid (HBA.out.grown hg5 hs (fun k hk => by simp [Value.ownBlock] at hk; omega))
        have hown5 : w5.ownsRow w4.heap.size 49 2 v5 l.length (cells2 l) := by simpa using hown5
        have HOWN5 := Lib.hid hown5
        have HSL5 := Lib.hid (HC24.out.below HB5.out)
        have hm3 : l.length + m.length ≤ maxLen := by unfold maxLen; omega
        have hm4 : (l.length + m.length) * 32 ≤ 140737488355328 := by omega
        have hs5 : w4.heap.size ≤ w5.heap.size := HB5.out.size
        clear hown5 hg5 hat5 HOWN HBA HSL hm1 hm2 hs
        go_wp2_with (at_builtin; refine wpList_append_slg (by rfl) (.tmp 68) (.tmp 69) _ rfl w4.heap.size 49 i0 _ 2 32 Tryz.underlying23 hi hz0 hz1 hz2 rfl (by omega) _ l.length (cells2 l) rfl HOWN5.out C2 m.length c2 (cells2 m) rfl HSL5.out (cells2_one m) hm3 hm4 hs5 ?_)
        intro v6 w6 hown6 hg6 hat6
        have HB6 := Lib.hid (HB5.out.grown hg6 hs5 (fun k hk => (HOWN5.out.lt k hk).1))
        have hown6 : w6.ownsRow w4.heap.size 49 2 v6 (l ++ m).length (cells2 (l ++ m)) := by rw [cells2_append, List.length_append]; exact hown6
        obtain ⟨D, d, rfl⟩ := own_shape hown6
        have hSD : Sl2 w6 D (l ++ m) := Sl2.of_own hown6
        have HC36 := Lib.hid (HC3.out.below HB6.out)
        have HB6w := Lib.hid (HB4.out.trans (HB6.out.mono HB4.out.size))
        have hsame := binds_same C3 D (l ++ m) c3 d w6 (by rw [List.length_append]; omega) HC36.out hSD
        clear hown6 hg6 hat6 HOWN5 HSL5 hm3 hm4 hs5 hSD
        rw [List.length_append] at hsame
        go_wp2_with fail
        refine hsame.mono ?_
        rintro e w7 ⟨rfl, hb7⟩
        clear hsame
        go_wp2
        go_ret
        exact ⟨rfl, HB6w.out.trans (hb7.mono HB6w.out.size)⟩
      · rw [if_neg h16] at hQ
        subst hQ
        have h16b : (16 : Int) < (l.length : Int) + (m.length : Int) := by omega
        go_wp2_with fail
        refine (K3.out _ HB3.out).mono ?_
        rintro e w4 ⟨C3, c3, rfl, hC3, hb4⟩
        have HB4 := Lib.hid (HB3.out.trans (hb4.mono HB3.out.size))
        clear hb4 hC3 K3 HC13 HC2
        go_wp2
        go_ret
        exact ⟨rfl, HB4.out⟩
    · have hy2 : (y == 0) = false := by simpa using hy0
      clear HBLK HBAD K3
      by_cases hl0 : l.length = 0
      · go_wp2
        go_ret
        exact ⟨rfl, HB3.out⟩
      · go_wp2
        go_ret
        exact ⟨rfl, HB3.out⟩
  · have hx2 : (x == 0) = false := by simpa using hx0
    have hl := HBAD.out hx0
    subst hl
    clear HBLK HBAD K3
    go_wp2
    go_ret
    exact ⟨rfl, HB3.out⟩
end Go.Proofs.YtbeglliabpflpaaGreatDoor
namespace Wb
def w9 (x : StV) : Nat := x.name.2.size + x.attr.2.size + 6 * x.val.size
def W9 (l : List StV) : Nat := (l.map w9).sum
theorem stp_w {x : StV} {space : ByteArray} {l l' : List ByteArray} {t : List UInt8} (h : stpT x space l = .ok (t, l')) (hl : l.length ≤ 16) (hp : x.pos ≤ 9999) : t.length ≤ w9 x + 40 ∧ l'.length ≤ 16 := by
  obtain ⟨kind, any, n, pos, by_, a, val⟩ := x
  unfold w9
  simp only at hp ⊢
  unfold stpT at h
  simp only at h
  split at h
  · injection h with h
    injection h with h1 h2
    subst h1 h2
    refine ⟨?_, hl⟩
    have : sNsAll.length = 12 := rfl
    omega
  split at h
  · split at h
    · cases h
    · rename_i t' l2 hn
      injection h with h
      injection h with h1 h2
      subst h1 h2
      obtain ⟨b1, b2⟩ := nameT_len hn hl
      exact ⟨by rw [List.length_cons]; omega, b2⟩
  split at h
  · cases h
  rename_i t0 l0 he
  have h0 : t0.length ≤ n.2.size + 8 ∧ l0.length ≤ 16 := by
    unfold elemT at he
    simp only at he
    split at he
    · injection he with he
      injection he with h1 h2
      subst h1 h2
      exact ⟨by simp, hl⟩
    · exact nameT_len he hl
  have hp : (posT pos).length ≤ 6 := by
    unfold posT
    split
    · have := dgN_le pos.toNat 4 (by omega)
      simp
      omega
    · simp
  split at h
  · injection h with h
    injection h with h1 h2
    subst h1 h2
    exact ⟨by rw [List.length_append]; omega, h0.2⟩
  split at h
  · cases h
  rename_i ta l2 ha
  obtain ⟨b1, b2⟩ := nameT_len ha h0.2
  split at h
  · cases h
  injection h with h
  injection h with h1 h2
  subst h1 h2
  refine ⟨?_, b2⟩
  have hz : val.data.toList.length = val.size := by simp
  have := (escL_len true val.data.toList).2
  unfold testT
  simp only [List.length_append, List.length_cons, List.length_nil]
  omega
theorem stps_w {space : ByteArray} : ∀ {l : List StV} {sp sp' : List ByteArray} {ts : List (List UInt8)}, stpsT space l sp = .ok (ts, sp') → sp.length ≤ 16 → (∀ x ∈ l, x.pos ≤ 9999) → (ts.map List.length).sum ≤ W9 l + 40 * l.length ∧ ts.length = l.length
  | [], sp, sp', ts, h, _, _ => by
    rw [stpsT] at h
    injection h with h
    injection h with h1 h2
    subst h1
    exact ⟨by simp, rfl⟩
  | x :: l, sp, sp', ts, h, hs, hp => by
    rw [stpsT] at h
    split at h
    · cases h
    rename_i t l1 h1
    split at h
    · cases h
    rename_i ts' l2 h2
    injection h with h
    injection h with e1 e2
    subst e1
    obtain ⟨a1, a2⟩ := stp_w h1 hs (hp x (by simp))
    obtain ⟨b1, b2⟩ := stps_w h2 a2 fun y hy => hp y (by simp [hy])
    have e : W9 (x :: l) = w9 x + W9 l := rfl
    refine ⟨?_, by rw [List.length_cons, List.length_cons, b2]⟩
    rw [e, List.map_cons, List.sum_cons, List.length_cons]
    omega
theorem join_size (c : UInt8) : ∀ ts : List (List UInt8), (joinB c ts).length ≤ (ts.map List.length).sum + ts.length
  | [] => by simp [joinB]
  | t :: ts => by
    by_cases h : ts = []
    · subst h
      simp [joinB]
    · rw [joinB_cons c t h]
      have := join_size c ts
      simp only [List.length_append, List.length_cons, List.map_cons, List.sum_cons]
      omega
theorem enc_sum : ∀ ts : List (List UInt8), ((ts.map (pctE [])).map List.length).sum ≤ 3 * (ts.map List.length).sum
  | [] => by simp
  | t :: ts => by
    have h1 := enc_sum ts
    have h2 := pctE_len [] t
    simp only [List.map_cons, List.sum_cons]
    omega
theorem nameT_sp {M : Nat} {n : Pr} {plain : ByteArray} {l l' : List ByteArray} {t : List UInt8} (h : nameT n plain l = .ok (t, l')) (hl : ∀ s ∈ l, s.size ≤ M) (h1 : n.1.size ≤ M) : ∀ s ∈ l', s.size ≤ M := by
  obtain ⟨_, ⟨_, _, rfl⟩ | ⟨_, _, _, rfl⟩ | ⟨_, _, _, _, _, rfl | ⟨rfl, _⟩⟩⟩ := nameT_cases h
  · exact hl
  · exact hl
  · exact hl
  · intro s hs
    rcases List.mem_append.1 hs with hs | hs
    · exact hl s hs
    · rw [List.mem_singleton.1 hs]
      exact h1
theorem stp_sp {M : Nat} {x : StV} {space : ByteArray} {l l' : List ByteArray} {t : List UInt8} (h : stpT x space l = .ok (t, l')) (hl : ∀ s ∈ l, s.size ≤ M) (h1 : x.name.1.size ≤ M) (h2 : x.attr.1.size ≤ M) : ∀ s ∈ l', s.size ≤ M := by
  unfold stpT at h
  split at h
  · injection h with h
    injection h with _ h
    subst h
    exact hl
  split at h
  · split at h
    · cases h
    · rename_i hn
      injection h with h
      injection h with _ h
      subst h
      exact nameT_sp hn hl h1
  split at h
  · cases h
  rename_i t0 l0 he
  have h0 : ∀ s ∈ l0, s.size ≤ M := by
    unfold elemT at he
    split at he
    · injection he with he
      injection he with _ he
      subst he
      exact hl
    · exact nameT_sp he hl h1
  split at h
  · injection h with h
    injection h with _ h
    subst h
    exact h0
  split at h
  · cases h
  rename_i ha
  split at h
  · cases h
  injection h with h
  injection h with _ h
  subst h
  exact nameT_sp ha h0 h2
theorem stps_sp {M : Nat} {space : ByteArray} : ∀ {l : List StV} {sp sp' : List ByteArray} {ts : List (List UInt8)}, stpsT space l sp = .ok (ts, sp') → sp.length ≤ 16 → (∀ x ∈ l, x.pos ≤ 9999 ∧ x.name.1.size ≤ M ∧ x.attr.1.size ≤ M) → (∀ s ∈ sp, s.size ≤ M) → sp'.length ≤ 16 ∧ ∀ s ∈ sp', s.size ≤ M
  | [], sp, sp', ts, h, hs, _, hm => by
    rw [stpsT] at h
    injection h with h
    injection h with h1 h2
    subst h2
    exact ⟨hs, hm⟩
  | x :: l, sp, sp', ts, h, hs, hp, hm => by
    rw [stpsT] at h
    split at h
    · cases h
    rename_i t l1 h1
    split at h
    · cases h
    rename_i ts' l2 h2
    injection h with h
    injection h with e1 e2
    subst e2
    have hx := hp x (by simp)
    exact stps_sp h2 (stp_w h1 hs hx.1).2 (fun y hy => hp y (by simp [hy])) (stp_sp h1 hm hx.2.1 hx.2.2)
theorem print_size {space : ByteArray} {l : List StV} {s q : List UInt8} (h : printS space l = .ok (s, q)) (hw : W9 l ≤ 300000) (hm : ∀ x ∈ l, x.name.1.size ≤ 5000 ∧ x.attr.1.size ≤ 5000) : s.length ≤ 1000000 ∧ q.length ≤ 1000000 := by
  unfold printS at h
  split at h
  · cases h
  rename_i hsh
  have hsh : shapeS l = true := by simpa using hsh
  split at h
  · cases h
  rename_i ts sp hs
  injection h with h
  injection h with e1 e2
  subst e1 e2
  have hl := (shapeS_len hsh).2
  have hp := shapeS_pos hsh
  obtain ⟨a1, a2⟩ := stps_w hs (by simp) hp
  obtain ⟨b1, b2⟩ := stps_sp (M := 5000) hs (by simp) (fun x hx => ⟨hp x hx, hm x hx⟩) (by simp)
  constructor
  · have h1 := join_size 47 (ts.map (pctE []))
    have h2 := enc_sum ts
    rw [List.length_map, a2] at h1
    omega
  · have h1 := pctE_len [] (queryT 0 sp)
    have h2 : ∀ (sp : List ByteArray) (k : Nat), k + sp.length ≤ 32 → (∀ s ∈ sp, s.size ≤ 5000) → (queryT k sp).length ≤ sp.length * 5020 := by
      intro sp
      induction sp with
      | nil => intro k _ _; simp [queryT]
      | cons s sp ih =>
        intro k hk h
        rw [List.length_cons] at hk
        have h1 := ih (k + 1) (by omega) fun x hx => h x (by simp [hx])
        have h2 := num_len ⟨k, by omega⟩
        have h3 := h s (by simp)
        have hz : s.data.toList.length = s.size := by simp
        have h4 : sBindK.length = 6 := rfl
        simp only at h2
        rw [queryT]
        simp only [List.length_append, List.length_cons, hz, h4]
        omega
    have h3 := h2 sp 0 (by omega) b2
    omega
theorem W9_tot : ∀ l : List StV, W9 l ≤ 6 * tot10 l
  | [] => by simp [W9]
  | x :: l => by
    have h1 := W9_tot l
    have e1 : W9 (x :: l) = w9 x + W9 l := rfl
    have e2 : tot10 (x :: l) = siz9 x + tot10 l := rfl
    rw [e1, e2]
    unfold w9 siz9
    omega
def StLe (M n : Nat) (x : StV) : Prop := w9 x ≤ 26 * n ∧ x.name.1.size ≤ M ∧ x.attr.1.size ≤ M
theorem resB_loc (sc : List Pr) (q : ByteArray) (attr : Bool) : (resB sc q attr).1.2.size ≤ q.size := by
  unfold resB
  have := (splitB_size q).2
  split
  · exact Nat.zero_le _
  split
  · exact this
  split
  · exact Nat.zero_le _
  · exact this
theorem resB_sp {M : Nat} {sc : List Pr} (q : ByteArray) (attr : Bool) (hM : 64 ≤ M) (h : ∀ x ∈ sc, x.2.size ≤ M) : (resB sc q attr).1.1.size ≤ M := by
  unfold resB
  split
  · exact Nat.zero_le _
  split
  · exact Nat.zero_le _
  split
  · exact Nat.zero_le _
  · exact findB_size hM h
theorem mk_size (l : List UInt8) : (⟨l.toArray⟩ : ByteArray).size = l.length := by
  show l.toArray.size = _
  simp
theorem cutC_len {c : UInt8} {s a b : List UInt8} (h : cutC c s = some (a, b)) : a.length + b.length + 1 = s.length := by
  have := (cutC_some h).1
  rw [this]
  simp
  omega
theorem testP_len {r a v : List UInt8} (h : testP r = some (a, v)) : a.length ≤ r.length ∧ v.length ≤ r.length := by
  unfold testP at h
  split at h
  · split at h
    · cases h
    rename_i n t hc
    have h1 := cutC_len hc
    have h0 : (r.drop 2).length ≤ r.length := by rw [List.length_drop]; omega
    split at h
    · cases h
    rename_i q u
    rw [List.length_cons] at h1
    split at h
    · split at h
      · cases h
      rename_i v' e hv
      have h2 := cutC_len hv
      split at h
      · injection h with h
        injection h with e1 e2
        subst e1 e2
        exact ⟨by omega, by omega⟩
      · cases h
    · cases h
  · cases h
theorem posnP_len {r r' : List UInt8} {p : Nat} (h : posnP r = some (p, r')) : r'.length ≤ r.length := by
  unfold posnP at h
  split at h
  · injection h with h
    injection h with _ h
    subst h
    exact Nat.le_refl _
  split at h
  · cases h
  rename_i t r2 hc
  have h1 := cutC_len hc
  have h0 : (r.drop 1).length ≤ r.length := by rw [List.length_drop]; omega
  split at h
  · cases h
  injection h with h
  injection h with _ h
  subst h
  omega
theorem headP_len (d : List UInt8) : (headP d).1.length ≤ d.length ∧ (headP d).2.length ≤ d.length := by
  unfold headP
  exact ⟨(List.takeWhile_sublist _).length_le, (List.dropWhile_sublist _).length_le⟩
theorem unV_len (v : List UInt8) : (unV v).1.length ≤ 4 * v.length := by
  unfold unV
  split
  · rename_i x h
    exact unL_len true _ _ _ _ h
  · exact Nat.zero_le _
theorem stepP_le {M : Nat} {sc : List Pr} {d : List UInt8} {x : StV} (hM : 64 ≤ M) (hs : ∀ x ∈ sc, x.2.size ≤ M) (h : stepP sc d = .ok x) : StLe M d.length x := by
  obtain ⟨q1, q2⟩ := headP_len d
  have b1 := fun q a => resB_loc sc q a
  have b2 := fun q a => resB_sp (M := M) (sc := sc) q a hM hs
  have e0 : (⟨(headP d).1.toArray⟩ : ByteArray).size = (headP d).1.length := mk_size _
  have z0 : nE.1.size = 0 ∧ nE.2.size = 0 ∧ sE.size = 0 := ⟨rfl, rfl, rfl⟩
  obtain ⟨z1, z2, z3⟩ := z0
  unfold stepP at h
  split at h
  · cases h
  split at h
  · cases h
  rename_i p r hp
  have q3 := posnP_len hp
  split at h
  · split at h
    · injection h with h
      subst h
      unfold StLe w9
      simp only [z1, z2, z3]
      omega
    split at h
    · injection h with h
      subst h
      unfold StLe w9
      have c1 := b1 ⟨(headP d).1.toArray⟩ false
      have c2 := b2 ⟨(headP d).1.toArray⟩ false
      simp only [z1, z2, z3]
      omega
    · cases h
  split at h
  · cases h
  rename_i an v ht
  obtain ⟨q4, q5⟩ := testP_len ht
  split at h
  · cases h
  split at h
  · cases h
  split at h
  · cases h
  injection h with h
  subst h
  have c1 := b1 ⟨(headP d).1.toArray⟩ false
  have c2 := b2 ⟨(headP d).1.toArray⟩ false
  have c3 := b1 ⟨an.toArray⟩ true
  have c4 := b2 ⟨an.toArray⟩ true
  have c5 := unV_len v
  have e1 : (⟨an.toArray⟩ : ByteArray).size = an.length := mk_size _
  have e2 : (⟨(unV v).1.toArray⟩ : ByteArray).size = (unV v).1.length := mk_size _
  unfold StLe w9
  simp only
  split
  · simp only [z1, z2, e2]
    omega
  · simp only [e2]
    omega
theorem oneP_le {M : Nat} {sc : List Pr} {last : Bool} {d : List UInt8} {x : StV} (hM : 64 ≤ M) (hs : ∀ x ∈ sc, x.2.size ≤ M) (h : oneP sc last d = .ok x) : StLe M d.length x := by
  have z0 : nE.1.size = 0 ∧ nE.2.size = 0 ∧ sE.size = 0 := ⟨rfl, rfl, rfl⟩
  obtain ⟨z1, z2, z3⟩ := z0
  unfold oneP at h
  split at h
  · injection h with h
    subst h
    unfold StLe w9
    simp only [z1, z2, z3]
    omega
  split at h
  · split at h
    · injection h with h
      subst h
      have c1 := resB_loc sc ⟨(d.drop 1).toArray⟩ true
      have c2 := resB_sp (M := M) (sc := sc) ⟨(d.drop 1).toArray⟩ true hM hs
      have e1 : (⟨(d.drop 1).toArray⟩ : ByteArray).size = (d.drop 1).length := mk_size _
      rw [List.length_drop] at e1
      unfold StLe w9
      simp only [z1, z2, z3]
      omega
    · cases h
  · exact stepP_le hM hs h
theorem parseL_le {M : Nat} {sc : List Pr} (hM : 64 ≤ M) (hs : ∀ x ∈ sc, x.2.size ≤ M) : ∀ {ps : List (List UInt8)} {f : Bool} {l : List StV}, parseL' sc f ps = .ok l → W9 l ≤ 26 * (ps.map List.length).sum ∧ l.length = ps.length ∧ ∀ x ∈ l, x.name.1.size ≤ M ∧ x.attr.1.size ≤ M
  | [], f, l, h => by
    rw [parseL'] at h
    injection h with h
    subst h
    exact ⟨by simp [W9], rfl, by simp⟩
  | p :: r, f, l, h => by
    rw [parseL'] at h
    split at h
    · cases h
    split at h
    · cases h
    rename_i x hx
    split at h
    · cases h
    rename_i l' hl
    injection h with h
    subst h
    obtain ⟨a1, a2, a3⟩ := parseL_le hM hs hl
    obtain ⟨c1, c2, c3⟩ := oneP_le hM hs hx
    have hd := decP_len p
    have e : W9 (x :: l') = w9 x + W9 l' := rfl
    refine ⟨?_, by rw [List.length_cons, List.length_cons, a2], fun y hy => ?_⟩
    · rw [e, List.map_cons, List.sum_cons]
      omega
    · rcases List.mem_cons.1 hy with rfl | hy
      · exact ⟨c2, c3⟩
      · exact a3 y hy
theorem sum_join (c : UInt8) : ∀ ts : List (List UInt8), (ts.map List.length).sum ≤ (joinB c ts).length
  | [] => by simp
  | t :: ts => by
    by_cases h : ts = []
    · subst h
      simp [joinB]
    · rw [joinB_cons c t h]
      have := sum_join c ts
      simp only [List.length_append, List.length_cons, List.map_cons, List.sum_cons]
      omega
theorem parse_size {M : Nat} {s : List UInt8} {space : ByteArray} {binds : List Pr} {l : List StV} (hM : 64 ≤ M) (h1 : space.size ≤ M) (hs : ∀ x ∈ binds, x.2.size ≤ M) (h : parseS s space binds = .ok l) :
    W9 l ≤ 26 * s.length ∧ l.length ≤ 16 ∧ ∀ x ∈ l, x.name.1.size ≤ M ∧ x.attr.1.size ≤ M := by
  unfold parseS at h
  split at h
  · cases h
  obtain ⟨a1, a2, a3⟩ := parseL_le hM (fun x hx => by
    rcases List.mem_cons.1 hx with rfl | hx
    · exact h1
    · exact hs x hx) h
  have hj := sum_join 47 (pieceF 47 s)
  have e : joinB 47 (pieceF 47 s) = s := by
    have := piece_join 47 [] s
    simpa [pieceF] using this
  rw [e] at hj
  exact ⟨by omega, by omega, a3⟩
end Wb
namespace Wb
theorem br_size {s : List UInt8} {m : List Pr} (h : BR s m) : ∀ x ∈ m, x.1.size ≤ s.length ∧ x.2.size ≤ s.length := by
  induction h with
  | done h => intro x hx; simp at hx
  | more h1 h2 h3 h4 ih =>
    rename_i s n sp r ls
    obtain ⟨_, e, _⟩ := bind1_len h2
    have hd : (s.dropWhile blkU).length ≤ s.length := (List.dropWhile_sublist _).length_le
    have hl := congrArg List.length e
    simp only [List.length_append, List.length_cons] at hl
    intro x hx
    rcases List.mem_cons.1 hx with rfl | hx
    · have e1 : (⟨n.toArray⟩ : ByteArray).size = n.length := mk_size _
      have e2 : (⟨sp.toArray⟩ : ByteArray).size = sp.length := mk_size _
      simp only [e1, e2]
      omega
    · have := ih x hx
      omega
theorem binds_size {q : List UInt8} {m : List Pr} (h : bindsP q = (m, 0)) : m.length ≤ 16 ∧ ∀ x ∈ m, x.1.size ≤ q.length ∧ x.2.size ≤ q.length := by
  obtain ⟨s, h1, h2, h3⟩ := bindsP_ok h
  have hd := decP_len q
  rw [h1] at hd
  exact ⟨h3, fun x hx => by have := br_size h2 x hx; simp only at hd; omega⟩
theorem stepP_nz {sc : List Pr} {d : List UInt8} {k : Int} (h : stepP sc d = .error k) : k ≠ 0 := by
  unfold stepP at h
  repeat' (split at h)
  all_goals first
    | (cases h; done)
    | (injection h with h; subst h; decide)
    | (rename_i hz; injection h with h; subst h; exact hz)
    | (rename_i hz; injection h with h; subst h; exact hz.2)
    | (rename_i hz _; injection h with h; subst h; exact hz.2)
theorem oneP_nz {sc : List Pr} {last : Bool} {d : List UInt8} {k : Int} (h : oneP sc last d = .error k) : k ≠ 0 := by
  unfold oneP at h
  split at h
  · cases h
  split at h
  · split at h
    · cases h
    · rename_i hz
      injection h with h
      subst h
      exact hz
  · exact stepP_nz h
theorem parseL_nz {sc : List Pr} : ∀ {ps : List (List UInt8)} {f : Bool} {k : Int}, parseL' sc f ps = .error k → k ≠ 0
  | [], f, k, h => by rw [parseL'] at h; cases h
  | p :: r, f, k, h => by
    rw [parseL'] at h
    split at h
    · rename_i hz
      injection h with h
      subst h
      exact hz
    split at h
    · rename_i hx
      injection h with h
      subst h
      exact oneP_nz hx
    split at h
    · rename_i hx
      injection h with h
      subst h
      exact parseL_nz hx
    · cases h
theorem parse_nz {s : List UInt8} {space : ByteArray} {b : List Pr} {k : Int} (h : parseS s space b = .error k) : k ≠ 0 := by
  unfold parseS at h
  split at h
  · injection h with h
    subst h
    decide
  · exact parseL_nz h
theorem stps_nz {space : ByteArray} : ∀ {l : List StV} {sp : List ByteArray} {k : Int}, stpsT space l sp = .error k → k ≠ 0
  | [], sp, k, h => by rw [stpsT] at h; cases h
  | x :: l, sp, k, h => by
    rw [stpsT] at h
    split at h
    · rename_i hx
      injection h with h
      subst h
      exact stp_err hx
    split at h
    · rename_i hx
      injection h with h
      subst h
      exact stps_nz hx
    · cases h
theorem print_nz {space : ByteArray} {l : List StV} {k : Int} (h : printS space l = .error k) : k ≠ 0 := by
  unfold printS at h
  split at h
  · injection h with h
    subst h
    decide
  split at h
  · rename_i hx
    injection h with h
    subst h
    exact stps_nz hx
  · cases h
def SzOK (l : List StV) : Prop := W9 l ≤ 60000 ∧ l.length ≤ 100000 ∧ ∀ x ∈ l, x.name.1.size ≤ 5000 ∧ x.attr.1.size ≤ 5000
theorem W9_mem : ∀ {l : List StV} {x : StV}, x ∈ l → w9 x ≤ W9 l
  | [], x, h => by simp at h
  | y :: l, x, h => by
    have e : W9 (y :: l) = w9 y + W9 l := rfl
    rw [e]
    rcases List.mem_cons.1 h with rfl | h
    · omega
    · have := W9_mem h
      omega
theorem SzOK.all {l : List StV} (h : SzOK l) : ∀ x ∈ l, x.name.1.size ≤ 60000 ∧ x.name.2.size ≤ 60000 ∧ x.attr.1.size ≤ 60000 ∧ x.attr.2.size ≤ 60000 ∧ x.val.size ≤ 60000 := fun x hx => by
  have h1 := W9_mem hx
  have h2 := h.2.2 x hx
  have h3 := h.1
  unfold w9 at h1
  omega
theorem SzOK.of_few {l : List StV} (h : l.length + tot10 l < 5000) : SzOK l := by
  refine ⟨by have := W9_tot l; omega, by omega, fun x hx => ?_⟩
  have := tot10_mem hx
  unfold siz9 at this
  omega
theorem SzOK.nil : SzOK [] := ⟨by simp [W9], by simp, by simp⟩
theorem tot_mem : ∀ {l : List Pr} {x : Pr}, x ∈ l → x.1.size + x.2.size ≤ (l.map fun x => x.1.size + x.2.size).sum
  | [], x, h => by simp at h
  | y :: l, x, h => by
    rw [List.map_cons, List.sum_cons]
    rcases List.mem_cons.1 h with rfl | h
    · omega
    · have := tot_mem h
      omega
end Wb
namespace Wb
theorem prV_bad {space : ByteArray} {l : List StV} {s : List UInt8} {sp : ByteArray} {b : List Pr} (h : parseS s sp b = .ok l) : (prV (printS space l)).1 = 0 ∨ (prV (printS space l)).1 = 13 ∨ (prV (printS space l)).1 = 11 ∨ (prV (printS space l)).1 = 3 := by
  cases hp : printS space l with
  | ok p => exact .inl rfl
  | error e =>
    right
    exact parse_print h hp
end Wb
namespace Go.Proofs.YtbeglliabpflpaaGreatDoor
open Go.RowKit Wb
theorem StepsOut.get {o : Except Int (List StV)} {w w' : World} {e : Ending} (h : StepsOut o w e w') (hk : ∀ k, o = .error k → k ≠ 0) :
    ∃ (C : Option Addr) (k : Nat) (m : List StV) (x : Int), e = .returned (.tuple #[.slice C m.length k, .int .i64 x]) ∧ Sl9 w' C m ∧ Below w.heap.size w w' ∧ (x = 0 → o = .ok m) ∧ (x ≠ 0 → m = []) := by
  obtain ⟨h1, h2, h3⟩ := h
  cases o with
  | error k => exact ⟨none, 0, [], k, h2 k rfl, Sl.nil _ 9 _, h1, fun h0 => absurd h0 (hk k rfl), fun _ => rfl⟩
  | ok m =>
    obtain ⟨C, k, e, hs⟩ := h3 m rfl
    exact ⟨C, k, m, 0, e, hs, h1, fun _ => rfl, fun h0 => absurd rfl h0⟩
set_option maxRecDepth 100000 in
set_option maxHeartbeats 8000000 in
theorem selback_walk (space : ByteArray) (A : Option Addr) (l : List StV) (c : Nat) (text : ByteArray) (B : Option Addr) (binds : List Pr) (d : Nat) (w : World) (hA : Sl9 w A l) (hBd : Sl2 w B binds) (hB : PBc w) (hP : PAc w) (hR : PRc w) :
    Calls Tryz.prog 5 #[.string space, .slice A l.length c, .string text, .slice B binds.length d] w fun e w' => e = .returned (.bool true) ∧ Below w.heap.size w w' := by
  have ha := awake10 w hB hP hR
  have HPB := Lib.hid hB
  have HPA := Lib.hid hP
  have HPR := Lib.hid hR
  have HA := Lib.hid hA
  have HBD := Lib.hid hBd
  clear hA hB hP hR hBd
  go_enter Tryz.func5, Tryz.ntmps5
  go_wp2_with fail
  refine ha.mono ?_
  rintro e w1 ⟨rfl, hb1⟩
  have HB1 := Lib.hid hb1
  have hfew := few10_any A l c w1 (HA.out.below hb1)
  clear ha hb1
  by_cases h0 : (2000 : Int) < space.size
  · clear hfew
    go_wp2
    go_ret
    exact ⟨rfl, HB1.out⟩
  go_wp2_with fail
  refine hfew.mono ?_
  rintro e w2 ⟨hb, f1, rfl, hfb⟩
  have HB2 := Lib.hid (HB1.out.trans (hb.mono HB1.out.size))
  clear hb hfew
  cases f1
  · clear hfb
    go_wp2
    go_ret
    exact ⟨rfl, HB2.out⟩
  have HSL := Lib.hid (SzOK.of_few (hfb rfl))
  clear hfb
  by_cases h1 : (2000 : Int) < text.size
  · go_wp2
    go_ret
    exact ⟨rfl, HB2.out⟩
  have hfew := few_any B binds d w2 (HBD.out.below HB2.out)
  go_wp2_with fail
  refine hfew.mono ?_
  rintro e w3 ⟨hb, f1, rfl, hfb⟩
  have HB3 := Lib.hid (HB2.out.trans (hb.mono HB2.out.size))
  clear hb hfew
  cases f1
  · clear hfb
    go_wp2
    go_ret
    exact ⟨rfl, HB3.out⟩
  have hbl := hfb rfl
  have HBS : Hid (∀ x ∈ binds, x.1.size ≤ 3000 ∧ x.2.size ≤ 3000) := Lib.hid fun x hx => by
    have := tot_mem hx
    unfold tot at hbl
    omega
  have hbl2 : binds.length ≤ 100000 := by omega
  have k1 := HPA.out text space B binds d w3 HB3.out (HBD.out.below HB3.out) (by omega) (by omega) hbl2 (fun x hx => by have := HBS.out x hx; omega)
  have htx : text.data.toList.length = text.size := by simp
  have hsz : ∀ m, parseS text.data.toList space binds = .ok m → SzOK m := fun m h => by
    obtain ⟨a1, a2, a3⟩ := parse_size (M := 3000) (by omega) (by omega) (fun x hx => (HBS.out x hx).2) h
    refine ⟨by omega, by omega, fun x hx => ?_⟩
    have := a3 x hx
    omega
  have HSZ := Lib.hid hsz
  have hpv : ∀ m, parseS text.data.toList space binds = .ok m → (prV (printS space m)).1 = 0 ∨ (prV (printS space m)).1 = 13 ∨ (prV (printS space m)).1 = 11 ∨ (prV (printS space m)).1 = 3 := fun m h => prV_bad h
  have HPV := Lib.hid hpv
  have hnz : ∀ k, parseS text.data.toList space binds = .error k → k ≠ 0 := fun k h => parse_nz h
  have HNZ := Lib.hid hnz
  clear hfb hbl hsz hpv hnz htx
  generalize parseS text.data.toList space binds = o at *
  go_wp2_with fail
  refine k1.mono ?_
  rintro e w4 hso
  obtain ⟨C, k, m, x, rfl, hC, hb, hx0, hx1⟩ := hso.get HNZ.out
  have HB4 := Lib.hid (HB3.out.trans (hb.mono HB3.out.size))
  have HC := Lib.hid hC
  have HSM : Hid (SzOK m) := Lib.hid (by
    by_cases hx : x = 0
    · exact HSZ.out m (hx0 hx)
    · rw [hx1 hx]
      exact SzOK.nil)
  have HX0 := Lib.hid hx0
  have hsp : space.size ≤ 1000000 := by omega
  clear hb hC hso k1 hx0 hx1 HSZ HNZ
  go_upto_if 50 with fail
  go_cut [] (fun wx => Hid (Below w4.heap.size w4 wx))
  case first =>
    by_cases hx : x = 0
    · have hpr := HPV.out m (HX0.out hx)
      subst hx
      have k2 := HPR.out space C m k w4 HB4.out HC.out hsp (by have := HSM.out.2.1; omega) HSM.out.all
      unfold PrintV at k2
      generalize (prV (printS space m)).1 = pc at *
      generalize mkT (prV (printS space m)).2.1 = ps at *
      generalize mkT (prV (printS space m)).2.2 = pq at *
      clear HPV HX0
      go_wp2_with fail
      refine k2.mono ?_
      rintro e w5 ⟨rfl, hb⟩
      clear k2
      rcases hpr with rfl | rfl | rfl | rfl
      all_goals
        go_wp2
        go_meet
        case rel => exact Lib.hid hb
    · have hx2 : (x == 0) = false := by simpa using hx
      clear HPV HX0
      go_wp2
      go_meet
      case rel => exact Lib.hid (Below.refl _ _)
  case rest =>
    rename World => w5
    have HB5 := Lib.hid (HB4.out.trans (hcut.out.mono HB4.out.size))
    have HC5 := Lib.hid (HC.out.below hcut.out)
    have HA5 := Lib.hid (HA.out.below HB5.out)
    clear hcut HPV HX0
    go_wp2
    go_loopw [1, 14, 15, 16, 17, 18, 19, 20, 21] (fun v1 v14 _ _ _ _ _ _ _ wr => ∃ (i : Nat) (A' : Option Addr) (l' : List StV) (c' : Nat), i ≤ 2 ∧ v14 = .int .i64 i ∧ v1 = .slice A' l'.length c' ∧ Hid (SzOK l') ∧ Hid (Sl9 wr A' l') ∧ Hid (Below w5.heap.size w5 wr)) (fun _ v14 _ _ _ _ _ _ _ _ => 2 - (intOf v14).toNat)
    case atStart => exact ⟨0, A, l, c, by omega, rfl, rfl, HSL, HA5, Lib.hid (Below.refl _ _)⟩
    case round =>
      obtain ⟨i, A', l', c', hi, rfl, rfl, HZ, HS, HW⟩ := hrel
      by_cases h2 : i < 2
      · have h2b : (i : Int) < 2 := by omega
        go_upto_if 77 with fail
        go_cut [1] (fun v1 wx => ∃ (A2 : Option Addr) (l2 : List StV) (c2 : Nat), v1 = .slice A2 l2.length c2 ∧ Hid (SzOK l2) ∧ Hid (Sl9 wr A2 l2) ∧ wx = wr)
        case first =>
          by_cases h3 : i = 1
          · subst h3
            go_wp2
            go_meet
            case rel => exact ⟨C, m, k, rfl, HSM, Lib.hid (HC5.out.below HW.out), rfl⟩
          · have h3b : ((i : Int) == 1) = false := by
              rw [beq_eq_false_iff_ne]
              omega
            go_wp2
            go_meet
            case rel => exact ⟨A', l', c', rfl, HZ, HS, rfl⟩
        case rest =>
          obtain ⟨A2, l2, c2, rfl, HZ2, HS2, rfl⟩ := hcut
          rename World => wy
          clear HZ HS
          have HBy := Lib.hid (HB5.out.trans (HW.out.mono HB5.out.size))
          have k2 := HPR.out space A2 l2 c2 wy HBy.out HS2.out hsp (by have := HZ2.out.2.1; omega) HZ2.out.all
          unfold PrintV at k2
          cases hpr : printS space l2 with
          | error kk =>
            have hk := print_nz hpr
            rw [hpr] at k2
            have hk2 : (kk == 0) = false := by simpa using hk
            clear hpr hk
            go_wp2_with fail
            refine k2.mono ?_
            rintro e w6 ⟨rfl, hb⟩
            clear k2
            rw [show (prV (.error kk)).1 = kk from rfl, show mkT (prV (.error kk)).2.1 = ⟨#[]⟩ from rfl, show mkT (prV (.error kk)).2.2 = ⟨#[]⟩ from rfl]
            go_wp2
            go_roundw
            case rel => exact ⟨i + 1, A2, l2, c2, by omega, by go_num, rfl, HZ2, Lib.hid (HS2.out.below hb), Lib.hid (HW.out.trans (hb.mono HW.out.size))⟩
            case measure => simp [intOf]; omega
          | ok p =>
            obtain ⟨s, q⟩ := p
            obtain ⟨b, hbq, hps⟩ := print_back hpr
            obtain ⟨z1, z2⟩ := print_size hpr (by have := HZ2.out.1; omega) HZ2.out.2.2
            obtain ⟨y1, y2⟩ := binds_size hbq
            rw [hpr] at k2
            rw [show (prV (.ok (s, q))).1 = 0 from rfl, show mkT (prV (.ok (s, q))).2.1 = mkT s from rfl, show mkT (prV (.ok (s, q))).2.2 = mkT q from rfl] at k2
            have k3 := fun (v : World) (hb : Below w.heap.size w v) => HPB.out (mkT q) v hb (by rw [mkT_size]; exact z2)
            rw [mkT_list, hbq] at k3
            have k4 := fun (v : World) (D : Option Addr) (dd : Nat) (hb : Below w.heap.size w v) (hD : Sl2 v D b) => HPA.out (mkT s) space D b dd v hb hD (by rw [mkT_size]; exact z1) hsp (by omega) (fun x hx => by have := y2 x hx; omega)
            rw [mkT_list, hps] at k4
            have hl2 := HZ2.out.2.1
            have K3 := Lib.hid k3
            have K4 := Lib.hid k4
            clear k3 k4 hpr hbq hps z1 z2 y1 y2
            generalize mkT s = S at *
            generalize mkT q = Q at *
            go_wp2_with fail
            refine k2.mono ?_
            rintro e w6 ⟨rfl, hb⟩
            have HB6 := Lib.hid (HBy.out.trans (hb.mono HBy.out.size))
            have HW6 := Lib.hid (HW.out.trans (hb.mono HW.out.size))
            have HS6 := Lib.hid (HS2.out.below hb)
            clear k2 hb
            go_wp2_with fail
            refine (K3.out _ HB6.out).mono ?_
            rintro e w7 ⟨D, dd, rfl, hD, hb⟩
            have HB7 := Lib.hid (HB6.out.trans (hb.mono HB6.out.size))
            have HW7 := Lib.hid (HW6.out.trans (hb.mono HW6.out.size))
            have HS7 := Lib.hid (HS6.out.below hb)
            have k5 := K4.out w7 D dd HB7.out hD
            clear hb hD K3 K4
            go_wp2_with fail
            refine k5.mono ?_
            rintro e w8 ⟨hb, -, he⟩
            obtain ⟨E, ee, rfl, hE⟩ := he _ rfl
            have HW8 := Lib.hid (HW7.out.trans (hb.mono HW7.out.size))
            have HS8 := Lib.hid (HS7.out.below hb)
            have k6 := rssame_eq E A2 l2 ee c2 w8 hE HS8.out (by omega)
            clear hb he hE k5
            go_wp2_with fail
            refine k6.mono ?_
            rintro e w9 ⟨rfl, hb⟩
            clear k6
            go_wp2
            go_roundw
            case rel => exact ⟨i + 1, A2, l2, c2, by omega, by go_num, rfl, HZ2, Lib.hid (HS8.out.below hb), Lib.hid (HW8.out.trans (hb.mono HW8.out.size))⟩
            case measure => simp [intOf]; omega
      · have h2b : ¬ (i : Int) < 2 := by omega
        go_wp2
        go_ret
        exact ⟨rfl, HB5.out.trans (HW.out.mono HB5.out.size)⟩
end Go.Proofs.YtbeglliabpflpaaGreatDoor
