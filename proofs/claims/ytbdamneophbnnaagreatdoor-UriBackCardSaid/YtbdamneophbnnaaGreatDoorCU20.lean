/- SaH SaI UaA UcA UcC. -/
import Derived.Lib.IndexMore
import Derived.Test.YtbdamneophbnnaaGreatDoorRows
import Derived.Test.YtbdamneophbnnaaGreatDoorCU2
import Derived.Test.YtbdamneophbnnaaGreatDoorCU5
import Derived.Test.YtbdamneophbnnaaGreatDoorCU6
import Derived.Test.YtbdamneophbnnaaGreatDoorCU10
import Derived.Test.YtbdamneophbnnaaGreatDoorCU11
import Derived.Test.YtbdamneophbnnaaGreatDoorCU18
import Derived.Test.YtbdamneophbnnaaGreatDoorCU19
namespace Wb
def w9 (x : StV) : Nat := x.name.2.size + x.attr.2.size + 6 * x.val.size
def W9 (l : List StV) : Nat := (l.map w9).sum
theorem stp_w {x : StV} {space : ByteArray} {l l' : List ByteArray} {t : List UInt8} (h : stpT x space l = .ok (t, l')) (hl : l.length ≤ 16) (hp : x.pos ≤ 9999) : t.length ≤ w9 x + 40 ∧ l'.length ≤ 16 := by
  obtain ⟨kind, any, n, pos, by_, a, val⟩ := x
  unfold w9
  simp only at hp ⊢
  unfold stpT at h
  simp only at h
  split at h
  · injection h with h
    injection h with h1 h2
    subst h1 h2
    refine ⟨?_, hl⟩
    have : sNsAll.length = 12 := rfl
    omega
  split at h
  · split at h
    · cases h
    · rename_i t' l2 hn
      injection h with h
      injection h with h1 h2
      subst h1 h2
      obtain ⟨b1, b2⟩ := nameT_len hn hl
      exact ⟨by rw [List.length_cons]; omega, b2⟩
  split at h
  · cases h
  rename_i t0 l0 he
  have h0 : t0.length ≤ n.2.size + 8 ∧ l0.length ≤ 16 := by
    unfold elemT at he
    simp only at he
    split at he
    · injection he with he
      injection he with h1 h2
      subst h1 h2
      exact ⟨by simp, hl⟩
    · exact nameT_len he hl
  have hp : (posT pos).length ≤ 6 := by
    unfold posT
    split
    · have := dgN_le pos.toNat 4 (by omega)
      simp
      omega
    · simp
  split at h
  · injection h with h
    injection h with h1 h2
    subst h1 h2
    exact ⟨by rw [List.length_append]; omega, h0.2⟩
  split at h
  · cases h
  rename_i ta l2 ha
  obtain ⟨b1, b2⟩ := nameT_len ha h0.2
  split at h
  · cases h
  injection h with h
  injection h with h1 h2
  subst h1 h2
  refine ⟨?_, b2⟩
  have hz : val.data.toList.length = val.size := by simp
  have := (escL_len true val.data.toList).2
  unfold testT
  simp only [List.length_append, List.length_cons, List.length_nil]
  omega
theorem stps_w {space : ByteArray} : ∀ {l : List StV} {sp sp' : List ByteArray} {ts : List (List UInt8)}, stpsT space l sp = .ok (ts, sp') → sp.length ≤ 16 → (∀ x ∈ l, x.pos ≤ 9999) → (ts.map List.length).sum ≤ W9 l + 40 * l.length ∧ ts.length = l.length
  | [], sp, sp', ts, h, _, _ => by
    rw [stpsT] at h
    injection h with h
    injection h with h1 h2
    subst h1
    exact ⟨by simp, rfl⟩
  | x :: l, sp, sp', ts, h, hs, hp => by
    rw [stpsT] at h
    split at h
    · cases h
    rename_i t l1 h1
    split at h
    · cases h
    rename_i ts' l2 h2
    injection h with h
    injection h with e1 e2
    subst e1
    obtain ⟨a1, a2⟩ := stp_w h1 hs (hp x (by simp))
    obtain ⟨b1, b2⟩ := stps_w h2 a2 fun y hy => hp y (by simp [hy])
    have e : W9 (x :: l) = w9 x + W9 l := rfl
    refine ⟨?_, by rw [List.length_cons, List.length_cons, b2]⟩
    rw [e, List.map_cons, List.sum_cons, List.length_cons]
    omega
theorem join_size (c : UInt8) : ∀ ts : List (List UInt8), (joinB c ts).length ≤ (ts.map List.length).sum + ts.length
  | [] => by simp [joinB]
  | t :: ts => by
    by_cases h : ts = []
    · subst h
      simp [joinB]
    · rw [joinB_cons c t h]
      have := join_size c ts
      simp only [List.length_append, List.length_cons, List.map_cons, List.sum_cons]
      omega
theorem enc_sum : ∀ ts : List (List UInt8), ((ts.map (pctE [])).map List.length).sum ≤ 3 * (ts.map List.length).sum
  | [] => by simp
  | t :: ts => by
    have h1 := enc_sum ts
    have h2 := pctE_len [] t
    simp only [List.map_cons, List.sum_cons]
    omega
theorem nameT_sp {M : Nat} {n : Pr} {plain : ByteArray} {l l' : List ByteArray} {t : List UInt8} (h : nameT n plain l = .ok (t, l')) (hl : ∀ s ∈ l, s.size ≤ M) (h1 : n.1.size ≤ M) : ∀ s ∈ l', s.size ≤ M := by
  obtain ⟨_, ⟨_, _, rfl⟩ | ⟨_, _, _, rfl⟩ | ⟨_, _, _, _, _, rfl | ⟨rfl, _⟩⟩⟩ := nameT_cases h
  · exact hl
  · exact hl
  · exact hl
  · intro s hs
    rcases List.mem_append.1 hs with hs | hs
    · exact hl s hs
    · rw [List.mem_singleton.1 hs]
      exact h1
theorem stp_sp {M : Nat} {x : StV} {space : ByteArray} {l l' : List ByteArray} {t : List UInt8} (h : stpT x space l = .ok (t, l')) (hl : ∀ s ∈ l, s.size ≤ M) (h1 : x.name.1.size ≤ M) (h2 : x.attr.1.size ≤ M) : ∀ s ∈ l', s.size ≤ M := by
  unfold stpT at h
  split at h
  · injection h with h
    injection h with _ h
    subst h
    exact hl
  split at h
  · split at h
    · cases h
    · rename_i hn
      injection h with h
      injection h with _ h
      subst h
      exact nameT_sp hn hl h1
  split at h
  · cases h
  rename_i t0 l0 he
  have h0 : ∀ s ∈ l0, s.size ≤ M := by
    unfold elemT at he
    split at he
    · injection he with he
      injection he with _ he
      subst he
      exact hl
    · exact nameT_sp he hl h1
  split at h
  · injection h with h
    injection h with _ h
    subst h
    exact h0
  split at h
  · cases h
  rename_i ha
  split at h
  · cases h
  injection h with h
  injection h with _ h
  subst h
  exact nameT_sp ha h0 h2
theorem stps_sp {M : Nat} {space : ByteArray} : ∀ {l : List StV} {sp sp' : List ByteArray} {ts : List (List UInt8)}, stpsT space l sp = .ok (ts, sp') → sp.length ≤ 16 → (∀ x ∈ l, x.pos ≤ 9999 ∧ x.name.1.size ≤ M ∧ x.attr.1.size ≤ M) → (∀ s ∈ sp, s.size ≤ M) → sp'.length ≤ 16 ∧ ∀ s ∈ sp', s.size ≤ M
  | [], sp, sp', ts, h, hs, _, hm => by
    rw [stpsT] at h
    injection h with h
    injection h with h1 h2
    subst h2
    exact ⟨hs, hm⟩
  | x :: l, sp, sp', ts, h, hs, hp, hm => by
    rw [stpsT] at h
    split at h
    · cases h
    rename_i t l1 h1
    split at h
    · cases h
    rename_i ts' l2 h2
    injection h with h
    injection h with e1 e2
    subst e2
    have hx := hp x (by simp)
    exact stps_sp h2 (stp_w h1 hs hx.1).2 (fun y hy => hp y (by simp [hy])) (stp_sp h1 hm hx.2.1 hx.2.2)
theorem print_size {space : ByteArray} {l : List StV} {s q : List UInt8} (h : printS space l = .ok (s, q)) (hw : W9 l ≤ 300000) (hm : ∀ x ∈ l, x.name.1.size ≤ 5000 ∧ x.attr.1.size ≤ 5000) : s.length ≤ 1000000 ∧ q.length ≤ 1000000 := by
  unfold printS at h
  split at h
  · cases h
  rename_i hsh
  have hsh : shapeS l = true := by simpa using hsh
  split at h
  · cases h
  rename_i ts sp hs
  injection h with h
  injection h with e1 e2
  subst e1 e2
  have hl := (shapeS_len hsh).2
  have hp := shapeS_pos hsh
  obtain ⟨a1, a2⟩ := stps_w hs (by simp) hp
  obtain ⟨b1, b2⟩ := stps_sp (M := 5000) hs (by simp) (fun x hx => ⟨hp x hx, hm x hx⟩) (by simp)
  constructor
  · have h1 := join_size 47 (ts.map (pctE []))
    have h2 := enc_sum ts
    rw [List.length_map, a2] at h1
    omega
  · have h1 := pctE_len [] (queryT 0 sp)
    have h2 : ∀ (sp : List ByteArray) (k : Nat), k + sp.length ≤ 32 → (∀ s ∈ sp, s.size ≤ 5000) → (queryT k sp).length ≤ sp.length * 5020 := by
      intro sp
      induction sp with
      | nil => intro k _ _; simp [queryT]
      | cons s sp ih =>
        intro k hk h
        rw [List.length_cons] at hk
        have h1 := ih (k + 1) (by omega) fun x hx => h x (by simp [hx])
        have h2 := num_len ⟨k, by omega⟩
        have h3 := h s (by simp)
        have hz : s.data.toList.length = s.size := by simp
        have h4 : sBindK.length = 6 := rfl
        simp only at h2
        rw [queryT]
        simp only [List.length_append, List.length_cons, hz, h4]
        omega
    have h3 := h2 sp 0 (by omega) b2
    omega
theorem W9_tot : ∀ l : List StV, W9 l ≤ 6 * tot10 l
  | [] => by simp [W9]
  | x :: l => by
    have h1 := W9_tot l
    have e1 : W9 (x :: l) = w9 x + W9 l := rfl
    have e2 : tot10 (x :: l) = siz9 x + tot10 l := rfl
    rw [e1, e2]
    unfold w9 siz9
    omega
def StLe (M n : Nat) (x : StV) : Prop := w9 x ≤ 26 * n ∧ x.name.1.size ≤ M ∧ x.attr.1.size ≤ M
theorem resB_loc (sc : List Pr) (q : ByteArray) (attr : Bool) : (resB sc q attr).1.2.size ≤ q.size := by
  unfold resB
  have := (splitB_size q).2
  split
  · exact Nat.zero_le _
  split
  · exact this
  split
  · exact Nat.zero_le _
  · exact this
theorem resB_sp {M : Nat} {sc : List Pr} (q : ByteArray) (attr : Bool) (hM : 64 ≤ M) (h : ∀ x ∈ sc, x.2.size ≤ M) : (resB sc q attr).1.1.size ≤ M := by
  unfold resB
  split
  · exact Nat.zero_le _
  split
  · exact Nat.zero_le _
  split
  · exact Nat.zero_le _
  · exact findB_size hM h
theorem mk_size (l : List UInt8) : (⟨l.toArray⟩ : ByteArray).size = l.length := by
  show l.toArray.size = _
  simp
theorem cutC_len {c : UInt8} {s a b : List UInt8} (h : cutC c s = some (a, b)) : a.length + b.length + 1 = s.length := by
  have := (cutC_some h).1
  rw [this]
  simp
  omega
theorem testP_len {r a v : List UInt8} (h : testP r = some (a, v)) : a.length ≤ r.length ∧ v.length ≤ r.length := by
  unfold testP at h
  split at h
  · split at h
    · cases h
    rename_i n t hc
    have h1 := cutC_len hc
    have h0 : (r.drop 2).length ≤ r.length := by rw [List.length_drop]; omega
    split at h
    · cases h
    rename_i q u
    rw [List.length_cons] at h1
    split at h
    · split at h
      · cases h
      rename_i v' e hv
      have h2 := cutC_len hv
      split at h
      · injection h with h
        injection h with e1 e2
        subst e1 e2
        exact ⟨by omega, by omega⟩
      · cases h
    · cases h
  · cases h
theorem posnP_len {r r' : List UInt8} {p : Nat} (h : posnP r = some (p, r')) : r'.length ≤ r.length := by
  unfold posnP at h
  split at h
  · injection h with h
    injection h with _ h
    subst h
    exact Nat.le_refl _
  split at h
  · cases h
  rename_i t r2 hc
  have h1 := cutC_len hc
  have h0 : (r.drop 1).length ≤ r.length := by rw [List.length_drop]; omega
  split at h
  · cases h
  injection h with h
  injection h with _ h
  subst h
  omega
theorem headP_len (d : List UInt8) : (headP d).1.length ≤ d.length ∧ (headP d).2.length ≤ d.length := by
  unfold headP
  exact ⟨(List.takeWhile_sublist _).length_le, (List.dropWhile_sublist _).length_le⟩
theorem unV_len (v : List UInt8) : (unV v).1.length ≤ 4 * v.length := by
  unfold unV
  split
  · rename_i x h
    exact unL_len true _ _ _ _ h
  · exact Nat.zero_le _
theorem stepP_le {M : Nat} {sc : List Pr} {d : List UInt8} {x : StV} (hM : 64 ≤ M) (hs : ∀ x ∈ sc, x.2.size ≤ M) (h : stepP sc d = .ok x) : StLe M d.length x := by
  obtain ⟨q1, q2⟩ := headP_len d
  have b1 := fun q a => resB_loc sc q a
  have b2 := fun q a => resB_sp (M := M) (sc := sc) q a hM hs
  have e0 : (⟨(headP d).1.toArray⟩ : ByteArray).size = (headP d).1.length := mk_size _
  have z0 : nE.1.size = 0 ∧ nE.2.size = 0 ∧ sE.size = 0 := ⟨rfl, rfl, rfl⟩
  obtain ⟨z1, z2, z3⟩ := z0
  unfold stepP at h
  split at h
  · cases h
  split at h
  · cases h
  rename_i p r hp
  have q3 := posnP_len hp
  split at h
  · split at h
    · injection h with h
      subst h
      unfold StLe w9
      simp only [z1, z2, z3]
      omega
    split at h
    · injection h with h
      subst h
      unfold StLe w9
      have c1 := b1 ⟨(headP d).1.toArray⟩ false
      have c2 := b2 ⟨(headP d).1.toArray⟩ false
      simp only [z1, z2, z3]
      omega
    · cases h
  split at h
  · cases h
  rename_i an v ht
  obtain ⟨q4, q5⟩ := testP_len ht
  split at h
  · cases h
  split at h
  · cases h
  split at h
  · cases h
  injection h with h
  subst h
  have c1 := b1 ⟨(headP d).1.toArray⟩ false
  have c2 := b2 ⟨(headP d).1.toArray⟩ false
  have c3 := b1 ⟨an.toArray⟩ true
  have c4 := b2 ⟨an.toArray⟩ true
  have c5 := unV_len v
  have e1 : (⟨an.toArray⟩ : ByteArray).size = an.length := mk_size _
  have e2 : (⟨(unV v).1.toArray⟩ : ByteArray).size = (unV v).1.length := mk_size _
  unfold StLe w9
  simp only
  split
  · simp only [z1, z2, e2]
    omega
  · simp only [e2]
    omega
theorem oneP_le {M : Nat} {sc : List Pr} {last : Bool} {d : List UInt8} {x : StV} (hM : 64 ≤ M) (hs : ∀ x ∈ sc, x.2.size ≤ M) (h : oneP sc last d = .ok x) : StLe M d.length x := by
  have z0 : nE.1.size = 0 ∧ nE.2.size = 0 ∧ sE.size = 0 := ⟨rfl, rfl, rfl⟩
  obtain ⟨z1, z2, z3⟩ := z0
  unfold oneP at h
  split at h
  · injection h with h
    subst h
    unfold StLe w9
    simp only [z1, z2, z3]
    omega
  split at h
  · split at h
    · injection h with h
      subst h
      have c1 := resB_loc sc ⟨(d.drop 1).toArray⟩ true
      have c2 := resB_sp (M := M) (sc := sc) ⟨(d.drop 1).toArray⟩ true hM hs
      have e1 : (⟨(d.drop 1).toArray⟩ : ByteArray).size = (d.drop 1).length := mk_size _
      rw [List.length_drop] at e1
      unfold StLe w9
      simp only [z1, z2, z3]
      omega
    · cases h
  · exact stepP_le hM hs h
theorem parseL_le {M : Nat} {sc : List Pr} (hM : 64 ≤ M) (hs : ∀ x ∈ sc, x.2.size ≤ M) : ∀ {ps : List (List UInt8)} {f : Bool} {l : List StV}, parseL' sc f ps = .ok l → W9 l ≤ 26 * (ps.map List.length).sum ∧ l.length = ps.length ∧ ∀ x ∈ l, x.name.1.size ≤ M ∧ x.attr.1.size ≤ M
  | [], f, l, h => by
    rw [parseL'] at h
    injection h with h
    subst h
    exact ⟨by simp [W9], rfl, by simp⟩
  | p :: r, f, l, h => by
    rw [parseL'] at h
    split at h
    · cases h
    split at h
    · cases h
    rename_i x hx
    split at h
    · cases h
    rename_i l' hl
    injection h with h
    subst h
    obtain ⟨a1, a2, a3⟩ := parseL_le hM hs hl
    obtain ⟨c1, c2, c3⟩ := oneP_le hM hs hx
    have hd := decP_len p
    have e : W9 (x :: l') = w9 x + W9 l' := rfl
    refine ⟨?_, by rw [List.length_cons, List.length_cons, a2], fun y hy => ?_⟩
    · rw [e, List.map_cons, List.sum_cons]
      omega
    · rcases List.mem_cons.1 hy with rfl | hy
      · exact ⟨c2, c3⟩
      · exact a3 y hy
theorem sum_join (c : UInt8) : ∀ ts : List (List UInt8), (ts.map List.length).sum ≤ (joinB c ts).length
  | [] => by simp
  | t :: ts => by
    by_cases h : ts = []
    · subst h
      simp [joinB]
    · rw [joinB_cons c t h]
      have := sum_join c ts
      simp only [List.length_append, List.length_cons, List.map_cons, List.sum_cons]
      omega
theorem parse_size {M : Nat} {s : List UInt8} {space : ByteArray} {binds : List Pr} {l : List StV} (hM : 64 ≤ M) (h1 : space.size ≤ M) (hs : ∀ x ∈ binds, x.2.size ≤ M) (h : parseS s space binds = .ok l) :
    W9 l ≤ 26 * s.length ∧ l.length ≤ 16 ∧ ∀ x ∈ l, x.name.1.size ≤ M ∧ x.attr.1.size ≤ M := by
  unfold parseS at h
  split at h
  · cases h
  obtain ⟨a1, a2, a3⟩ := parseL_le hM (fun x hx => by
    rcases List.mem_cons.1 hx with rfl | hx
    · exact h1
    · exact hs x hx) h
  have hj := sum_join 47 (pieceF 47 s)
  have e : joinB 47 (pieceF 47 s) = s := by
    have := piece_join 47 [] s
    simpa [pieceF] using this
  rw [e] at hj
  exact ⟨by omega, by omega, a3⟩
end Wb
namespace Wb
theorem br_size {s : List UInt8} {m : List Pr} (h : BR s m) : ∀ x ∈ m, x.1.size ≤ s.length ∧ x.2.size ≤ s.length := by
  induction h with
  | done h => intro x hx; simp at hx
  | more h1 h2 h3 h4 ih =>
    rename_i s n sp r ls
    obtain ⟨_, e, _⟩ := bind1_len h2
    have hd : (s.dropWhile blkU).length ≤ s.length := (List.dropWhile_sublist _).length_le
    have hl := congrArg List.length e
    simp only [List.length_append, List.length_cons] at hl
    intro x hx
    rcases List.mem_cons.1 hx with rfl | hx
    · have e1 : (⟨n.toArray⟩ : ByteArray).size = n.length := mk_size _
      have e2 : (⟨sp.toArray⟩ : ByteArray).size = sp.length := mk_size _
      simp only [e1, e2]
      omega
    · have := ih x hx
      omega
theorem binds_size {q : List UInt8} {m : List Pr} (h : bindsP q = (m, 0)) : m.length ≤ 16 ∧ ∀ x ∈ m, x.1.size ≤ q.length ∧ x.2.size ≤ q.length := by
  obtain ⟨s, h1, h2, h3⟩ := bindsP_ok h
  have hd := decP_len q
  rw [h1] at hd
  exact ⟨h3, fun x hx => by have := br_size h2 x hx; simp only at hd; omega⟩
theorem stepP_nz {sc : List Pr} {d : List UInt8} {k : Int} (h : stepP sc d = .error k) : k ≠ 0 := by
  unfold stepP at h
  repeat' (split at h)
  all_goals first
    | (cases h; done)
    | (injection h with h; subst h; decide)
    | (rename_i hz; injection h with h; subst h; exact hz)
    | (rename_i hz; injection h with h; subst h; exact hz.2)
    | (rename_i hz _; injection h with h; subst h; exact hz.2)
theorem oneP_nz {sc : List Pr} {last : Bool} {d : List UInt8} {k : Int} (h : oneP sc last d = .error k) : k ≠ 0 := by
  unfold oneP at h
  split at h
  · cases h
  split at h
  · split at h
    · cases h
    · rename_i hz
      injection h with h
      subst h
      exact hz
  · exact stepP_nz h
theorem parseL_nz {sc : List Pr} : ∀ {ps : List (List UInt8)} {f : Bool} {k : Int}, parseL' sc f ps = .error k → k ≠ 0
  | [], f, k, h => by rw [parseL'] at h; cases h
  | p :: r, f, k, h => by
    rw [parseL'] at h
    split at h
    · rename_i hz
      injection h with h
      subst h
      exact hz
    split at h
    · rename_i hx
      injection h with h
      subst h
      exact oneP_nz hx
    split at h
    · rename_i hx
      injection h with h
      subst h
      exact parseL_nz hx
    · cases h
theorem parse_nz {s : List UInt8} {space : ByteArray} {b : List Pr} {k : Int} (h : parseS s space b = .error k) : k ≠ 0 := by
  unfold parseS at h
  split at h
  · injection h with h
    subst h
    decide
  · exact parseL_nz h
theorem stps_nz {space : ByteArray} : ∀ {l : List StV} {sp : List ByteArray} {k : Int}, stpsT space l sp = .error k → k ≠ 0
  | [], sp, k, h => by rw [stpsT] at h; cases h
  | x :: l, sp, k, h => by
    rw [stpsT] at h
    split at h
    · rename_i hx
      injection h with h
      subst h
      exact stp_err hx
    split at h
    · rename_i hx
      injection h with h
      subst h
      exact stps_nz hx
    · cases h
theorem print_nz {space : ByteArray} {l : List StV} {k : Int} (h : printS space l = .error k) : k ≠ 0 := by
  unfold printS at h
  split at h
  · injection h with h
    subst h
    decide
  split at h
  · rename_i hx
    injection h with h
    subst h
    exact stps_nz hx
  · cases h
def SzOK (l : List StV) : Prop := W9 l ≤ 60000 ∧ l.length ≤ 100000 ∧ ∀ x ∈ l, x.name.1.size ≤ 5000 ∧ x.attr.1.size ≤ 5000
theorem W9_mem : ∀ {l : List StV} {x : StV}, x ∈ l → w9 x ≤ W9 l
  | [], x, h => by simp at h
  | y :: l, x, h => by
    have e : W9 (y :: l) = w9 y + W9 l := rfl
    rw [e]
    rcases List.mem_cons.1 h with rfl | h
    · omega
    · have := W9_mem h
      omega
theorem SzOK.all {l : List StV} (h : SzOK l) : ∀ x ∈ l, x.name.1.size ≤ 60000 ∧ x.name.2.size ≤ 60000 ∧ x.attr.1.size ≤ 60000 ∧ x.attr.2.size ≤ 60000 ∧ x.val.size ≤ 60000 := fun x hx => by
  have h1 := W9_mem hx
  have h2 := h.2.2 x hx
  have h3 := h.1
  unfold w9 at h1
  omega
theorem SzOK.of_few {l : List StV} (h : l.length + tot10 l < 5000) : SzOK l := by
  refine ⟨by have := W9_tot l; omega, by omega, fun x hx => ?_⟩
  have := tot10_mem hx
  unfold siz9 at this
  omega
theorem SzOK.nil : SzOK [] := ⟨by simp [W9], by simp, by simp⟩
end Wb
namespace Wb
open Go
structure WhV where
  usage : ByteArray
  user : ByteArray
  doc : ByteArray
  node : Bool
  steps : List StV
  raw : ByteArray
  binds : List Pr
def nsP11 : List UInt8 := [117, 114, 110, 58, 105, 101, 116, 102, 58, 112, 97, 114, 97, 109, 115, 58, 120, 109, 108, 58, 110, 115, 58]
def usg11 : List (List UInt8) := [[114, 101, 115, 111, 117, 114, 99, 101, 45, 108, 105, 115, 116, 115], [114, 108, 115, 45, 115, 101, 114, 118, 105, 99, 101, 115], [112, 114, 101, 115, 45, 114, 117, 108, 101, 115], [120, 99, 97, 112, 45, 99, 97, 112, 115]]
def spc11 (u : List UInt8) : List UInt8 := if u ∈ usg11 then nsP11 ++ u else []
def tt11 : List UInt8 := [126, 126]
def ssl11 : List UInt8 := [47, 126, 126, 47]
def sUsers : List UInt8 := [117, 115, 101, 114, 115]
def sGlob : List UInt8 := [103, 108, 111, 98, 97, 108]
def que11 (s : List UInt8) : List UInt8 × Option (List UInt8) := match cutC 63 s with
  | some (a, q) => (a, some q)
  | none => (s, none)
def sel11 (s : List UInt8) : List UInt8 × Option (List UInt8) := if 0 ≤ Lib.index s ssl11 then (s.take (Lib.index s ssl11).toNat, some (s.drop ((Lib.index s ssl11).toNat + 4))) else (s, none)
def frm11 : List (List UInt8) → Option (List UInt8 × Option (List UInt8) × List UInt8)
  | [[], u, g, d] => if g = sGlob then some (u, none, d) else none
  | [[], u, g, x, d] => if g = sUsers then some (u, some x, d) else none
  | _ => none
def usr11 : Option (List UInt8) → List UInt8 × Int
  | none => ([], 0)
  | some x => decP x
def ok11 (x : Option (List UInt8)) (us d : List UInt8) : Bool := decide (1 ≤ d.length) && decide (d.length ≤ 64) && decide (us.length ≤ 64) && !(decide (us = []) && x.isSome) && !decide (d = tt11) && !decide (us = tt11)
def uri11 (s : List UInt8) : Except Int WhV :=
  if 512 < s.length then .error 3
  else match frm11 (pieceF 47 (sel11 (que11 s).1).1) with
    | none => .error 4
    | some (u, x, d) =>
      if (que11 s).2.isSome = true ∧ (sel11 (que11 s).1).2 = none then .error 4
      else if u ∉ usg11 then .error 34
      else if (usr11 x).2 ≠ 0 then .error (usr11 x).2
      else if (decP d).2 ≠ 0 then .error (decP d).2
      else if ok11 x (usr11 x).1 (decP d).1 = false then .error 4
      else match (sel11 (que11 s).1).2 with
        | none => .ok ⟨⟨u.toArray⟩, ⟨(usr11 x).1.toArray⟩, ⟨(decP d).1.toArray⟩, false, [], sE, []⟩
        | some t =>
          if (bindsP ((que11 s).2.getD [])).2 ≠ 0 then .error (bindsP ((que11 s).2.getD [])).2
          else match parseS t ⟨(spc11 u).toArray⟩ (bindsP ((que11 s).2.getD [])).1 with
            | .error e => .error e
            | .ok l => .ok ⟨⟨u.toArray⟩, ⟨(usr11 x).1.toArray⟩, ⟨(decP d).1.toArray⟩, true, l, ⟨t.toArray⟩, (bindsP ((que11 s).2.getD [])).1⟩
def bad11 (us d : List UInt8) : Bool := decide (us = tt11) || decide (d = tt11) || decide (64 < us.length) || decide (d.length < 1) || decide (64 < d.length) || decide (0 ≤ chk us) || decide (0 ≤ chk d)
def pcs11 (u us d : List UInt8) : List (List UInt8) := if us = [] then [[], u, sGlob, pctE [] d] else [[], u, sUsers, pctE [] us, pctE [] d]
def fin11 (s : List UInt8) : Except Int (List UInt8) := if 512 < s.length then .error 3 else .ok s
def prt11 (w : WhV) : Except Int (List UInt8) :=
  if w.usage.data.toList ∉ usg11 then .error 34
  else if bad11 w.user.data.toList w.doc.data.toList = true then .error 4
  else if w.node = true then match printS ⟨(spc11 w.usage.data.toList).toArray⟩ w.steps with
    | .error e => .error e
    | .ok (t, q) => fin11 (joinB 47 (pcs11 w.usage.data.toList w.user.data.toList w.doc.data.toList) ++ ssl11 ++ t ++ (if q = [] then [] else 63 :: q))
  else fin11 (joinB 47 (pcs11 w.usage.data.toList w.user.data.toList w.doc.data.toList))
theorem ssl_pre (c : UInt8) (l : List UInt8) : ssl11.isPrefixOf (c :: l) = (decide (c = 47) && decide (l.take 3 = [126, 126, 47])) := by
  unfold ssl11
  rw [List.isPrefixOf]
  by_cases h : c = 47
  · subst h
    rw [beq_self_eq_true, decide_eq_true rfl, Bool.true_and, Bool.true_and]
    match l with
    | [] => rfl
    | [a] => simp [List.isPrefixOf]
    | [a, b] => simp [List.isPrefixOf]
    | a :: b :: d :: r =>
      rw [Bool.eq_iff_iff, decide_eq_true_eq]
      simp only [List.isPrefixOf, Bool.and_true, Bool.and_eq_true, beq_iff_eq, List.take_succ_cons, List.take_zero, List.cons.injEq, and_true]
      exact ⟨fun h => ⟨h.1.symm, h.2.1.symm, h.2.2.symm⟩, fun h => ⟨h.1.symm, h.2.1.symm, h.2.2.symm⟩⟩
  · rw [beq_eq_false_iff_ne.2 (Ne.symm h), decide_eq_false h]
    rfl
theorem idx_free : ∀ {p : List UInt8} (l : List UInt8), (∀ x ∈ p, x ≠ 47) → Lib.index (p ++ l) ssl11 = if Lib.index l ssl11 = -1 then -1 else (p.length : Int) + Lib.index l ssl11
  | [], l, _ => by
    rw [List.nil_append]
    split
    · rename_i h; exact h
    · simp
  | x :: p, l, h => by
    have ih := idx_free (p := p) l fun y hy => h y (by simp [hy])
    rw [List.cons_append, Lib.index, ssl_pre, decide_eq_false (h x (by simp)), ih]
    have hg := Lib.index_ge l ssl11
    by_cases hm : Lib.index l ssl11 = -1
    · rw [if_pos hm, if_pos hm]
      rfl
    · rw [if_neg hm, if_neg hm]
      have : (((p.length : Int) + Lib.index l ssl11) == -1) = false := by rw [beq_eq_false_iff_ne]; omega
      rw [this]
      simp only [Bool.false_and, Bool.false_eq_true, if_false, List.length_cons]
      omega
theorem idx_slash (l : List UInt8) (h : l.take 3 ≠ [126, 126, 47]) : Lib.index (47 :: l) ssl11 = if Lib.index l ssl11 = -1 then -1 else 1 + Lib.index l ssl11 := by
  rw [Lib.index, ssl_pre, decide_eq_true rfl, decide_eq_false h]
  by_cases hm : Lib.index l ssl11 = -1
  · rw [hm]; rfl
  · have : (Lib.index l ssl11 == -1) = false := by simpa using hm
    rw [this, if_neg hm]
    simp only [Bool.and_false, Bool.false_eq_true, if_false]
    omega
theorem idx_here (l : List UInt8) : Lib.index (ssl11 ++ l) ssl11 = 0 := by
  unfold ssl11
  simp only [List.cons_append, List.nil_append]
  rw [Lib.index]
  simp [List.isPrefixOf]
theorem take_tt {p : List UInt8} (r : List UInt8) (hp : ∀ x ∈ p, x ≠ 47) (h : p ≠ tt11) : (p ++ 47 :: r).take 3 ≠ [126, 126, 47] := by
  intro e
  match p, hp, h with
  | [], _, _ => simp at e
  | [a], _, _ => simp at e
  | [a, b], hp, h =>
    simp only [List.cons_append, List.nil_append, List.take_succ_cons, List.take_zero, List.cons.injEq, and_true] at e
    exact h (by rw [e.1, e.2]; rfl)
  | a :: b :: c :: p, hp, _ =>
    simp only [List.cons_append, List.take_succ_cons, List.take_zero, List.cons.injEq, and_true] at e
    exact hp c (by simp) e.2.2
theorem take_end {p : List UInt8} (hp : ∀ x ∈ p, x ≠ 47) : p.take 3 ≠ [126, 126, 47] := by
  intro e
  have : (47 : UInt8) ∈ p.take 3 := by rw [e]; simp
  exact hp 47 (List.mem_of_mem_take this) rfl
theorem idx_join : ∀ (x : List UInt8) (L : List (List UInt8)), (∀ y ∈ x :: L, ∀ c ∈ y, c ≠ 47) → (∀ y ∈ L, y ≠ tt11) →
    Lib.index (joinB 47 (x :: L)) ssl11 = -1 ∧ ∀ t, Lib.index (joinB 47 (x :: L) ++ ssl11 ++ t) ssl11 = ((joinB 47 (x :: L)).length : Int)
  | x, [], hf, _ => by
    have hx := hf x (by simp)
    refine ⟨?_, fun t => ?_⟩
    · have := idx_free (p := x) [] hx
      rw [List.append_nil] at this
      rw [joinB, this]
      rfl
    · rw [joinB, List.append_assoc, idx_free _ hx, idx_here, if_neg (by omega)]
      simp
  | x, y :: L, hf, ht => by
    have hx := hf x (by simp)
    obtain ⟨i1, i2⟩ := idx_join y L (fun z hz => hf z (by simp [hz])) (fun z hz => ht z (by simp [hz]))
    have hy := hf y (by simp)
    have hyt := ht y (by simp)
    have h3 : (joinB 47 (y :: L)).take 3 ≠ [126, 126, 47] := by
      cases L with
      | nil => exact take_end hy
      | cons z L => rw [joinB]; exact take_tt _ hy hyt
    have h4 : ∀ t, (joinB 47 (y :: L) ++ ssl11 ++ t).take 3 ≠ [126, 126, 47] := by
      intro t
      cases L with
      | nil =>
        rw [joinB, List.append_assoc]
        exact take_tt _ hy hyt
      | cons z L =>
        rw [joinB, List.append_assoc, List.append_assoc, List.cons_append]
        exact take_tt _ hy hyt
    refine ⟨?_, fun t => ?_⟩
    · rw [joinB, idx_free _ hx, idx_slash _ h3, i1]
      rfl
    · have e : joinB 47 (x :: y :: L) ++ ssl11 ++ t = x ++ 47 :: (joinB 47 (y :: L) ++ ssl11 ++ t) := by rw [joinB]; simp
      have hl : ((joinB 47 (x :: y :: L)).length : Int) = (x.length : Int) + (1 + ((joinB 47 (y :: L)).length : Int)) := by
        rw [joinB, List.length_append, List.length_cons]
        omega
      rw [e, idx_free _ hx, idx_slash _ (h4 t), i2 t, if_neg (by omega), if_neg (by omega), hl]
end Wb
namespace Wb
theorem usg_in (u : ByteArray) : (u.data.toList ∈ usg11) ↔ u = ⟨#[114, 101, 115, 111, 117, 114, 99, 101, 45, 108, 105, 115, 116, 115]⟩ ∨ u = ⟨#[114, 108, 115, 45, 115, 101, 114, 118, 105, 99, 101, 115]⟩ ∨ u = ⟨#[112, 114, 101, 115, 45, 114, 117, 108, 101, 115]⟩ ∨ u = ⟨#[120, 99, 97, 112, 45, 99, 97, 112, 115]⟩ := by
  have h : ∀ x : Array UInt8, u.data.toList = x.toList ↔ u = ⟨x⟩ := fun x => ⟨fun e => by
    have : u.data = x := Array.toList_inj.1 e
    rw [← this], fun e => by rw [e]⟩
  rw [← h, ← h, ← h, ← h]
  simp [usg11]
end Wb
namespace Go.Proofs.YtbdamneophbnnaaGreatDoor
open Go.RowKit Wb
set_option maxHeartbeats 4000000 in
set_option maxRecDepth 100000 in
theorem rspace_any (u : ByteArray) (w : World) (hs : u.size ≤ 1000000000) :
    Calls Tryz.prog 11 #[.string u] w fun e w' => e = .returned (.string ⟨(spc11 u.data.toList).toArray⟩) ∧ w = w' := by
  obtain ⟨o, ho⟩ : ∃ o : ByteArray, ⟨(spc11 u.data.toList).toArray⟩ = o := ⟨_, rfl⟩
  rw [ho]
  unfold spc11 at ho
  by_cases h : u.data.toList ∈ usg11
  · rw [if_pos h] at ho
    have h2 := (usg_in u).1 h
    rcases h2 with rfl | rfl | rfl | rfl
    all_goals
      subst ho
      go_enter Tryz.func11, Tryz.ntmps11
      go_wp2
      go_ret
      exact ⟨by rfl, rfl⟩
  · rw [if_neg h] at ho
    subst ho
    rw [usg_in] at h
    have h1 : ¬ u = ⟨#[114, 101, 115, 111, 117, 114, 99, 101, 45, 108, 105, 115, 116, 115]⟩ := fun e => h (.inl e)
    have b1 : (u.toList == [114, 101, 115, 111, 117, 114, 99, 101, 45, 108, 105, 115, 116, 115]) = false := (lit_of u _ _ rfl).trans (eqT_false.2 h1)
    have h2 : ¬ u = ⟨#[114, 108, 115, 45, 115, 101, 114, 118, 105, 99, 101, 115]⟩ := fun e => h (.inr (.inl e))
    have b2 : (u.toList == [114, 108, 115, 45, 115, 101, 114, 118, 105, 99, 101, 115]) = false := (lit_of u _ _ rfl).trans (eqT_false.2 h2)
    have h3 : ¬ u = ⟨#[112, 114, 101, 115, 45, 114, 117, 108, 101, 115]⟩ := fun e => h (.inr (.inr (.inl e)))
    have b3 : (u.toList == [112, 114, 101, 115, 45, 114, 117, 108, 101, 115]) = false := (lit_of u _ _ rfl).trans (eqT_false.2 h3)
    have h4 : ¬ u = ⟨#[120, 99, 97, 112, 45, 99, 97, 112, 115]⟩ := fun e => h (.inr (.inr (.inr e)))
    have b4 : (u.toList == [120, 99, 97, 112, 45, 99, 97, 112, 115]) = false := (lit_of u _ _ rfl).trans (eqT_false.2 h4)
    clear h
    go_enter Tryz.func11, Tryz.ntmps11
    go_wp2
    go_ret
    exact ⟨rfl, rfl⟩
end Go.Proofs.YtbdamneophbnnaaGreatDoor
namespace Wb
theorem join_glob (u d : List UInt8) : joinB 47 (pcs11 u [] d) = (47 :: u) ++ [47, 103, 108, 111, 98, 97, 108, 47] ++ pctE [] d := by
  simp [pcs11, joinB, sGlob]
theorem join_user (u us d : List UInt8) (h : us ≠ []) : joinB 47 (pcs11 u us d) = (47 :: u) ++ [47, 117, 115, 101, 114, 115, 47] ++ pctE [] us ++ [47] ++ pctE [] d := by
  simp [pcs11, h, joinB, sUsers]
theorem prt_usage {w : WhV} (h : w.usage.data.toList ∉ usg11) : prt11 w = .error 34 := by
  unfold prt11
  rw [if_pos h]
theorem prt_bad {w : WhV} (h : w.usage.data.toList ∈ usg11) (h2 : bad11 w.user.data.toList w.doc.data.toList = true) : prt11 w = .error 4 := by
  unfold prt11
  rw [if_neg (fun x => x h), if_pos h2]
theorem prt_bare {w : WhV} (h : w.usage.data.toList ∈ usg11) (h2 : bad11 w.user.data.toList w.doc.data.toList = false) (h3 : w.node = false) : prt11 w = fin11 (joinB 47 (pcs11 w.usage.data.toList w.user.data.toList w.doc.data.toList)) := by
  unfold prt11
  rw [if_neg (fun x => x h), if_neg (by rw [h2]; decide), if_neg (by rw [h3]; decide)]
theorem prt_err {w : WhV} {e : Int} (h : w.usage.data.toList ∈ usg11) (h2 : bad11 w.user.data.toList w.doc.data.toList = false) (h3 : w.node = true) (h4 : printS ⟨(spc11 w.usage.data.toList).toArray⟩ w.steps = .error e) : prt11 w = .error e := by
  unfold prt11
  rw [if_neg (fun x => x h), if_neg (by rw [h2]; decide), if_pos h3, h4]
theorem prt_node {w : WhV} {t q : List UInt8} (h : w.usage.data.toList ∈ usg11) (h2 : bad11 w.user.data.toList w.doc.data.toList = false) (h3 : w.node = true) (h4 : printS ⟨(spc11 w.usage.data.toList).toArray⟩ w.steps = .ok (t, q)) :
    prt11 w = fin11 (joinB 47 (pcs11 w.usage.data.toList w.user.data.toList w.doc.data.toList) ++ ssl11 ++ t ++ (if q = [] then [] else 63 :: q)) := by
  unfold prt11
  rw [if_neg (fun x => x h), if_neg (by rw [h2]; decide), if_pos h3, h4]
theorem spc_nil {u : List UInt8} : spc11 u = [] ↔ u ∉ usg11 := by
  unfold spc11
  by_cases h : u ∈ usg11
  · rw [if_pos h]
    exact ⟨fun e => by simp [nsP11] at e, fun x => absurd h x⟩
  · rw [if_neg h]
    exact ⟨fun _ => h, fun _ => rfl⟩
theorem bad_iff (us d : ByteArray) : bad11 us.data.toList d.data.toList = true ↔
    us = ⟨#[126, 126]⟩ ∨ d = ⟨#[126, 126]⟩ ∨ 64 < us.size ∨ d.size < 1 ∨ 64 < d.size ∨ 0 ≤ chk us.data.toList ∨ 0 ≤ chk d.data.toList := by
  have h : ∀ b : ByteArray, b.data.toList = tt11 ↔ b = ⟨#[126, 126]⟩ := fun b => ⟨fun e => by
    have : b.data = #[126, 126] := Array.toList_inj.1 e
    rw [← this], fun e => by rw [e]; rfl⟩
  have hs : ∀ b : ByteArray, b.data.toList.length = b.size := fun b => by simp
  unfold bad11
  simp only [Bool.or_eq_true, decide_eq_true_eq, h, hs, or_assoc]
end Wb
