/- SaH SaI UaA SbG UaB QdI QdJ ScD UoA UkA SdB. -/
import Derived.Deep.WholeRow
import Derived.Deep.MidRow
import Derived.Laws.CopyOwn
import Derived.Deep.SlicePairs
import Derived.Test.YtbdamneophbnnaaGreatDoorCZ10
namespace Wb
def w9 (x : StV) : Nat := x.name.2.size + x.attr.2.size + 6 * x.val.size
def W9 (l : List StV) : Nat := (l.map w9).sum
theorem stp_w {x : StV} {space : ByteArray} {l l' : List ByteArray} {t : List UInt8} (h : stpT x space l = .ok (t, l')) (hl : l.length ≤ 16) (hp : x.pos ≤ 9999) : t.length ≤ w9 x + 40 ∧ l'.length ≤ 16 := by
  obtain ⟨kind, any, n, pos, by_, a, val⟩ := x
  unfold w9
  simp only at hp ⊢
  unfold stpT at h
  simp only at h
  split at h
  · injection h with h
    injection h with h1 h2
    subst h1 h2
    refine ⟨?_, hl⟩
    have : sNsAll.length = 12 := rfl
    omega
  split at h
  · split at h
    · cases h
    · rename_i t' l2 hn
      injection h with h
      injection h with h1 h2
      subst h1 h2
      obtain ⟨b1, b2⟩ := nameT_len hn hl
      exact ⟨by rw [List.length_cons]; omega, b2⟩
  split at h
  · cases h
  rename_i t0 l0 he
  have h0 : t0.length ≤ n.2.size + 8 ∧ l0.length ≤ 16 := by
    unfold elemT at he
    simp only at he
    split at he
    · injection he with he
      injection he with h1 h2
      subst h1 h2
      exact ⟨by simp, hl⟩
    · exact nameT_len he hl
  have hp : (posT pos).length ≤ 6 := by
    unfold posT
    split
    · have := dgN_le pos.toNat 4 (by omega)
      simp
      omega
    · simp
  split at h
  · injection h with h
    injection h with h1 h2
    subst h1 h2
    exact ⟨by rw [List.length_append]; omega, h0.2⟩
  split at h
  · cases h
  rename_i ta l2 ha
  obtain ⟨b1, b2⟩ := nameT_len ha h0.2
  split at h
  · cases h
  injection h with h
  injection h with h1 h2
  subst h1 h2
  refine ⟨?_, b2⟩
  have hz : val.data.toList.length = val.size := by simp
  have := (escL_len true val.data.toList).2
  unfold testT
  simp only [List.length_append, List.length_cons, List.length_nil]
  omega
theorem stps_w {space : ByteArray} : ∀ {l : List StV} {sp sp' : List ByteArray} {ts : List (List UInt8)}, stpsT space l sp = .ok (ts, sp') → sp.length ≤ 16 → (∀ x ∈ l, x.pos ≤ 9999) → (ts.map List.length).sum ≤ W9 l + 40 * l.length ∧ ts.length = l.length
  | [], sp, sp', ts, h, _, _ => by
    rw [stpsT] at h
    injection h with h
    injection h with h1 h2
    subst h1
    exact ⟨by simp, rfl⟩
  | x :: l, sp, sp', ts, h, hs, hp => by
    rw [stpsT] at h
    split at h
    · cases h
    rename_i t l1 h1
    split at h
    · cases h
    rename_i ts' l2 h2
    injection h with h
    injection h with e1 e2
    subst e1
    obtain ⟨a1, a2⟩ := stp_w h1 hs (hp x (by simp))
    obtain ⟨b1, b2⟩ := stps_w h2 a2 fun y hy => hp y (by simp [hy])
    have e : W9 (x :: l) = w9 x + W9 l := rfl
    refine ⟨?_, by rw [List.length_cons, List.length_cons, b2]⟩
    rw [e, List.map_cons, List.sum_cons, List.length_cons]
    omega
theorem join_size (c : UInt8) : ∀ ts : List (List UInt8), (joinB c ts).length ≤ (ts.map List.length).sum + ts.length
  | [] => by simp [joinB]
  | t :: ts => by
    by_cases h : ts = []
    · subst h
      simp [joinB]
    · rw [joinB_cons c t h]
      have := join_size c ts
      simp only [List.length_append, List.length_cons, List.map_cons, List.sum_cons]
      omega
theorem enc_sum : ∀ ts : List (List UInt8), ((ts.map (pctE [])).map List.length).sum ≤ 3 * (ts.map List.length).sum
  | [] => by simp
  | t :: ts => by
    have h1 := enc_sum ts
    have h2 := pctE_len [] t
    simp only [List.map_cons, List.sum_cons]
    omega
theorem nameT_sp {M : Nat} {n : Pr} {plain : ByteArray} {l l' : List ByteArray} {t : List UInt8} (h : nameT n plain l = .ok (t, l')) (hl : ∀ s ∈ l, s.size ≤ M) (h1 : n.1.size ≤ M) : ∀ s ∈ l', s.size ≤ M := by
  obtain ⟨_, ⟨_, _, rfl⟩ | ⟨_, _, _, rfl⟩ | ⟨_, _, _, _, _, rfl | ⟨rfl, _⟩⟩⟩ := nameT_cases h
  · exact hl
  · exact hl
  · exact hl
  · intro s hs
    rcases List.mem_append.1 hs with hs | hs
    · exact hl s hs
    · rw [List.mem_singleton.1 hs]
      exact h1
theorem stp_sp {M : Nat} {x : StV} {space : ByteArray} {l l' : List ByteArray} {t : List UInt8} (h : stpT x space l = .ok (t, l')) (hl : ∀ s ∈ l, s.size ≤ M) (h1 : x.name.1.size ≤ M) (h2 : x.attr.1.size ≤ M) : ∀ s ∈ l', s.size ≤ M := by
  unfold stpT at h
  split at h
  · injection h with h
    injection h with _ h
    subst h
    exact hl
  split at h
  · split at h
    · cases h
    · rename_i hn
      injection h with h
      injection h with _ h
      subst h
      exact nameT_sp hn hl h1
  split at h
  · cases h
  rename_i t0 l0 he
  have h0 : ∀ s ∈ l0, s.size ≤ M := by
    unfold elemT at he
    split at he
    · injection he with he
      injection he with _ he
      subst he
      exact hl
    · exact nameT_sp he hl h1
  split at h
  · injection h with h
    injection h with _ h
    subst h
    exact h0
  split at h
  · cases h
  rename_i ha
  split at h
  · cases h
  injection h with h
  injection h with _ h
  subst h
  exact nameT_sp ha h0 h2
theorem stps_sp {M : Nat} {space : ByteArray} : ∀ {l : List StV} {sp sp' : List ByteArray} {ts : List (List UInt8)}, stpsT space l sp = .ok (ts, sp') → sp.length ≤ 16 → (∀ x ∈ l, x.pos ≤ 9999 ∧ x.name.1.size ≤ M ∧ x.attr.1.size ≤ M) → (∀ s ∈ sp, s.size ≤ M) → sp'.length ≤ 16 ∧ ∀ s ∈ sp', s.size ≤ M
  | [], sp, sp', ts, h, hs, _, hm => by
    rw [stpsT] at h
    injection h with h
    injection h with h1 h2
    subst h2
    exact ⟨hs, hm⟩
  | x :: l, sp, sp', ts, h, hs, hp, hm => by
    rw [stpsT] at h
    split at h
    · cases h
    rename_i t l1 h1
    split at h
    · cases h
    rename_i ts' l2 h2
    injection h with h
    injection h with e1 e2
    subst e2
    have hx := hp x (by simp)
    exact stps_sp h2 (stp_w h1 hs hx.1).2 (fun y hy => hp y (by simp [hy])) (stp_sp h1 hm hx.2.1 hx.2.2)
theorem print_size {space : ByteArray} {l : List StV} {s q : List UInt8} (h : printS space l = .ok (s, q)) (hw : W9 l ≤ 300000) (hm : ∀ x ∈ l, x.name.1.size ≤ 5000 ∧ x.attr.1.size ≤ 5000) : s.length ≤ 1000000 ∧ q.length ≤ 1000000 := by
  unfold printS at h
  split at h
  · cases h
  rename_i hsh
  have hsh : shapeS l = true := by simpa using hsh
  split at h
  · cases h
  rename_i ts sp hs
  injection h with h
  injection h with e1 e2
  subst e1 e2
  have hl := (shapeS_len hsh).2
  have hp := shapeS_pos hsh
  obtain ⟨a1, a2⟩ := stps_w hs (by simp) hp
  obtain ⟨b1, b2⟩ := stps_sp (M := 5000) hs (by simp) (fun x hx => ⟨hp x hx, hm x hx⟩) (by simp)
  constructor
  · have h1 := join_size 47 (ts.map (pctE []))
    have h2 := enc_sum ts
    rw [List.length_map, a2] at h1
    omega
  · have h1 := pctE_len [] (queryT 0 sp)
    have h2 : ∀ (sp : List ByteArray) (k : Nat), k + sp.length ≤ 32 → (∀ s ∈ sp, s.size ≤ 5000) → (queryT k sp).length ≤ sp.length * 5020 := by
      intro sp
      induction sp with
      | nil => intro k _ _; simp [queryT]
      | cons s sp ih =>
        intro k hk h
        rw [List.length_cons] at hk
        have h1 := ih (k + 1) (by omega) fun x hx => h x (by simp [hx])
        have h2 := num_len ⟨k, by omega⟩
        have h3 := h s (by simp)
        have hz : s.data.toList.length = s.size := by simp
        have h4 : sBindK.length = 6 := rfl
        simp only at h2
        rw [queryT]
        simp only [List.length_append, List.length_cons, hz, h4]
        omega
    have h3 := h2 sp 0 (by omega) b2
    omega
def StLe (M n : Nat) (x : StV) : Prop := w9 x ≤ 26 * n ∧ x.name.1.size ≤ M ∧ x.attr.1.size ≤ M
theorem resB_loc (sc : List Pr) (q : ByteArray) (attr : Bool) : (resB sc q attr).1.2.size ≤ q.size := by
  unfold resB
  have := (splitB_size q).2
  split
  · exact Nat.zero_le _
  split
  · exact this
  split
  · exact Nat.zero_le _
  · exact this
theorem resB_sp {M : Nat} {sc : List Pr} (q : ByteArray) (attr : Bool) (hM : 64 ≤ M) (h : ∀ x ∈ sc, x.2.size ≤ M) : (resB sc q attr).1.1.size ≤ M := by
  unfold resB
  split
  · exact Nat.zero_le _
  split
  · exact Nat.zero_le _
  split
  · exact Nat.zero_le _
  · exact findB_size hM h
theorem mk_size (l : List UInt8) : (⟨l.toArray⟩ : ByteArray).size = l.length := by
  show l.toArray.size = _
  simp
theorem cutC_len {c : UInt8} {s a b : List UInt8} (h : cutC c s = some (a, b)) : a.length + b.length + 1 = s.length := by
  have := (cutC_some h).1
  rw [this]
  simp
  omega
theorem testP_len {r a v : List UInt8} (h : testP r = some (a, v)) : a.length ≤ r.length ∧ v.length ≤ r.length := by
  unfold testP at h
  split at h
  · split at h
    · cases h
    rename_i n t hc
    have h1 := cutC_len hc
    have h0 : (r.drop 2).length ≤ r.length := by rw [List.length_drop]; omega
    split at h
    · cases h
    rename_i q u
    rw [List.length_cons] at h1
    split at h
    · split at h
      · cases h
      rename_i v' e hv
      have h2 := cutC_len hv
      split at h
      · injection h with h
        injection h with e1 e2
        subst e1 e2
        exact ⟨by omega, by omega⟩
      · cases h
    · cases h
  · cases h
theorem posnP_len {r r' : List UInt8} {p : Nat} (h : posnP r = some (p, r')) : r'.length ≤ r.length := by
  unfold posnP at h
  split at h
  · injection h with h
    injection h with _ h
    subst h
    exact Nat.le_refl _
  split at h
  · cases h
  rename_i t r2 hc
  have h1 := cutC_len hc
  have h0 : (r.drop 1).length ≤ r.length := by rw [List.length_drop]; omega
  split at h
  · cases h
  injection h with h
  injection h with _ h
  subst h
  omega
theorem headP_len (d : List UInt8) : (headP d).1.length ≤ d.length ∧ (headP d).2.length ≤ d.length := by
  unfold headP
  exact ⟨(List.takeWhile_sublist _).length_le, (List.dropWhile_sublist _).length_le⟩
theorem unV_len (v : List UInt8) : (unV v).1.length ≤ 4 * v.length := by
  unfold unV
  split
  · rename_i x h
    exact unL_len true _ _ _ _ h
  · exact Nat.zero_le _
theorem stepP_le {M : Nat} {sc : List Pr} {d : List UInt8} {x : StV} (hM : 64 ≤ M) (hs : ∀ x ∈ sc, x.2.size ≤ M) (h : stepP sc d = .ok x) : StLe M d.length x := by
  obtain ⟨q1, q2⟩ := headP_len d
  have b1 := fun q a => resB_loc sc q a
  have b2 := fun q a => resB_sp (M := M) (sc := sc) q a hM hs
  have e0 : (⟨(headP d).1.toArray⟩ : ByteArray).size = (headP d).1.length := mk_size _
  have z0 : nE.1.size = 0 ∧ nE.2.size = 0 ∧ sE.size = 0 := ⟨rfl, rfl, rfl⟩
  obtain ⟨z1, z2, z3⟩ := z0
  unfold stepP at h
  split at h
  · cases h
  split at h
  · cases h
  rename_i p r hp
  have q3 := posnP_len hp
  split at h
  · split at h
    · injection h with h
      subst h
      unfold StLe w9
      simp only [z1, z2, z3]
      omega
    split at h
    · injection h with h
      subst h
      unfold StLe w9
      have c1 := b1 ⟨(headP d).1.toArray⟩ false
      have c2 := b2 ⟨(headP d).1.toArray⟩ false
      simp only [z1, z2, z3]
      omega
    · cases h
  split at h
  · cases h
  rename_i an v ht
  obtain ⟨q4, q5⟩ := testP_len ht
  split at h
  · cases h
  split at h
  · cases h
  split at h
  · cases h
  injection h with h
  subst h
  have c1 := b1 ⟨(headP d).1.toArray⟩ false
  have c2 := b2 ⟨(headP d).1.toArray⟩ false
  have c3 := b1 ⟨an.toArray⟩ true
  have c4 := b2 ⟨an.toArray⟩ true
  have c5 := unV_len v
  have e1 : (⟨an.toArray⟩ : ByteArray).size = an.length := mk_size _
  have e2 : (⟨(unV v).1.toArray⟩ : ByteArray).size = (unV v).1.length := mk_size _
  unfold StLe w9
  simp only
  split
  · simp only [z1, z2, e2]
    omega
  · simp only [e2]
    omega
theorem oneP_le {M : Nat} {sc : List Pr} {last : Bool} {d : List UInt8} {x : StV} (hM : 64 ≤ M) (hs : ∀ x ∈ sc, x.2.size ≤ M) (h : oneP sc last d = .ok x) : StLe M d.length x := by
  have z0 : nE.1.size = 0 ∧ nE.2.size = 0 ∧ sE.size = 0 := ⟨rfl, rfl, rfl⟩
  obtain ⟨z1, z2, z3⟩ := z0
  unfold oneP at h
  split at h
  · injection h with h
    subst h
    unfold StLe w9
    simp only [z1, z2, z3]
    omega
  split at h
  · split at h
    · injection h with h
      subst h
      have c1 := resB_loc sc ⟨(d.drop 1).toArray⟩ true
      have c2 := resB_sp (M := M) (sc := sc) ⟨(d.drop 1).toArray⟩ true hM hs
      have e1 : (⟨(d.drop 1).toArray⟩ : ByteArray).size = (d.drop 1).length := mk_size _
      rw [List.length_drop] at e1
      unfold StLe w9
      simp only [z1, z2, z3]
      omega
    · cases h
  · exact stepP_le hM hs h
theorem parseL_le {M : Nat} {sc : List Pr} (hM : 64 ≤ M) (hs : ∀ x ∈ sc, x.2.size ≤ M) : ∀ {ps : List (List UInt8)} {f : Bool} {l : List StV}, parseL' sc f ps = .ok l → W9 l ≤ 26 * (ps.map List.length).sum ∧ l.length = ps.length ∧ ∀ x ∈ l, x.name.1.size ≤ M ∧ x.attr.1.size ≤ M
  | [], f, l, h => by
    rw [parseL'] at h
    injection h with h
    subst h
    exact ⟨by simp [W9], rfl, by simp⟩
  | p :: r, f, l, h => by
    rw [parseL'] at h
    split at h
    · cases h
    split at h
    · cases h
    rename_i x hx
    split at h
    · cases h
    rename_i l' hl
    injection h with h
    subst h
    obtain ⟨a1, a2, a3⟩ := parseL_le hM hs hl
    obtain ⟨c1, c2, c3⟩ := oneP_le hM hs hx
    have hd := decP_len p
    have e : W9 (x :: l') = w9 x + W9 l' := rfl
    refine ⟨?_, by rw [List.length_cons, List.length_cons, a2], fun y hy => ?_⟩
    · rw [e, List.map_cons, List.sum_cons]
      omega
    · rcases List.mem_cons.1 hy with rfl | hy
      · exact ⟨c2, c3⟩
      · exact a3 y hy
theorem sum_join (c : UInt8) : ∀ ts : List (List UInt8), (ts.map List.length).sum ≤ (joinB c ts).length
  | [] => by simp
  | t :: ts => by
    by_cases h : ts = []
    · subst h
      simp [joinB]
    · rw [joinB_cons c t h]
      have := sum_join c ts
      simp only [List.length_append, List.length_cons, List.map_cons, List.sum_cons]
      omega
theorem parse_size {M : Nat} {s : List UInt8} {space : ByteArray} {binds : List Pr} {l : List StV} (hM : 64 ≤ M) (h1 : space.size ≤ M) (hs : ∀ x ∈ binds, x.2.size ≤ M) (h : parseS s space binds = .ok l) :
    W9 l ≤ 26 * s.length ∧ l.length ≤ 16 ∧ ∀ x ∈ l, x.name.1.size ≤ M ∧ x.attr.1.size ≤ M := by
  unfold parseS at h
  split at h
  · cases h
  obtain ⟨a1, a2, a3⟩ := parseL_le hM (fun x hx => by
    rcases List.mem_cons.1 hx with rfl | hx
    · exact h1
    · exact hs x hx) h
  have hj := sum_join 47 (pieceF 47 s)
  have e : joinB 47 (pieceF 47 s) = s := by
    have := piece_join 47 [] s
    simpa [pieceF] using this
  rw [e] at hj
  exact ⟨by omega, by omega, a3⟩
end Wb
namespace Wb
theorem br_size {s : List UInt8} {m : List Pr} (h : BR s m) : ∀ x ∈ m, x.1.size ≤ s.length ∧ x.2.size ≤ s.length := by
  induction h with
  | done h => intro x hx; simp at hx
  | more h1 h2 h3 h4 ih =>
    rename_i s n sp r ls
    obtain ⟨_, e, _⟩ := bind1_len h2
    have hd : (s.dropWhile blkU).length ≤ s.length := (List.dropWhile_sublist _).length_le
    have hl := congrArg List.length e
    simp only [List.length_append, List.length_cons] at hl
    intro x hx
    rcases List.mem_cons.1 hx with rfl | hx
    · have e1 : (⟨n.toArray⟩ : ByteArray).size = n.length := mk_size _
      have e2 : (⟨sp.toArray⟩ : ByteArray).size = sp.length := mk_size _
      simp only [e1, e2]
      omega
    · have := ih x hx
      omega
theorem binds_size {q : List UInt8} {m : List Pr} (h : bindsP q = (m, 0)) : m.length ≤ 16 ∧ ∀ x ∈ m, x.1.size ≤ q.length ∧ x.2.size ≤ q.length := by
  obtain ⟨s, h1, h2, h3⟩ := bindsP_ok h
  have hd := decP_len q
  rw [h1] at hd
  exact ⟨h3, fun x hx => by have := br_size h2 x hx; simp only at hd; omega⟩
theorem stepP_nz {sc : List Pr} {d : List UInt8} {k : Int} (h : stepP sc d = .error k) : k ≠ 0 := by
  unfold stepP at h
  repeat' (split at h)
  all_goals first
    | (cases h; done)
    | (injection h with h; subst h; decide)
    | (rename_i hz; injection h with h; subst h; exact hz)
    | (rename_i hz; injection h with h; subst h; exact hz.2)
    | (rename_i hz _; injection h with h; subst h; exact hz.2)
theorem oneP_nz {sc : List Pr} {last : Bool} {d : List UInt8} {k : Int} (h : oneP sc last d = .error k) : k ≠ 0 := by
  unfold oneP at h
  split at h
  · cases h
  split at h
  · split at h
    · cases h
    · rename_i hz
      injection h with h
      subst h
      exact hz
  · exact stepP_nz h
theorem parseL_nz {sc : List Pr} : ∀ {ps : List (List UInt8)} {f : Bool} {k : Int}, parseL' sc f ps = .error k → k ≠ 0
  | [], f, k, h => by rw [parseL'] at h; cases h
  | p :: r, f, k, h => by
    rw [parseL'] at h
    split at h
    · rename_i hz
      injection h with h
      subst h
      exact hz
    split at h
    · rename_i hx
      injection h with h
      subst h
      exact oneP_nz hx
    split at h
    · rename_i hx
      injection h with h
      subst h
      exact parseL_nz hx
    · cases h
theorem parse_nz {s : List UInt8} {space : ByteArray} {b : List Pr} {k : Int} (h : parseS s space b = .error k) : k ≠ 0 := by
  unfold parseS at h
  split at h
  · injection h with h
    subst h
    decide
  · exact parseL_nz h
theorem stps_nz {space : ByteArray} : ∀ {l : List StV} {sp : List ByteArray} {k : Int}, stpsT space l sp = .error k → k ≠ 0
  | [], sp, k, h => by rw [stpsT] at h; cases h
  | x :: l, sp, k, h => by
    rw [stpsT] at h
    split at h
    · rename_i hx
      injection h with h
      subst h
      exact stp_err hx
    split at h
    · rename_i hx
      injection h with h
      subst h
      exact stps_nz hx
    · cases h
theorem print_nz {space : ByteArray} {l : List StV} {k : Int} (h : printS space l = .error k) : k ≠ 0 := by
  unfold printS at h
  split at h
  · injection h with h
    subst h
    decide
  split at h
  · rename_i hx
    injection h with h
    subst h
    exact stps_nz hx
  · cases h
def SzOK (l : List StV) : Prop := W9 l ≤ 60000 ∧ l.length ≤ 100000 ∧ ∀ x ∈ l, x.name.1.size ≤ 5000 ∧ x.attr.1.size ≤ 5000
theorem W9_mem : ∀ {l : List StV} {x : StV}, x ∈ l → w9 x ≤ W9 l
  | [], x, h => by simp at h
  | y :: l, x, h => by
    have e : W9 (y :: l) = w9 y + W9 l := rfl
    rw [e]
    rcases List.mem_cons.1 h with rfl | h
    · omega
    · have := W9_mem h
      omega
theorem SzOK.all {l : List StV} (h : SzOK l) : ∀ x ∈ l, x.name.1.size ≤ 60000 ∧ x.name.2.size ≤ 60000 ∧ x.attr.1.size ≤ 60000 ∧ x.attr.2.size ≤ 60000 ∧ x.val.size ≤ 60000 := fun x hx => by
  have h1 := W9_mem hx
  have h2 := h.2.2 x hx
  have h3 := h.1
  unfold w9 at h1
  omega
theorem SzOK.nil : SzOK [] := ⟨by simp [W9], by simp, by simp⟩
end Wb
namespace Wb
open Go
structure WhV where
  usage : ByteArray
  user : ByteArray
  doc : ByteArray
  node : Bool
  steps : List StV
  raw : ByteArray
  binds : List Pr
def nsP11 : List UInt8 := [117, 114, 110, 58, 105, 101, 116, 102, 58, 112, 97, 114, 97, 109, 115, 58, 120, 109, 108, 58, 110, 115, 58]
def usg11 : List (List UInt8) := [[114, 101, 115, 111, 117, 114, 99, 101, 45, 108, 105, 115, 116, 115], [114, 108, 115, 45, 115, 101, 114, 118, 105, 99, 101, 115], [112, 114, 101, 115, 45, 114, 117, 108, 101, 115], [120, 99, 97, 112, 45, 99, 97, 112, 115]]
def spc11 (u : List UInt8) : List UInt8 := if u ∈ usg11 then nsP11 ++ u else []
def tt11 : List UInt8 := [126, 126]
def ssl11 : List UInt8 := [47, 126, 126, 47]
def sUsers : List UInt8 := [117, 115, 101, 114, 115]
def sGlob : List UInt8 := [103, 108, 111, 98, 97, 108]
def que11 (s : List UInt8) : List UInt8 × Option (List UInt8) := match cutC 63 s with
  | some (a, q) => (a, some q)
  | none => (s, none)
def sel11 (s : List UInt8) : List UInt8 × Option (List UInt8) := if 0 ≤ Lib.index s ssl11 then (s.take (Lib.index s ssl11).toNat, some (s.drop ((Lib.index s ssl11).toNat + 4))) else (s, none)
def frm11 : List (List UInt8) → Option (List UInt8 × Option (List UInt8) × List UInt8)
  | [[], u, g, d] => if g = sGlob then some (u, none, d) else none
  | [[], u, g, x, d] => if g = sUsers then some (u, some x, d) else none
  | _ => none
def usr11 : Option (List UInt8) → List UInt8 × Int
  | none => ([], 0)
  | some x => decP x
def ok11 (x : Option (List UInt8)) (us d : List UInt8) : Bool := decide (1 ≤ d.length) && decide (d.length ≤ 64) && decide (us.length ≤ 64) && !(decide (us = []) && x.isSome) && !decide (d = tt11) && !decide (us = tt11)
def uri11 (s : List UInt8) : Except Int WhV :=
  if 512 < s.length then .error 3
  else match frm11 (pieceF 47 (sel11 (que11 s).1).1) with
    | none => .error 4
    | some (u, x, d) =>
      if (que11 s).2.isSome = true ∧ (sel11 (que11 s).1).2 = none then .error 4
      else if u ∉ usg11 then .error 34
      else if (usr11 x).2 ≠ 0 then .error (usr11 x).2
      else if (decP d).2 ≠ 0 then .error (decP d).2
      else if ok11 x (usr11 x).1 (decP d).1 = false then .error 4
      else match (sel11 (que11 s).1).2 with
        | none => .ok ⟨⟨u.toArray⟩, ⟨(usr11 x).1.toArray⟩, ⟨(decP d).1.toArray⟩, false, [], sE, []⟩
        | some t =>
          if (bindsP ((que11 s).2.getD [])).2 ≠ 0 then .error (bindsP ((que11 s).2.getD [])).2
          else match parseS t ⟨(spc11 u).toArray⟩ (bindsP ((que11 s).2.getD [])).1 with
            | .error e => .error e
            | .ok l => .ok ⟨⟨u.toArray⟩, ⟨(usr11 x).1.toArray⟩, ⟨(decP d).1.toArray⟩, true, l, ⟨t.toArray⟩, (bindsP ((que11 s).2.getD [])).1⟩
def bad11 (us d : List UInt8) : Bool := decide (us = tt11) || decide (d = tt11) || decide (64 < us.length) || decide (d.length < 1) || decide (64 < d.length) || decide (0 ≤ chk us) || decide (0 ≤ chk d)
def pcs11 (u us d : List UInt8) : List (List UInt8) := if us = [] then [[], u, sGlob, pctE [] d] else [[], u, sUsers, pctE [] us, pctE [] d]
def fin11 (s : List UInt8) : Except Int (List UInt8) := if 512 < s.length then .error 3 else .ok s
def prt11 (w : WhV) : Except Int (List UInt8) :=
  if w.usage.data.toList ∉ usg11 then .error 34
  else if bad11 w.user.data.toList w.doc.data.toList = true then .error 4
  else if w.node = true then match printS ⟨(spc11 w.usage.data.toList).toArray⟩ w.steps with
    | .error e => .error e
    | .ok (t, q) => fin11 (joinB 47 (pcs11 w.usage.data.toList w.user.data.toList w.doc.data.toList) ++ ssl11 ++ t ++ (if q = [] then [] else 63 :: q))
  else fin11 (joinB 47 (pcs11 w.usage.data.toList w.user.data.toList w.doc.data.toList))
theorem ssl_pre (c : UInt8) (l : List UInt8) : ssl11.isPrefixOf (c :: l) = (decide (c = 47) && decide (l.take 3 = [126, 126, 47])) := by
  unfold ssl11
  rw [List.isPrefixOf]
  by_cases h : c = 47
  · subst h
    rw [beq_self_eq_true, decide_eq_true rfl, Bool.true_and, Bool.true_and]
    match l with
    | [] => rfl
    | [a] => simp [List.isPrefixOf]
    | [a, b] => simp [List.isPrefixOf]
    | a :: b :: d :: r =>
      rw [Bool.eq_iff_iff, decide_eq_true_eq]
      simp only [List.isPrefixOf, Bool.and_true, Bool.and_eq_true, beq_iff_eq, List.take_succ_cons, List.take_zero, List.cons.injEq, and_true]
      exact ⟨fun h => ⟨h.1.symm, h.2.1.symm, h.2.2.symm⟩, fun h => ⟨h.1.symm, h.2.1.symm, h.2.2.symm⟩⟩
  · rw [beq_eq_false_iff_ne.2 (Ne.symm h), decide_eq_false h]
    rfl
theorem take_end {p : List UInt8} (hp : ∀ x ∈ p, x ≠ 47) : p.take 3 ≠ [126, 126, 47] := by
  intro e
  have : (47 : UInt8) ∈ p.take 3 := by rw [e]; simp
  exact hp 47 (List.mem_of_mem_take this) rfl
end Wb
namespace Go.Proofs.YtbdamneophbnnaaGreatDoor
open Go.RowKit Wb
def PrintV (o : Except Int (List UInt8 × List UInt8)) : Value := .tuple #[.string (mkT (prV o).2.1), .string (mkT (prV o).2.2), .int .i64 (prV o).1]
end Go.Proofs.YtbdamneophbnnaaGreatDoor
namespace Wb
open Go
theorem bad_facts {us d : List UInt8} (h : bad11 us d = false) : us ≠ tt11 ∧ d ≠ tt11 ∧ us.length ≤ 64 ∧ 1 ≤ d.length ∧ d.length ≤ 64 ∧ chk us < 0 ∧ chk d < 0 := by
  unfold bad11 at h
  simp only [Bool.or_eq_false_iff, decide_eq_false_iff_not] at h
  obtain ⟨⟨⟨⟨⟨⟨a1, a2⟩, a3⟩, a4⟩, a5⟩, a6⟩, a7⟩ := h
  exact ⟨a1, a2, by omega, by omega, by omega, by omega, by omega⟩
theorem bin_nil : bindsP [] = ([], 0) := by kernel_rfl
end Wb
namespace Go.Proofs.YtbdamneophbnnaaGreatDoor
open Go.RowKit Wb
theorem arr256_info : (Tryz.prog.info? 85).map (fun i => (i.zero, i.size)) = some (some (.agg (Array.replicate 256 (.bool false))), 256) := by kernel_rfl
set_option maxRecDepth 100000 in
set_option maxHeartbeats 8000000 in
theorem keeping_any (keep : ByteArray) (w : World) (hk : keep.size ≤ 1000000) :
    Calls Tryz.prog 48 #[.string keep] w fun e w' => e = .returned (.agg (arrB (fA keep.data.toList))) ∧ Below w.heap.size w w' := by
  have hz := (zero_of_info arr256_info).1
  have hi256 := (zero_of_info arr256_info).2
  obtain ⟨ka, hka⟩ : ∃ ka, arrB (fA keep.data.toList) = ka := ⟨_, rfl⟩
  rw [hka]
  have HKA := Lib.hid hka
  clear hka
  have HB0 := Lib.hid (((Below.refl w.heap.size w).alloc (Nat.le_refl _) (.cells (Array.replicate 256 (.bool false)) 85)).alloc (by simp) (.cells (Array.replicate 256 (.bool false)) 85))
  have HR0 := Lib.hid (heap_alloc2_old w (.cells (Array.replicate 256 (.bool false)) 85) (.cells (Array.replicate 256 (.bool false)) 85))
  have HK0 := Lib.hid (heap_alloc2_new w (.cells (Array.replicate 256 (.bool false)) 85) (.cells (Array.replicate 256 (.bool false)) 85))
  go_enter Tryz.func48, Tryz.ntmps48
  go_wp2
  go_loopw [7] (fun v7 wr => ∃ i : Nat, i ≤ 256 ∧ v7 = .int .i64 i ∧ Hid (wr.heap[w.heap.size + 1]? = some (.cells (arrB (fP i)) 85 (0, 0))) ∧ Hid (wr.heap[w.heap.size]? = some (.cells (Array.replicate 256 (.bool false)) 85 (0, 0))) ∧ Hid (Below w.heap.size w wr)) (fun v7 _ => (256 - intOf v7).toNat)
  case atStart => exact ⟨0, by omega, rfl, Lib.hid (by rw [fP_zero]; exact HK0.out), HR0, HB0⟩
  case round =>
    obtain ⟨i, hi, rfl, HK, HR, HB⟩ := hrel
    by_cases h0 : i < 256
    · have hp := pplain_any (UInt8.ofNat i) wr
      have e1 : ((UInt8.ofNat i).toNat : Int) = (i : Int) := by rw [UInt8.toNat_ofNat']; omega
      have e2 : IntKind.u8.wrap (i : Int) = (i : Int) := by rw [IntKind.wrap_u8]; omega
      rw [e1] at hp
      have c1 : wr.cell? ⟨w.heap.size + 1, i, none⟩ = some (.bool (fP i i)) := by rw [blk_cell HK.out, arrB_at _ h0]
      have f1 := blk_free HK.out i
      have HK2 := Lib.hid (blk_set HK.out i (.bool (plC (UInt8.ofNat i))))
      have HR2 : Hid ((wr.setCell ⟨w.heap.size + 1, i, none⟩ (.bool (plC (UInt8.ofNat i)))).heap[w.heap.size]? = some (.cells (Array.replicate 256 (.bool false)) 85 (0, 0))) := Lib.hid (by
        rw [heap_setCell_other _ _ _ _ (by show w.heap.size ≠ w.heap.size + 1; omega)]
        exact HR.out)
      have HB2 := Lib.hid (HB.out.setCell (p := ⟨w.heap.size + 1, i, none⟩) (by show w.heap.size ≤ w.heap.size + 1; omega) (.bool (plC (UInt8.ofNat i))))
      have HS := Lib.hid (fP_step h0)
      generalize plC (UInt8.ofNat i) = pl at *
      generalize fP i i = p0 at *
      have h0i : (i : Int) < 256 := by omega
      clear e1 HK HR HB
      go_wp2_with fail
      refine hp.mono ?_
      rintro e w2 ⟨rfl, rfl⟩
      clear hp
      go_wp2
      go_roundw
      case rel => exact ⟨i + 1, by omega, by go_num, Lib.hid (by rw [← HS.out]; exact HK2.out), HR2, HB2⟩
      case measure => simp [intOf]; omega
    · obtain rfl : i = 256 := by omega
      clear hi h0 HB0 HR0 HK0
      have hlt := (Array.getElem?_eq_some_iff.1 HK.out).1
      have hcv := Lib.run_convert_string_bytes (P := Tryz.prog) wr 9 74 5 keep (u := .string) Tryz.underlying9 Tryz.underlying74 Tryz.underlying5
      have hb1 := Go.Joins.below_bytesWorld wr.heap.size wr 5 keep (Nat.le_refl _)
      have HCL := Lib.hid (fun (i : Nat) (c : UInt8) (h : keep.data.toList[i]? = some c) => (show (Lib.bytesWorld wr 5 keep).cell? ⟨wr.heap.size, i, none⟩ = some (.int .u8 (c.toNat : Int)) from by
        have hi := (List.getElem?_eq_some_iff.1 h).1
        rw [Lib.bytesWorld_cell wr 5 keep i (by simpa using hi), List.getD, h]
        rfl))
      have HK1 := Lib.hid (still_block HK.out hb1)
      have HR1 := Lib.hid (still_block HR.out hb1)
      have HB1 := Lib.hid (HB.out.trans (hb1.mono HB.out.size))
      rw [fP_end keep.data.toList] at HK1
      generalize Lib.bytesWorld wr 5 keep = w1 at *
      generalize grownCap wr keep.size 0 5 = cp at *
      clear hb1 HK HR HB
      go_wp2
      generalize wr.heap.size = bk at *
      go_loopw [19] (fun v19 wq => ∃ i : Nat, i ≤ keep.size ∧ v19 = .int .i64 i ∧ Hid (wq.heap[w.heap.size + 1]? = some (.cells (arrB (fK keep.data.toList i)) 85 (0, 0))) ∧ Hid (wq.heap[w.heap.size]? = some (.cells (Array.replicate 256 (.bool false)) 85 (0, 0))) ∧ Hid (Below w.heap.size w wq) ∧ Hid (∀ (i : Nat) (c : UInt8), keep.data.toList[i]? = some c → wq.cell? ⟨bk, i, none⟩ = some (.int .u8 (c.toNat : Int)))) (fun v19 _ => ((keep.size : Int) - intOf v19).toNat)
      case atStart => exact ⟨0, by omega, rfl, HK1, HR1, HB1, HCL⟩
      case round =>
        clear HK1 HR1 HB1 HCL
        obtain ⟨i, hi, rfl, HK, HR, HB, HC⟩ := hrel
        by_cases h0 : i < keep.size
        · obtain ⟨c, hc⟩ : ∃ c, keep.data.toList[i]? = some c := ⟨keep.data.toList[i]'(by simpa using h0), List.getElem?_eq_getElem _⟩
          have hcl := HC.out i c hc
          have c1 : wr.cell? ⟨w.heap.size + 1, c.toNat, none⟩ = some (.bool (fK keep.data.toList i c.toNat)) := by rw [blk_cell HK.out, arrB_at _ c.toNat_lt]
          have f1 := blk_free HK.out c.toNat
          have HK2 := Lib.hid (blk_set HK.out c.toNat (.bool true))
          have HS := Lib.hid (fK_step hc)
          have HR2 : Hid ((wr.setCell ⟨w.heap.size + 1, c.toNat, none⟩ (.bool true)).heap[w.heap.size]? = some (.cells (Array.replicate 256 (.bool false)) 85 (0, 0))) := Lib.hid (by
            rw [heap_setCell_other _ _ _ _ (by show w.heap.size ≠ w.heap.size + 1; omega)]
            exact HR.out)
          have HB2 := Lib.hid (HB.out.setCell (p := ⟨w.heap.size + 1, c.toNat, none⟩) (by show w.heap.size ≤ w.heap.size + 1; omega) (.bool true))
          have HC2 : Hid (∀ (k : Nat) (x : UInt8), keep.data.toList[k]? = some x → (wr.setCell ⟨w.heap.size + 1, c.toNat, none⟩ (.bool true)).cell? ⟨bk, k, none⟩ = some (.int .u8 (x.toNat : Int))) := Lib.hid (fun k x hx => by
            have hh := heap_setCell_other wr ⟨w.heap.size + 1, c.toNat, none⟩ bk (.bool true) (by show bk ≠ w.heap.size + 1; omega)
            rw [← HC.out k x hx]
            simp [World.cell?, hh])
          have hc256 : (c.toNat : Int) < 256 := by have := c.toNat_lt; omega
          generalize fK keep.data.toList i c.toNat = b0 at *
          clear hc HK HR HB HC
          go_wp2
          go_roundw
          case rel => exact ⟨i + 1, by omega, by go_num, Lib.hid (by rw [← HS.out]; exact HK2.out), HR2, HB2, HC2⟩
          case measure => simp [intOf]; omega
        · obtain rfl : i = keep.size := by omega
          clear hi h0
          rw [show keep.size = keep.data.toList.length by simp] at HK
          have c1 : wr.cell? ⟨w.heap.size + 1, 37, none⟩ = some (.bool (fK keep.data.toList keep.data.toList.length 37)) := by rw [blk_cell HK.out, arrB_at _ (by omega)]
          have f1 := blk_free HK.out 37
          have hk2 := blk_set HK.out 37 (.bool false)
          rw [fA_step] at hk2
          have HK2 := Lib.hid hk2
          have HR2 : Hid ((wr.setCell ⟨w.heap.size + 1, 37, none⟩ (.bool false)).heap[w.heap.size]? = some (.cells (Array.replicate 256 (.bool false)) 85 (0, 0))) := Lib.hid (by
            rw [heap_setCell_other _ _ _ _ (by show w.heap.size ≠ w.heap.size + 1; omega)]
            exact HR.out)
          have HB2 := Lib.hid (HB.out.setCell (p := ⟨w.heap.size + 1, 37, none⟩) (by show w.heap.size ≤ w.heap.size + 1; omega) (.bool false))
          generalize fK keep.data.toList keep.data.toList.length 37 = b0 at *
          clear hk2 HK HR HB HC
          have hsz := arrB_size (fA keep.data.toList)
          have hon := arrB_one (fA keep.data.toList)
          rw [HKA.out] at HK2 hsz hon
          go_upto_region 13 with fail
          generalize wr.setCell ⟨w.heap.size + 1, 37, none⟩ (.bool false) = wz at *
          refine wp_region_list ?_
          refine wpList_load_row rfl 85 (.tmp 3) rfl (w.heap.size + 1) rfl 85 ka (0, 0) _ HK2.out Tryz.underlying85 rfl (by rw [hsz]; exact hi256) ?_
          refine wpList_store_row rfl 85 (.tmp 2) (.tmp 27) rfl w.heap.size ka rfl rfl 85 _ HR2.out (by rw [hsz]; exact hi256) (by rw [hsz]; simp) hon ?_
          have HF := Lib.hid (setRow_heap wz w.heap.size _ ka _ _ HR2.out)
          have HB3 := Lib.hid (Go.below_setRow HB2.out (Nat.le_refl _) ka)
          generalize wz.setRow w.heap.size ka = wy at *
          clear HR2 HB2 HK2 c1 f1
          simp only [wpList, Act.put]
          go_wp2
          refine bodyPost_ret (results_cell_row rfl _ _ w.heap.size 85 ka (0, 0) _ rfl HF.out Tryz.underlying85 rfl (by rw [hsz]; exact hi256)) rfl ?_
          exact ⟨rfl, HB3.out⟩
end Go.Proofs.YtbdamneophbnnaaGreatDoor
namespace Wb
theorem u8_shr4 (c : UInt8) : ((c.toNat : Int) / 16) = ((c.toNat / 16 : Nat) : Int) := by omega
theorem u8_and4 (c : UInt8) : Go.bits .and .u8 (c.toNat : Int) 15 = ((c.toNat % 16 : Nat) : Int) := by
  have := c.toNat_lt
  rw [u8_and15 _ (by omega) (by omega)]
  omega
end Wb
namespace Go.Proofs.YtbdamneophbnnaaGreatDoor
open Go.RowKit Wb
set_option maxRecDepth 100000 in
set_option maxHeartbeats 8000000 in
theorem encode_any (s keep : ByteArray) (w : World) (hs : s.size ≤ 1000000) (hkp : keep.size ≤ 1000000) :
    Calls Tryz.prog 28 #[.string s, .string keep] w fun e w' => e = .returned (.string ⟨(pctE keep.data.toList s.data.toList).toArray⟩) ∧ Below w.heap.size w w' := by
  have hz := (zero_of_info arr256_info).1
  have hi256 := (zero_of_info arr256_info).2
  have hkc := fun v => keeping_any keep v hkp
  obtain ⟨ka, hka⟩ : ∃ ka, arrB (fA keep.data.toList) = ka := ⟨_, rfl⟩
  rw [hka] at hkc
  have hsz := arrB_size (fA keep.data.toList)
  have hon := arrB_one (fA keep.data.toList)
  have HAT := Lib.hid (fun c : UInt8 => (show ka[c.toNat]? = some (.bool ((plC c || keep.data.toList.contains c) && c != 37)) from by rw [← hka, arrB_at _ c.toNat_lt, fA_at]))
  rw [hka] at hsz hon
  have hsc := fun v : World => run_storeCells_new (P := Tryz.prog) v 85 (Array.replicate 256 (.bool false)) ka (by rw [hsz]; exact hi256) (by rw [hsz]; simp) hon
  clear hka
  go_enter Tryz.func28, Tryz.ntmps28
  go_wp2_with fail
  refine (hkc _).mono ?_
  rintro e w1 ⟨rfl, hb1⟩
  clear hkc
  go_upto_region 2 with fail
  have hk2 := heap_alloc_new w1 (.cells ka 85)
  have hb2 := hb1.alloc hb1.size (.cells ka 85)
  have hs2 : (w1.alloc (.cells ka 85)).heap.size = w1.heap.size + 1 := by simp
  generalize w1.alloc (.cells ka 85) = w2 at *
  generalize w1.heap.size = gk at *
  have hf3 := Lib.fresh_isBuilder 89 5 w2
  have hb3 := (Below.refl w2.heap.size w2).alloc (Nat.le_refl _) (.cells #[.pointer none, .slice none 0 0] 89)
  go_upto_region 3 with fail
  have hs3 : (w2.alloc (.cells #[.pointer none, .slice none 0 0] 89)).heap.size = w2.heap.size + 1 := by simp
  have HK3 := Lib.hid (still_block hk2 hb3)
  have HB3 := Lib.hid (hb2.trans (hb3.mono hb2.size))
  have hwB : w.heap.size ≤ w2.heap.size := hb2.size
  have hgk : gk < w2.heap.size := by omega
  generalize w2.alloc (.cells #[.pointer none, .slice none 0 0] 89) = w3 at *
  generalize w2.heap.size = B at *
  subst hs2
  clear hk2 hb1 hb2 hb3
  have hb4 := Go.Joins.below_bytesWorld w3.heap.size w3 5 s (Nat.le_refl _)
  have hcv := Lib.run_convert_string_bytes (P := Tryz.prog) w3 9 74 5 s (u := .string) Tryz.underlying9 Tryz.underlying74 Tryz.underlying5
  have HM4 := Lib.hid (Marked.new w3 s)
  have HF4 := Lib.hid (isb_below' hf3 hb4)
  have HK4 := Lib.hid (still_block HK3.out hb4)
  have HB4 := Lib.hid (HB3.out.trans (hb4.mono HB3.out.size))
  have hB4 : gk + 1 ≤ (Lib.bytesWorld w3 5 s).heap.size := by have := hb4.size; omega
  generalize Lib.bytesWorld w3 5 s = w4 at *
  generalize grownCap w3 s.size 0 5 = cp at *
  clear hf3 hb4 HK3 HB3 hs3
  go_wp2
  generalize w3.heap.size = bk at *
  clear hcv hsc hz hi256 hsz hon
  go_loopw [14] (fun v14 wr => ∃ i : Nat, i ≤ s.size ∧ v14 = .int .i64 i ∧ Hid (Lib.IsBuilder 89 5 (gk + 1) (gk + 1) (Lib.byteCells (pctE keep.data.toList (s.data.toList.take i))) wr) ∧ Hid (wr.heap[gk]? = some (.cells ka 85 (0, 0))) ∧ Hid (Marked wr bk s) ∧ Hid (Below w.heap.size w wr) ∧ gk + 1 ≤ wr.heap.size) (fun v14 _ => ((s.size : Int) - intOf v14).toNat)
  case atStart => exact ⟨0, by omega, rfl, Lib.hid (by rw [List.take_zero]; exact HF4.out), HK4, HM4, HB4, hB4⟩
  case round =>
    clear HF4 HK4 HM4 HB4 hB4
    obtain ⟨i, hi, rfl, HF, HK, HM, HB, hBw⟩ := hrel
    by_cases h0 : i < s.size
    · have hil : i < s.data.toList.length := by simpa using h0
      obtain ⟨c, hc⟩ : ∃ c, s.data.toList[i]? = some c := ⟨s.data.toList[i], List.getElem?_eq_getElem hil⟩
      have hcl := HM.out.cell hc
      have hst := enc_step keep.data.toList s.data.toList i hil
      rw [(List.getElem?_eq_some_iff.1 hc).2] at hst
      have hln : (pctE keep.data.toList (s.data.toList.take i)).length ≤ 3 * i := by
        have := pctE_len keep.data.toList (s.data.toList.take i)
        rw [List.length_take] at this
        omega
      have hkc : wr.cell? ⟨gk, c.toNat, none⟩ = some (.bool ((plC c || keep.data.toList.contains c) && c != 37)) := by rw [blk_cell HK.out, HAT.out]
      have hc256 : (c.toNat : Int) < 256 := by have := c.toNat_lt; omega
      unfold pctC at hst
      generalize pctE keep.data.toList (s.data.toList.take i) = acc at *
      have keep1 : ∀ (v v' : World), Hid (Marked v bk s) → Hid (v.heap[gk]? = some (.cells ka 85 (0, 0))) → Hid (Below w.heap.size w v) → Below (gk + 1) v v' → KeepF v v' → Hid (Marked v' bk s) ∧ Hid (v'.heap[gk]? = some (.cells ka 85 (0, 0))) ∧ Hid (Below w.heap.size w v') := fun v v' h1 h2 h3 h4 h5 => ⟨Lib.hid (h1.out.keep h5), Lib.hid ((h4.block gk (by omega)).trans h2.out), Lib.hid (h3.out.trans (h4.mono hwB))⟩
      have KEEP := Lib.hid keep1
      clear keep1 hc hil
      cases hq : ((plC c || keep.data.toList.contains c) && c != 37) with
      | true =>
        rw [hq, if_pos rfl] at hst
        rw [hq] at hkc
        have HST := Lib.hid hst
        have k1 := qfbyte_any (gk + 1) (gk + 1) (Lib.byteCells acc) (c.toNat : Int) wr HF.out (by rw [Lib.byteCells_length]; omega) hBw
        clear hst hq HF
        go_wp2_with fail
        refine k1.mono ?_
        rintro e w5 ⟨⟨v, rfl⟩, hF5, hb5, ht5⟩
        obtain ⟨HM5, HK5, HB5⟩ := KEEP.out _ _ HM HK HB hb5 ht5
        have hBw5 : gk + 1 ≤ w5.heap.size := Nat.le_trans hBw hb5.size
        have HF5 : Hid (Lib.IsBuilder 89 5 (gk + 1) (gk + 1) (Lib.byteCells (acc ++ [c])) w5) := Lib.hid (by rw [Lib.byteCells_append]; exact hF5)
        clear k1 hF5 hb5 ht5 HM HK HB hkc hcl
        go_wp2
        go_roundw
        case rel => exact ⟨i + 1, by omega, by go_num, Lib.hid (by rw [HST.out]; exact HF5.out), HK5, HM5, HB5, hBw5⟩
        case measure => simp [intOf]; omega
      | false =>
        rw [hq, if_neg (by decide)] at hst
        rw [hq] at hkc
        have HST := Lib.hid hst
        have e1 := u8_shr4 c
        have e2 := u8_and4 c
        have hpl : c.toNat / 16 < 16 := by have := c.toNat_lt; omega
        have hql : c.toNat % 16 < 16 := by omega
        generalize c.toNat / 16 = pn at *
        generalize c.toNat % 16 = qn at *
        have x1 := hex_tab pn hpl
        have x2 := hex_tab qn hql
        have l1 : (pn : Int) < 16 := by omega
        have l2 : (qn : Int) < 16 := by omega
        generalize hexG pn = hp at *
        generalize hexG qn = hq' at *
        have k1 := qfbyte_any (gk + 1) (gk + 1) (Lib.byteCells acc) 37 wr HF.out (by rw [Lib.byteCells_length]; omega) hBw
        clear hst hq HF
        go_wp2_with fail
        refine k1.mono ?_
        rintro e w5 ⟨⟨v, rfl⟩, hF5, hb5, ht5⟩
        obtain ⟨HM5, HK5, HB5⟩ := KEEP.out _ _ HM HK HB hb5 ht5
        have hBw5 : gk + 1 ≤ w5.heap.size := Nat.le_trans hBw hb5.size
        have k2 := qfbyte_any (gk + 1) (gk + 1) _ (hp.toNat : Int) w5 hF5 (by rw [List.length_append, Lib.byteCells_length]; simp; omega) hBw5
        clear k1 hF5 hb5 ht5 HM HK HB hkc hcl
        go_wp2_with fail
        refine k2.mono ?_
        rintro e w6 ⟨⟨v6, rfl⟩, hF6, hb6, ht6⟩
        obtain ⟨HM6, HK6, HB6⟩ := KEEP.out _ _ HM5 HK5 HB5 hb6 ht6
        have hBw6 : gk + 1 ≤ w6.heap.size := Nat.le_trans hBw5 hb6.size
        have k3 := qfbyte_any (gk + 1) (gk + 1) _ (hq'.toNat : Int) w6 hF6 (by simp only [List.length_append, Lib.byteCells_length]; simp; omega) hBw6
        clear k2 hF6 hb6 ht6 HM5 HK5 HB5
        go_wp2_with fail
        refine k3.mono ?_
        rintro e w7 ⟨⟨v7, rfl⟩, hF7, hb7, ht7⟩
        obtain ⟨HM7, HK7, HB7⟩ := KEEP.out _ _ HM6 HK6 HB6 hb7 ht7
        have hBw7 : gk + 1 ≤ w7.heap.size := Nat.le_trans hBw6 hb7.size
        have HF7 : Hid (Lib.IsBuilder 89 5 (gk + 1) (gk + 1) (Lib.byteCells (acc ++ [37, hp, hq'])) w7) := Lib.hid (by
          rw [Lib.byteCells_append]
          rw [List.append_assoc, List.append_assoc] at hF7
          exact hF7)
        clear k3 hF7 hb7 ht7 HM6 HK6 HB6
        go_wp2
        go_roundw
        case rel => exact ⟨i + 1, by omega, by go_num, Lib.hid (by rw [HST.out]; exact HF7.out), HK7, HM7, HB7, hBw7⟩
        case measure => simp [intOf]; omega
    · have hF := HF.out
      rw [List.take_of_length_le (by simp; omega)] at hF
      have k1 := Tryz.Builder_String_any (gk + 1) (gk + 1) _ wr hF hBw
      clear hF HF
      go_wp2_with fail
      refine k1.mono ?_
      rintro e w5 ⟨rfl, hb5⟩
      have HB5 := Lib.hid (HB.out.trans (hb5.mono hwB))
      clear k1 hb5
      go_wp2
      go_ret
      exact ⟨rfl, HB5.out⟩
end Go.Proofs.YtbdamneophbnnaaGreatDoor
namespace Wb
open Go
theorem head_cut (s : List UInt8) : (Lib.cut s [91]).1 = (headP s).1 ∧ s.drop (headP s).1.length = (headP s).2 := by
  have hs := List.takeWhile_append_dropWhile (p := fun x : UInt8 => x != 91) (l := s)
  refine ⟨?_, ?_⟩
  · cases h : cutC 91 s with
    | none =>
      rw [cut_none1 h]
      have hf := cutC_free h
      have e := dw_none (p := fun x : UInt8 => x != 91) (l := s) fun x hx => bne_iff_ne.2 (hf x hx)
      rw [e, List.append_nil] at hs
      exact hs.symm
    | some x =>
      obtain ⟨a, b⟩ := x
      rw [cut_some1 h]
      obtain ⟨rfl, hf⟩ := cutC_some h
      exact (tw_free (c := 91) b hf).1.symm
  · unfold headP
    simp only
    conv => lhs; arg 2; rw [← hs]
    rw [List.drop_left]
theorem cpos_let {s P R : List UInt8} {b1 b2 : Bool} {n : Nat} (h1 : Lib.hasPrefix s [91] = b1) (h2 : Lib.cut (Lib.trimPrefix s [91]) [93] = (P, R, b2)) (h3 : posP P = n) :
    cposP s = if (b1 && (b2 && !decide (n = 0))) = true then (n, R) else (0, s) := by
  unfold cposP
  rw [pre_take'] at h1
  by_cases hk : s.take 1 = [91]
  · have e1 : b1 = true := by rw [← h1]; exact decide_eq_true hk
    subst e1
    have et : Lib.trimPrefix s [91] = s.drop 1 := by
      unfold Lib.trimPrefix
      rw [pre_take']
      show (if decide (List.take 1 s = [91]) = true then s.drop 1 else s) = _
      rw [if_pos (decide_eq_true hk)]
    rw [et] at h2
    rw [if_pos hk]
    cases h93 : cutC 93 (s.drop 1) with
    | none =>
      rw [cut_none1 h93] at h2
      injection h2 with h2 h5
      injection h5 with h5 h6
      subst h6
      rfl
    | some x =>
      obtain ⟨t, r⟩ := x
      rw [cut_some1 h93] at h2
      injection h2 with h2 h5
      injection h5 with h5 h6
      subst h2 h5 h6
      simp only [h3, Bool.true_and]
      by_cases h0 : n = 0
      · simp [h0]
      · simp [h0]
  · have e1 : b1 = false := by rw [← h1]; exact decide_eq_false hk
    subst e1
    rw [if_neg hk]
    rfl
def quoV (t : List UInt8) : Option (List UInt8) :=
  match t with
  | [] => none
  | q :: u => if q = 34 ∨ q = 39 then match cutC q u with
      | none => none
      | some (v, e) => if e = [93] then some v else none
    else none
theorem testP_let {s N U : List UInt8} {b1 b2 b3 : Bool} (h1 : Lib.hasPrefix s [91, 64] = b1) (h2 : Lib.cut (Lib.trimPrefix s [91, 64]) [61] = (N, U, b2)) (h3 : (splitB ⟨N.toArray⟩).2.2 = b3) :
    testP s = if (b1 && (b2 && b3)) = true then (quoV U).map fun v => (N, v) else none := by
  unfold testP
  rw [pre_take'] at h1
  by_cases hk : s.take 2 = [91, 64]
  · have e1 : b1 = true := by rw [← h1]; exact decide_eq_true hk
    subst e1
    have et : Lib.trimPrefix s [91, 64] = s.drop 2 := by
      unfold Lib.trimPrefix
      rw [pre_take']
      show (if decide (List.take 2 s = [91, 64]) = true then s.drop 2 else s) = _
      rw [if_pos (decide_eq_true hk)]
    rw [et] at h2
    rw [if_pos hk]
    cases h61 : cutC 61 (s.drop 2) with
    | none =>
      rw [cut_none1 h61] at h2
      injection h2 with h2 h5
      injection h5 with h5 h6
      subst h6
      rfl
    | some x =>
      obtain ⟨n, t⟩ := x
      rw [cut_some1 h61] at h2
      injection h2 with h2 h5
      injection h5 with h5 h6
      subst h2 h5 h6
      simp only [h3, Bool.true_and]
      cases t with
      | nil => simp [quoV]
      | cons q u =>
        unfold quoV
        simp only
        by_cases hq : q = 34 ∨ q = 39
        · rw [if_pos hq, if_pos hq]
          cases cutC q u with
          | none => simp
          | some x =>
            obtain ⟨v, e⟩ := x
            simp only
            cases b3 with
            | false => simp
            | true =>
              by_cases he : e = [93]
              · simp [he]
              · simp [he]
        · rw [if_neg hq, if_neg hq]
          simp
  · have e1 : b1 = false := by rw [← h1]; exact decide_eq_false hk
    subst e1
    rw [if_neg hk]
    rfl
def cutK (d : List UInt8) : Option (List UInt8 × Nat × Option (List UInt8 × List UInt8)) :=
  if (headP d).1 ≠ [42] ∧ (splitB ⟨(headP d).1.toArray⟩).2.2 = false then none
  else if (cposP (headP d).2).2 = [] then some ((headP d).1, (cposP (headP d).2).1, none)
  else match testP (cposP (headP d).2).2 with
    | none => none
    | some av => some ((headP d).1, (cposP (headP d).2).1, some av)
theorem step_none {sc : List Pr} {d : List UInt8} (h : cutK d = none) : stepP sc d = .error 33 := by
  unfold cutK at h
  unfold stepP
  split at h
  · rename_i hc
    rw [if_pos hc]
  · rename_i hc
    rw [if_neg hc]
    cases hp : posnP (headP d).2 with
    | none => rfl
    | some x =>
      obtain ⟨p, r⟩ := x
      have e := cpos_some (head_rest d) hp
      rw [e] at h
      simp only at h ⊢
      split at h
      · cases h
      · rename_i hr
        rw [if_neg hr]
        cases ht : testP r with
        | none => rfl
        | some av =>
          rw [ht] at h
          cases h
theorem step_some {sc : List Pr} {d n : List UInt8} {p : Nat} (h : cutK d = some (n, p, none)) :
    p ≤ 9999 ∧ n.length ≤ d.length ∧ stepP sc d = if n = [42] then .ok ⟨1, true, nE, p, false, nE, sE⟩ else if (resB sc ⟨n.toArray⟩ false).2 = 0 then .ok ⟨1, false, (resB sc ⟨n.toArray⟩ false).1, p, false, nE, sE⟩ else .error (resB sc ⟨n.toArray⟩ false).2 := by
  have hh := (headP_len d).1
  unfold cutK at h
  unfold stepP
  split at h
  · cases h
  · rename_i hc
    rw [if_neg hc]
    cases hp : posnP (headP d).2 with
    | none =>
      have := cpos_none hp
      rw [if_neg this.1, this.2] at h
      cases h
    | some x =>
      obtain ⟨q, r⟩ := x
      have e := cpos_some (head_rest d) hp
      rw [e] at h
      simp only at h ⊢
      split at h
      · rename_i hr
        injection h with h
        injection h with h1 h
        injection h with h2 h
        subst h1 h2
        rw [if_pos hr]
        refine ⟨?_, hh, rfl⟩
        unfold posnP at hp
        split at hp
        · injection hp with hp
          injection hp with hp _
          omega
        · split at hp
          · cases hp
          · split at hp
            · cases hp
            · rename_i t r' _ _
              injection hp with hp
              injection hp with hp _
              have := posP_le t
              omega
      · split at h
        · cases h
        · injection h with h
          injection h with h1 h
          injection h with h2 h
          cases h
theorem step_test {sc : List Pr} {d n a v : List UInt8} {p : Nat} (h : cutK d = some (n, p, some (a, v))) :
    p ≤ 9999 ∧ n.length ≤ d.length ∧ a.length ≤ d.length ∧ v.length ≤ d.length ∧ stepP sc d = if n ≠ [42] ∧ (resB sc ⟨n.toArray⟩ false).2 ≠ 0 then .error (resB sc ⟨n.toArray⟩ false).2
          else if (resB sc ⟨a.toArray⟩ true).2 ≠ 0 then .error (resB sc ⟨a.toArray⟩ true).2
          else if (unV v).2 ≠ 0 then .error (unV v).2
          else .ok ⟨1, decide (n = [42]), if n = [42] then nE else (resB sc ⟨n.toArray⟩ false).1, p, true, (resB sc ⟨a.toArray⟩ true).1, ⟨(unV v).1.toArray⟩⟩ := by
  have hh := headP_len d
  unfold cutK at h
  unfold stepP
  split at h
  · cases h
  · rename_i hc
    rw [if_neg hc]
    cases hp : posnP (headP d).2 with
    | none =>
      have := cpos_none hp
      rw [if_neg this.1, this.2] at h
      cases h
    | some x =>
      obtain ⟨q, r⟩ := x
      have e := cpos_some (head_rest d) hp
      have hrl := posnP_len hp
      rw [e] at h
      simp only at h ⊢
      split at h
      · injection h with h
        injection h with h1 h
        injection h with h2 h
        cases h
      · rename_i hr
        rw [if_neg hr]
        split at h
        · cases h
        · rename_i av ht
          injection h with h
          injection h with h1 h
          injection h with h2 h
          injection h with h
          subst h1 h2 h
          have htl := testP_len ht
          rw [ht]
          refine ⟨?_, hh.1, by omega, by omega, rfl⟩
          unfold posnP at hp
          split at hp
          · injection hp with hp
            injection hp with hp _
            omega
          · split at hp
            · cases hp
            · split at hp
              · cases hp
              · rename_i t r' _ _
                injection hp with hp
                injection hp with hp _
                have := posP_le t
                omega
end Wb
namespace Go.Proofs.YtbdamneophbnnaaGreatDoor
open Go.RowKit Wb
set_option maxHeartbeats 1000000 in
theorem qualified_any (s : ByteArray) (w : World) (hs : s.size ≤ 1000000000) :
    Calls Tryz.prog 141 #[.string s] w fun e w' => e = .returned (.bool (splitB s).2.2) ∧ Below w.heap.size w w' := by
  go_enter Tryz.func141, Tryz.ntmps141
  go_wp2_with fail
  refine (split_any s _ hs).mono ?_
  rintro e w1 ⟨rfl, hb⟩
  go_wp2
  go_ret
  exact ⟨rfl, hb⟩
set_option maxHeartbeats 4000000 in
set_option maxRecDepth 100000 in
theorem position_any (t : ByteArray) (w : World) (hs : t.size ≤ 1000000000) (hG : GvS w) :
    Calls Tryz.prog 155 #[.string t] w fun e w' => e = .returned (.int .i64 (posP t.data.toList : Nat)) ∧ Below w.heap.size w w' := by
  rcases hp : Lib.parseUintB 64 t.data.toList with u | _ | _
  · have hpu := Tryz.strconv_ParseUint_10_at64_ok t (by omega) u hp
    obtain ⟨hne, hpos⟩ := pos_ok hp
    have hu := Lib.parseUintB_le hp
    have h0 : 0 < t.size := by
      cases h : t.data.toList with
      | nil => exact absurd h hne
      | cons c r =>
        have := congrArg List.length h
        simp at this
        omega
    have hd : t.data.toList.head? = some t[0] := by
      rw [List.head?_eq_getElem?, List.getElem?_eq_getElem (by simpa using h0)]
      rfl
    rw [hpos, hd]
    clear hpos hp hne hd
    have hwr : u ≤ 9999 → IntKind.i64.wrap (u : Int) = (u : Int) := fun h => by rw [IntKind.wrap_i64]; omega
    by_cases h9 : 9999 < u
    · have h9i : (9999 : Int) < (u : Int) := by omega
      rw [if_pos (.inl h9)]
      clear h9 hwr
      go_enter Tryz.func155, Tryz.ntmps155
      go_wp2_with fail
      refine (hpu _).mono ?_
      rintro e w1 ⟨rfl, hw⟩
      have hb : Below w.heap.size w w1 := by
        rcases hw with rfl | rfl
        · exact Below.refl _ _
        · exact Lib.bytesWorld_below _ _ _
      clear hw hpu
      go_wp2
      go_ret
      exact ⟨rfl, hb⟩
    · have h9i : ¬ (9999 : Int) < (u : Int) := by omega
      have hwu := hwr (by omega)
      cases h48 : (t[0] == 48) with
      | true =>
        have e48 : t[0] = 48 := by simpa using h48
        rw [if_pos (.inr (by rw [e48]))]
        clear h9 hwr
        go_enter Tryz.func155, Tryz.ntmps155
        go_wp2_with fail
        refine (hpu _).mono ?_
        rintro e w1 ⟨rfl, hw⟩
        have hb : Below w.heap.size w w1 := by
          rcases hw with rfl | rfl
          · exact Below.refl _ _
          · exact Lib.bytesWorld_below _ _ _
        clear hw hpu
        go_wp2
        go_ret
        exact ⟨rfl, hb⟩
      | false =>
        have e48 : t[0] ≠ 48 := by simpa using h48
        have hne : ((t[0].toNat : Int) == 48) = false := by
          rw [beq_eq_false_iff_ne]
          intro h
          exact e48 (UInt8.toNat_inj.1 (by show t[0].toNat = 48; omega))
        have hdec : decide ((9999 : Int) < (u : Int)) = false := decide_eq_false h9i
        rw [if_neg (by simp only [Option.some.injEq, not_or]; exact ⟨h9, e48⟩)]
        clear h9 hwr
        go_enter Tryz.func155, Tryz.ntmps155
        go_wp2_with fail
        refine (hpu _).mono ?_
        rintro e w1 ⟨rfl, hw⟩
        have hb : Below w.heap.size w w1 := by
          rcases hw with rfl | rfl
          · exact Below.refl _ _
          · exact Lib.bytesWorld_below _ _ _
        clear hw hpu
        go_wp2
        go_ret
        exact ⟨by rw [← hwu]; rfl, hb⟩
  · have hz := pos_bad (t := t.data.toList) (by rw [hp]; intro u h; cases h)
    obtain ⟨ev, hv, hev⟩ := hG.1.es
    have hpu : Calls Tryz.prog 169 #[.string t, .int .i64 10, .int .i64 64] w fun e w' => ∃ (N : Nat) (ti : TypeId), e = .returned (.tuple #[.int .u64 0, .iface ti (.pointer (some ⟨N, 0, none⟩))]) ∧ Below w.heap.size w w' :=
      (Any.strconv_ParseUint_10_at64_syntax Tryz.laysPu14 t (by omega) hp ev w hv hev).mono fun e w' ⟨N, h1, _, _, h4⟩ => ⟨N, _, h1, h4⟩
    rw [hz]
    clear hz hp
    go_enter Tryz.func155, Tryz.ntmps155
    go_wp2_with fail
    refine hpu.mono ?_
    rintro e w1 ⟨N, ti, rfl, hb⟩
    go_wp2
    go_ret
    exact ⟨rfl, hb⟩
  · have hz := pos_bad (t := t.data.toList) (by rw [hp]; intro u h; cases h)
    obtain ⟨ev, hv, hev⟩ := hG.1.er
    have hpu := Tryz.strconv_ParseUint_10_at64_range t (by omega) hp ev w hv hev
    rw [hz]
    clear hz hp
    go_enter Tryz.func155, Tryz.ntmps155
    go_wp2_with fail
    refine hpu.mono ?_
    rintro e w1 ⟨N, rfl, -, -, hb⟩
    go_wp2
    go_ret
    exact ⟨rfl, hb⟩
set_option maxHeartbeats 4000000 in
set_option maxRecDepth 100000 in
theorem cutName_any (s : ByteArray) (w : World) (hs : s.size ≤ 1000000000) (hG : GvS w) :
    Calls Tryz.prog 139 #[.string s] w fun e w' => e = .returned (.tuple #[.string (mkT (headP s.data.toList).1), .string (mkT (headP s.data.toList).2)]) ∧ Below w.heap.size w w' := by
  obtain ⟨h1, h2⟩ := head_cut s.data.toList
  have k1 := cut1_any s 91 w hs hG
  rw [h1] at k1
  have hl : (mkT (headP s.data.toList).1).size ≤ s.size := by
    rw [mkT_size]
    have := (headP_len s.data.toList).1
    simpa using this
  have he : s.extract (mkT (headP s.data.toList).1).size s.size = mkT (headP s.data.toList).2 := by
    rw [mkT_size, ← h2, ← ext_drop]
    exact (to_list _).symm
  rw [← he]
  clear h1 h2 he
  generalize (Lib.cut s.data.toList [91]).2.1 = Q at *
  generalize (Lib.cut s.data.toList [91]).2.2 = b at *
  generalize mkT (headP s.data.toList).1 = P at *
  have hl2 : (P.size : Int) ≤ (s.size : Int) := by omega
  go_enter Tryz.func139, Tryz.ntmps139
  go_wp2_with fail
  refine k1.mono ?_
  rintro e w1 ⟨rfl, hb⟩
  clear k1
  go_wp2
  go_region
  go_wp2
  go_ret2
  exact ⟨rfl, hb.drew⟩
set_option maxHeartbeats 4000000 in
set_option maxRecDepth 100000 in
theorem cutPos_any (s : ByteArray) (w : World) (hs : s.size ≤ 1000000) (hG : GvS w) :
    Calls Tryz.prog 140 #[.string s] w fun e w' => e = .returned (.tuple #[.int .i64 ((cposP s.data.toList).1 : Nat), .string (mkT (cposP s.data.toList).2)]) ∧ Below w.heap.size w w' := by
  obtain ⟨b1, h1⟩ : ∃ b, Lib.hasPrefix s.data.toList [91] = b := ⟨_, rfl⟩
  obtain ⟨P, R, b2, h2⟩ : ∃ P R b, Lib.cut (Lib.trimPrefix s.data.toList [91]) [93] = (P, R, b) := ⟨_, _, _, rfl⟩
  obtain ⟨n, h3⟩ : ∃ n, posP P = n := ⟨_, rfl⟩
  have hn9 : n ≤ 9999 := by rw [← h3]; exact posP_le P
  have hL := cpos_let h1 h2 h3
  have ll := trimP_le s.data.toList [91]
  have l1 := cut_le (Lib.trimPrefix s.data.toList [91]) 93
  rw [h2] at l1
  have hsl : s.data.toList.length = s.size := by simp
  have hsm : mkT s.data.toList = s := to_list s
  have k1 := cutP_any s ⟨#[91]⟩
  have ek : (⟨#[91]⟩ : ByteArray).data.toList = [91] := rfl
  rw [ek, h1] at k1
  obtain ⟨T, hT⟩ : ∃ T, Lib.trimPrefix s.data.toList [91] = T := ⟨_, rfl⟩
  rw [hT] at k1 l1 h2 ll
  have k2 := cut1_any (mkT T) 93 w (by rw [mkT_size]; omega) hG
  rw [mkT_list, h2] at k2
  have k3 := fun v hv => position_any (mkT P) v (by rw [mkT_size]; simp only at l1; omega) hv
  rw [mkT_list, h3] at k3
  simp only at k2
  obtain ⟨o, ho⟩ : ∃ o, cposP s.data.toList = o := ⟨_, rfl⟩
  rw [ho]
  rw [ho] at hL
  clear h1 h2 h3 l1 ll hsl hT ek ho
  generalize s.data.toList = sl at *
  have K3 := Lib.hid k3
  have hc : b1 = false ∨ (b1 = true ∧ b2 = false) ∨ (b1 = true ∧ b2 = true ∧ n = 0) ∨ (b1 = true ∧ b2 = true ∧ n ≠ 0) := by
    cases b1 <;> cases b2 <;> simp <;> omega
  rcases hc with rfl | ⟨rfl, rfl⟩ | ⟨rfl, rfl, rfl⟩ | ⟨rfl, rfl, hn⟩
  all_goals
    clear k3
    go_enter Tryz.func140, Tryz.ntmps140
    go_wp2_with fail
    refine (k1 _).mono ?_
    rintro e w1 ⟨rfl, rfl⟩
    go_wp2_with fail
    refine k2.mono ?_
    rintro e w2 ⟨rfl, hb2⟩
    go_wp2_with fail
    refine (K3.out _ (hG.next hb2)).mono ?_
    rintro e w3 ⟨rfl, hb3⟩
    have HB3 := Lib.hid (hb2.trans (hb3.mono hb2.size))
    clear hb2 hb3 k1 k2 K3 hG
  · obtain rfl : o = (0, sl) := by simpa using hL
    go_wp2
    go_ret2
    exact ⟨by rw [← hsm]; rfl, HB3.out⟩
  · obtain rfl : o = (0, sl) := by simpa using hL
    go_wp2
    go_ret2
    exact ⟨by rw [← hsm]; rfl, HB3.out⟩
  · obtain rfl : o = (0, sl) := by simpa using hL
    go_wp2
    go_ret2
    exact ⟨by rw [← hsm]; rfl, HB3.out⟩
  · obtain rfl : o = (n, R) := by simpa [hn] using hL
    have hn0 : ((n : Int) == 0) = false := by rw [beq_eq_false_iff_ne]; omega
    clear hL
    go_wp2
    go_ret2
    exact ⟨rfl, HB3.out⟩
end Go.Proofs.YtbdamneophbnnaaGreatDoor
namespace Go.Proofs.YtbdamneophbnnaaGreatDoor
open Go.RowKit Wb Go.Deep Go.ChangeShapes Go.WideShapes
def whV (v : WhV) (A : Option Addr) (ca : Nat) (C : Option Addr) (cc : Nat) : Value := .agg #[.string v.usage, .string v.user, .string v.doc, .bool v.node, .slice A v.steps.length ca, .string v.raw, .slice C v.binds.length cc]
end Go.Proofs.YtbdamneophbnnaaGreatDoor
namespace Wb
open Go Go.RowKit Go.Proofs.YtbdamneophbnnaaGreatDoor
def Aw (A : Option Addr) (n g : Nat) : Prop := n = 0 ∨ ∃ ad, A = some ad ∧ ad.block ≠ g
theorem cell_spot {w : World} {a : Addr} {v : Value} (h : w.cell? a = some v) : a.spot = none := by
  unfold World.cell? at h
  split at h
  · split at h
    · cases h
    · rename_i hs
      simpa using hs
  · cases h
theorem add_is {ad : Addr} (h : ad.spot = none) (j : Nat) : ad.add j = ⟨ad.block, ad.off + j, none⟩ := by
  obtain ⟨b, o, p⟩ := ad
  simp only at h
  subst h
  unfold Addr.add
  by_cases h0 : j = 0
  · subst h0; rfl
  · rw [if_neg h0]
theorem size_setCell (w : World) (p : Addr) (v : Value) : (w.setCell p v).heap.size = w.heap.size := by simp [World.setCell]
theorem Sl.put {w : World} {sz n : Nat} {A : Option Addr} {xs : List Value} (h : Sl w sz A n xs) {g k : Nat} (u : Value) (hk : ∀ ad j x, A = some ad → xs[j]? = some x → ad.add j ≠ ⟨g, k, none⟩) : Sl (w.setCell ⟨g, k, none⟩ u) sz A n xs := by
  refine ⟨h.1, fun h0 => ?_⟩
  obtain ⟨ad, e, hb, hc⟩ := h.2 h0
  refine ⟨ad, e, by rw [size_setCell]; exact hb, fun i v hv => ?_⟩
  rw [World.cell?_setCell_other _ _ _ _ (hk ad i v e hv).symm]
  exact hc i v hv
theorem Sl.aw {w : World} {sz n : Nat} {A : Option Addr} {xs : List Value} (h : Sl w sz A n xs) {g : Nat} (ha : Aw A n g) (k : Nat) (u : Value) : Sl (w.setCell ⟨g, k, none⟩ u) sz A n xs := by
  refine ⟨h.1, fun h0 => ?_⟩
  obtain ⟨ad, e, hb, hc⟩ := h.2 h0
  refine ⟨ad, e, by rw [size_setCell]; exact hb, fun i v hv => ?_⟩
  rcases ha with ha | ⟨ad', e', hn⟩
  · omega
  rw [e] at e'
  injection e' with e'
  subst e'
  have hb2 : (ad.add i).block = ad.block := by unfold Addr.add; split <;> rfl
  rw [World.cell?_setCell_far _ _ _ _ (by rw [hb2]; exact Ne.symm hn)]
  exact hc i v hv
theorem Sl9.aw {w : World} {A : Option Addr} {l : List StV} (h : Sl9 w A l) {g : Nat} (ha : Aw A l.length g) (k : Nat) (u : Value) : Sl9 (w.setCell ⟨g, k, none⟩ u) A l := Sl.aw h ha k u
theorem Sl2.aw {w : World} {A : Option Addr} {l : List Pr} (h : Sl2 w A l) {g : Nat} (ha : Aw A l.length g) (k : Nat) (u : Value) : Sl2 (w.setCell ⟨g, k, none⟩ u) A l := Sl.aw h ha k u
theorem Sl9.aw7 {w : World} {A : Option Addr} {l : List StV} (h : Sl9 w A l) {g : Nat} (ha : Aw A l.length g) (u0 u1 u2 u3 u4 u5 u6 : Value) :
    Sl9 (((((((w.setCell ⟨g, 0, none⟩ u0).setCell ⟨g, 1, none⟩ u1).setCell ⟨g, 2, none⟩ u2).setCell ⟨g, 3, none⟩ u3).setCell ⟨g, 4, none⟩ u4).setCell ⟨g, 5, none⟩ u5).setCell ⟨g, 6, none⟩ u6) A l :=
  ((((((h.aw ha 0 u0).aw ha 1 u1).aw ha 2 u2).aw ha 3 u3).aw ha 4 u4).aw ha 5 u5).aw ha 6 u6
theorem Sl2.aw7 {w : World} {A : Option Addr} {l : List Pr} (h : Sl2 w A l) {g : Nat} (ha : Aw A l.length g) (u0 u1 u2 u3 u4 u5 u6 : Value) :
    Sl2 (((((((w.setCell ⟨g, 0, none⟩ u0).setCell ⟨g, 1, none⟩ u1).setCell ⟨g, 2, none⟩ u2).setCell ⟨g, 3, none⟩ u3).setCell ⟨g, 4, none⟩ u4).setCell ⟨g, 5, none⟩ u5).setCell ⟨g, 6, none⟩ u6) A l :=
  ((((((h.aw ha 0 u0).aw ha 1 u1).aw ha 2 u2).aw ha 3 u3).aw ha 4 u4).aw ha 5 u5).aw ha 6 u6
theorem sl9_ne {w w0 : World} {A : Option Addr} {l : List StV} {g : Nat} {cs : Array Value} {t : TypeId} (h : Sl9 w A l) (hg : OwnB g w0 w cs t) (hn : ∀ (i : Nat) (k : IntKind) (v : Int), cs[i]? ≠ some (Value.int k v)) : Aw A l.length g := by
  cases l with
  | nil => exact .inl rfl
  | cons x l =>
    obtain ⟨ad, e, _, hc, _⟩ := h.at_ (k := 0) (x := x) rfl
    refine .inr ⟨ad, e, fun hb => ?_⟩
    rw [Nat.zero_mul, show ad.add 0 = ad from rfl] at hc
    have hs := cell_spot hc
    obtain ⟨b, o, p⟩ := ad
    simp only at hb hs
    subst hb hs
    rw [hg.cell o] at hc
    exact hn _ _ _ hc
theorem sl2_ne {w w0 : World} {A : Option Addr} {l : List Pr} {g : Nat} {cs : Array Value} {t : TypeId} (h : Sl2 w A l) (hg : OwnB g w0 w cs t) (hn : ∀ (i : Nat) (s : ByteArray), cs[i]? = some (Value.string s) → s.size = 0) (hl : ∀ x ∈ l, x.1.size ≠ 0) : Aw A l.length g := by
  cases l with
  | nil => exact .inl rfl
  | cons x l =>
    obtain ⟨ad, e, _, hc, _⟩ := h.at_ (k := 0) (x := x) rfl
    refine .inr ⟨ad, e, fun hb => ?_⟩
    rw [Nat.zero_mul, show ad.add 0 = ad from rfl] at hc
    have hs := cell_spot hc
    obtain ⟨b, o, p⟩ := ad
    simp only at hb hs
    subst hb hs
    rw [hg.cell o] at hc
    exact hl x (by simp) (hn _ _ hc)
theorem cells2_str : ∀ (l : List Pr) (j : Nat) (x : Value), (cells2 l)[j]? = some x → ∃ s, x = .string s
  | [], j, x, h => by simp [cells2] at h
  | y :: l, 0, x, h => by
    simp only [cells2, List.flatMap_cons, List.cons_append, List.getElem?_cons_zero, Option.some.injEq] at h
    exact ⟨_, h.symm⟩
  | y :: l, 1, x, h => by
    simp only [cells2, List.flatMap_cons, List.cons_append, List.getElem?_cons_succ, List.getElem?_cons_zero, Option.some.injEq] at h
    exact ⟨_, h.symm⟩
  | y :: l, j + 2, x, h => by
    have ih := cells2_str l j x
    simp only [cells2, List.flatMap_cons, List.cons_append, List.nil_append, List.getElem?_cons_succ] at h ih
    exact ih h
theorem cells2_fst : ∀ (l : List Pr) (j : Nat), 2 * j < (cells2 l).length → ∃ x ∈ l, (cells2 l)[2 * j]? = some (.string x.1)
  | [], j, h => by simp [cells2] at h
  | y :: l, 0, h => ⟨y, by simp, by simp [cells2]⟩
  | y :: l, j + 1, h => by
    have ih := cells2_fst l j
    simp only [cells2, List.flatMap_cons, List.cons_append, List.nil_append, List.length_cons] at h ih
    obtain ⟨x, hx, e⟩ := ih (by omega)
    refine ⟨x, by simp [hx], ?_⟩
    simp only [cells2, List.flatMap_cons, List.cons_append, List.nil_append]
    rw [show 2 * (j + 1) = 2 * j + 1 + 1 by omega, List.getElem?_cons_succ, List.getElem?_cons_succ]
    exact e
theorem Sl2.nostr {w : World} {A : Option Addr} {l : List Pr} (h : Sl2 w A l) {g k : Nat} {v : Value} (hv : w.cell? ⟨g, k, none⟩ = some v) (hn : ∀ s, v ≠ .string s) (u : Value) : Sl2 (w.setCell ⟨g, k, none⟩ u) A l := by
  refine Sl.put h u fun ad j x e hx ea => ?_
  have hl : 0 < l.length := by
    cases l with
    | nil => simp [cells2] at hx
    | cons y l => simp
  obtain ⟨ad', e', _, hc⟩ := h.2 hl
  rw [e] at e'
  injection e' with e'
  subst e'
  have := hc j x hx
  rw [ea, hv] at this
  injection this with this
  obtain ⟨s, rfl⟩ := cells2_str l j x hx
  exact hn s this
theorem Sl2.mid {w : World} {A : Option Addr} {l : List Pr} (h : Sl2 w A l) {g k : Nat} {v : Value} {s0 : ByteArray} (h0 : w.cell? ⟨g, k + 1, none⟩ = some (.string s0)) (hs0 : s0.size = 0) (hv : w.cell? ⟨g, k, none⟩ = some v) (hn : ∀ s, v ≠ .string s) (hl : ∀ x ∈ l, x.1.size ≠ 0) (u : Value) : Sl2 (w.setCell ⟨g, k + 1, none⟩ u) A l := by
  refine Sl.put h u fun ad j x e hx ea => ?_
  have hl0 : 0 < l.length := by
    cases l with
    | nil => simp [cells2] at hx
    | cons y l => simp
  obtain ⟨ad', e', _, hc⟩ := h.2 hl0
  rw [e] at e'
  injection e' with e'
  subst e'
  have hj := (List.getElem?_eq_some_iff.1 hx).1
  obtain ⟨i, hi⟩ : ∃ i, j = 2 * i ∨ j = 2 * i + 1 := ⟨j / 2, by omega⟩
  have h00 := hc (2 * i) 
  rcases hi with rfl | rfl
  · obtain ⟨y, hy, hf⟩ := cells2_fst l i hj
    have := hc (2 * i) _ hf
    rw [ea, h0] at this
    injection this with this
    injection this with this
    exact hl y hy (by rw [← this]; exact hs0)
  · obtain ⟨y, hy, hf⟩ := cells2_fst l i (by omega)
    obtain ⟨y0, hy0, hf0⟩ := cells2_fst l 0 (by omega)
    have hc0 := hc (2 * 0) _ hf0
    have hsp := cell_spot hc0
    rw [show ad.add (2 * 0) = ad from rfl] at hsp
    have hci := hc (2 * i) _ hf
    rw [add_is hsp] at ea hci
    injection ea with e1 e2
    rw [e1, show ad.off + 2 * i = k by omega, hv] at hci
    injection hci with hci
    exact hn _ hci
end Wb
namespace Wb
def preS (s : ByteArray) (l : List ByteArray) : Except Int (List UInt8 × List ByteArray) :=
  if hasB l s = true then .ok (numT (idxB s l), l) else if bindable1 s = false then .error 13 else if 16 ≤ l.length then .error 3 else .ok (numT l.length, l ++ [s])
def SpB (l : List ByteArray) : Prop := l.length ≤ 16 ∧ ∀ s ∈ l, bindable1 s = true
theorem SpB.nil : SpB [] := ⟨by simp, fun s h => by simp at h⟩
theorem preS_spB {s : ByteArray} {l l' : List ByteArray} {t : List UInt8} (h : preS s l = .ok (t, l')) (hl : SpB l) : SpB l' := by
  unfold preS at h
  split at h
  · injection h with h
    injection h with _ h
    rw [← h]
    exact hl
  · split at h
    · cases h
    · rename_i hb
      split at h
      · cases h
      · injection h with h
        injection h with _ h
        rw [← h]
        refine ⟨by rw [List.length_append, List.length_singleton]; omega, fun x hx => ?_⟩
        rcases List.mem_append.1 hx with hx | hx
        · exact hl.2 x hx
        · rw [List.mem_singleton.1 hx]
          simpa using hb
theorem nameT_pre {n : Pr} {plain : ByteArray} {l : List ByteArray} (hl : SpB l) (hn : nameB n.2.data.toList = true) (h1 : n.1 ≠ plain) (h2 : n.1 ≠ sXML) :
    nameT n plain l = match preS n.1 l with
      | .error e => .error e
      | .ok (t, l') => .ok (t ++ 58 :: n.2.data.toList, l') := by
  unfold nameT preS
  rw [if_neg (by rw [hn]; decide), if_neg h1, if_neg h2]
  by_cases hb : bindable1 n.1 = false
  · have hh : ¬ hasB l n.1 = true := fun h => by
      have := hl.2 _ ((hasB_iff _ _).1 h)
      rw [hb] at this
      cases this
    rw [if_pos ((bindable_iff _).2 hb), if_neg hh, if_pos hb]
  · rw [if_neg (fun h => hb ((bindable_iff _).1 h)), if_neg hb]
    by_cases hh : hasB l n.1 = true
    · rw [if_pos hh, if_pos hh]
    · rw [if_neg hh, if_neg hh]
      by_cases h16 : 16 ≤ l.length
      · rw [if_pos h16, if_pos h16]
      · rw [if_neg h16, if_neg h16]
end Wb
namespace Go.Proofs.YtbdamneophbnnaaGreatDoor
open Go.RowKit Wb
theorem text_info : (Tryz.prog.info? 9).map (fun i => (i.zero, i.size, i.bytes)) = some (some (.string ⟨#[]⟩), 1, 16) := by kernel_rfl
def PAt (base g : Nat) (space : ByteArray) (sp : List ByteArray) (T : Nat → Prop) (w : World) : Prop :=
  ∃ v, w.heap[g]? = some (.cells #[.string space, v] 122 (0, 0)) ∧ w.ownsRow base 9 1 v sp.length (cells1 sp) ∧ base ≤ g ∧ v.ownBlock ≠ some g ∧ ∀ k, T k → v.ownBlock ≠ some k
theorem PAt.below {base g : Nat} {space : ByteArray} {sp : List ByteArray} {T : Nat → Prop} {w w' : World} (h : PAt base g space sp T w) (hb : Below w.heap.size w w') : PAt base g space sp T w' := by
  obtain ⟨v, h1, h2, h3, h4, h5⟩ := h
  exact ⟨v, still_block h1 hb, own_below h2 hb, h3, h4, h5⟩
theorem PAt.sub {base g : Nat} {space : ByteArray} {sp : List ByteArray} {T T' : Nat → Prop} {w : World} (h : PAt base g space sp T w) (hT : ∀ k, T' k → T k) : PAt base g space sp T' w := by
  obtain ⟨v, h1, h2, h3, h4, h5⟩ := h
  exact ⟨v, h1, h2, h3, h4, fun k hk => h5 k (hT k hk)⟩
theorem PAt.lt {base g : Nat} {space : ByteArray} {sp : List ByteArray} {T : Nat → Prop} {w : World} (h : PAt base g space sp T w) : g < w.heap.size ∧ base ≤ g := by
  obtain ⟨v, h1, _, h3, _⟩ := h
  exact ⟨(Array.getElem?_eq_some_iff.1 h1).1, h3⟩
theorem PAt.more {base g : Nat} {space : ByteArray} {sp : List ByteArray} {T : Nat → Prop} {w : World} (h : PAt base g space sp T w) (o : Obj) : PAt base g space sp (fun k => T k ∨ k = w.heap.size) (w.alloc o) := by
  obtain ⟨v, h1, h2, h3, h4, h5⟩ := h
  have hb := (Below.refl w.heap.size w).alloc (Nat.le_refl _) o
  refine ⟨v, still_block h1 hb, own_below h2 hb, h3, h4, fun k hk => ?_⟩
  rcases hk with hk | rfl
  · exact h5 k hk
  · intro e
    have := (h2.lt _ e).2
    omega
def KpT (T : Nat → Prop) (w w' : World) : Prop := ∀ k, k < w.heap.size → T k → w'.heap[k]? = w.heap[k]?
theorem KpT.of_below {T : Nat → Prop} {w w' : World} (h : Below w.heap.size w w') : KpT T w w' := fun k hk _ => h.block k hk
theorem KpT.trans {T : Nat → Prop} {w w1 w2 : World} (h : KpT T w w1) (hs : w.heap.size ≤ w1.heap.size) (h' : KpT T w1 w2) : KpT T w w2 := fun k hk ht => (h' k (by omega) ht).trans (h k hk ht)
theorem KpT.sub {T T' : Nat → Prop} {w w' : World} (h : KpT T w w') (hT : ∀ k, T' k → T k) : KpT T' w w' := fun k hk ht => h k hk (hT k ht)
def PrOut (o : Except Int (List UInt8 × List ByteArray)) (base g : Nat) (space : ByteArray) (T : Nat → Prop) (w : World) (e : Ending) (w' : World) : Prop :=
  Below base w w' ∧ KpT T w w' ∧ (∃ v, w'.heap[g]? = some (.cells #[.string space, v] 122 (0, 0))) ∧ (∀ k, o = .error k → e = .returned (.tuple #[.string ⟨#[]⟩, .int .i64 k])) ∧
    ∀ t l, o = .ok (t, l) → e = .returned (.tuple #[.string (mkT t), .int .i64 0]) ∧ PAt base g space l T w'
theorem PrOut.bad {k : Int} {base g : Nat} {space : ByteArray} {T : Nat → Prop} {w w' : World} (hb : Below base w w') (hk : KpT T w w') (hg : ∃ v, w'.heap[g]? = some (.cells #[.string space, v] 122 (0, 0))) : PrOut (.error k) base g space T w (.returned (.tuple #[.string ⟨#[]⟩, .int .i64 k])) w' :=
  ⟨hb, hk, hg, fun k' h => by injection h with h; rw [h], fun t l h => by cases h⟩
theorem PrOut.good {t : List UInt8} {l : List ByteArray} {base g : Nat} {space : ByteArray} {T : Nat → Prop} {w w' : World} (hb : Below base w w') (hk : KpT T w w') (hp : PAt base g space l T w') : PrOut (.ok (t, l)) base g space T w (.returned (.tuple #[.string (mkT t), .int .i64 0])) w' :=
  ⟨hb, hk, by obtain ⟨v, h, _⟩ := hp; exact ⟨v, h⟩, fun k' h => (by cases h), fun t' l' h => by
    injection h with h
    injection h with h1 h2
    subst h1 h2
    exact ⟨rfl, hp⟩⟩
theorem own_other {w : World} {base sz n g : Nat} {e : TypeId} {v : Value} {xs : List Value} (h : w.ownsRow base e sz v n xs) (hne : v.ownBlock ≠ some g) (i : Nat) (u : Value) : (w.setCell ⟨g, i, none⟩ u).ownsRow base e sz v n xs := by
  refine ⟨h.1, ?_⟩
  rcases h.2 with hn | ⟨k, cap, cur, rfl, hbk, hk, rest⟩
  · exact .inl hn
  · refine .inr ⟨k, cap, cur, rfl, hbk, ?_, rest⟩
    refine (Below.heap_setCell _ _ _ _ fun e => hne ?_).trans hk
    rw [e]
    rfl
set_option maxHeartbeats 8000000 in
set_option maxRecDepth 100000 in
theorem sprefix_any (base g : Nat) (space s : ByteArray) (sp : List ByteArray) (T : Nat → Prop) (w : World) (hP : PAt base g space sp T w) (hT : ∀ k, T k → k < w.heap.size ∧ k ≠ g) (hsp : sp.length ≤ 16) (hs : s.size ≤ 1000000) :
    Calls Tryz.prog 146 #[.pointer (some ⟨g, 0, none⟩), .string s] w (PrOut (preS s sp) base g space T w) := by
  obtain ⟨o, ho⟩ : ∃ o, preS s sp = o := ⟨_, rfl⟩
  rw [ho]
  unfold preS at ho
  have HP := Lib.hid hP
  obtain ⟨v, hg, hown, hbg, hvg, hvT⟩ := hP
  obtain ⟨A, c, rfl⟩ := own_shape hown
  have hgl : g < w.heap.size := (Array.getElem?_eq_some_iff.1 hg).1
  have hix := spidx_any A sp s c w (Sl.of_own hown) (by omega)
  have p1 : w.cell? ⟨g, 1, none⟩ = some (.slice A sp.length c) := blk_cell hg 1
  cases hh : hasB sp s with
  | true =>
    rw [if_pos hh] at ho
    rw [if_pos hh] at hix
    subst ho
    have hi := idxB_lt ((hasB_iff _ _).1 hh)
    clear hh hg hown hvT hvg
    have hnu := fun u => snumbered_any (idxB s sp) (by omega) u
    have hge : (0 : Int) ≤ (idxB s sp : Int) := by omega
    have HB := Lib.hid (Below.refl base w)
    have HKT := Lib.hid (KpT.of_below (T := T) (Below.refl w.heap.size w))
    generalize idxB s sp = k at *
    go_enter Tryz.func146, Tryz.ntmps146
    go_wp2_with fail
    refine hix.mono ?_
    rintro e w1 ⟨rfl, rfl⟩
    clear hix
    go_wp2_with fail
    refine (hnu _).mono ?_
    rintro e w2 ⟨rfl, rfl⟩
    go_wp2
    go_ret2
    exact PrOut.good HB.out HKT.out HP.out
  | false =>
    rw [if_neg (by rw [hh]; decide)] at ho
    rw [if_neg (by rw [hh]; decide)] at hix
    have hbi := fun u => bindable_any s u (by omega)
    have hm1 : ¬ (0 : Int) ≤ -1 := by omega
    cases hb : bindable1 s with
    | false =>
      rw [hb] at hbi
      rw [if_pos hb] at ho
      subst ho
      clear hh hg hown hvT hvg hb
      go_enter Tryz.func146, Tryz.ntmps146
      go_wp2_with fail
      refine hix.mono ?_
      rintro e w1 ⟨rfl, rfl⟩
      clear hix
      go_wp2_with fail
      refine (hbi _).mono ?_
      rintro e w2 ⟨rfl, hb2⟩
      have HB := Lib.hid (hb2.mono (show base ≤ w1.heap.size by omega))
      have HKT := Lib.hid (KpT.of_below (T := T) hb2)
      have HGG := Lib.hid (HP.out.below hb2)
      clear hb2 hbi
      go_wp2
      go_ret2
      exact PrOut.bad HB.out HKT.out (by obtain ⟨v, h, _⟩ := HGG.out; exact ⟨v, h⟩)
    | true =>
      rw [hb] at hbi
      rw [if_neg (by rw [hb]; decide)] at ho
      by_cases h16 : sp.length = 16
      · rw [if_pos (by omega)] at ho
        subst ho
        have hl16 : ((sp.length : Int) == 16) = true := by rw [h16]; rfl
        clear h16
        go_enter Tryz.func146, Tryz.ntmps146
        go_wp2_with fail
        refine hix.mono ?_
        rintro e w1 ⟨rfl, rfl⟩
        clear hix
        go_wp2_with fail
        refine (hbi _).mono ?_
        rintro e w2 ⟨rfl, hb2⟩
        have p1 : w2.cell? ⟨g, 1, none⟩ = some (.slice A sp.length c) := blk_cell (still_block hg hb2) 1
        have HB := Lib.hid (hb2.mono (show base ≤ w1.heap.size by omega))
        have HKT := Lib.hid (KpT.of_below (T := T) hb2)
        have HGG := Lib.hid (HP.out.below hb2)
        clear hb2 hbi hh hg hown hvT hvg hb
        go_wp2
        go_ret2
        exact PrOut.bad HB.out HKT.out (by obtain ⟨v, h, _⟩ := HGG.out; exact ⟨v, h⟩)
      · rw [if_neg (by omega)] at ho
        subst ho
        have hl16 : ((sp.length : Int) == 16) = false := by rw [beq_eq_false_iff_ne]; omega
        clear h16 hh hb
        obtain ⟨i2, hk0, hu0, hu1, hu2⟩ := info_parts text_info
        go_enter Tryz.func146, Tryz.ntmps146
        go_wp2_with fail
        refine hix.mono ?_
        rintro e w1 ⟨rfl, rfl⟩
        clear hix
        go_wp2_with fail
        refine (hbi _).mono ?_
        rintro e w2 ⟨rfl, hb2⟩
        have p1 : w2.cell? ⟨g, 1, none⟩ = some (.slice A sp.length c) := blk_cell (still_block hg hb2) 1
        have hown2 := own_below hown hb2
        have hg2 := still_block hg hb2
        have hs2 := hb2.size
        have HB2 := Lib.hid hb2
        have hsz : base ≤ (w2.alloc (.cells #[.string s] 9)).heap.size := by simp; omega
        have hown2a := hown2.alloc (.cells #[.string s] 9)
        have hsl : Sl (w2.alloc (.cells #[.string s] 9)) 1 (some ⟨w2.heap.size, 0, none⟩) 1 [.string s] := Sl.lit w2 1 [.string s] _ 1 rfl
        clear hb2 hbi
        go_upto_region 8 with fail
        have hm : sp.length + 1 ≤ maxLen := by unfold maxLen; omega
        go_wp2_with (at_builtin; refine wpList_append_sl _ rfl _ _ _ rfl base 9 i2 _ 1 16 Tryz.underlying54 hk0 hu0 hu1 hu2 rfl (by omega) _ sp.length (cells1 sp) rfl hown2a (some ⟨w2.heap.size, 0, none⟩) 1 1 [.string s] rfl hsl (cells1_one [s]) hm (by omega) hsz ?_)
        intro v5 w5 hown5 hg5 hat5
        obtain ⟨A5, c5, rfl⟩ := own_shape hown5
        have hsz5 : (w2.alloc (.cells #[.string s] 9)).heap.size = w2.heap.size + 1 := by simp
        have hba := (Below.refl w2.heap.size w2).alloc (Nat.le_refl _) (.cells #[.string s] 9)
        have hgk := grown_block (still_block hg2 hba) hg5 (fun e => hvg e.symm)
        have hne5 : (Value.slice A5 (sp.length + 1) c5).ownBlock ≠ some g := by
          rcases hat5 with e | e
          · rw [e]; exact hvg
          · rw [e]
            intro h
            injection h with h
            omega
        have hT5 : ∀ k, T k → (Value.slice A5 (sp.length + 1) c5).ownBlock ≠ some k := fun k hk => by
          rcases hat5 with e | e
          · rw [e]; exact hvT k hk
          · rw [e]
            intro h
            injection h with h
            have := (hT k hk).1
            omega
        have HB5 : Hid (Below base w1 w5) := Lib.hid (((HB2.out.mono (by omega)).alloc (by omega) (.cells #[.string s] 9)).grown hg5 hsz (fun k hk => (hown.lt k hk).1))
        have HK5 : Hid (KpT T w1 w5) := Lib.hid (fun k hk ht => by
          have e1 := hg5.block k (by simp; omega) (fun e => hvT k ht e.symm)
          have e2 := hba.block k (by omega)
          exact e1.trans (e2.trans (HB2.out.block k hk)))
        have q1 : w5.cell? ⟨g, 1, none⟩ = some (.slice A sp.length c) := blk_cell hgk 1
        have qf := blk_free hgk 1
        clear hg5 hat5 hown2a hsl hba p1
        go_upto_region 9 with fail
        have hg6 : (w5.setCell ⟨g, 1, none⟩ (.slice A5 (sp.length + 1) c5)).heap[g]? = some (.cells #[.string space, .slice A5 (sp.length + 1) c5] 122 (0, 0)) := blk_set hgk 1 _
        have own6 := own_other hown5 hne5 1 (.slice A5 (sp.length + 1) c5)
        have HB6 : Hid (Below base w1 (w5.setCell ⟨g, 1, none⟩ (.slice A5 (sp.length + 1) c5))) := Lib.hid (HB5.out.setCell hbg _)
        have HK6 : Hid (KpT T w1 (w5.setCell ⟨g, 1, none⟩ (.slice A5 (sp.length + 1) c5))) := Lib.hid (fun k hk ht => (Below.heap_setCell _ _ _ _ (hT k ht).2).trans (HK5.out k hk ht))
        generalize w5.setCell ⟨g, 1, none⟩ (.slice A5 (sp.length + 1) c5) = w6 at *
        have q6 : w6.cell? ⟨g, 1, none⟩ = some (.slice A5 (sp.length + 1) c5) := blk_cell hg6 1
        have HP6 : Hid (PAt base g space (sp ++ [s]) T w6) := Lib.hid (by
          refine ⟨_, hg6, ?_, hbg, hne5, hT5⟩
          have e1 : cells1 (sp ++ [s]) = cells1 sp ++ [.string s] := by simp [cells1]
          rw [List.length_append, List.length_singleton, e1]
          exact own6)
        have hnu := fun u => snumbered_any sp.length (by omega) u
        have hwr : IntKind.i64.wrap ((sp.length : Int) + 1 - 1) = (sp.length : Int) := by rw [IntKind.wrap_i64]; omega
        clear q1 qf hg6 own6 hgk hown5 HB5 HK5 hne5 hT5 hown2 hg2 hown hg HP
        go_wp2_with fail
        refine (hnu _).mono ?_
        rintro e w7 ⟨rfl, rfl⟩
        go_wp2
        go_ret2
        exact PrOut.good HB6.out HK6.out HP6.out
end Go.Proofs.YtbdamneophbnnaaGreatDoor
