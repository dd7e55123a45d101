/- UdB UdC SbI SdE SdF UdD. -/
import Derived.Test.YtbdamneophbnnaaGreatDoorCZ14
namespace Wb
open Go
theorem que_len (s : List UInt8) : (que11 s).1.length ≤ s.length ∧ ((que11 s).2.getD []).length ≤ s.length := by
  unfold que11
  cases h : cutC 63 s with
  | none => simp
  | some x =>
    obtain ⟨a, b⟩ := x
    obtain ⟨rfl, _⟩ := cutC_some h
    simp only [Option.getD_some, List.length_append, List.length_cons]
    omega
theorem sel_len {s t : List UInt8} (h : (sel11 s).2 = some t) : t.length ≤ s.length := by
  unfold sel11 at h
  split at h
  · injection h with h
    rw [← h, List.length_drop]
    omega
  · cases h
theorem spc_len {u : List UInt8} (h : u ∈ usg11) : (spc11 u).length ≤ 64 ∧ u.length ≤ 64 := by
  have : ∀ u ∈ usg11, (nsP11 ++ u).length ≤ 64 ∧ u.length ≤ 64 := by decide
  unfold spc11
  rw [if_pos h]
  exact this u h
theorem uri_size {s : List UInt8} {v : WhV} (h : uri11 s = .ok v) : v.usage.size ≤ 64 ∧ v.user.size ≤ 64 ∧ v.doc.size ≤ 64 ∧ SzOK v.steps ∧ v.binds.length ≤ 16 := by
  unfold uri11 at h
  split at h
  · cases h
  rename_i hl
  split at h
  · cases h
  split at h
  · cases h
  split at h
  · cases h
  rename_i hu
  split at h
  · cases h
  split at h
  · cases h
  split at h
  · cases h
  rename_i hok
  have hu := spc_len (Decidable.byContradiction hu)
  rw [Bool.not_eq_false] at hok
  unfold ok11 at hok
  simp only [Bool.and_eq_true, decide_eq_true_eq] at hok
  obtain ⟨⟨⟨⟨⟨b1, b2⟩, b3⟩, b4⟩, b5⟩, b6⟩ := hok
  split at h
  · injection h with h
    subst h
    refine ⟨?_, ?_, ?_, SzOK.nil, Nat.zero_le _⟩
    · show _root_.Array.size _ ≤ 64
      rw [List.size_toArray]; exact hu.2
    · show _root_.Array.size _ ≤ 64
      rw [List.size_toArray]; exact b3
    · show _root_.Array.size _ ≤ 64
      rw [List.size_toArray]; exact b2
  rename_i t ht
  split at h
  · cases h
  rename_i hb
  split at h
  · cases h
  rename_i l hp
  injection h with h
  subst h
  have hb : (bindsP ((que11 s).2.getD [])).2 = 0 := Decidable.byContradiction hb
  obtain ⟨m, hm⟩ : ∃ m, bindsP ((que11 s).2.getD []) = (m, 0) := ⟨(bindsP ((que11 s).2.getD [])).1, by rw [← hb]⟩
  have hql := que_len s
  obtain ⟨c1, c2⟩ := binds_size hm
  rw [hm] at hp ⊢
  have htl := sel_len ht
  obtain ⟨a1, a2, a3⟩ := parse_size (M := 600) (by omega) (by show _root_.Array.size _ ≤ _; rw [List.size_toArray]; omega) (fun x hx => by have := (c2 x hx).2; omega) hp
  refine ⟨?_, ?_, ?_, (⟨by omega, by omega, fun x hx => ?_⟩ : SzOK l), c1⟩
  · show _root_.Array.size _ ≤ 64
    rw [List.size_toArray]; exact hu.2
  · show _root_.Array.size _ ≤ 64
    rw [List.size_toArray]; exact b3
  · show _root_.Array.size _ ≤ 64
    rw [List.size_toArray]; exact b2
  · have := a3 x hx
    omega
def awS1 : List UInt8 := [47, 114, 101, 115, 111, 117, 114, 99, 101, 45, 108, 105, 115, 116, 115, 47, 117, 115, 101, 114, 115, 47, 115, 105, 112, 58, 97, 64, 120, 47, 105, 110, 100, 101, 120, 47, 126, 126, 47, 114, 101, 115, 111, 117, 114, 99, 101, 45, 108, 105, 115, 116, 115, 47, 108, 105, 115, 116, 37, 53, 98, 49, 37, 53, 100]
def awSp : ByteArray := ⟨(spc11 [114, 101, 115, 111, 117, 114, 99, 101, 45, 108, 105, 115, 116, 115]).toArray⟩
def awW1 : WhV := ⟨⟨#[114, 101, 115, 111, 117, 114, 99, 101, 45, 108, 105, 115, 116, 115]⟩, ⟨#[115, 105, 112, 58, 97, 64, 120]⟩, ⟨#[105, 110, 100, 101, 120]⟩, true, [⟨1, false, (awSp, ⟨#[114, 101, 115, 111, 117, 114, 99, 101, 45, 108, 105, 115, 116, 115]⟩), 0, false, nE, sE⟩, ⟨1, false, (awSp, ⟨#[108, 105, 115, 116]⟩), 1, false, nE, sE⟩], ⟨#[114, 101, 115, 111, 117, 114, 99, 101, 45, 108, 105, 115, 116, 115, 47, 108, 105, 115, 116, 37, 53, 98, 49, 37, 53, 100]⟩, []⟩
theorem awU1 : uri11 awS1 = .ok awW1 := by kernel_rfl
theorem awU2 : uri11 [47, 120, 47, 117, 115, 101, 114, 115, 47, 97, 47, 98] = .error 34 := by kernel_rfl
theorem awU3 : prt11 ⟨⟨#[112, 114, 101, 115, 45, 114, 117, 108, 101, 115]⟩, ⟨#[]⟩, ⟨#[105, 110, 100, 101, 120]⟩, false, [], ⟨#[]⟩, []⟩ = .ok [47, 112, 114, 101, 115, 45, 114, 117, 108, 101, 115, 47, 103, 108, 111, 98, 97, 108, 47, 105, 110, 100, 101, 120] := by kernel_rfl
end Wb
namespace Wb
theorem br_ne {s : List UInt8} {m : List Pr} (h : BR s m) : ∀ x ∈ m, x.1.size ≠ 0 := by
  induction h with
  | done _ => intro x hx; simp at hx
  | more hne h hb hr ih =>
    obtain ⟨_, _, hn, _⟩ := bind1_len h
    have hne := (nm_bytes hn).1
    intro x hx
    rcases List.mem_cons.1 hx with rfl | hx
    · show _root_.Array.size _ ≠ 0
      rw [List.size_toArray]
      exact fun e => hne (List.length_eq_zero_iff.1 e)
    · exact ih x hx
theorem binds_ne {q : List UInt8} {m : List Pr} (h : bindsP q = (m, 0)) : ∀ x ∈ m, x.1.size ≠ 0 := by
  obtain ⟨s, _, hb, _⟩ := bindsP_ok h
  exact br_ne hb
theorem uri_ne {s : List UInt8} {v : WhV} (h : uri11 s = .ok v) : ∀ x ∈ v.binds, x.1.size ≠ 0 := by
  unfold uri11 at h
  split at h
  · cases h
  split at h
  · cases h
  split at h
  · cases h
  split at h
  · cases h
  split at h
  · cases h
  split at h
  · cases h
  split at h
  · cases h
  split at h
  · injection h with h
    subst h
    intro x hx
    simp at hx
  split at h
  · cases h
  rename_i hb
  split at h
  · cases h
  injection h with h
  subst h
  have hb : (bindsP ((que11 s).2.getD [])).2 = 0 := Decidable.byContradiction hb
  exact binds_ne (q := (que11 s).2.getD []) (by rw [← hb])
end Wb
namespace Wb
theorem app_l (a b : ByteArray) : (a ++ b).data.toList = a.data.toList ++ b.data.toList := by simp
theorem fin_at {X : ByteArray} {s : List UInt8} (h : X.data.toList = s) (hx : X.size ≤ 512) : fin11 s = .ok X.data.toList := by
  have : X.data.toList.length = X.size := by simp
  unfold fin11
  rw [if_neg (by rw [← h, this]; omega), h]
theorem fin_no {X : ByteArray} {s : List UInt8} (h : X.data.toList = s) (hx : 512 < X.size) : fin11 s = .error 3 := by
  have : X.data.toList.length = X.size := by simp
  unfold fin11
  rw [if_pos (by rw [← h, this]; omega)]
end Wb
namespace Go.Proofs.YtbdamneophbnnaaGreatDoor
open Go.RowKit Wb
theorem P11Out.good {o : Except Int (List UInt8)} {X : ByteArray} {w w' : World} (h : o = .ok X.data.toList) (hb : Below w.heap.size w w') : P11Out o w (.returned (.tuple #[.string X, .int .i64 0])) w' := by
  subst h
  refine ⟨?_, hb⟩
  rfl
def UriOut (o : Except Int WhV) (w : World) (e : Ending) (w' : World) : Prop :=
  Below w.heap.size w w' ∧ ((∀ k, o = .error k → e = .returned (.tuple #[.agg #[.string ⟨#[]⟩, .string ⟨#[]⟩, .string ⟨#[]⟩, .bool false, .slice none 0 0, .string ⟨#[]⟩, .slice none 0 0], .int .i64 k])) ∧
    ∀ v, o = .ok v → ∃ A ca C cc, e = .returned (.tuple #[whV v A ca C cc, .int .i64 0]) ∧ Sl9 w' A v.steps ∧ Sl2 w' C v.binds)
theorem UriOut.bad {o : Except Int WhV} {k : Int} {w w' : World} (h : o = .error k) (hb : Below w.heap.size w w') : UriOut o w (.returned (.tuple #[.agg #[.string ⟨#[]⟩, .string ⟨#[]⟩, .string ⟨#[]⟩, .bool false, .slice none 0 0, .string ⟨#[]⟩, .slice none 0 0], .int .i64 k])) w' :=
  ⟨hb, fun k' h' => (by rw [h] at h'; injection h' with h'; rw [h']), fun v h' => by rw [h] at h'; cases h'⟩
theorem UriOut.good {o : Except Int WhV} {v : WhV} {A C : Option Addr} {ca cc : Nat} {w w' : World} (h : o = .ok v) (hb : Below w.heap.size w w') (hA : Sl9 w' A v.steps) (hC : Sl2 w' C v.binds) : UriOut o w (.returned (.tuple #[whV v A ca C cc, .int .i64 0])) w' :=
  ⟨hb, fun k' h' => (by rw [h] at h'; cases h'), fun v' h' => by rw [h] at h'; injection h' with h'; subst h'; exact ⟨A, ca, C, cc, rfl, hA, hC⟩⟩
end Go.Proofs.YtbdamneophbnnaaGreatDoor
namespace Wb
theorem aw_p2 : parseS [98, 91, 64, 112, 58, 120, 61, 49, 93] sE [] = .error 33 := by kernel_rfl
end Wb
namespace Go.Proofs.YtbdamneophbnnaaGreatDoor
open Go.RowKit Wb
def StepsOut (o : Except Int (List StV)) (w : World) (e : Ending) (w' : World) : Prop :=
  Below w.heap.size w w' ∧ ((∀ k, o = .error k → e = .returned (.tuple #[.slice none 0 0, .int .i64 k])) ∧
    ∀ l, o = .ok l → ∃ C k, e = .returned (.tuple #[.slice C l.length k, .int .i64 0]) ∧ Sl9 w' C l)
end Go.Proofs.YtbdamneophbnnaaGreatDoor
namespace Wb
theorem elem_len {x : StV} {space : ByteArray} {l l' : List ByteArray} {t : List UInt8} (h : elemT x space l = .ok (t, l')) (hl : l.length ≤ 16) : t.length ≤ x.name.2.size + 8 ∧ (SpB l → SpB l') := by
  unfold elemT at h
  split at h
  · injection h with h
    injection h with h1 h2
    rw [← h1, ← h2]
    exact ⟨by simp, id⟩
  · exact ⟨(nameT_len h hl).1, nameT_spB h⟩
theorem elem_nz {x : StV} {space : ByteArray} {l : List ByteArray} {k : Int} (h : elemT x space l = .error k) : k ≠ 0 := by
  unfold elemT at h
  split at h
  · cases h
  · exact nameT_nz h
end Wb
namespace Go.Proofs.YtbdamneophbnnaaGreatDoor
open Go.RowKit Wb
set_option maxHeartbeats 16000000 in
set_option maxRecDepth 100000 in
theorem sstep_any (base g : Nat) (space : ByteArray) (kind : Int) (any : Bool) (n1 n2 : ByteArray) (pos : Int) (by_ : Bool) (a1 a2 val : ByteArray) (sp : List ByteArray) (T : Nat → Prop) (w : World) (hP : PAt base g space sp T w) (hT : ∀ k, T k → k < w.heap.size ∧ k ≠ g) (hsp : SpB sp) (hG : ∀ v, Below base w v → GvS v)
    (h1 : n1.size ≤ 60000) (h2 : n2.size ≤ 60000) (h3 : a1.size ≤ 60000) (h4 : a2.size ≤ 60000) (h5 : val.size ≤ 60000) (h6 : pos ≤ 9999) :
    Calls Tryz.prog 77 #[.pointer (some ⟨g, 0, none⟩), .agg #[.int .i64 kind, .bool any, .string n1, .string n2, .int .i64 pos, .bool by_, .string a1, .string a2, .string val]] w (PrOut (stpT ⟨kind, any, (n1, n2), pos, by_, (a1, a2), val⟩ space sp) base g space T w) := by
  obtain ⟨o, ho⟩ : ∃ o, stpT ⟨kind, any, (n1, n2), pos, by_, (a1, a2), val⟩ space sp = o := ⟨_, rfl⟩
  rw [ho]
  unfold stpT at ho
  simp only at ho
  have hgl := hP.lt
  have hbase : base ≤ w.heap.size := by omega
  have hk0 := OwnB.new0 w #[.int .i64 kind, .bool any, .string n1, .string n2, .int .i64 pos, .bool by_, .string a1, .string a2, .string val] 46
  have hb0 := (Below.refl w.heap.size w).alloc (Nat.le_refl _) (.cells #[.int .i64 kind, .bool any, .string n1, .string n2, .int .i64 pos, .bool by_, .string a1, .string a2, .string val] 46)
  have hP0 := hP.more (.cells #[.int .i64 kind, .bool any, .string n1, .string n2, .int .i64 pos, .bool by_, .string a1, .string a2, .string val] 46)
  have hs0 : (w.alloc (.cells #[.int .i64 kind, .bool any, .string n1, .string n2, .int .i64 pos, .bool by_, .string a1, .string a2, .string val] 46)).heap.size = w.heap.size + 1 := by simp
  have hT1 : ∀ k, (T k ∨ k = w.heap.size) → k < (w.alloc (.cells #[.int .i64 kind, .bool any, .string n1, .string n2, .int .i64 pos, .bool by_, .string a1, .string a2, .string val] 46)).heap.size ∧ k ≠ g := fun k hk => by
    rcases hk with hk | rfl
    · have := hT k hk
      exact ⟨by omega, this.2⟩
    · exact ⟨by omega, by omega⟩
  by_cases k3 : kind = 3
  · rw [if_pos k3] at ho
    subst ho
    subst k3
    have HPB := Lib.hid (hP.below hb0)
    clear hP0 hT1 hG
    go_enter Tryz.func77, Tryz.ntmps77
    go_upto_region 1 with fail
    generalize w.alloc (.cells #[.int .i64 3, .bool any, .string n1, .string n2, .int .i64 pos, .bool by_, .string a1, .string a2, .string val] 46) = w0 at *
    have x0 : w0.cell? ⟨w.heap.size, 0, none⟩ = some (.int .i64 3) := hk0.cell 0
    go_wp2
    go_ret2
    exact PrOut.good (t := sNsAll) (hb0.mono hbase) (KpT.of_below hb0) HPB.out
  · rw [if_neg k3] at ho
    have hk3 : (kind == 3) = false := by simpa using k3
    by_cases k2 : kind = 2
    · rw [if_pos k2] at ho
      have hcall := sattr_any base g space n1 n2 sp _ _ hP0 hT1 hsp (by omega) (by omega)
      rw [show attrN (n1, n2) sp = o from ho] at hcall
      subst k2
      clear hP0 hT1 hG ho k3
      go_enter Tryz.func77, Tryz.ntmps77
      go_upto_region 1 with fail
      generalize w.alloc (.cells #[.int .i64 2, .bool any, .string n1, .string n2, .int .i64 pos, .bool by_, .string a1, .string a2, .string val] 46) = w0 at *
      have x0 : w0.cell? ⟨w.heap.size, 0, none⟩ = some (.int .i64 2) := hk0.cell 0
      have x2 : w0.cell? ⟨w.heap.size, 2, none⟩ = some (.string n1) := hk0.cell 2
      have x3 : w0.cell? ⟨w.heap.size, 3, none⟩ = some (.string n2) := hk0.cell 3
      go_wp2_with fail
      refine hcall.mono ?_
      intro e w2 hpo
      have HPO := Lib.hid (hpo.lift hb0 hbase (T := T) fun k hk => .inl hk)
      obtain ⟨X, kk, rfl⟩ := hpo.form
      clear hpo hcall x0 x2 x3
      go_wp2
      go_ret2
      exact HPO.out
    · rw [if_neg k2] at ho
      have hk2 : (kind == 2) = false := by simpa using k2
      have hel := selem_any base g space kind any n1 n2 pos by_ a1 a2 val sp _ _ hP0 hT1 hsp (by omega) (by omega)
      have hlen := fun t l' (h : elemT ⟨kind, any, (n1, n2), pos, by_, (a1, a2), val⟩ space sp = .ok (t, l')) => elem_len h hsp.1
      have hnz := fun k (h : elemT ⟨kind, any, (n1, n2), pos, by_, (a1, a2), val⟩ space sp = .error k) => elem_nz h
      obtain ⟨op, hop⟩ : ∃ op, elemT ⟨kind, any, (n1, n2), pos, by_, (a1, a2), val⟩ space sp = op := ⟨_, rfl⟩
      rw [hop] at hel hlen hnz ho
      have HO := Lib.hid ho
      have HT1 := Lib.hid hT1
      clear ho hop hP0 hT1 k2 k3
      go_enter Tryz.func77, Tryz.ntmps77
      go_upto_region 1 with fail
      generalize w.alloc (.cells #[.int .i64 kind, .bool any, .string n1, .string n2, .int .i64 pos, .bool by_, .string a1, .string a2, .string val] 46) = w0 at *
      have x0 : w0.cell? ⟨w.heap.size, 0, none⟩ = some (.int .i64 kind) := hk0.cell 0
      have x1 : w0.cell? ⟨w.heap.size, 1, none⟩ = some (.bool any) := hk0.cell 1
      have x2 : w0.cell? ⟨w.heap.size, 2, none⟩ = some (.string n1) := hk0.cell 2
      have x3 : w0.cell? ⟨w.heap.size, 3, none⟩ = some (.string n2) := hk0.cell 3
      have x4 : w0.cell? ⟨w.heap.size, 4, none⟩ = some (.int .i64 pos) := hk0.cell 4
      have x5 : w0.cell? ⟨w.heap.size, 5, none⟩ = some (.bool by_) := hk0.cell 5
      have x6 : w0.cell? ⟨w.heap.size, 6, none⟩ = some (.string a1) := hk0.cell 6
      have x7 : w0.cell? ⟨w.heap.size, 7, none⟩ = some (.string a2) := hk0.cell 7
      have x8 : w0.cell? ⟨w.heap.size, 8, none⟩ = some (.string val) := hk0.cell 8
      go_wp2_with fail
      refine hel.mono ?_
      rintro e w2 ⟨hb2, hkp2, hge2, herr, hok⟩
      have HB2 : Hid (Below base w w2) := Lib.hid ((hb0.mono hbase).trans hb2)
      have HK2 : Hid (KpT (fun k => T k ∨ k = w.heap.size) w w2) := Lib.hid ((KpT.of_below hb0).trans hb0.size hkp2)
      have HX2 : Hid (OwnB w.heap.size w w2 #[.int .i64 kind, .bool any, .string n1, .string n2, .int .i64 pos, .bool by_, .string a1, .string a2, .string val] 46) := Lib.hid ⟨(hkp2 w.heap.size (by omega) (.inr rfl)).trans hk0.blk, Nat.le_refl _⟩
      have hs2 := hb2.size
      clear hb2 hkp2 x0 x1 x2 x3 x4 x5 x6 x7 x8 hel hk0
      cases op with
      | error kk =>
        obtain rfl := herr kk rfl
        have hkn : (kk == 0) = false := by simpa using hnz kk rfl
        obtain rfl : .error kk = o := HO.out
        clear herr hok hlen hnz
        go_wp2
        go_ret2
        exact PrOut.bad HB2.out (HK2.out.sub fun k hk => .inl hk) hge2
      | ok x =>
        obtain ⟨t1, l1⟩ := x
        obtain ⟨rfl, hP2⟩ := hok t1 l1 rfl
        obtain ⟨htl, hspl⟩ := hlen t1 l1 rfl
        have hspl := hspl hsp
        have htz : (mkT t1).size ≤ 60008 := by rw [mkT_size]; have := htl; omega
        have hT2 : ∀ k, (T k ∨ k = w.heap.size) → k < w2.heap.size ∧ k ≠ g := fun k hk => by
          have := HT1.out k hk
          exact ⟨by omega, this.2⟩
        have HP2 := Lib.hid hP2
        have hG2 := hG w2 HB2.out
        have HQT : Hid (mkT t1 = mkT t1) := Lib.hid rfl
        clear herr hok hlen hnz hge2 hP2 htl HT1
        have x3 : w2.cell? ⟨w.heap.size, 4, none⟩ = some (.int .i64 pos) := HX2.out.cell 4
        by_cases hp0 : 0 < pos
        · obtain ⟨m, rfl⟩ := Int.eq_ofNat_of_zero_le (show 0 ≤ pos by omega)
          have hit := sitoa_any m (by omega) (by omega) w2 hG2
          have hdz : (mkT (dgN m)).size ≤ 4 := by rw [mkT_size]; exact dgN_le m 4 (by omega)
          obtain ⟨Q, hQ⟩ : ∃ Q, mkT (t1 ++ posT (m : Int)) = Q := ⟨_, rfl⟩
          have HQ : Hid (Q = mkT (t1 ++ posT (m : Int))) := Lib.hid hQ.symm
          have hsum : mkT t1 ++ ((⟨#[91]⟩ ++ mkT (dgN m)) ++ ⟨#[93]⟩) = Q := by
            rw [← hQ, show (⟨#[91]⟩ : ByteArray) = mkT [91] from rfl, show (⟨#[93]⟩ : ByteArray) = mkT [93] from rfl, mkT_app, mkT_app, mkT_app]
            unfold posT
            rw [if_pos hp0]
            simp
          clear hQ hG2 HQT
          generalize mkT (dgN m) = D at *
          generalize mkT t1 = P1 at *
          obtain ⟨D1, d1⟩ : ∃ D1, ⟨#[91]⟩ ++ D = D1 := ⟨_, rfl⟩
          obtain ⟨D2, d2⟩ : ∃ D2, D1 ++ ⟨#[93]⟩ = D2 := ⟨_, rfl⟩
          have d3 : P1 ++ D2 = Q := by rw [← d2, ← d1]; exact hsum
          have q1 : D1.size = 1 + D.size := by rw [← d1, ByteArray.size_append]; rfl
          have q2 : D2.size = D1.size + 1 := by rw [← d2, ByteArray.size_append]; rfl
          have q3 : Q.size = P1.size + D2.size := by rw [← d3, ByteArray.size_append]
          have z1 : ¬ 9223372036854775807 < 1 + D.size := by omega
          have z2 : ¬ 9223372036854775807 < D1.size + 1 := by omega
          have z3 : ¬ 9223372036854775807 < P1.size + D2.size := by omega
          have hqz : Q.size ≤ 60020 := by omega
          have hp1 : (0 : Int) < (m : Int) := hp0
          clear q1 q2 q3 hsum htz hdz hp0
          go_wp2_with fail
          refine hit.mono ?_
          rintro e w3 ⟨rfl, hb3⟩
          have HB3 := Lib.hid (HB2.out.trans (hb3.mono (by omega)))
          have HK3 := Lib.hid (HK2.out.trans HB2.out.size (KpT.of_below hb3))
          have HX3 := Lib.hid (HX2.out.next hb3)
          have HP3 := Lib.hid (HP2.out.below hb3)
          have hT3 : ∀ k, (T k ∨ k = w.heap.size) → k < w3.heap.size ∧ k ≠ g := fun k hk => by
            have := hT2 k hk
            have := hb3.size
            exact ⟨by omega, (hT2 k hk).2⟩
          clear hb3 hit x3 HB2 HK2 HX2 HP2 hT2
          go_upto_region 11 with fail
          clear d1 d2 d3 z1 z2 z3
          have y5 : w3.cell? ⟨w.heap.size, 5, none⟩ = some (.bool by_) := HX3.out.cell 5
          have HQZ := Lib.hid hqz
          cases by_ with
          | false =>
            obtain rfl : .ok (t1 ++ posT (m : Int), l1) = o := by have := HO.out; simpa using this
            have HPF := Lib.hid (HP3.out.sub (T' := T) fun k hk => .inl hk)
            clear HO
            go_wp2
            go_ret2
            have := PrOut.good (t := t1 ++ posT (m : Int)) HB3.out (HK3.out.sub fun k hk => .inl hk) HPF.out
            rw [← HQ.out] at this
            exact this
          | true =>
            have y6 : w3.cell? ⟨w.heap.size, 6, none⟩ = some (.string a1) := HX3.out.cell 6
            have y7 : w3.cell? ⟨w.heap.size, 7, none⟩ = some (.string a2) := HX3.out.cell 7
            have hat := sattr_any base g space a1 a2 l1 (fun k => T k ∨ k = w.heap.size) w3 HP3.out hT3 hspl (by omega) (by omega)
            have hanz := fun k (h : nameT (a1, a2) sE l1 = .error k) => nameT_nz h
            have hal := fun t l' (h : nameT (a1, a2) sE l1 = .ok (t, l')) => (nameT_len h hspl.1).1
            have HO2 : Hid ((match nameT (a1, a2) sE l1 with
              | .error e => .error e
              | .ok (a, l2) => if sgB val = false then .error 11 else .ok (t1 ++ posT (m : Int) ++ testT a (escL true val.data.toList), l2)) = o) := Lib.hid (by
                have := HO.out
                simp only [Bool.true_eq_false, if_false] at this
                exact this)
            unfold attrN at hat
            obtain ⟨on, hon⟩ : ∃ on, nameT (a1, a2) sE l1 = on := ⟨_, rfl⟩
            rw [hon] at hat hanz hal HO2
            have hge := hT3 w.heap.size (.inr rfl)
            clear HO hon
            go_wp2_with fail
            refine hat.mono ?_
            rintro e w5 ⟨hb5, hkp5, hge5, herr5, hok5⟩
            have HB5 := Lib.hid (HB3.out.trans hb5)
            have HK5 := Lib.hid (HK3.out.trans HB3.out.size hkp5)
            have HX5 : Hid (OwnB w.heap.size w w5 #[.int .i64 kind, .bool any, .string n1, .string n2, .int .i64 (m : Int), .bool true, .string a1, .string a2, .string val] 46) := Lib.hid ⟨(hkp5 w.heap.size hge.1 (.inr rfl)).trans HX3.out.blk, Nat.le_refl _⟩
            clear hb5 hkp5 hat y5 y6 y7 HX3 HP3 HB3 HK3
            cases on with
            | error kk =>
              obtain rfl := herr5 kk rfl
              have hkn : (kk == 0) = false := by simpa using hanz kk rfl
              obtain rfl : .error kk = o := HO2.out
              clear herr5 hok5 hanz hal
              go_wp2
              go_ret2
              exact PrOut.bad HB5.out (HK5.out.sub fun k hk => .inl hk) hge5
            | ok x =>
              obtain ⟨a, l2⟩ := x
              obtain ⟨rfl, hP5⟩ := hok5 (64 :: a) l2 rfl
              have hal := hal a l2 rfl
              have HP5 := Lib.hid hP5
              have y8 : w5.cell? ⟨w.heap.size, 8, none⟩ = some (.string val) := HX5.out.cell 8
              have hsg := fun v => ssigns_any val v (by omega)
              have HO3 : Hid ((if sgB val = false then .error 11 else .ok (t1 ++ posT (m : Int) ++ testT a (escL true val.data.toList), l2)) = o) := Lib.hid HO2.out
              obtain ⟨sg, hsgv⟩ : ∃ b, sgB val = b := ⟨_, rfl⟩
              rw [hsgv] at hsg HO3
              have haz : (mkT (64 :: a)).size ≤ 60020 := by rw [mkT_size]; simp only [List.length_cons] at hal ⊢; omega
              clear herr5 hok5 hanz hP5 hge5 HO2 hsgv hal
              go_wp2_with fail
              refine (hsg _).mono ?_
              rintro e w6 ⟨rfl, hb6⟩
              have HB6 := Lib.hid (HB5.out.trans (hb6.mono (by have := HB5.out.size; omega)))
              have HK6 := Lib.hid (HK5.out.trans HB5.out.size (KpT.of_below hb6))
              have HX6 := Lib.hid (HX5.out.next hb6)
              have HP6 := Lib.hid (HP5.out.below hb6)
              clear hb6 hsg y8 HX5 HP5 HB5 HK5
              cases sg with
              | false =>
                obtain rfl : .error 11 = o := HO3.out
                have HGG := Lib.hid HP6.out
                clear HO3
                go_wp2
                go_ret2
                exact PrOut.bad HB6.out (HK6.out.sub fun k hk => .inl hk) (by obtain ⟨v, h, _⟩ := HGG.out; exact ⟨v, h⟩)
              | true =>
                obtain rfl : .ok (t1 ++ posT (m : Int) ++ testT a (escL true val.data.toList), l2) = o := HO3.out
                have hes := fun v => Escape_any val true v (by omega)
                have hel2 := (escL_len true val.data.toList).2
                have hvl : val.data.toList.length = val.size := by simp
                have hez : (mkT (escL true val.data.toList)).size ≤ 10 * 60000 := by rw [mkT_size]; omega
                have HR : Hid (((((Q ++ ⟨#[91]⟩) ++ mkT (64 :: a)) ++ ⟨#[61, 34]⟩) ++ mkT (escL true val.data.toList)) ++ ⟨#[34, 93]⟩ = mkT (t1 ++ posT (m : Int) ++ testT a (escL true val.data.toList))) := Lib.hid (by
                  rw [HQ.out, show (⟨#[91]⟩ : ByteArray) = mkT [91] from rfl, show (⟨#[61, 34]⟩ : ByteArray) = mkT [61, 34] from rfl, show (⟨#[34, 93]⟩ : ByteArray) = mkT [34, 93] from rfl, mkT_app, mkT_app, mkT_app, mkT_app, mkT_app]
                  unfold testT
                  simp)
                have hes : ∀ v, Calls Tryz.prog 109 #[.string val, .bool true] v fun e w' => e = .returned (.string (mkT (escL true val.data.toList))) ∧ Below v.heap.size v w' := hes
                have HES := Lib.hid hes
                obtain ⟨R5, hR5⟩ : ∃ R5, mkT (t1 ++ posT (m : Int) ++ testT a (escL true val.data.toList)) = R5 := ⟨_, rfl⟩
                have HR5 := Lib.hid hR5
                have HRR : Hid (((((Q ++ ⟨#[91]⟩) ++ mkT (64 :: a)) ++ ⟨#[61, 34]⟩) ++ mkT (escL true val.data.toList)) ++ ⟨#[34, 93]⟩ = R5) := Lib.hid (HR.out.trans hR5)
                clear HO3 hes hel2 hvl HR hR5
                generalize mkT (64 :: a) = AT at *
                generalize mkT (escL true val.data.toList) = ES at *
                obtain ⟨R1, r1⟩ : ∃ R, Q ++ ⟨#[91]⟩ = R := ⟨_, rfl⟩
                obtain ⟨R2, r2⟩ : ∃ R, R1 ++ AT = R := ⟨_, rfl⟩
                obtain ⟨R3, r3⟩ : ∃ R, R2 ++ ⟨#[61, 34]⟩ = R := ⟨_, rfl⟩
                obtain ⟨R4, r4⟩ : ∃ R, R3 ++ ES = R := ⟨_, rfl⟩
                have r5 : R4 ++ ⟨#[34, 93]⟩ = R5 := by rw [← r4, ← r3, ← r2, ← r1]; exact HRR.out
                have q1 : R1.size = Q.size + 1 := by rw [← r1, ByteArray.size_append]; rfl
                have q2 : R2.size = R1.size + AT.size := by rw [← r2, ByteArray.size_append]
                have q3 : R3.size = R2.size + 2 := by rw [← r3, ByteArray.size_append]; rfl
                have q4 : R4.size = R3.size + ES.size := by rw [← r4, ByteArray.size_append]
                have hqz := HQZ.out
                have z1 : ¬ 9223372036854775807 < Q.size + 1 := by omega
                have z2 : ¬ 9223372036854775807 < R1.size + AT.size := by omega
                have z3 : ¬ 9223372036854775807 < R2.size + 2 := by omega
                have z4 : ¬ 9223372036854775807 < R3.size + ES.size := by omega
                have z5 : ¬ 9223372036854775807 < R4.size + 2 := by omega
                have y8 : w6.cell? ⟨w.heap.size, 8, none⟩ = some (.string val) := HX6.out.cell 8
                clear q1 q2 q3 q4 HRR hqz
                go_wp2_with fail
                refine (HES.out _).mono ?_
                rintro e w7 ⟨rfl, hb7⟩
                have HB7 := Lib.hid (HB6.out.trans (hb7.mono (by have := HB6.out.size; omega)))
                have HK7 := Lib.hid (HK6.out.trans HB6.out.size (KpT.of_below hb7))
                have HP7 := Lib.hid ((HP6.out.below hb7).sub (T' := T) fun k hk => .inl hk)
                clear hb7 HES y8
                go_wp2
                go_ret2
                have := PrOut.good (t := t1 ++ posT (m : Int) ++ testT a (escL true val.data.toList)) HB7.out (HK7.out.sub fun k hk => .inl hk) HP7.out
                rw [HR5.out] at this
                exact this
        · have hp1 : ¬ (0 : Int) < pos := hp0
          obtain ⟨Q, hQ⟩ : ∃ Q, mkT t1 = Q := ⟨_, rfl⟩
          have HQ : Hid (Q = mkT (t1 ++ posT pos)) := Lib.hid (by
            unfold posT
            rw [if_neg hp0, List.append_nil]
            exact hQ.symm)
          rw [hQ] at htz HQT ⊢
          have hqz : Q.size ≤ 60020 := by omega
          clear hQ hG2 HQT htz hp0
          go_upto_region 11 with fail
          clear x3
          have y5 : w2.cell? ⟨w.heap.size, 5, none⟩ = some (.bool by_) := HX2.out.cell 5
          have HQZ := Lib.hid hqz
          cases by_ with
          | false =>
            obtain rfl : .ok (t1 ++ posT pos, l1) = o := by have := HO.out; simpa using this
            have HPF := Lib.hid (HP2.out.sub (T' := T) fun k hk => .inl hk)
            clear HO
            go_wp2
            go_ret2
            have := PrOut.good (t := t1 ++ posT pos) HB2.out (HK2.out.sub fun k hk => .inl hk) HPF.out
            rw [← HQ.out] at this
            exact this
          | true =>
            have y6 : w2.cell? ⟨w.heap.size, 6, none⟩ = some (.string a1) := HX2.out.cell 6
            have y7 : w2.cell? ⟨w.heap.size, 7, none⟩ = some (.string a2) := HX2.out.cell 7
            have hat := sattr_any base g space a1 a2 l1 (fun k => T k ∨ k = w.heap.size) w2 HP2.out hT2 hspl (by omega) (by omega)
            have hanz := fun k (h : nameT (a1, a2) sE l1 = .error k) => nameT_nz h
            have hal := fun t l' (h : nameT (a1, a2) sE l1 = .ok (t, l')) => (nameT_len h hspl.1).1
            have HO2 : Hid ((match nameT (a1, a2) sE l1 with
              | .error e => .error e
              | .ok (a, l2) => if sgB val = false then .error 11 else .ok (t1 ++ posT pos ++ testT a (escL true val.data.toList), l2)) = o) := Lib.hid (by
                have := HO.out
                simp only [Bool.true_eq_false, if_false] at this
                exact this)
            unfold attrN at hat
            obtain ⟨on, hon⟩ : ∃ on, nameT (a1, a2) sE l1 = on := ⟨_, rfl⟩
            rw [hon] at hat hanz hal HO2
            have hge := hT2 w.heap.size (.inr rfl)
            clear HO hon
            go_wp2_with fail
            refine hat.mono ?_
            rintro e w5 ⟨hb5, hkp5, hge5, herr5, hok5⟩
            have HB5 := Lib.hid (HB2.out.trans hb5)
            have HK5 := Lib.hid (HK2.out.trans HB2.out.size hkp5)
            have HX5 : Hid (OwnB w.heap.size w w5 #[.int .i64 kind, .bool any, .string n1, .string n2, .int .i64 pos, .bool true, .string a1, .string a2, .string val] 46) := Lib.hid ⟨(hkp5 w.heap.size hge.1 (.inr rfl)).trans HX2.out.blk, Nat.le_refl _⟩
            clear hb5 hkp5 hat y5 y6 y7 HX2 HP2 HB2 HK2
            cases on with
            | error kk =>
              obtain rfl := herr5 kk rfl
              have hkn : (kk == 0) = false := by simpa using hanz kk rfl
              obtain rfl : .error kk = o := HO2.out
              clear herr5 hok5 hanz hal
              go_wp2
              go_ret2
              exact PrOut.bad HB5.out (HK5.out.sub fun k hk => .inl hk) hge5
            | ok x =>
              obtain ⟨a, l2⟩ := x
              obtain ⟨rfl, hP5⟩ := hok5 (64 :: a) l2 rfl
              have hal := hal a l2 rfl
              have HP5 := Lib.hid hP5
              have y8 : w5.cell? ⟨w.heap.size, 8, none⟩ = some (.string val) := HX5.out.cell 8
              have hsg := fun v => ssigns_any val v (by omega)
              have HO3 : Hid ((if sgB val = false then .error 11 else .ok (t1 ++ posT pos ++ testT a (escL true val.data.toList), l2)) = o) := Lib.hid HO2.out
              obtain ⟨sg, hsgv⟩ : ∃ b, sgB val = b := ⟨_, rfl⟩
              rw [hsgv] at hsg HO3
              have haz : (mkT (64 :: a)).size ≤ 60020 := by rw [mkT_size]; simp only [List.length_cons] at hal ⊢; omega
              clear herr5 hok5 hanz hP5 hge5 HO2 hsgv hal
              go_wp2_with fail
              refine (hsg _).mono ?_
              rintro e w6 ⟨rfl, hb6⟩
              have HB6 := Lib.hid (HB5.out.trans (hb6.mono (by have := HB5.out.size; omega)))
              have HK6 := Lib.hid (HK5.out.trans HB5.out.size (KpT.of_below hb6))
              have HX6 := Lib.hid (HX5.out.next hb6)
              have HP6 := Lib.hid (HP5.out.below hb6)
              clear hb6 hsg y8 HX5 HP5 HB5 HK5
              cases sg with
              | false =>
                obtain rfl : .error 11 = o := HO3.out
                have HGG := Lib.hid HP6.out
                clear HO3
                go_wp2
                go_ret2
                exact PrOut.bad HB6.out (HK6.out.sub fun k hk => .inl hk) (by obtain ⟨v, h, _⟩ := HGG.out; exact ⟨v, h⟩)
              | true =>
                obtain rfl : .ok (t1 ++ posT pos ++ testT a (escL true val.data.toList), l2) = o := HO3.out
                have hes := fun v => Escape_any val true v (by omega)
                have hel2 := (escL_len true val.data.toList).2
                have hvl : val.data.toList.length = val.size := by simp
                have hez : (mkT (escL true val.data.toList)).size ≤ 10 * 60000 := by rw [mkT_size]; omega
                have HR : Hid (((((Q ++ ⟨#[91]⟩) ++ mkT (64 :: a)) ++ ⟨#[61, 34]⟩) ++ mkT (escL true val.data.toList)) ++ ⟨#[34, 93]⟩ = mkT (t1 ++ posT pos ++ testT a (escL true val.data.toList))) := Lib.hid (by
                  rw [HQ.out, show (⟨#[91]⟩ : ByteArray) = mkT [91] from rfl, show (⟨#[61, 34]⟩ : ByteArray) = mkT [61, 34] from rfl, show (⟨#[34, 93]⟩ : ByteArray) = mkT [34, 93] from rfl, mkT_app, mkT_app, mkT_app, mkT_app, mkT_app]
                  unfold testT
                  simp)
                have hes : ∀ v, Calls Tryz.prog 109 #[.string val, .bool true] v fun e w' => e = .returned (.string (mkT (escL true val.data.toList))) ∧ Below v.heap.size v w' := hes
                have HES := Lib.hid hes
                obtain ⟨R5, hR5⟩ : ∃ R5, mkT (t1 ++ posT pos ++ testT a (escL true val.data.toList)) = R5 := ⟨_, rfl⟩
                have HR5 := Lib.hid hR5
                have HRR : Hid (((((Q ++ ⟨#[91]⟩) ++ mkT (64 :: a)) ++ ⟨#[61, 34]⟩) ++ mkT (escL true val.data.toList)) ++ ⟨#[34, 93]⟩ = R5) := Lib.hid (HR.out.trans hR5)
                clear HO3 hes hel2 hvl HR hR5
                generalize mkT (64 :: a) = AT at *
                generalize mkT (escL true val.data.toList) = ES at *
                obtain ⟨R1, r1⟩ : ∃ R, Q ++ ⟨#[91]⟩ = R := ⟨_, rfl⟩
                obtain ⟨R2, r2⟩ : ∃ R, R1 ++ AT = R := ⟨_, rfl⟩
                obtain ⟨R3, r3⟩ : ∃ R, R2 ++ ⟨#[61, 34]⟩ = R := ⟨_, rfl⟩
                obtain ⟨R4, r4⟩ : ∃ R, R3 ++ ES = R := ⟨_, rfl⟩
                have r5 : R4 ++ ⟨#[34, 93]⟩ = R5 := by rw [← r4, ← r3, ← r2, ← r1]; exact HRR.out
                have q1 : R1.size = Q.size + 1 := by rw [← r1, ByteArray.size_append]; rfl
                have q2 : R2.size = R1.size + AT.size := by rw [← r2, ByteArray.size_append]
                have q3 : R3.size = R2.size + 2 := by rw [← r3, ByteArray.size_append]; rfl
                have q4 : R4.size = R3.size + ES.size := by rw [← r4, ByteArray.size_append]
                have hqz := HQZ.out
                have z1 : ¬ 9223372036854775807 < Q.size + 1 := by omega
                have z2 : ¬ 9223372036854775807 < R1.size + AT.size := by omega
                have z3 : ¬ 9223372036854775807 < R2.size + 2 := by omega
                have z4 : ¬ 9223372036854775807 < R3.size + ES.size := by omega
                have z5 : ¬ 9223372036854775807 < R4.size + 2 := by omega
                have y8 : w6.cell? ⟨w.heap.size, 8, none⟩ = some (.string val) := HX6.out.cell 8
                clear q1 q2 q3 q4 HRR hqz
                go_wp2_with fail
                refine (HES.out _).mono ?_
                rintro e w7 ⟨rfl, hb7⟩
                have HB7 := Lib.hid (HB6.out.trans (hb7.mono (by have := HB6.out.size; omega)))
                have HK7 := Lib.hid (HK6.out.trans HB6.out.size (KpT.of_below hb7))
                have HP7 := Lib.hid ((HP6.out.below hb7).sub (T' := T) fun k hk => .inl hk)
                clear hb7 HES y8
                go_wp2
                go_ret2
                have := PrOut.good (t := t1 ++ posT pos ++ testT a (escL true val.data.toList)) HB7.out (HK7.out.sub fun k hk => .inl hk) HP7.out
                rw [HR5.out] at this
                exact this
end Go.Proofs.YtbdamneophbnnaaGreatDoor
namespace Wb
theorem query_len6 : ∀ (sp : List ByteArray) (k : Nat), k + sp.length ≤ 32 → (∀ s ∈ sp, s.size ≤ 60000) → (queryT k sp).length ≤ sp.length * 60020
  | [], _, _, _ => by simp [queryT]
  | s :: sp, k, hk, h => by
    rw [List.length_cons] at hk
    have h1 := query_len6 sp (k + 1) (by omega) fun x hx => h x (by simp [hx])
    have h2 := num_len ⟨k, by omega⟩
    have h3 := h s (by simp)
    have hz : s.data.toList.length = s.size := by simp
    have h4 : sBindK.length = 6 := rfl
    simp only at h2
    rw [queryT]
    simp only [List.length_append, List.length_cons, hz, h4]
    omega
end Wb
namespace Go.Proofs.YtbdamneophbnnaaGreatDoor
open Go.RowKit Wb
set_option maxHeartbeats 8000000 in
set_option maxRecDepth 100000 in
theorem squery_any (base g : Nat) (space : ByteArray) (sp : List ByteArray) (T : Nat → Prop) (w : World) (hP : PAt base g space sp T w) (hsp : sp.length ≤ 16) (hz : ∀ s ∈ sp, s.size ≤ 60000) :
    Calls Tryz.prog 79 #[.pointer (some ⟨g, 0, none⟩)] w fun e w' => e = .returned (.string (mkT (queryT 0 sp))) ∧ Below w.heap.size w w' := by
  have hf0 := Lib.fresh_isBuilder 89 5 w
  have hb0 := (Below.refl w.heap.size w).alloc (Nat.le_refl _) (.cells #[.pointer none, .slice none 0 0] 89)
  obtain ⟨v, hg, hown, hbg, hvg, hvT⟩ := hP
  obtain ⟨A, c, rfl⟩ := own_shape hown
  have hs1 : Sl1 w A sp := Sl.of_own hown
  have HSL : Hid (∀ u, Below w.heap.size w u → Sl1 u A sp) := Lib.hid fun u hu => hs1.below hu
  have hg0 := still_block hg hb0
  clear hown hvT hvg hg hs1
  have HZ := Lib.hid hz
  clear hz
  go_enter Tryz.func79, Tryz.ntmps79
  go_upto_region 2 with fail
  generalize w.alloc (.cells #[.pointer none, .slice none 0 0] 89) = w0 at *
  have p1 : w0.cell? ⟨g, 1, none⟩ = some (.slice A sp.length c) := blk_cell hg0 1
  go_wp2
  clear p1 hg0
  go_loopw [4, 5, 11] (fun _ _ v11 wr => ∃ j : Nat, j ≤ sp.length ∧ v11 = .int .i64 j ∧ Hid (Lib.IsBuilder 89 5 w.heap.size w.heap.size (Lib.byteCells (queryT 0 (sp.take j))) wr) ∧ Hid (Below w.heap.size w wr)) (fun _ _ v11 _ => sp.length - (intOf v11).toNat)
  case atStart => exact ⟨0, by omega, rfl, Lib.hid (by rw [List.take_zero]; exact hf0), Lib.hid hb0⟩
  case round =>
    clear hf0 hb0
    obtain ⟨j, hj, rfl, HF, HB⟩ := hrel
    have hws := HB.out.size
    by_cases h0 : j < sp.length
    · obtain ⟨s, hs⟩ : ∃ s, sp[j]? = some s := ⟨sp[j], List.getElem?_eq_getElem h0⟩
      have hsz := HZ.out s (List.mem_of_getElem? hs)
      obtain ⟨ad, rfl, had, cp⟩ := (HSL.out wr HB.out).at_ hs
      have hql : (queryT 0 (sp.take j)).length ≤ 1000000 := by
        have := query_len6 (sp.take j) 0 (by rw [List.length_take]; omega) fun x hx => HZ.out x (List.mem_of_mem_take hx)
        rw [List.length_take] at this
        omega
      have hq := query_more sp 0 j s hs
      rw [Nat.zero_add] at hq
      have hnu := fun u => snumbered_any j (by omega) u
      have hnz : (mkT (numT j)).size ≤ 8 := by
        rw [mkT_size]
        exact Nat.le_trans (num_len ⟨j, by omega⟩) (by omega)
      have HNL : Hid ((mkT (numT j)).data.toList = numT j) := Lib.hid (mkT_list _)
      have HQ := Lib.hid hq
      clear hq hs
      generalize queryT 0 (sp.take j) = acc at *
      obtain ⟨D, hD⟩ : ∃ D, mkT (numT j) = D := ⟨_, rfl⟩
      rw [hD] at hnz HNL
      simp only [hD] at hnu
      obtain ⟨M1, m1⟩ : ∃ M, (⟨#[120, 109, 108, 110, 115, 40]⟩ : ByteArray) ++ D = M := ⟨_, rfl⟩
      obtain ⟨M2, m2⟩ : ∃ M, M1 ++ ⟨#[61]⟩ = M := ⟨_, rfl⟩
      have q1 : M1.size = 6 + D.size := by rw [← m1, ByteArray.size_append]; rfl
      have q2 : M2.size = M1.size + 1 := by rw [← m2, ByteArray.size_append]; rfl
      have z1 : ¬ 9223372036854775807 < 6 + D.size := by omega
      have z2 : ¬ 9223372036854775807 < M1.size + 1 := by omega
      have HM : Hid (M2.data.toList = sBindK ++ numT j ++ [61]) := Lib.hid (by
        rw [← m2, ← m1, ByteArray.data_append, ByteArray.data_append, Array.toList_append, Array.toList_append, HNL.out]
        rfl)
      have k1 := qwrite_any w.heap.size w.heap.size (Lib.byteCells acc) M2 wr HF.out (by rw [Lib.byteCells_length]; omega) hws
      have hj0 : (0 : Int) ≤ (j : Int) := by omega
      have hm2s : M2.size ≤ 100 := by omega
      clear q1 hD HF hnz
      go_wp2_with fail
      refine (hnu _).mono ?_
      rintro e w1 ⟨rfl, rfl⟩
      clear hnu
      go_wp2_with fail
      refine k1.mono ?_
      rintro e w2 ⟨⟨v2, rfl⟩, hF2, hb2⟩
      rw [Lib.strCells_eq, ← Lib.byteCells_append, HM.out] at hF2
      have HB2 := Lib.hid (HB.out.trans hb2)
      have hws2 := HB2.out.size
      have k2 := qwrite_any w.heap.size w.heap.size _ s w2 hF2 (by rw [Lib.byteCells_length, List.length_append, ← HM.out, ← Lib.size_eq]; omega) hws2
      clear k1 hF2 hb2 m1 m2 z1 z2
      go_wp2_with fail
      refine k2.mono ?_
      rintro e w3 ⟨⟨v3, rfl⟩, hF3, hb3⟩
      rw [Lib.strCells_eq, ← Lib.byteCells_append] at hF3
      have HB3 := Lib.hid (HB2.out.trans hb3)
      have hws3 := HB3.out.size
      have hsl : s.data.toList.length = s.size := by simp
      have k3 := qwrite_any w.heap.size w.heap.size _ ⟨#[41]⟩ w3 hF3 (by
        rw [Lib.byteCells_length, List.length_append, List.length_append, ← HM.out, ← Lib.size_eq, hsl]
        have : (⟨#[41]⟩ : ByteArray).size = 1 := rfl
        omega) hws3
      clear k2 hF3 hb3
      go_wp2_with fail
      refine k3.mono ?_
      rintro e w4 ⟨⟨v4, rfl⟩, hF4, hb4⟩
      rw [Lib.strCells_eq, ← Lib.byteCells_append] at hF4
      have HB4 := Lib.hid (HB3.out.trans hb4)
      have HF4 : Hid (Lib.IsBuilder 89 5 w.heap.size w.heap.size (Lib.byteCells (queryT 0 (sp.take (j + 1)))) w4) := Lib.hid (by
        rw [HQ.out]
        have e : acc ++ (sBindK ++ (numT j ++ 61 :: s.data.toList) ++ [41]) = acc ++ (sBindK ++ numT j ++ [61]) ++ s.data.toList ++ (⟨#[41]⟩ : ByteArray).data.toList := by simp
        rw [e]
        exact hF4)
      have hwr : IntKind.i64.wrap ((j : Int) + 1) = (j : Int) + 1 := by rw [IntKind.wrap_i64]; omega
      clear k3 hF4 hb4
      go_wp2
      go_roundw
      case rel => exact ⟨j + 1, by omega, by go_num, HF4, HB4⟩
      case measure => simp [intOf]; omega
    · have hend : j = sp.length := by omega
      have hF := HF.out
      rw [hend, List.take_length] at hF
      have k5 := Tryz.Builder_String_any w.heap.size w.heap.size _ wr hF hws
      have hj0 : ¬ (j : Int) < (sp.length : Int) := by omega
      clear hF HF hend h0
      go_wp2_with fail
      refine k5.mono ?_
      rintro e w2 ⟨rfl, hb2⟩
      go_wp2
      go_ret
      exact ⟨rfl, HB.out.trans hb2⟩
end Go.Proofs.YtbdamneophbnnaaGreatDoor
namespace Wb
open Go Go.Proofs.YtbdamneophbnnaaGreatDoor
theorem idx_lib {s t : ByteArray} {r : Int} (ht : 0 < t.size) (h : IdxIs s 0 t r) : Lib.index s.data.toList t.data.toList = r := by
  have hs : s.data.toList.length = s.size := by simp
  have htl : t.data.toList.length = t.size := by simp
  have hne : t.data.toList ≠ [] := fun e => by rw [e] at htl; simp at htl; omega
  have key : ∀ i, i + t.size ≤ s.size → Lib.occAt s.data.toList t.data.toList i = begAt s i t := fun i hi => by
    rw [Lib.occAt_iff_take _ _ _ (by omega), htl, Bool.eq_iff_iff, begAt_L, beq_iff_eq]
  have far : ∀ i, s.size < i + t.size → Lib.occAt s.data.toList t.data.toList i = false := fun i hi => by
    cases ho : Lib.occAt s.data.toList t.data.toList i with
    | false => rfl
    | true =>
      rcases Lib.occAt_room ho with h | h
      · omega
      · exact absurd h hne
  rcases h with ⟨rfl, h2⟩ | ⟨k, rfl, _, hk, hb, hn⟩
  · refine Lib.index_none fun j _ => ?_
    by_cases hj : j + t.size ≤ s.size
    · rw [key j hj, h2 j (by omega) hj]
    · exact far j (by omega)
  · refine Lib.index_first (by omega) (by rw [key k hk, hb]) fun j hj => ?_
    rw [key j (by omega), hn j (by omega) hj]
theorem ext_take (s : ByteArray) (k : Nat) : (s.extract 0 k).data.toList = s.data.toList.take k := by simp
theorem ext_drop11 (s : ByteArray) (k : Nat) : (s.extract k s.size).data.toList = s.data.toList.drop k := by
  have : s.data.toList.length = s.size := by simp
  simp [List.take_of_length_le]
theorem cut_idx {s t : ByteArray} {k : Nat} (ht : 0 < t.size) (h : IdxIs s 0 t (k : Int)) : k + t.size ≤ s.size ∧ Lib.cut s.data.toList t.data.toList = ((s.extract 0 k).data.toList, (s.extract (k + t.size) s.size).data.toList, true) := by
  have hi := idx_lib ht h
  have htl : t.data.toList.length = t.size := by simp
  refine ⟨?_, ?_⟩
  · rcases h with ⟨h, _⟩ | ⟨k', h, _, hk, _⟩
    · omega
    · have : k = k' := by omega
      subst this
      exact hk
  · unfold Lib.cut
    rw [hi, if_pos (by omega), ext_take, ext_drop11, htl]
    rfl
theorem cut_idx_no {s t : ByteArray} {r : Int} (ht : 0 < t.size) (h : IdxIs s 0 t r) (hr : r < 0) : Lib.cut s.data.toList t.data.toList = (s.data.toList, [], false) := by
  unfold Lib.cut
  rw [idx_lib ht h, if_neg (by omega)]
theorem uri_ref {s h q doc sel : List UInt8} {asked node : Bool} (h1 : Lib.cut s [63] = (h, q, asked)) (h2 : Lib.cut h ssl11 = (doc, sel, node)) (hl : ¬ 512 < s.length) :
    uri11 s = match frm11 (pieceF 47 doc) with
      | none => .error 4
      | some (u, x, d) => if (asked && !node) = true then .error 4
        else if u ∉ usg11 then .error 34
        else if (usr11 x).2 ≠ 0 then .error (usr11 x).2
        else if (decP d).2 ≠ 0 then .error (decP d).2
        else if ok11 x (usr11 x).1 (decP d).1 = false then .error 4
        else if node = false then .ok ⟨mkT u, mkT (usr11 x).1, mkT (decP d).1, false, [], sE, []⟩
        else if (bindsP q).2 ≠ 0 then .error (bindsP q).2
        else match parseS sel ⟨(spc11 u).toArray⟩ (bindsP q).1 with
          | .error e => .error e
          | .ok l => .ok ⟨mkT u, mkT (usr11 x).1, mkT (decP d).1, true, l, mkT sel, (bindsP q).1⟩ := by
  have hq := que_cut s
  have hs := sel_cut h
  have hq0 := cut_no (s := s) (p := [63])
  rw [h1] at hq hq0
  rw [h2] at hs
  simp only at hq hs hq0
  unfold uri11
  rw [hq]
  simp only
  rw [hs]
  simp only
  rw [if_neg hl]
  cases hf : frm11 (pieceF 47 doc) with
  | none => rfl
  | some t =>
    obtain ⟨u, x, d⟩ := t
    simp only
    cases node with
    | false => cases asked <;> simp [mkT]
    | true =>
      have hg : (if asked = true then some q else none).getD [] = q := by
        cases asked with
        | true => rfl
        | false => rw [hq0 rfl]; rfl
      simp only [if_true, hg]
      simp [mkT] <;> (cases parseS sel ⟨(spc11 u).toArray⟩ (bindsP q).1 <;> rfl)
end Wb
