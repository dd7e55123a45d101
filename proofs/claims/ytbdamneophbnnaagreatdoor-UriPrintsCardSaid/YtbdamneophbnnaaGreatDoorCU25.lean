/- UoA UdB UdC UeC. -/
import Derived.Test.YtbdamneophbnnaaGreatDoorCU13
import Derived.Test.YtbdamneophbnnaaGreatDoorCU20
import Derived.Test.YtbdamneophbnnaaGreatDoorCU21
import Derived.Test.YtbdamneophbnnaaGreatDoorCU24
namespace Go.Proofs.YtbdamneophbnnaaGreatDoor
open Go.RowKit Wb Go.Deep Go.ChangeShapes Go.WideShapes
def whV (v : WhV) (A : Option Addr) (ca : Nat) (C : Option Addr) (cc : Nat) : Value := .agg #[.string v.usage, .string v.user, .string v.doc, .bool v.node, .slice A v.steps.length ca, .string v.raw, .slice C v.binds.length cc]
set_option maxRecDepth 100000 in
theorem open_where {H : Type} {enc : TypeId × Value → H} {w : World} {base : Nat} {spare : Nat → Bool} {held : Bool} {r : Reach} {b0 : Nat} {v : Value} {d : DataW H} {p : List MemPlace} (hv : Value.okWide Tryz.prog w r b0 26 v) (h : DataW.Trod enc Tryz.prog w base spare held 26 v d p) :
    ∃ (x : WhV) (A : Option Addr) (ca : Nat) (C : Option Addr) (cc : Nat), v = whV x A ca C cc ∧ Sl9 w A x.steps ∧ Sl2 w C x.binds := by
  have T := st_types
  obtain ⟨f0, f1, f2, f3, f4, f5, f6, uW, e0t, e1t, e2t, e3t, e4t, e5t, e6t, o0, o1, o2, o3, o4, o5, o6⟩ : ∃ f0 f1 f2 f3 f4 f5 f6 : Field, Tryz.prog.underlying 26 = some (.struct #[f0, f1, f2, f3, f4, f5, f6]) ∧ f0.type = 9 ∧ f1.type = 9 ∧ f2.type = 9 ∧ f3.type = 4 ∧ f4.type = 23 ∧ f5.type = 9 ∧ f6.type = 24 ∧ f0.offset = 0 ∧ f1.offset = 1 ∧ f2.offset = 2 ∧ f3.offset = 3 ∧ f4.offset = 4 ∧ f5.offset = 5 ∧ f6.offset = 6 := ⟨_, _, _, _, _, _, _, Tryz.underlying26, rfl, rfl, rfl, rfl, rfl, rfl, rfl, rfl, rfl, rfl, rfl, rfl, rfl, rfl⟩
  have uB := Tryz.underlying24
  have cW : Tryz.prog.cellsOf 26 = 7 := by kernel_rfl
  have cSE : Tryz.prog.cellsOf 23 = 1 := by kernel_rfl
  have cSB : Tryz.prog.cellsOf 24 = 1 := by kernel_rfl
  obtain ⟨cs, rfl, hsz⟩ := okWide_struct uW hv
  obtain ⟨fuel, hf⟩ := h
  have hf' : DataW.trod enc Tryz.prog w base spare held fuel 26 cs.toList = some (d, p) := hf
  obtain ⟨xs, n, _, _, hl, hx, hg⟩ := DataW.trod_struct uW hf'
  rw [cW] at hl
  have h0 := hg 0 f0 rfl
  have h1 := hg 1 f1 rfl
  have h2 := hg 2 f2 rfl
  have h3 := hg 3 f3 rfl
  have h4 := hg 4 f4 rfl
  have h5 := hg 5 f5 rfl
  have h6 := hg 6 f6 rfl
  rw [e0t, o0, T.strC] at h0
  rw [e1t, o1, T.strC] at h1
  rw [e2t, o2, T.strC] at h2
  rw [e3t, o3, T.boolC] at h3
  rw [e4t, o4, cSE] at h4
  rw [e5t, o5, T.strC] at h5
  rw [e6t, o6, cSB] at h6
  obtain ⟨c0, c1, c2, c3, c4, c5, c6, hcs⟩ : ∃ c0 c1 c2 c3 c4 c5 c6, cs.toList = [c0, c1, c2, c3, c4, c5, c6] := by
    match hq : cs.toList, hl with
    | [c0, c1, c2, c3, c4, c5, c6], _ => exact ⟨c0, c1, c2, c3, c4, c5, c6, rfl⟩
  rw [hcs] at h0 h1 h2 h3 h4 h5 h6
  match xs, hx with
  | [y0, y1, y2, y3, y4, y5, y6], _ =>
    obtain ⟨a0, e0, _⟩ := DataW.trod_string T.str (show DataW.trod enc Tryz.prog w base spare held n 9 [c0] = some y0 from h0)
    obtain ⟨a1, e1, _⟩ := DataW.trod_string T.str (show DataW.trod enc Tryz.prog w base spare held n 9 [c1] = some y1 from h1)
    obtain ⟨a2, e2, _⟩ := DataW.trod_string T.str (show DataW.trod enc Tryz.prog w base spare held n 9 [c2] = some y2 from h2)
    obtain ⟨a3, e3, _⟩ := DataW.trod_bool T.bool (show DataW.trod enc Tryz.prog w base spare held n 4 [c3] = some y3 from h3)
    obtain ⟨a5, e5, _⟩ := DataW.trod_string T.str (show DataW.trod enc Tryz.prog w base spare held n 9 [c5] = some y5 from h5)
    have h4' : DataW.trod enc Tryz.prog w base spare held n 23 [c4] = some y4 := h4
    have h6' : DataW.trod enc Tryz.prog w base spare held n 24 [c6] = some y6 := h6
    simp only [List.cons.injEq, and_true] at e0 e1 e2 e3 e5
    obtain ⟨A, la, ca, e4⟩ : ∃ A la ca, c4 = .slice A la ca := by
      rcases DataW.trod_slice T.steps h4' with ⟨hc, _⟩ | ⟨_, _, _, _, _, _, _, hc, _⟩
      · simp only [List.cons.injEq, and_true] at hc
        exact ⟨_, _, _, hc⟩
      · simp only [List.cons.injEq, and_true] at hc
        exact ⟨_, _, _, hc⟩
    obtain ⟨C, lc, cc, e6⟩ : ∃ A la ca, c6 = .slice A la ca := by
      rcases DataW.trod_slice uB h6' with ⟨hc, _⟩ | ⟨_, _, _, _, _, _, _, hc, _⟩
      · simp only [List.cons.injEq, and_true] at hc
        exact ⟨_, _, _, hc⟩
      · simp only [List.cons.injEq, and_true] at hc
        exact ⟨_, _, _, hc⟩
    subst e4 e6
    obtain ⟨l, rfl, hA⟩ := sl9_of_trod T (A := A) (len := la) (cap := ca) (d := y4.1) (p := y4.2) ⟨n, h4'⟩
    obtain ⟨m, rfl, hC⟩ := Wb.sl2_of_trod uB Tryz.underlying80 (by kernel_rfl) rfl rfl (by kernel_rfl) (by kernel_rfl) T.str T.str (A := C) (len := lc) (cap := cc) (d := y6.1) (p := y6.2) ⟨n, h6'⟩
    refine ⟨⟨a0, a1, a2, a3, l, a5, m⟩, A, ca, C, cc, ?_, hA, hC⟩
    rw [e0, e1, e2, e3, e5] at hcs
    cases cs
    simp_all [whV]
end Go.Proofs.YtbdamneophbnnaaGreatDoor
namespace Wb
open Go
theorem uri_nz {s : List UInt8} {k : Int} (h : uri11 s = .error k) : k ≠ 0 := by
  unfold uri11 at h
  split at h
  · injection h with h; subst h; decide
  split at h
  · injection h with h; subst h; decide
  split at h
  · injection h with h; subst h; decide
  split at h
  · injection h with h; subst h; decide
  split at h
  · rename_i hx
    injection h with h; subst h; exact hx
  split at h
  · rename_i hx
    injection h with h; subst h; exact hx
  split at h
  · injection h with h; subst h; decide
  split at h
  · cases h
  split at h
  · rename_i hx
    injection h with h; subst h; exact hx
  split at h
  · rename_i hx
    injection h with h; subst h; exact parse_nz hx
  · cases h
theorem prt_nz {w : WhV} {k : Int} (h : prt11 w = .error k) : k ≠ 0 := by
  have hf : ∀ {S : List UInt8}, fin11 S = .error k → k ≠ 0 := fun {S} h => by
    unfold fin11 at h
    split at h
    · injection h with h; subst h; decide
    · cases h
  unfold prt11 at h
  split at h
  · injection h with h; subst h; decide
  split at h
  · injection h with h; subst h; decide
  split at h
  · split at h
    · rename_i hx
      injection h with h; subst h; exact print_nz hx
    · exact hf h
  · exact hf h
theorem prt_len {w : WhV} {s : List UInt8} (h : prt11 w = .ok s) : s.length ≤ 512 := by
  have hf : ∀ {S : List UInt8}, fin11 S = .ok s → s.length ≤ 512 := fun {S} h => by
    unfold fin11 at h
    split at h
    · cases h
    · injection h with h; subst h; omega
  unfold prt11 at h
  split at h
  · cases h
  split at h
  · cases h
  split at h
  · split at h
    · cases h
    · exact hf h
  · exact hf h
theorem que_len (s : List UInt8) : (que11 s).1.length ≤ s.length ∧ ((que11 s).2.getD []).length ≤ s.length := by
  unfold que11
  cases h : cutC 63 s with
  | none => simp
  | some x =>
    obtain ⟨a, b⟩ := x
    obtain ⟨rfl, _⟩ := cutC_some h
    simp only [Option.getD_some, List.length_append, List.length_cons]
    omega
theorem sel_len {s t : List UInt8} (h : (sel11 s).2 = some t) : t.length ≤ s.length := by
  unfold sel11 at h
  split at h
  · injection h with h
    rw [← h, List.length_drop]
    omega
  · cases h
theorem spc_len {u : List UInt8} (h : u ∈ usg11) : (spc11 u).length ≤ 64 ∧ u.length ≤ 64 := by
  have : ∀ u ∈ usg11, (nsP11 ++ u).length ≤ 64 ∧ u.length ≤ 64 := by decide
  unfold spc11
  rw [if_pos h]
  exact this u h
theorem uri_size {s : List UInt8} {v : WhV} (h : uri11 s = .ok v) : v.usage.size ≤ 64 ∧ v.user.size ≤ 64 ∧ v.doc.size ≤ 64 ∧ SzOK v.steps ∧ v.binds.length ≤ 16 := by
  unfold uri11 at h
  split at h
  · cases h
  rename_i hl
  split at h
  · cases h
  split at h
  · cases h
  split at h
  · cases h
  rename_i hu
  split at h
  · cases h
  split at h
  · cases h
  split at h
  · cases h
  rename_i hok
  have hu := spc_len (Decidable.byContradiction hu)
  rw [Bool.not_eq_false] at hok
  unfold ok11 at hok
  simp only [Bool.and_eq_true, decide_eq_true_eq] at hok
  obtain ⟨⟨⟨⟨⟨b1, b2⟩, b3⟩, b4⟩, b5⟩, b6⟩ := hok
  split at h
  · injection h with h
    subst h
    refine ⟨?_, ?_, ?_, SzOK.nil, Nat.zero_le _⟩
    · show _root_.Array.size _ ≤ 64
      rw [List.size_toArray]; exact hu.2
    · show _root_.Array.size _ ≤ 64
      rw [List.size_toArray]; exact b3
    · show _root_.Array.size _ ≤ 64
      rw [List.size_toArray]; exact b2
  rename_i t ht
  split at h
  · cases h
  rename_i hb
  split at h
  · cases h
  rename_i l hp
  injection h with h
  subst h
  have hb : (bindsP ((que11 s).2.getD [])).2 = 0 := Decidable.byContradiction hb
  obtain ⟨m, hm⟩ : ∃ m, bindsP ((que11 s).2.getD []) = (m, 0) := ⟨(bindsP ((que11 s).2.getD [])).1, by rw [← hb]⟩
  have hql := que_len s
  obtain ⟨c1, c2⟩ := binds_size hm
  rw [hm] at hp ⊢
  have htl := sel_len ht
  obtain ⟨a1, a2, a3⟩ := parse_size (M := 600) (by omega) (by show _root_.Array.size _ ≤ _; rw [List.size_toArray]; omega) (fun x hx => by have := (c2 x hx).2; omega) hp
  refine ⟨?_, ?_, ?_, (⟨by omega, by omega, fun x hx => ?_⟩ : SzOK l), c1⟩
  · show _root_.Array.size _ ≤ 64
    rw [List.size_toArray]; exact hu.2
  · show _root_.Array.size _ ≤ 64
    rw [List.size_toArray]; exact b3
  · show _root_.Array.size _ ≤ 64
    rw [List.size_toArray]; exact b2
  · have := a3 x hx
    omega
def awS1 : List UInt8 := [47, 114, 101, 115, 111, 117, 114, 99, 101, 45, 108, 105, 115, 116, 115, 47, 117, 115, 101, 114, 115, 47, 115, 105, 112, 58, 97, 64, 120, 47, 105, 110, 100, 101, 120, 47, 126, 126, 47, 114, 101, 115, 111, 117, 114, 99, 101, 45, 108, 105, 115, 116, 115, 47, 108, 105, 115, 116, 37, 53, 98, 49, 37, 53, 100]
def awSp : ByteArray := ⟨(spc11 [114, 101, 115, 111, 117, 114, 99, 101, 45, 108, 105, 115, 116, 115]).toArray⟩
def awW1 : WhV := ⟨⟨#[114, 101, 115, 111, 117, 114, 99, 101, 45, 108, 105, 115, 116, 115]⟩, ⟨#[115, 105, 112, 58, 97, 64, 120]⟩, ⟨#[105, 110, 100, 101, 120]⟩, true, [⟨1, false, (awSp, ⟨#[114, 101, 115, 111, 117, 114, 99, 101, 45, 108, 105, 115, 116, 115]⟩), 0, false, nE, sE⟩, ⟨1, false, (awSp, ⟨#[108, 105, 115, 116]⟩), 1, false, nE, sE⟩], ⟨#[114, 101, 115, 111, 117, 114, 99, 101, 45, 108, 105, 115, 116, 115, 47, 108, 105, 115, 116, 37, 53, 98, 49, 37, 53, 100]⟩, []⟩
theorem awU1 : uri11 awS1 = .ok awW1 := by kernel_rfl
theorem awU2 : uri11 [47, 120, 47, 117, 115, 101, 114, 115, 47, 97, 47, 98] = .error 34 := by kernel_rfl
theorem awU3 : prt11 ⟨⟨#[112, 114, 101, 115, 45, 114, 117, 108, 101, 115]⟩, ⟨#[]⟩, ⟨#[105, 110, 100, 101, 120]⟩, false, [], ⟨#[]⟩, []⟩ = .ok [47, 112, 114, 101, 115, 45, 114, 117, 108, 101, 115, 47, 103, 108, 111, 98, 97, 108, 47, 105, 110, 100, 101, 120] := by kernel_rfl
end Wb
namespace Wb
theorem br_ne {s : List UInt8} {m : List Pr} (h : BR s m) : ∀ x ∈ m, x.1.size ≠ 0 := by
  induction h with
  | done _ => intro x hx; simp at hx
  | more hne h hb hr ih =>
    obtain ⟨_, _, hn, _⟩ := bind1_len h
    have hne := (nm_bytes hn).1
    intro x hx
    rcases List.mem_cons.1 hx with rfl | hx
    · show _root_.Array.size _ ≠ 0
      rw [List.size_toArray]
      exact fun e => hne (List.length_eq_zero_iff.1 e)
    · exact ih x hx
theorem binds_ne {q : List UInt8} {m : List Pr} (h : bindsP q = (m, 0)) : ∀ x ∈ m, x.1.size ≠ 0 := by
  obtain ⟨s, _, hb, _⟩ := bindsP_ok h
  exact br_ne hb
theorem uri_ne {s : List UInt8} {v : WhV} (h : uri11 s = .ok v) : ∀ x ∈ v.binds, x.1.size ≠ 0 := by
  unfold uri11 at h
  split at h
  · cases h
  split at h
  · cases h
  split at h
  · cases h
  split at h
  · cases h
  split at h
  · cases h
  split at h
  · cases h
  split at h
  · cases h
  split at h
  · injection h with h
    subst h
    intro x hx
    simp at hx
  split at h
  · cases h
  rename_i hb
  split at h
  · cases h
  injection h with h
  subst h
  have hb : (bindsP ((que11 s).2.getD [])).2 = 0 := Decidable.byContradiction hb
  exact binds_ne (q := (que11 s).2.getD []) (by rw [← hb])
end Wb
namespace Wb
theorem app_l (a b : ByteArray) : (a ++ b).data.toList = a.data.toList ++ b.data.toList := by simp
theorem fin_at {X : ByteArray} {s : List UInt8} (h : X.data.toList = s) (hx : X.size ≤ 512) : fin11 s = .ok X.data.toList := by
  have : X.data.toList.length = X.size := by simp
  unfold fin11
  rw [if_neg (by rw [← h, this]; omega), h]
theorem fin_no {X : ByteArray} {s : List UInt8} (h : X.data.toList = s) (hx : 512 < X.size) : fin11 s = .error 3 := by
  have : X.data.toList.length = X.size := by simp
  unfold fin11
  rw [if_pos (by rw [← h, this]; omega)]
end Wb
namespace Go.Proofs.YtbdamneophbnnaaGreatDoor
open Go.RowKit Wb
theorem P11Out.good {o : Except Int (List UInt8)} {X : ByteArray} {w w' : World} (h : o = .ok X.data.toList) (hb : Below w.heap.size w w') : P11Out o w (.returned (.tuple #[.string X, .int .i64 0])) w' := by
  subst h
  refine ⟨?_, hb⟩
  rfl
def UriOut (o : Except Int WhV) (w : World) (e : Ending) (w' : World) : Prop :=
  Below w.heap.size w w' ∧ ((∀ k, o = .error k → e = .returned (.tuple #[.agg #[.string ⟨#[]⟩, .string ⟨#[]⟩, .string ⟨#[]⟩, .bool false, .slice none 0 0, .string ⟨#[]⟩, .slice none 0 0], .int .i64 k])) ∧
    ∀ v, o = .ok v → ∃ A ca C cc, e = .returned (.tuple #[whV v A ca C cc, .int .i64 0]) ∧ Sl9 w' A v.steps ∧ Sl2 w' C v.binds)
theorem UriOut.bad {o : Except Int WhV} {k : Int} {w w' : World} (h : o = .error k) (hb : Below w.heap.size w w') : UriOut o w (.returned (.tuple #[.agg #[.string ⟨#[]⟩, .string ⟨#[]⟩, .string ⟨#[]⟩, .bool false, .slice none 0 0, .string ⟨#[]⟩, .slice none 0 0], .int .i64 k])) w' :=
  ⟨hb, fun k' h' => (by rw [h] at h'; injection h' with h'; rw [h']), fun v h' => by rw [h] at h'; cases h'⟩
theorem UriOut.good {o : Except Int WhV} {v : WhV} {A C : Option Addr} {ca cc : Nat} {w w' : World} (h : o = .ok v) (hb : Below w.heap.size w w') (hA : Sl9 w' A v.steps) (hC : Sl2 w' C v.binds) : UriOut o w (.returned (.tuple #[whV v A ca C cc, .int .i64 0])) w' :=
  ⟨hb, fun k' h' => (by rw [h] at h'; cases h'), fun v' h' => by rw [h] at h'; injection h' with h'; subst h'; exact ⟨A, ca, C, cc, rfl, hA, hC⟩⟩
end Go.Proofs.YtbdamneophbnnaaGreatDoor
namespace Wb
def docE (u x d : List UInt8) (ow : Bool) : Except Int (List UInt8 × List UInt8) :=
  if u ∉ usg11 then .error 34
  else if (decP x).2 ≠ 0 then .error (decP x).2
  else if (decP d).2 ≠ 0 then .error (decP d).2
  else if (ow && !nmU (decP x).1 || !nmU (decP d).1) = true then .error 4
  else .ok ((decP x).1, (decP d).1)
end Wb
namespace Go.Proofs.YtbdamneophbnnaaGreatDoor
open Go.RowKit Wb
theorem wh_info : (Tryz.prog.info? 26).map (·.size) = some 7 := by kernel_rfl
def DocOut (u : List UInt8) (o : Except Int (List UInt8 × List UInt8)) (w : World) (e : Ending) (w' : World) : Prop :=
  Below w.heap.size w w' ∧ (∀ k, o = .error k → e = .returned (.tuple #[.agg #[.string ⟨#[]⟩, .string ⟨#[]⟩, .string ⟨#[]⟩, .bool false, .slice none 0 0, .string ⟨#[]⟩, .slice none 0 0], .int .i64 k])) ∧
    ∀ us d, o = .ok (us, d) → e = .returned (.tuple #[.agg #[.string (mkT u), .string (mkT us), .string (mkT d), .bool false, .slice none 0 0, .string ⟨#[]⟩, .slice none 0 0], .int .i64 0])
theorem DocOut.bad {u : List UInt8} {k : Int} {w w' : World} (hb : Below w.heap.size w w') : DocOut u (.error k) w (.returned (.tuple #[.agg #[.string ⟨#[]⟩, .string ⟨#[]⟩, .string ⟨#[]⟩, .bool false, .slice none 0 0, .string ⟨#[]⟩, .slice none 0 0], .int .i64 k])) w' :=
  ⟨hb, fun k' h' => (by injection h' with h'; rw [h']), fun v d h' => by cases h'⟩
theorem DocOut.good {u us d : List UInt8} {w w' : World} (hb : Below w.heap.size w w') : DocOut u (.ok (us, d)) w (.returned (.tuple #[.agg #[.string (mkT u), .string (mkT us), .string (mkT d), .bool false, .slice none 0 0, .string ⟨#[]⟩, .slice none 0 0], .int .i64 0])) w' :=
  ⟨hb, fun k' h' => (by cases h'), fun v d' h' => by injection h' with h'; injection h' with h1 h2; rw [h1, h2]⟩
set_option maxHeartbeats 16000000 in
set_option maxRecDepth 100000 in
theorem document_any (u x d : List UInt8) (ow node : Bool) (sel q : ByteArray) (w : World) (hu : u.length ≤ 1000000) (hx : x.length ≤ 1000000) (hd : d.length ≤ 1000000) :
    Calls Tryz.prog 17 #[.agg #[.string (mkT u), .string (mkT x), .string (mkT d), .bool ow, .bool node, .string sel, .string q]] w (DocOut u (docE u x d ow) w) := by
  obtain ⟨o, ho⟩ : ∃ o, docE u x d ow = o := ⟨_, rfl⟩
  rw [ho]
  unfold docE at ho
  obtain ⟨us, ex, hex⟩ : ∃ a b, decP x = (a, b) := ⟨_, _, rfl⟩
  obtain ⟨dn, ed, hed⟩ : ∃ a b, decP d = (a, b) := ⟨_, _, rfl⟩
  rw [hex, hed] at ho
  simp only at ho
  have k1 := fun v => isUsage_any (mkT u) v
  rw [mkT_list] at k1
  have k2 := fun v => decode_any (mkT x) v (by rw [mkT_size]; omega)
  rw [mkT_list, hex] at k2
  have k3 := fun v => decode_any (mkT d) v (by rw [mkT_size]; omega)
  rw [mkT_list, hed] at k3
  have k4 := fun v => isName_any (mkT us) v
  rw [mkT_list] at k4
  have k5 := fun v => isName_any (mkT dn) v
  rw [mkT_list] at k5
  have k6 := fun v => sclone_any (mkT u) v (by rw [mkT_size]; omega)
  simp only [show (⟨us.toArray⟩ : ByteArray) = mkT us from rfl, show (⟨dn.toArray⟩ : ByteArray) = mkT dn from rfl] at k2 k3
  obtain ⟨nx, hnx⟩ : ∃ b, nmU us = b := ⟨_, rfl⟩
  obtain ⟨nd, hnd⟩ : ∃ b, nmU dn = b := ⟨_, rfl⟩
  rw [hnx, hnd] at ho
  rw [hnx] at k4
  rw [hnd] at k5
  have hp0 := (OwnB.new0 w #[.string (mkT u), .string (mkT x), .string (mkT d), .bool ow, .bool node, .string sel, .string q] 48).alloc (.cells #[.string ⟨#[]⟩, .string ⟨#[]⟩, .string ⟨#[]⟩, .bool false, .slice none 0 0, .string ⟨#[]⟩, .slice none 0 0] 26)
  have hb00 := (Below.refl w.heap.size w).alloc (Nat.le_refl _) (.cells #[.string (mkT u), .string (mkT x), .string (mkT d), .bool ow, .bool node, .string sel, .string q] 48)
  have hr0 := OwnB.new #[.string ⟨#[]⟩, .string ⟨#[]⟩, .string ⟨#[]⟩, .bool false, .slice none 0 0, .string ⟨#[]⟩, .slice none 0 0] 26 hb00
  have hb0 := hb00.alloc hb00.size (.cells #[.string ⟨#[]⟩, .string ⟨#[]⟩, .string ⟨#[]⟩, .bool false, .slice none 0 0, .string ⟨#[]⟩, .slice none 0 0] 26)
  have sz : ∀ o : Obj, (w.alloc o).heap.size = w.heap.size + 1 := fun o => by simp
  rw [sz] at hr0
  have hc : (u ∉ usg11 ∧ o = .error 34) ∨ (u ∈ usg11 ∧ ex ≠ 0 ∧ o = .error ex) ∨ (u ∈ usg11 ∧ ex = 0 ∧ ed ≠ 0 ∧ o = .error ed) ∨ (u ∈ usg11 ∧ ex = 0 ∧ ed = 0 ∧ ow = true ∧ nx = false ∧ o = .error 4) ∨
      (u ∈ usg11 ∧ ex = 0 ∧ ed = 0 ∧ ow = true ∧ nx = true ∧ nd = false ∧ o = .error 4) ∨ (u ∈ usg11 ∧ ex = 0 ∧ ed = 0 ∧ ow = true ∧ nx = true ∧ nd = true ∧ o = .ok (us, dn)) ∨
      (u ∈ usg11 ∧ ex = 0 ∧ ed = 0 ∧ ow = false ∧ nd = false ∧ o = .error 4) ∨ (u ∈ usg11 ∧ ex = 0 ∧ ed = 0 ∧ ow = false ∧ nd = true ∧ o = .ok (us, dn)) := by
    by_cases hu : u ∈ usg11
    · by_cases h1 : ex = 0
      · by_cases h2 : ed = 0
        · cases ow <;> cases nx <;> cases nd <;> simp_all
        · simp_all
      · simp_all
    · simp_all
  have K1 := Lib.hid k1
  have K2 := Lib.hid k2
  have K3 := Lib.hid k3
  have K4 := Lib.hid k4
  have K5 := Lib.hid k5
  have K6 := Lib.hid k6
  clear k1 k2 k3 k4 k5 k6 ho hnx hnd hex hed hx hd hu hb00 sz
  rcases hc with ⟨hu, rfl⟩ | ⟨hu, he, rfl⟩ | ⟨hu, rfl, he, rfl⟩ | ⟨hu, rfl, rfl, rfl, rfl, rfl⟩ | ⟨hu, rfl, rfl, rfl, rfl, rfl, rfl⟩ | ⟨hu, rfl, rfl, rfl, rfl, rfl, rfl⟩ | ⟨hu, rfl, rfl, rfl, rfl, rfl⟩ | ⟨hu, rfl, rfl, rfl, rfl, rfl⟩
  · rw [decide_eq_false hu] at K1
    clear hu K2 K3 K4 K5 K6
    go_enter Tryz.func17, Tryz.ntmps17
    go_upto_region 1 with fail
    generalize (w.alloc (.cells #[.string (mkT u), .string (mkT x), .string (mkT d), .bool ow, .bool node, .string sel, .string q] 48)).alloc (.cells #[.string ⟨#[]⟩, .string ⟨#[]⟩, .string ⟨#[]⟩, .bool false, .slice none 0 0, .string ⟨#[]⟩, .slice none 0 0] 26) = w0 at *
    have q0 := hp0.cell 0
    simp only [List.getElem?_toArray, List.getElem?_cons_zero] at q0
    go_wp2_with fail
    refine (K1.out _).mono ?_
    rintro e w1 ⟨rfl, rfl⟩
    have hp1 := hp0
    have hr1 := hr0
    have hb1 := hb0
    clear hp0 hr0 hb0
    clear K1 q0
    have x0 := hr1.cell 0
    have xf0 := hr1.free 0
    have x1 := hr1.cell 1
    have xf1 := hr1.free 1
    have x2 := hr1.cell 2
    have xf2 := hr1.free 2
    have x3 := hr1.cell 3
    have xf3 := hr1.free 3
    have x4 := hr1.cell 4
    have xf4 := hr1.free 4
    have x5 := hr1.cell 5
    have xf5 := hr1.free 5
    have x6 := hr1.cell 6
    have xf6 := hr1.free 6
    simp only [List.getElem?_toArray, List.getElem?_cons_zero, List.getElem?_cons_succ] at x0 x1 x2 x3 x4 x5 x6
    go_wp2
    refine bodyPost_ret (results_cell2 rfl _ _ (w.heap.size + 1) _ _ _ rfl (hr1.all7 _ _ _ _ _ _ _).blk Tryz.underlying26 rfl wh_info) rfl ?_
    exact DocOut.bad ((((((((hb1.setCell (Nat.le_succ _) _).setCell (Nat.le_succ _) _).setCell (Nat.le_succ _) _).setCell (Nat.le_succ _) _).setCell (Nat.le_succ _) _).setCell (Nat.le_succ _) _).setCell (Nat.le_succ _) _))
  · rw [decide_eq_true hu] at K1
    clear hu
    have h0 : (ex == 0) = false := by simpa using he
    clear K3 K4 K5 K6
    go_enter Tryz.func17, Tryz.ntmps17
    go_upto_region 1 with fail
    generalize (w.alloc (.cells #[.string (mkT u), .string (mkT x), .string (mkT d), .bool ow, .bool node, .string sel, .string q] 48)).alloc (.cells #[.string ⟨#[]⟩, .string ⟨#[]⟩, .string ⟨#[]⟩, .bool false, .slice none 0 0, .string ⟨#[]⟩, .slice none 0 0] 26) = w0 at *
    have q0 := hp0.cell 0
    simp only [List.getElem?_toArray, List.getElem?_cons_zero] at q0
    go_wp2_with fail
    refine (K1.out _).mono ?_
    rintro e w1 ⟨rfl, rfl⟩
    have hp1 := hp0
    have hr1 := hr0
    have hb1 := hb0
    clear hp0 hr0 hb0
    clear K1 q0
    have q1 := hp1.cell 1
    simp only [List.getElem?_toArray, List.getElem?_cons_zero, List.getElem?_cons_succ] at q1
    go_wp2_with fail
    refine (K2.out _).mono ?_
    rintro e w2 ⟨rfl, hbx⟩
    have hp2 := hp1.next hbx
    have hr2 := hr1.next hbx
    have hb2 := hb1.trans (hbx.mono hb1.size)
    clear hp1 hr1 hb1 hbx K2 q1
    have x0 := hr2.cell 0
    have xf0 := hr2.free 0
    have x1 := hr2.cell 1
    have xf1 := hr2.free 1
    have x2 := hr2.cell 2
    have xf2 := hr2.free 2
    have x3 := hr2.cell 3
    have xf3 := hr2.free 3
    have x4 := hr2.cell 4
    have xf4 := hr2.free 4
    have x5 := hr2.cell 5
    have xf5 := hr2.free 5
    have x6 := hr2.cell 6
    have xf6 := hr2.free 6
    simp only [List.getElem?_toArray, List.getElem?_cons_zero, List.getElem?_cons_succ] at x0 x1 x2 x3 x4 x5 x6
    go_wp2
    refine bodyPost_ret (results_cell2 rfl _ _ (w.heap.size + 1) _ _ _ rfl (hr2.all7 _ _ _ _ _ _ _).blk Tryz.underlying26 rfl wh_info) rfl ?_
    exact DocOut.bad ((((((((hb2.setCell (Nat.le_succ _) _).setCell (Nat.le_succ _) _).setCell (Nat.le_succ _) _).setCell (Nat.le_succ _) _).setCell (Nat.le_succ _) _).setCell (Nat.le_succ _) _).setCell (Nat.le_succ _) _))
  · rw [decide_eq_true hu] at K1
    clear hu
    have h0 : (ed == 0) = false := by simpa using he
    clear K4 K5 K6
    go_enter Tryz.func17, Tryz.ntmps17
    go_upto_region 1 with fail
    generalize (w.alloc (.cells #[.string (mkT u), .string (mkT x), .string (mkT d), .bool ow, .bool node, .string sel, .string q] 48)).alloc (.cells #[.string ⟨#[]⟩, .string ⟨#[]⟩, .string ⟨#[]⟩, .bool false, .slice none 0 0, .string ⟨#[]⟩, .slice none 0 0] 26) = w0 at *
    have q0 := hp0.cell 0
    simp only [List.getElem?_toArray, List.getElem?_cons_zero] at q0
    go_wp2_with fail
    refine (K1.out _).mono ?_
    rintro e w1 ⟨rfl, rfl⟩
    have hp1 := hp0
    have hr1 := hr0
    have hb1 := hb0
    clear hp0 hr0 hb0
    clear K1 q0
    have q1 := hp1.cell 1
    simp only [List.getElem?_toArray, List.getElem?_cons_zero, List.getElem?_cons_succ] at q1
    go_wp2_with fail
    refine (K2.out _).mono ?_
    rintro e w2 ⟨rfl, hbx⟩
    have hp2 := hp1.next hbx
    have hr2 := hr1.next hbx
    have hb2 := hb1.trans (hbx.mono hb1.size)
    clear hp1 hr1 hb1 hbx K2 q1
    have q2 := hp2.cell 2
    simp only [List.getElem?_toArray, List.getElem?_cons_zero, List.getElem?_cons_succ] at q2
    go_wp2_with fail
    refine (K3.out _).mono ?_
    rintro e w3 ⟨rfl, hbx⟩
    have hp3 := hp2.next hbx
    have hr3 := hr2.next hbx
    have hb3 := hb2.trans (hbx.mono hb2.size)
    clear hp2 hr2 hb2 hbx K3 q2
    have x0 := hr3.cell 0
    have xf0 := hr3.free 0
    have x1 := hr3.cell 1
    have xf1 := hr3.free 1
    have x2 := hr3.cell 2
    have xf2 := hr3.free 2
    have x3 := hr3.cell 3
    have xf3 := hr3.free 3
    have x4 := hr3.cell 4
    have xf4 := hr3.free 4
    have x5 := hr3.cell 5
    have xf5 := hr3.free 5
    have x6 := hr3.cell 6
    have xf6 := hr3.free 6
    simp only [List.getElem?_toArray, List.getElem?_cons_zero, List.getElem?_cons_succ] at x0 x1 x2 x3 x4 x5 x6
    go_wp2
    refine bodyPost_ret (results_cell2 rfl _ _ (w.heap.size + 1) _ _ _ rfl (hr3.all7 _ _ _ _ _ _ _).blk Tryz.underlying26 rfl wh_info) rfl ?_
    exact DocOut.bad ((((((((hb3.setCell (Nat.le_succ _) _).setCell (Nat.le_succ _) _).setCell (Nat.le_succ _) _).setCell (Nat.le_succ _) _).setCell (Nat.le_succ _) _).setCell (Nat.le_succ _) _).setCell (Nat.le_succ _) _))
  · rw [decide_eq_true hu] at K1
    clear hu
    go_enter Tryz.func17, Tryz.ntmps17
    go_upto_region 1 with fail
    generalize (w.alloc (.cells #[.string (mkT u), .string (mkT x), .string (mkT d), .bool true, .bool node, .string sel, .string q] 48)).alloc (.cells #[.string ⟨#[]⟩, .string ⟨#[]⟩, .string ⟨#[]⟩, .bool false, .slice none 0 0, .string ⟨#[]⟩, .slice none 0 0] 26) = w0 at *
    have q0 := hp0.cell 0
    simp only [List.getElem?_toArray, List.getElem?_cons_zero] at q0
    go_wp2_with fail
    refine (K1.out _).mono ?_
    rintro e w1 ⟨rfl, rfl⟩
    have hp1 := hp0
    have hr1 := hr0
    have hb1 := hb0
    clear hp0 hr0 hb0
    clear K1 q0
    have q1 := hp1.cell 1
    simp only [List.getElem?_toArray, List.getElem?_cons_zero, List.getElem?_cons_succ] at q1
    go_wp2_with fail
    refine (K2.out _).mono ?_
    rintro e w2 ⟨rfl, hbx⟩
    have hp2 := hp1.next hbx
    have hr2 := hr1.next hbx
    have hb2 := hb1.trans (hbx.mono hb1.size)
    clear hp1 hr1 hb1 hbx K2 q1
    have q2 := hp2.cell 2
    simp only [List.getElem?_toArray, List.getElem?_cons_zero, List.getElem?_cons_succ] at q2
    go_wp2_with fail
    refine (K3.out _).mono ?_
    rintro e w3 ⟨rfl, hbx⟩
    have hp3 := hp2.next hbx
    have hr3 := hr2.next hbx
    have hb3 := hb2.trans (hbx.mono hb2.size)
    clear hp2 hr2 hb2 hbx K3 q2
    have q3 := hp3.cell 3
    simp only [List.getElem?_toArray, List.getElem?_cons_zero, List.getElem?_cons_succ] at q3
    go_wp2_with fail
    refine (K4.out _).mono ?_
    rintro e w4 ⟨rfl, rfl⟩
    have hp4 := hp3
    have hr4 := hr3
    have hb4 := hb3
    clear hp3 hr3 hb3
    clear K4 q3
    have x0 := hr4.cell 0
    have xf0 := hr4.free 0
    have x1 := hr4.cell 1
    have xf1 := hr4.free 1
    have x2 := hr4.cell 2
    have xf2 := hr4.free 2
    have x3 := hr4.cell 3
    have xf3 := hr4.free 3
    have x4 := hr4.cell 4
    have xf4 := hr4.free 4
    have x5 := hr4.cell 5
    have xf5 := hr4.free 5
    have x6 := hr4.cell 6
    have xf6 := hr4.free 6
    simp only [List.getElem?_toArray, List.getElem?_cons_zero, List.getElem?_cons_succ] at x0 x1 x2 x3 x4 x5 x6
    go_wp2
    refine bodyPost_ret (results_cell2 rfl _ _ (w.heap.size + 1) _ _ _ rfl (hr4.all7 _ _ _ _ _ _ _).blk Tryz.underlying26 rfl wh_info) rfl ?_
    exact DocOut.bad ((((((((hb4.setCell (Nat.le_succ _) _).setCell (Nat.le_succ _) _).setCell (Nat.le_succ _) _).setCell (Nat.le_succ _) _).setCell (Nat.le_succ _) _).setCell (Nat.le_succ _) _).setCell (Nat.le_succ _) _))
  · rw [decide_eq_true hu] at K1
    clear hu
    go_enter Tryz.func17, Tryz.ntmps17
    go_upto_region 1 with fail
    generalize (w.alloc (.cells #[.string (mkT u), .string (mkT x), .string (mkT d), .bool true, .bool node, .string sel, .string q] 48)).alloc (.cells #[.string ⟨#[]⟩, .string ⟨#[]⟩, .string ⟨#[]⟩, .bool false, .slice none 0 0, .string ⟨#[]⟩, .slice none 0 0] 26) = w0 at *
    have q0 := hp0.cell 0
    simp only [List.getElem?_toArray, List.getElem?_cons_zero] at q0
    go_wp2_with fail
    refine (K1.out _).mono ?_
    rintro e w1 ⟨rfl, rfl⟩
    have hp1 := hp0
    have hr1 := hr0
    have hb1 := hb0
    clear hp0 hr0 hb0
    clear K1 q0
    have q1 := hp1.cell 1
    simp only [List.getElem?_toArray, List.getElem?_cons_zero, List.getElem?_cons_succ] at q1
    go_wp2_with fail
    refine (K2.out _).mono ?_
    rintro e w2 ⟨rfl, hbx⟩
    have hp2 := hp1.next hbx
    have hr2 := hr1.next hbx
    have hb2 := hb1.trans (hbx.mono hb1.size)
    clear hp1 hr1 hb1 hbx K2 q1
    have q2 := hp2.cell 2
    simp only [List.getElem?_toArray, List.getElem?_cons_zero, List.getElem?_cons_succ] at q2
    go_wp2_with fail
    refine (K3.out _).mono ?_
    rintro e w3 ⟨rfl, hbx⟩
    have hp3 := hp2.next hbx
    have hr3 := hr2.next hbx
    have hb3 := hb2.trans (hbx.mono hb2.size)
    clear hp2 hr2 hb2 hbx K3 q2
    have q3 := hp3.cell 3
    simp only [List.getElem?_toArray, List.getElem?_cons_zero, List.getElem?_cons_succ] at q3
    go_wp2_with fail
    refine (K4.out _).mono ?_
    rintro e w4 ⟨rfl, rfl⟩
    have hp4 := hp3
    have hr4 := hr3
    have hb4 := hb3
    clear hp3 hr3 hb3
    clear K4 q3
    go_wp2_with fail
    refine (K5.out _).mono ?_
    rintro e w5 ⟨rfl, rfl⟩
    have hp5 := hp4
    have hr5 := hr4
    have hb5 := hb4
    clear hp4 hr4 hb4
    clear K5
    have x0 := hr5.cell 0
    have xf0 := hr5.free 0
    have x1 := hr5.cell 1
    have xf1 := hr5.free 1
    have x2 := hr5.cell 2
    have xf2 := hr5.free 2
    have x3 := hr5.cell 3
    have xf3 := hr5.free 3
    have x4 := hr5.cell 4
    have xf4 := hr5.free 4
    have x5 := hr5.cell 5
    have xf5 := hr5.free 5
    have x6 := hr5.cell 6
    have xf6 := hr5.free 6
    simp only [List.getElem?_toArray, List.getElem?_cons_zero, List.getElem?_cons_succ] at x0 x1 x2 x3 x4 x5 x6
    go_wp2
    refine bodyPost_ret (results_cell2 rfl _ _ (w.heap.size + 1) _ _ _ rfl (hr5.all7 _ _ _ _ _ _ _).blk Tryz.underlying26 rfl wh_info) rfl ?_
    exact DocOut.bad ((((((((hb5.setCell (Nat.le_succ _) _).setCell (Nat.le_succ _) _).setCell (Nat.le_succ _) _).setCell (Nat.le_succ _) _).setCell (Nat.le_succ _) _).setCell (Nat.le_succ _) _).setCell (Nat.le_succ _) _))
  · rw [decide_eq_true hu] at K1
    clear hu
    go_enter Tryz.func17, Tryz.ntmps17
    go_upto_region 1 with fail
    generalize (w.alloc (.cells #[.string (mkT u), .string (mkT x), .string (mkT d), .bool true, .bool node, .string sel, .string q] 48)).alloc (.cells #[.string ⟨#[]⟩, .string ⟨#[]⟩, .string ⟨#[]⟩, .bool false, .slice none 0 0, .string ⟨#[]⟩, .slice none 0 0] 26) = w0 at *
    have q0 := hp0.cell 0
    simp only [List.getElem?_toArray, List.getElem?_cons_zero] at q0
    go_wp2_with fail
    refine (K1.out _).mono ?_
    rintro e w1 ⟨rfl, rfl⟩
    have hp1 := hp0
    have hr1 := hr0
    have hb1 := hb0
    clear hp0 hr0 hb0
    clear K1 q0
    have q1 := hp1.cell 1
    simp only [List.getElem?_toArray, List.getElem?_cons_zero, List.getElem?_cons_succ] at q1
    go_wp2_with fail
    refine (K2.out _).mono ?_
    rintro e w2 ⟨rfl, hbx⟩
    have hp2 := hp1.next hbx
    have hr2 := hr1.next hbx
    have hb2 := hb1.trans (hbx.mono hb1.size)
    clear hp1 hr1 hb1 hbx K2 q1
    have q2 := hp2.cell 2
    simp only [List.getElem?_toArray, List.getElem?_cons_zero, List.getElem?_cons_succ] at q2
    go_wp2_with fail
    refine (K3.out _).mono ?_
    rintro e w3 ⟨rfl, hbx⟩
    have hp3 := hp2.next hbx
    have hr3 := hr2.next hbx
    have hb3 := hb2.trans (hbx.mono hb2.size)
    clear hp2 hr2 hb2 hbx K3 q2
    have q3 := hp3.cell 3
    simp only [List.getElem?_toArray, List.getElem?_cons_zero, List.getElem?_cons_succ] at q3
    go_wp2_with fail
    refine (K4.out _).mono ?_
    rintro e w4 ⟨rfl, rfl⟩
    have hp4 := hp3
    have hr4 := hr3
    have hb4 := hb3
    clear hp3 hr3 hb3
    clear K4 q3
    go_wp2_with fail
    refine (K5.out _).mono ?_
    rintro e w5 ⟨rfl, rfl⟩
    have hp5 := hp4
    have hr5 := hr4
    have hb5 := hb4
    clear hp4 hr4 hb4
    clear K5
    have q0 := hp5.cell 0
    simp only [List.getElem?_toArray, List.getElem?_cons_zero] at q0
    go_wp2_with fail
    refine (K6.out _).mono ?_
    rintro e w6 ⟨rfl, hbx⟩
    have hp6 := hp5.next hbx
    have hr6 := hr5.next hbx
    have hb6 := hb5.trans (hbx.mono hb5.size)
    clear hp5 hr5 hb5 hbx K6 q0
    have x0 := hr6.cell 0
    have xf0 := hr6.free 0
    have x1 := hr6.cell 1
    have xf1 := hr6.free 1
    have x2 := hr6.cell 2
    have xf2 := hr6.free 2
    have x3 := hr6.cell 3
    have xf3 := hr6.free 3
    have x4 := hr6.cell 4
    have xf4 := hr6.free 4
    have x5 := hr6.cell 5
    have xf5 := hr6.free 5
    have x6 := hr6.cell 6
    have xf6 := hr6.free 6
    simp only [List.getElem?_toArray, List.getElem?_cons_zero, List.getElem?_cons_succ] at x0 x1 x2 x3 x4 x5 x6
    go_wp2
    refine bodyPost_ret (results_cell2 rfl _ _ (w.heap.size + 1) _ _ _ rfl (hr6.all7 _ _ _ _ _ _ _).blk Tryz.underlying26 rfl wh_info) rfl ?_
    exact DocOut.good ((((((((hb6.setCell (Nat.le_succ _) _).setCell (Nat.le_succ _) _).setCell (Nat.le_succ _) _).setCell (Nat.le_succ _) _).setCell (Nat.le_succ _) _).setCell (Nat.le_succ _) _).setCell (Nat.le_succ _) _))
  · rw [decide_eq_true hu] at K1
    clear hu
    go_enter Tryz.func17, Tryz.ntmps17
    go_upto_region 1 with fail
    generalize (w.alloc (.cells #[.string (mkT u), .string (mkT x), .string (mkT d), .bool false, .bool node, .string sel, .string q] 48)).alloc (.cells #[.string ⟨#[]⟩, .string ⟨#[]⟩, .string ⟨#[]⟩, .bool false, .slice none 0 0, .string ⟨#[]⟩, .slice none 0 0] 26) = w0 at *
    have q0 := hp0.cell 0
    simp only [List.getElem?_toArray, List.getElem?_cons_zero] at q0
    go_wp2_with fail
    refine (K1.out _).mono ?_
    rintro e w1 ⟨rfl, rfl⟩
    have hp1 := hp0
    have hr1 := hr0
    have hb1 := hb0
    clear hp0 hr0 hb0
    clear K1 q0
    have q1 := hp1.cell 1
    simp only [List.getElem?_toArray, List.getElem?_cons_zero, List.getElem?_cons_succ] at q1
    go_wp2_with fail
    refine (K2.out _).mono ?_
    rintro e w2 ⟨rfl, hbx⟩
    have hp2 := hp1.next hbx
    have hr2 := hr1.next hbx
    have hb2 := hb1.trans (hbx.mono hb1.size)
    clear hp1 hr1 hb1 hbx K2 q1
    have q2 := hp2.cell 2
    simp only [List.getElem?_toArray, List.getElem?_cons_zero, List.getElem?_cons_succ] at q2
    go_wp2_with fail
    refine (K3.out _).mono ?_
    rintro e w3 ⟨rfl, hbx⟩
    have hp3 := hp2.next hbx
    have hr3 := hr2.next hbx
    have hb3 := hb2.trans (hbx.mono hb2.size)
    clear hp2 hr2 hb2 hbx K3 q2
    have q3 := hp3.cell 3
    simp only [List.getElem?_toArray, List.getElem?_cons_zero, List.getElem?_cons_succ] at q3
    go_wp2_with fail
    refine (K5.out _).mono ?_
    rintro e w4 ⟨rfl, rfl⟩
    have hp4 := hp3
    have hr4 := hr3
    have hb4 := hb3
    clear hp3 hr3 hb3
    clear K5 q3
    have x0 := hr4.cell 0
    have xf0 := hr4.free 0
    have x1 := hr4.cell 1
    have xf1 := hr4.free 1
    have x2 := hr4.cell 2
    have xf2 := hr4.free 2
    have x3 := hr4.cell 3
    have xf3 := hr4.free 3
    have x4 := hr4.cell 4
    have xf4 := hr4.free 4
    have x5 := hr4.cell 5
    have xf5 := hr4.free 5
    have x6 := hr4.cell 6
    have xf6 := hr4.free 6
    simp only [List.getElem?_toArray, List.getElem?_cons_zero, List.getElem?_cons_succ] at x0 x1 x2 x3 x4 x5 x6
    go_wp2
    refine bodyPost_ret (results_cell2 rfl _ _ (w.heap.size + 1) _ _ _ rfl (hr4.all7 _ _ _ _ _ _ _).blk Tryz.underlying26 rfl wh_info) rfl ?_
    exact DocOut.bad ((((((((hb4.setCell (Nat.le_succ _) _).setCell (Nat.le_succ _) _).setCell (Nat.le_succ _) _).setCell (Nat.le_succ _) _).setCell (Nat.le_succ _) _).setCell (Nat.le_succ _) _).setCell (Nat.le_succ _) _))
  · rw [decide_eq_true hu] at K1
    clear hu
    go_enter Tryz.func17, Tryz.ntmps17
    go_upto_region 1 with fail
    generalize (w.alloc (.cells #[.string (mkT u), .string (mkT x), .string (mkT d), .bool false, .bool node, .string sel, .string q] 48)).alloc (.cells #[.string ⟨#[]⟩, .string ⟨#[]⟩, .string ⟨#[]⟩, .bool false, .slice none 0 0, .string ⟨#[]⟩, .slice none 0 0] 26) = w0 at *
    have q0 := hp0.cell 0
    simp only [List.getElem?_toArray, List.getElem?_cons_zero] at q0
    go_wp2_with fail
    refine (K1.out _).mono ?_
    rintro e w1 ⟨rfl, rfl⟩
    have hp1 := hp0
    have hr1 := hr0
    have hb1 := hb0
    clear hp0 hr0 hb0
    clear K1 q0
    have q1 := hp1.cell 1
    simp only [List.getElem?_toArray, List.getElem?_cons_zero, List.getElem?_cons_succ] at q1
    go_wp2_with fail
    refine (K2.out _).mono ?_
    rintro e w2 ⟨rfl, hbx⟩
    have hp2 := hp1.next hbx
    have hr2 := hr1.next hbx
    have hb2 := hb1.trans (hbx.mono hb1.size)
    clear hp1 hr1 hb1 hbx K2 q1
    have q2 := hp2.cell 2
    simp only [List.getElem?_toArray, List.getElem?_cons_zero, List.getElem?_cons_succ] at q2
    go_wp2_with fail
    refine (K3.out _).mono ?_
    rintro e w3 ⟨rfl, hbx⟩
    have hp3 := hp2.next hbx
    have hr3 := hr2.next hbx
    have hb3 := hb2.trans (hbx.mono hb2.size)
    clear hp2 hr2 hb2 hbx K3 q2
    have q3 := hp3.cell 3
    simp only [List.getElem?_toArray, List.getElem?_cons_zero, List.getElem?_cons_succ] at q3
    go_wp2_with fail
    refine (K5.out _).mono ?_
    rintro e w4 ⟨rfl, rfl⟩
    have hp4 := hp3
    have hr4 := hr3
    have hb4 := hb3
    clear hp3 hr3 hb3
    clear K5 q3
    have q0 := hp4.cell 0
    simp only [List.getElem?_toArray, List.getElem?_cons_zero] at q0
    go_wp2_with fail
    refine (K6.out _).mono ?_
    rintro e w5 ⟨rfl, hbx⟩
    have hp5 := hp4.next hbx
    have hr5 := hr4.next hbx
    have hb5 := hb4.trans (hbx.mono hb4.size)
    clear hp4 hr4 hb4 hbx K6 q0
    have x0 := hr5.cell 0
    have xf0 := hr5.free 0
    have x1 := hr5.cell 1
    have xf1 := hr5.free 1
    have x2 := hr5.cell 2
    have xf2 := hr5.free 2
    have x3 := hr5.cell 3
    have xf3 := hr5.free 3
    have x4 := hr5.cell 4
    have xf4 := hr5.free 4
    have x5 := hr5.cell 5
    have xf5 := hr5.free 5
    have x6 := hr5.cell 6
    have xf6 := hr5.free 6
    simp only [List.getElem?_toArray, List.getElem?_cons_zero, List.getElem?_cons_succ] at x0 x1 x2 x3 x4 x5 x6
    go_wp2
    refine bodyPost_ret (results_cell2 rfl _ _ (w.heap.size + 1) _ _ _ rfl (hr5.all7 _ _ _ _ _ _ _).blk Tryz.underlying26 rfl wh_info) rfl ?_
    exact DocOut.good ((((((((hb5.setCell (Nat.le_succ _) _).setCell (Nat.le_succ _) _).setCell (Nat.le_succ _) _).setCell (Nat.le_succ _) _).setCell (Nat.le_succ _) _).setCell (Nat.le_succ _) _).setCell (Nat.le_succ _) _))
end Go.Proofs.YtbdamneophbnnaaGreatDoor
