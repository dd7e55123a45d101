
/- Contracts of the functions of strings that layer 2 calls, and of both sides' Split. -/
import Derived.Test.YtobmjcompkkeaaaDoorMgU
import Derived.Test.YtobmjcompkkeaaaDoorMgP
import Derived.Test.YtobmjcompkkeaaaDoorRaws
import Derived.DeepKeys4
import Derived.Test.YtobmjcompkkeaaaDoorMgM
import Derived.Deep.RegionLaw
namespace Go.Proofs.YtobmjcompkkeaaaDoor
open Go.RowKit Wb

theorem colon_self (s : ByteArray) (h : ([58] == s.toList) = true) : s = ⟨#[58]⟩ := by
  have : eqT ⟨#[58]⟩ s = true := by unfold eqT; rw [ByteArray.toList_eq ⟨#[58]⟩]; exact h
  exact ((eqT_iff _ _).1 this).symm

theorem first58 : firstIdx ⟨#[58]⟩ 58 = 0 := by
  rw [firstIdx_c', (cIx_some ⟨#[58]⟩ 0).2 ⟨by decide, by decide, fun i hi => absurd hi (by omega)⟩]
  rfl

/-- What strings.Cut answers at a colon. -/
def cutB (s : ByteArray) : ByteArray × ByteArray × Bool :=
  match cIx s with
  | none => (s, sE, false)
  | some k => (s.extract 0 k, s.extract (k + 1) s.size, true)

end Go.Proofs.YtobmjcompkkeaaaDoor

namespace Go.Proofs.YtobmjcompkkeaaaDoor
open Go.RowKit Wb

theorem colon_at (q : ByteArray) (k : Nat) (h : k < q.size) (ht : ((q[k].toNat : Int) == 58) = true) (HN : ∀ j, j < k → q[j]! ≠ 58) : cIx q = some k := by
  refine (cIx_some q k).2 ⟨h, ?_, HN⟩
  rw [getElem!_pos q k h]
  have : (q[k].toNat : Int) = 58 := by simpa using ht
  have : q[k].toNat = 58 := by omega
  exact UInt8.toNat_inj.1 (by simpa using this)
theorem colon_not (q : ByteArray) (k : Nat) (h : k < q.size) (ht : ((q[k].toNat : Int) == 58) = false) (HN : ∀ j, j < k → q[j]! ≠ 58) : ∀ j, j < k + 1 → q[j]! ≠ 58 := by
  intro j hj
  by_cases e : j = k
  · subst e
    rw [getElem!_pos q j h]
    intro he
    rw [he] at ht
    simp at ht
  · exact HN j (by omega)

/-! ### what may be bound -/
theorem eqT_nil (p : ByteArray) (h : eqT p sE = true) : p = ⟨#[]⟩ := (eqT_iff _ _).1 h
theorem ne_nil (p : ByteArray) (h : eqT p sE = false) : ¬ p.toList = [] := by
  rw [toList_nil_iff]; exact eqT_false.1 h
theorem ne_empty (p : ByteArray) (h : eqT p sE = false) : p.toList.isEmpty = false := by
  have := ne_nil p h
  simpa using this
theorem lit_of (p q : ByteArray) (l : List UInt8) (h : q.data.toList = l) : (p.toList == l) = eqT p q := by
  unfold eqT; rw [ByteArray.toList_eq q, h]

theorem nil_of (p : ByteArray) (h : eqT p sE = true) : p.toList = [] := (toList_nil_iff _).2 (eqT_nil p h)


theorem bind_fact (p s : ByteArray) {e1 n b1 b2 b3 b4 e5 : Bool} (h1 : eqT p sE = e1) (hn : nameB p.data.toList = n) (k1 : eqT p sXmlns = b1) (k2 : eqT p sXmlQ = b2) (k3 : eqT s sXML = b3) (k4 : eqT s sXMLNS = b4) (h5 : eqT s sE = e5) :
    bindB p s = if !e1 && !n then 12 else if b1 || (b2 && !b3) || (!b2 && (b3 || b4)) || (!e1 && e5) then 13 else 0 := by
  subst h1; subst hn; subst k1; subst k2; subst k3; subst k4; subst h5; rfl

end Go.Proofs.YtobmjcompkkeaaaDoor

namespace Go.Proofs.YtobmjcompkkeaaaDoor
open Go.RowKit Wb

theorem snd_true {o : Option ByteArray} {b : Bool} {q : ByteArray × Bool} {s : ByteArray} (h : q = (match o with | some s => (s, true) | none => (sE, b))) (ho : o = some s) : q = (s, true) := by rw [h, ho]

end Go.Proofs.YtobmjcompkkeaaaDoor

namespace Go.Proofs.YtobmjcompkkeaaaDoor
open Go.RowKit Wb

theorem name_info : (Tryd.prog.info? 23).map (·.size) = some 2 := by kernel_rfl

end Go.Proofs.YtobmjcompkkeaaaDoor

namespace Go.Proofs.YtobmjcompkkeaaaDoor
open Go.RowKit Wb

theorem fix_pre (s : ByteArray) : ((s.extract 0 6).toList == [120, 109, 108, 110, 115, 58]) = ((s.extract 0 6).toList == sXmlnsC) := rfl

end Go.Proofs.YtobmjcompkkeaaaDoor

namespace Go.Proofs.YtobmjcompkkeaaaDoor
open Go.RowKit Wb

/-- It lies in a block from B on. -/
def Fresh (B : Nat) (A : Option Addr) : Prop := ∀ ad, A = some ad → B ≤ ad.block
theorem Fresh.mono {B B' : Nat} {A : Option Addr} (h : Fresh B A) (hB : B' ≤ B) : Fresh B' A := fun ad e => Nat.le_trans hB (h ad e)

/-- What an own row that reads as pairs is as a slice. -/
theorem own2 {w : World} {base n : Nat} {e : TypeId} {v : Value} {xs : List Value} (l : List Pr) (h : w.ownsRow base e 2 v n xs) (hn : n = l.length) (hx : xs = cells2 l) :
    ∃ A c, v = .slice A l.length c ∧ Sl2 w A l ∧ Fresh base A := by
  subst hn; subst hx
  obtain ⟨A, c, rfl⟩ := own_shape h
  refine ⟨A, c, rfl, Sl2.of_own h, fun ad e => ?_⟩
  subst e
  exact (h.lt ad.block rfl).1

/-- What Add leaves: the scope with the binding behind it in memory of its own, or the error. -/
def AddPost (l : List Pr) (p s : ByteArray) (w : World) (e : Ending) (w' : World) : Prop :=
  Below w.heap.size w w' ∧ (∀ B, B = bindB p s → if B = 0 then ∃ C k, e = .returned (.tuple #[.slice C (l ++ [(p, s)]).length k, .int .i64 0]) ∧ Sl2 w' C (l ++ [(p, s)]) ∧ Fresh w.heap.size C
    else e = .returned (.tuple #[.slice none 0 0, .int .i64 B]))

theorem AddPost.ok {l : List Pr} {p s : ByteArray} {w w' : World} {C : Option Addr} {k : Nat} (h : bindB p s = 0) (hb : Below w.heap.size w w') (hC : Sl2 w' C (l ++ [(p, s)])) (hF : Fresh w.heap.size C) :
    AddPost l p s w (.returned (.tuple #[.slice C (l.length + 1) k, .int .i64 0])) w' := by
  refine ⟨hb, fun B hB => ?_⟩
  rw [if_pos (hB.trans h)]
  exact ⟨C, k, by simp, hC, hF⟩
theorem AddPost.bad {l : List Pr} {p s : ByteArray} {w w' : World} {b : Int} (h : bindB p s = b) (h0 : b ≠ 0) (hb : Below w.heap.size w w') :
    AddPost l p s w (.returned (.tuple #[.slice none 0 0, .int .i64 b])) w' := by
  refine ⟨hb, fun B hB => ?_⟩
  rw [if_neg (by rw [hB, h]; exact h0), hB, h]

theorem AddPost.okR {l : List Pr} {p s : ByteArray} {w w' : World} {C : Option Addr} {k : Nat} (h : bindB p s = 0) (hb : Below w.heap.size w w') (hC : Sl2 w' C (l ++ [(p, s)])) (hF : Fresh w.heap.size C) :
    AddPost l p s w (.returned (.tuple #[.slice C (l ++ [(p, s)]).length k, .int .i64 0])) w' := by
  have := AddPost.ok (k := k) h hb hC hF
  simpa using this

end Go.Proofs.YtobmjcompkkeaaaDoor

namespace Go.Proofs.YtobmjcompkkeaaaDoor
open Go.RowKit Wb

def tot (l : List Pr) : Nat := (l.map fun x => x.1.size + x.2.size).sum

/-- What Few says where it says yes. -/
def FewPost (l : List Pr) (w : World) (e : Ending) (w' : World) : Prop :=
  Below w.heap.size w w' ∧ ∃ b, e = .returned (.bool b) ∧ (b = true → l.length + tot l < 3000)

theorem tot_step {l : List Pr} {k : Nat} {x : Pr} (h : l[k]? = some x) : tot (l.take (k + 1)) = tot (l.take k) + (x.1.size + x.2.size) := by
  rw [take_snoc l k x h]; simp [tot]

end Go.Proofs.YtobmjcompkkeaaaDoor

namespace Go.Proofs.YtobmjcompkkeaaaDoor
open Go.RowKit Wb Go.Maps

/-! ### the set of names -/
set_option maxRecDepth 1000000 in
theorem laidOut : laidOutB Tryd.prog = true := by kernel_rfl
theorem name_row : (23 : TypeId) < Tryd.prog.types.size := of_decide_eq_true (by kernel_rfl)
theorem name_wide : (match Tryd.prog.underlying 23 with | some (.array _ _) | some (.struct _) => true | _ => false) = true := by kernel_rfl
set_option maxRecDepth 1000000 in
theorem name_law : Keyed Tryd.prog 23 := Keyed.of_law (deep_law_laid laidOut (m := 3) (by omega) name_row (by kernel_rfl) name_wide)
theorem name_kt : Tryd.prog.keyType 23 = true := by kernel_rfl
theorem name_cells : Tryd.prog.cellsOf 23 = 2 := by kernel_rfl

def litN (x : Pr) : Lit := .string (keyBytes [.string x.1.data.toList, .string x.2.data.toList])

theorem str_cells : Tryd.prog.cellsOf 9 = 1 := by kernel_rfl
theorem many_types : (2 : Nat) ≤ Tryd.prog.types.size := of_decide_eq_true (by kernel_rfl)
theorem key_str (m : Nat) (s : ByteArray) (h : s.size ≤ maxLen) : Tryd.prog.keyLits (m + 1) 9 [.string s] = some [.string s.data.toList] := by
  unfold Program.keyLits
  rw [Tryd.underlying9]
  simp [h]

theorem name_key (x : Pr) (h1 : x.1.size ≤ maxLen) (h2 : x.2.size ≤ maxLen) : keyOf Tryd.prog 23 (.agg #[.string x.1, .string x.2]) = some (litN x) := by
  have hf : (Value.agg #[.string x.1, .string x.2]).formed Tryd.prog 23 = true := by
    simp [Value.formed, Tryd.underlying23, name_cells]
  unfold keyOf
  rw [Tryd.underlying23]
  simp only [name_kt, hf, Bool.and_self, if_true]
  obtain ⟨m, hm⟩ : ∃ m, Tryd.prog.types.size + 1 = m + 2 := ⟨Tryd.prog.types.size - 1, by have := many_types; omega⟩
  rw [hm]
  unfold Program.keyLits
  rw [Tryd.underlying23]
  simp [Value.cells, name_cells, str_cells, key_str _ _ h1, key_str _ _ h2, litN]

theorem litN_inj {x y : Pr} (h1 : x.1.size ≤ maxLen) (h2 : x.2.size ≤ maxLen) (h3 : y.1.size ≤ maxLen) (h4 : y.2.size ≤ maxLen) (h : litN x = litN y) : x = y := by
  have := name_law.inj (name_key x h1 h2) (h ▸ name_key y h3 h4)
  simp only [Value.agg.injEq, Array.mk.injEq, List.cons.injEq, Value.string.injEq, and_true] at this
  exact Prod.ext this.1 this.2

/-- Block b is a set that holds just the names of the list. -/
def SetW (w : World) (b n : Nat) (l : List Pr) : Prop :=
  ∃ D : DataW Unit, w.ownsMap Tryd.prog 23 unitElem b n D ∧ (∀ y ∈ l, y.1.size ≤ maxLen ∧ y.2.size ≤ maxLen) ∧
    ∀ x : Pr, x.1.size ≤ maxLen → x.2.size ≤ maxLen → Maps.has D (litN x) = l.any (fun y => eqP y x)

theorem SetW.made (w : World) : SetW (w.alloc (.map #[] 0)) w.heap.size 0 [] :=
  ⟨.map [], World.ownsMap_made _ _ _ _, by simp, fun x _ _ => by simp [has_eq]⟩
theorem SetW.below {w w2 : World} {b n : Nat} {l : List Pr} (h : SetW w b n l) (hb : Below w.heap.size w w2) : SetW w2 b n l := by
  obtain ⟨D, ⟨es, clock, h1, h2⟩, h3⟩ := h
  exact ⟨D, ⟨es, clock, still_block h1 hb, h2⟩, h3⟩
theorem SetW.grown {w w2 : World} {b n : Nat} {l : List Pr} {row : Option Nat} (h : SetW w b n l) (hg : w.grownBy w2 row) (hne : some b ≠ row) : SetW w2 b n l := by
  obtain ⟨D, h1, h3⟩ := h
  exact ⟨D, h1.kept hg hne, h3⟩
theorem SetW.mono {w : World} {b n n' : Nat} {l : List Pr} (h : SetW w b n l) (hn : n ≤ n') : SetW w b n' l := by
  obtain ⟨D, h1, h3⟩ := h
  exact ⟨D, h1.mono hn, h3⟩

theorem zero_unit (w : World) : (zeroValue 79).run Tryd.prog w = .ok (.agg #[]) w := by kernel_rfl

/-- What add leaves. -/
def AddedPost (w : World) (b n : Nat) (l : List Pr) (x : Pr) (e : Ending) (w' : World) : Prop :=
  w.grownBy w' (some b) ∧ ∃ c, e = .returned (.bool c) ∧ c = !(l.any fun y => eqP y x) ∧ (c = true → SetW w' b (n + 1) (l ++ [x]))

theorem SetW.put {w : World} {b n : Nat} {l : List Pr} {D : DataW Unit} {x : Pr} (hown : w.ownsMap Tryd.prog 23 unitElem b n (D.put (litN x) (.agg []))) (hD : IsMap D)
    (hsz : ∀ y ∈ l, y.1.size ≤ maxLen ∧ y.2.size ≤ maxLen) (h1 : x.1.size ≤ maxLen) (h2 : x.2.size ≤ maxLen)
    (hhas : ∀ x : Pr, x.1.size ≤ maxLen → x.2.size ≤ maxLen → Maps.has D (litN x) = l.any (fun y => eqP y x)) : SetW w b n (l ++ [x]) := by
  refine ⟨_, hown, ?_, fun y k1 k2 => ?_⟩
  · intro y hy
    rcases List.mem_append.1 hy with h | h
    · exact hsz y h
    · rw [List.mem_singleton.1 h]; exact ⟨h1, h2⟩
  · rw [List.any_append, ← hhas y k1 k2]
    by_cases e : y = x
    · subst e
      rw [has_put_same hD (show WideAt.IsKeyLit (litN y) from trivial), List.any_cons, (eqP_iff y y).2 rfl]
      simp
    · rw [has_put_other (fun h => e (litN_inj k1 k2 h1 h2 h))]
      have : eqP x y = false := by
        cases h : eqP x y
        · rfl
        · exact absurd ((eqP_iff _ _).1 h).symm e
      simp [this]

end Go.Proofs.YtobmjcompkkeaaaDoor

namespace Go.Proofs.YtobmjcompkkeaaaDoor
open Go.RowKit Wb Go.Maps

theorem attr_info : (Tryd.prog.info? 35).map (fun i => (i.zero, i.size, i.bytes)) = some (some (.agg #[.string ⟨#[]⟩, .string ⟨#[]⟩, .string ⟨#[]⟩]), 3, 48) := by kernel_rfl

theorem own3 {w : World} {base n : Nat} {e : TypeId} {v : Value} {xs : List Value} (l : List Tr) (h : w.ownsRow base e 3 v n xs) (hn : n = l.length) (hx : xs = cells3 l) :
    ∃ A c, v = .slice A l.length c ∧ Sl3 w A l := by
  subst hn; subst hx
  obtain ⟨A, c, rfl⟩ := own_shape h
  exact ⟨A, c, rfl, Sl3.of_own h⟩

/-- What Attrs leaves. -/
def AttrsPost (sc l : List Pr) (w : World) (e : Ending) (w' : World) : Prop :=
  Below w.heap.size w w' ∧ ∀ r, r = attrL sc l [] → match r with
    | .ok out => ∃ C k, e = .returned (.tuple #[.slice C out.length k, .int .i64 0]) ∧ Sl3 w' C out
    | .error er => er ≠ 0 ∧ e = .returned (.tuple #[.slice none 0 0, .int .i64 er])

theorem AttrsPost.bad {sc l : List Pr} {w w' : World} {er : Int} (h : attrL sc l [] = .error er) (h0 : er ≠ 0) (hb : Below w.heap.size w w') : AttrsPost sc l w (.returned (.tuple #[.slice none 0 0, .int .i64 er])) w' := by
  refine ⟨hb, fun r hr => ?_⟩
  rw [h] at hr; subst hr
  exact ⟨h0, rfl⟩
theorem AttrsPost.ok {sc l : List Pr} {w w' : World} {out : List Tr} {C : Option Addr} {k : Nat} (h : attrL sc l [] = .ok out) (hC : Sl3 w' C out) (hb : Below w.heap.size w w') : AttrsPost sc l w (.returned (.tuple #[.slice C out.length k, .int .i64 0])) w' := by
  refine ⟨hb, fun r hr => ?_⟩
  rw [h] at hr; subst hr
  exact ⟨C, k, rfl, hC⟩

/-- What Attrs leaves, and that its row is new. -/
def AttrsPostF (sc l : List Pr) (w : World) (e : Ending) (w' : World) : Prop :=
  Below w.heap.size w w' ∧ ∀ r, r = attrL sc l [] → match r with
    | .ok out => ∃ C k, e = .returned (.tuple #[.slice C out.length k, .int .i64 0]) ∧ Sl3 w' C out ∧ Fresh w.heap.size C
    | .error er => er ≠ 0 ∧ e = .returned (.tuple #[.slice none 0 0, .int .i64 er])
theorem AttrsPostF.bad {sc l : List Pr} {w w' : World} {er : Int} (h : attrL sc l [] = .error er) (h0 : er ≠ 0) (hb : Below w.heap.size w w') : AttrsPostF sc l w (.returned (.tuple #[.slice none 0 0, .int .i64 er])) w' := by
  refine ⟨hb, fun r hr => ?_⟩
  rw [h] at hr; subst hr
  exact ⟨h0, rfl⟩
theorem AttrsPostF.ok {sc l : List Pr} {w w' : World} {out : List Tr} {C : Option Addr} {k : Nat} (h : attrL sc l [] = .ok out) (hC : Sl3 w' C out) (hF : Fresh w.heap.size C) (hb : Below w.heap.size w w') : AttrsPostF sc l w (.returned (.tuple #[.slice C out.length k, .int .i64 0])) w' := by
  refine ⟨hb, fun r hr => ?_⟩
  rw [h] at hr; subst hr
  exact ⟨C, k, rfl, hC, hF⟩
theorem AttrsPostF.to {sc l : List Pr} {w w' : World} {e : Ending} (h : AttrsPostF sc l w e w') : AttrsPost sc l w e w' := by
  refine ⟨h.1, fun r hr => ?_⟩
  have h2 := h.2 r hr
  cases r with
  | error er => exact h2
  | ok out =>
    obtain ⟨C, k, h3, h4, _⟩ := h2
    exact ⟨C, k, h3, h4⟩
theorem own3f {w : World} {base n : Nat} {e : TypeId} {v : Value} {xs : List Value} (l : List Tr) (h : w.ownsRow base e 3 v n xs) (hn : n = l.length) (hx : xs = cells3 l) :
    ∃ A c, v = .slice A l.length c ∧ Sl3 w A l ∧ Fresh base A := by
  subst hn; subst hx
  obtain ⟨A, c, rfl⟩ := own_shape h
  refine ⟨A, c, rfl, Sl3.of_own h, fun ad e => ?_⟩
  subst e
  exact (h.lt ad.block rfl).1

end Go.Proofs.YtobmjcompkkeaaaDoor

namespace Go.Proofs.YtobmjcompkkeaaaDoor
open Go.RowKit Wb Go.Maps

theorem eqT_of {a b : ByteArray} (h : a.toList = b.toList) : eqT a b = true := by unfold eqT; rw [h]; exact beq_self_eq_true _
theorem eqT_no {a b : ByteArray} (h : ¬ a.toList = b.toList) : eqT a b = false := by unfold eqT; simpa using h
theorem eqP_yes {a b c d : ByteArray} (h : a.toList = c.toList) (h2 : b.toList = d.toList) : eqP (a, b) (c, d) = true := by unfold eqP; simp only [eqT_of h, eqT_of h2, Bool.and_self]
theorem eqP_no1 {a b c d : ByteArray} (h : ¬ a.toList = c.toList) : eqP (a, b) (c, d) = false := by unfold eqP; simp only [eqT_no h, Bool.false_and]
theorem eqP_no2 {a b c d : ByteArray} (h : ¬ b.toList = d.toList) : eqP (a, b) (c, d) = false := by unfold eqP; simp only [eqT_no h, Bool.and_false]
theorem hit_any {out : List Tr} {j : Nat} {y : Tr} {n : Pr} (hy : out[j]? = some y) (h : eqP y.1 n = true) : (out.map (·.1)).any (fun y => eqP y n) = true := by
  rw [List.any_map, List.any_eq_true]
  exact ⟨y, List.mem_of_getElem? hy, h⟩
theorem miss_any {out : List Tr} {j : Nat} {y : Tr} {n : Pr} (hy : out[j]? = some y) (hj : (out.take j).any (fun y => eqP y.1 n) = false) (h : eqP y.1 n = false) : (out.take (j + 1)).any (fun y => eqP y.1 n) = false := by
  rw [take_snoc out j y hy, List.any_append, hj]; simp [h]
theorem miss_all {out : List Tr} {j : Nat} {n : Pr} (hl : out.length ≤ j) (hj : (out.take j).any (fun y => eqP y.1 n) = false) : (out.map (·.1)).any (fun y => eqP y n) = false := by
  rw [List.take_of_length_le hl] at hj
  rw [List.any_map]; exact hj

end Go.Proofs.YtobmjcompkkeaaaDoor

namespace Go.Proofs.YtobmjcompkkeaaaDoor
open Go.RowKit Wb Go.Maps

/-- What Declare leaves. -/
def DeclPost (sc l : List Pr) (w : World) (e : Ending) (w' : World) : Prop :=
  Below w.heap.size w w' ∧ ∀ r, r = declL l [] [] [] → match r with
    | .ok (binds, rest) => ∃ C k D m, e = .returned (.tuple #[.slice C (sc ++ binds).length k, .slice D rest.length m, .int .i64 0]) ∧ Sl2 w' C (sc ++ binds) ∧ Sl2 w' D rest
    | .error er => er ≠ 0 ∧ e = .returned (.tuple #[.slice none 0 0, .slice none 0 0, .int .i64 er])

theorem DeclPost.bad {sc l : List Pr} {w w' : World} {er : Int} (h : declL l [] [] [] = .error er) (h0 : er ≠ 0) (hb : Below w.heap.size w w') : DeclPost sc l w (.returned (.tuple #[.slice none 0 0, .slice none 0 0, .int .i64 er])) w' := by
  refine ⟨hb, fun r hr => ?_⟩
  rw [h] at hr; subst hr
  exact ⟨h0, rfl⟩
theorem DeclPost.ok {sc l : List Pr} {w w' : World} {binds rest : List Pr} {C D : Option Addr} {k m N : Nat} (hN : N = (sc ++ binds).length) (h : declL l [] [] [] = .ok (binds, rest)) (hC : Sl2 w' C (sc ++ binds)) (hD : Sl2 w' D rest) (hb : Below w.heap.size w w') :
    DeclPost sc l w (.returned (.tuple #[.slice C N k, .slice D rest.length m, .int .i64 0])) w' := by
  subst hN
  refine ⟨hb, fun r hr => ?_⟩
  rw [h] at hr; subst hr
  exact ⟨C, k, D, m, rfl, hC, hD⟩

theorem seen_any (seen : List ByteArray) (p : ByteArray) : (seen.map (fun y => (sXMLNS, y))).any (fun y => eqP y (sXMLNS, p)) = seen.any (fun y => eqT y p) := by
  rw [List.any_map]
  congr 1
  funext y
  show (eqT sXMLNS sXMLNS && eqT y p) = eqT y p
  rw [eqT_self, Bool.true_and]

/-- What Declare leaves, and that its scope is new. -/
def DeclPostF (sc l : List Pr) (w : World) (e : Ending) (w' : World) : Prop :=
  Below w.heap.size w w' ∧ ∀ r, r = declL l [] [] [] → match r with
    | .ok (binds, rest) => ∃ C k D m, e = .returned (.tuple #[.slice C (sc ++ binds).length k, .slice D rest.length m, .int .i64 0]) ∧ Sl2 w' C (sc ++ binds) ∧ Sl2 w' D rest ∧ Fresh w.heap.size C
    | .error er => er ≠ 0 ∧ e = .returned (.tuple #[.slice none 0 0, .slice none 0 0, .int .i64 er])
theorem DeclPostF.bad {sc l : List Pr} {w w' : World} {er : Int} (h : declL l [] [] [] = .error er) (h0 : er ≠ 0) (hb : Below w.heap.size w w') : DeclPostF sc l w (.returned (.tuple #[.slice none 0 0, .slice none 0 0, .int .i64 er])) w' := by
  refine ⟨hb, fun r hr => ?_⟩
  rw [h] at hr; subst hr
  exact ⟨h0, rfl⟩
theorem DeclPostF.ok {sc l : List Pr} {w w' : World} {binds rest : List Pr} {C D : Option Addr} {k m N : Nat} (hN : N = (sc ++ binds).length) (h : declL l [] [] [] = .ok (binds, rest)) (hC : Sl2 w' C (sc ++ binds)) (hD : Sl2 w' D rest) (hF : Fresh w.heap.size C) (hb : Below w.heap.size w w') :
    DeclPostF sc l w (.returned (.tuple #[.slice C N k, .slice D rest.length m, .int .i64 0])) w' := by
  subst hN
  refine ⟨hb, fun r hr => ?_⟩
  rw [h] at hr; subst hr
  exact ⟨C, k, D, m, rfl, hC, hD, hF⟩
theorem DeclPostF.to {sc l : List Pr} {w w' : World} {e : Ending} (h : DeclPostF sc l w e w') : DeclPost sc l w e w' := by
  refine ⟨h.1, fun r hr => ?_⟩
  have h2 := h.2 r hr
  cases r with
  | error er => exact h2
  | ok p =>
    obtain ⟨C, k, D, m, h3, h4, h5, _⟩ := h2
    exact ⟨C, k, D, m, h3, h4, h5⟩

end Go.Proofs.YtobmjcompkkeaaaDoor

