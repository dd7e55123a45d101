/- TrX TrG LxPlain2 PrA. -/
import Derived.WalkSmall
import Derived.Test.YtlcjepnaljfpkaaGreatDoorQp6
import Derived.Test.YtlcjepnaljfpkaaGreatDoorQp9
namespace Wb
structure TkV where
  kind : Int
  place : Int
  name : ByteArray
  attrs : List Pr
  text : ByteArray
structure El where
  word : ByteArray
  scope : List Pr
  name : Pr
  attrs : List Tr
  kids : List Nd
def El.node (e : El) : Nd := .mk 1 e.name e.attrs e.kids sE
def ndZ : Nd := .mk 0 (sE, sE) [] [] sE
structure Bd where
  opened : List El
  root : Nd
  nodes : Nat
def Bd.none_ : Bd := ⟨[], ndZ, 0⟩
def El.more (e : El) (k : Nd) : El := { e with kids := e.kids ++ [k] }
def closeX (b : Bd) : Bd :=
  match b.opened.getLast? with
  | none => b
  | some e => match b.opened.dropLast.getLast? with
    | none => { b with opened := [], root := e.node }
    | some f => { b with opened := b.opened.dropLast.dropLast ++ [f.more e.node] }
def begunX (sc : List Pr) (t : TkV) : Except Int El :=
  match declL t.attrs [] [] [] with
  | .error e => .error e
  | .ok (binds, rest) =>
    if 32 < rest.length then .error 3
    else if (resB (sc ++ binds) t.name false).2 ≠ 0 then .error (resB (sc ++ binds) t.name false).2
    else match attrL (sc ++ binds) rest [] with
      | .error e => .error e
      | .ok asz => .ok ⟨t.name, sc ++ binds, (resB (sc ++ binds) t.name false).1, asz, []⟩
def scopeX (b : Bd) : List Pr := match b.opened.getLast? with | none => [] | some e => e.scope
def startX (b : Bd) (t : TkV) : Except Int Bd :=
  if b.root.kind = 1 then .error 18
  else if b.opened.length = 24 then .error 19
  else if b.nodes = 2000 then .error 3
  else match begunX (scopeX b) t with
    | .error e => .error e
    | .ok e => .ok { b with opened := b.opened ++ [e], nodes := b.nodes + 1 }
def endX' (b : Bd) (word : ByteArray) : Except Int Bd :=
  match b.opened.getLast? with
  | none => .error 15
  | some e => if eqT e.word word then .ok (closeX b) else .error 15
def textKids (ks : List Nd) (s : ByteArray) : List Nd × Bool :=
  match ks.getLast? with
  | none => ([.mk 2 (sE, sE) [] [] s], true)
  | some k => if k.kind = 2 then (ks.dropLast ++ [.mk k.kind k.name k.attrs k.kids (k.text ++ s)], false) else (ks ++ [.mk 2 (sE, sE) [] [] s], true)
def textX' (b : Bd) (s : ByteArray) : Except Int Bd :=
  match b.opened.getLast? with
  | none => if trimL s.data.toList = [] then .ok b else .error 18
  | some e =>
    if eqT s sE then .ok b
    else if (textKids e.kids s).2 = false then .ok { b with opened := b.opened.dropLast ++ [{ e with kids := (textKids e.kids s).1 }] }
    else if b.nodes = 2000 then .error 3
    else .ok { b with opened := b.opened.dropLast ++ [{ e with kids := (textKids e.kids s).1 }], nodes := b.nodes + 1 }
def takeX' (b : Bd) (t : TkV) : Except Int Bd :=
  if t.kind = 4 then textX' b t.text
  else if t.kind = 2 then endX' b t.name
  else match startX b t with
    | .error e => .error e
    | .ok b' => .ok (if t.kind = 3 then closeX b' else b')
def takeAll : Bd → List TkV → Except (Int × Int) Bd
  | b, [] => .ok b
  | b, t :: ts => match takeX' b t with
    | .error e => .error (t.place, e)
    | .ok b' => takeAll b' ts
def treeX (len : Nat) (ts : List TkV) : Except (Int × Int) Nd :=
  match takeAll Bd.none_ ts with
  | .error e => .error e
  | .ok b => if b.opened ≠ [] then .error (len, 2) else if b.root.kind ≠ 1 then .error (len, 18) else .ok b.root
end Wb
namespace Wb
open Go Go.RowKit
structure Keep (S : Nat → Prop) (w w' : World) : Prop where
  os : w'.os = w.os
  tape : w'.tape = w.tape
  output : w'.output = w.output
  size : w.heap.size ≤ w'.heap.size
  block : ∀ k, k < w.heap.size → ¬ S k → w'.heap[k]? = w.heap[k]?
section
variable {S S' : Nat → Prop} {w w' w2 : World}
theorem Keep.refl (S : Nat → Prop) (w : World) : Keep S w w := ⟨rfl, rfl, rfl, Nat.le_refl _, fun _ _ _ => rfl⟩
theorem Keep.trans (h : Keep S w w') (k : Keep S w' w2) : Keep S w w2 :=
  ⟨k.os.trans h.os, k.tape.trans h.tape, k.output.trans h.output, Nat.le_trans h.size k.size, fun i hi hs => (k.block i (Nat.lt_of_lt_of_le hi h.size) hs).trans (h.block i hi hs)⟩
theorem Keep.mono (h : Keep S w w') (hs : ∀ k, k < w.heap.size → S k → S' k) : Keep S' w w' :=
  ⟨h.os, h.tape, h.output, h.size, fun k hk hn => h.block k hk (fun h1 => hn (hs k hk h1))⟩
theorem Keep.of_below (S : Nat → Prop) (h : Below w.heap.size w w') : Keep S w w' := ⟨h.os, h.tape, h.output, h.size, fun k hk _ => h.block k hk⟩
theorem Keep.below {base : Nat} (h : Keep S w w') (hs : ∀ k, S k → base ≤ k) (hb : base ≤ w.heap.size) : Below base w w' :=
  ⟨h.os, h.tape, h.output, h.size, fun k hk => h.block k (by omega) (fun h1 => by have := hs k h1; omega)⟩
theorem Keep.setCell (h : Keep S w w') {p : Addr} (hp : S p.block) (u : Value) : Keep S w (w'.setCell p u) :=
  h.trans ⟨rfl, rfl, rfl, by simp [World.setCell], fun k _ hn => Below.heap_setCell _ _ _ _ (fun e => hn (by rw [e]; exact hp))⟩
theorem Keep.grown (h : Keep S w w') {row : Option Nat} (hg : w'.grownBy w2 row) (hr : ∀ k, row = some k → S k) : Keep S w w2 :=
  h.trans ⟨hg.os, hg.tape, hg.output, hg.size, fun k hk hn => hg.block k hk (fun e => hn (hr k e.symm))⟩
def SafeP (S : Nat → Prop) (w : World) (p : World → Prop) : Prop := ∀ w', Keep S w w' → p w'
theorem SafeP.here {p : World → Prop} (h : SafeP S w p) : p w := h w (Keep.refl S w)
theorem SafeP.keep {p : World → Prop} (h : SafeP S w p) (hk : Keep S w w') (hs : ∀ k, k < w.heap.size → S' k → S k) : SafeP S' w' p := fun w2 h2 =>
  h w2 ⟨h2.os.trans hk.os, h2.tape.trans hk.tape, h2.output.trans hk.output, Nat.le_trans hk.size h2.size, fun k hkl hn =>
    (h2.block k (Nat.lt_of_lt_of_le hkl hk.size) (fun h1 => hn (hs k hkl h1))).trans (hk.block k hkl hn)⟩
theorem Sl.safe {sz n : Nat} {A : Option Addr} {xs : List Value} (h : Sl w sz A n xs) (hn : 0 < n → ∀ ad, A = some ad → ¬ S ad.block) : SafeP S w (fun v => Sl v sz A n xs) := fun w2 h2 => by
  refine ⟨h.1, fun h0 => ?_⟩
  obtain ⟨ad, e, hb, hc⟩ := h.2 h0
  refine ⟨ad, e, Nat.lt_of_lt_of_le hb h2.size, fun j u hu => ?_⟩
  rw [← hc j u hu]
  exact World.cell?_of_block (w := w) (by rw [add_block]; exact h2.block _ hb (hn h0 ad e))
theorem own_blk {base sz n : Nat} {e : TypeId} {v : Value} {xs : List Value} (h : w.ownsRow base e sz v n xs) (hb : ∀ k, v.ownBlock = some k → w'.heap[k]? = w.heap[k]?) : w'.ownsRow base e sz v n xs := by
  refine ⟨h.1, ?_⟩
  rcases h.2 with h2 | ⟨g, cap, cur, rfl, hbg, hg, rest⟩
  · exact .inl h2
  · exact .inr ⟨g, cap, cur, rfl, hbg, (hb g rfl).trans hg, rest⟩
theorem own_in {base sz n g : Nat} {e : TypeId} {v : Value} {xs : List Value} (h : w.ownsRow base e sz v n xs) (hv : v.ownBlock = some g) : base ≤ g ∧ g < w.heap.size := h.lt g hv
end
theorem flat_at {m : Nat} : ∀ {css : List (List Value)}, (∀ cs ∈ css, cs.length = m) → ∀ (i : Nat) (cs : List Value), css[i]? = some cs → ∀ j, j < m → css.flatten[i * m + j]? = cs[j]?
  | [], _, i, cs, h, _, _ => by simp at h
  | c :: css, hl, 0, cs, h, j, hj => by
    simp only [List.getElem?_cons_zero, Option.some.injEq] at h
    subst h
    rw [List.flatten_cons, Nat.zero_mul, Nat.zero_add, List.getElem?_append_left (by rw [hl c (by simp)]; exact hj)]
  | c :: css, hl, i + 1, cs, h, j, hj => by
    have := flat_at (css := css) (fun d hd => hl d (by simp [hd])) i cs (by simpa using h) j hj
    have hc := hl c (by simp)
    rw [List.flatten_cons, List.getElem?_append_right (by rw [hc, Nat.add_mul]; omega), ← this, hc]
    congr 1
    rw [Nat.add_mul]
    omega
def KidsR (tN : TypeId) (S : Nat → Prop) (w : World) (base : Nat) (kv : Value) (kids : List Nd) : Prop :=
  ∃ css : List (List Value), css.length = kids.length ∧ w.ownsRow base tN 6 kv kids.length css.flatten ∧ ∀ (i : Nat) (k : Nd) (cs : List Value), kids[i]? = some k → css[i]? = some cs → SafeP S w (fun v => nodeC v k cs)
section
variable {tN tE tB : TypeId} {S S' : Nat → Prop} {w w' : World} {base B : Nat} {b : Bd} {ov kv : Value}
theorem kids_six {css : List (List Value)} {kids : List Nd} (hl : css.length = kids.length) (hs : ∀ (i : Nat) (k : Nd) (cs : List Value), kids[i]? = some k → css[i]? = some cs → SafeP S w (fun v => nodeC v k cs)) : ∀ cs ∈ css, cs.length = 6 := fun cs hc => by
  obtain ⟨i, hi, e⟩ := List.mem_iff_getElem.1 hc
  exact nodeC_len (hs i (kids[i]'(by omega)) cs (List.getElem?_eq_getElem _) (by rw [← e]; exact List.getElem?_eq_getElem _)).here
theorem KidsR.nil (tN : TypeId) (S : Nat → Prop) (w : World) (base : Nat) : KidsR tN S w base (.slice none 0 0) [] := ⟨[], rfl, World.ownsRow_nil _ _ _ _, fun i k cs h => by simp at h⟩
theorem KidsR.keep {kids : List Nd} (h : KidsR tN S w base kv kids) (hk : Keep S w w') (hs : ∀ k, k < w.heap.size → S' k → S k) (hb : ∀ k, kv.ownBlock = some k → w'.heap[k]? = w.heap[k]?) : KidsR tN S' w' base kv kids := by
  obtain ⟨css, h1, h2, h3⟩ := h
  exact ⟨css, h1, own_blk h2 hb, fun i k cs hk1 hc => (h3 i k cs hk1 hc).keep hk hs⟩
theorem KidsR.sl {kids : List Nd} (h : KidsR tN S w base kv kids) (hs : ∀ k, S' k → S k) (hn : ∀ k, kv.ownBlock = some k → ¬ S' k) : ∃ K ck, kv = .slice K kids.length ck ∧ SafeP S' w (fun v => SlN v K kids) := by
  obtain ⟨css, h1, h2, h3⟩ := h
  have h6 := kids_six h1 h3
  obtain ⟨K, ck, rfl⟩ := own_shape h2
  refine ⟨K, ck, rfl, fun w2 hk => ?_⟩
  have h2' := own_blk (w' := w2) h2 (fun k hv => hk.block k (own_in h2 hv).2 (hn k hv))
  by_cases h0 : kids = []
  · exact .inl h0
  · obtain ⟨g, cap, hv, _, hlt⟩ := h2'.form (List.length_pos_iff.2 h0)
    have hK : K = some ⟨g, 0, none⟩ := by injection hv
    subst hK
    refine .inr ⟨_, rfl, hlt, (kidsC_iff _ _ _ _).2 fun k n hkn => ?_⟩
    have hkl : k < css.length := by rw [h1]; exact (List.getElem?_eq_some_iff.1 hkn).1
    have hc : css[k]? = some css[k] := List.getElem?_eq_getElem hkl
    refine ⟨css[k], fun j u hu => ?_, h3 k n _ hkn hc w2 (hk.mono fun k _ h => hs k h)⟩
    rw [Nat.zero_add]
    have hj : j < 6 := by have := (List.getElem?_eq_some_iff.1 hu).1; rw [h6 _ (List.mem_of_getElem? hc)] at this; exact this
    exact h2'.cells (g := g) rfl _ _ ((flat_at h6 k _ hc j hj).trans hu)
variable {rc : List Value}
theorem blk_in {w : World} {g : Nat} {o : Obj} (h : w.heap[g]? = some o) : g < w.heap.size := (Array.getElem?_eq_some_iff.1 h).1
end
end Wb
namespace Wb
theorem semi_drop : ∀ {l a b : List UInt8}, semi l = some (a, b) → l = a ++ 59 :: b
  | [], _, _, h => by cases h
  | c :: l, a, b, h => by
    unfold semi at h
    split at h
    · rename_i hc
      simp only [Option.some.injEq, Prod.mk.injEq] at h
      obtain ⟨rfl, rfl⟩ := h
      rw [hc]; rfl
    · cases hs : semi l with
      | none => rw [hs] at h; cases h
      | some p =>
        obtain ⟨x, y⟩ := p
        rw [hs] at h
        simp only [Option.some.injEq, Prod.mk.injEq] at h
        obtain ⟨rfl, rfl⟩ := h
        rw [semi_drop hs]; rfl
theorem ex_map_ok {o : Except Nat (List UInt8)} {f : List UInt8 → List UInt8} {a : List UInt8} (h : o.map f = .ok a) : ∃ b, o = .ok b ∧ f b = a := by
  cases o with
  | error e => cases h
  | ok b => exact ⟨b, rfl, by simpa [Except.map] using h⟩
theorem map_one (o : Except Nat (List UInt8)) (c : UInt8) (a : List UInt8) : (o.map (a ++ ·)).map (c :: ·) = o.map ((c :: a) ++ ·) := by
  cases o <;> simp [Except.map]
theorem unL_plain : ∀ (l : List UInt8) (f k : Nat), l.length < f → (∀ b ∈ l, b ≠ 38 ∧ b ≠ 13) → unL false f l k = .ok l
  | [], f, k, hf, _ => by
    obtain ⟨f, rfl⟩ : ∃ f', f = f' + 1 := ⟨f - 1, by omega⟩
    rfl
  | c :: l, f, k, hf, h => by
    obtain ⟨f, rfl⟩ : ∃ f', f = f' + 1 := ⟨f - 1, by omega⟩
    have hc := h c (by simp)
    unfold unL
    rw [if_neg hc.1, if_neg hc.2, unL_plain l f (k + 1) (by simpa using hf) (fun b hb => h b (by simp [hb]))]
    rfl
theorem unL_gt (f k : Nat) : unL false (f + 5) [38, 103, 116, 59] k = .ok [62] := by
  unfold unL
  rw [if_pos rfl, show semi [103, 116, 59] = some ([103, 116], []) from rfl]
  simp only [show refV [103, 116] = some [62] from rfl]
  rfl
theorem unL_place {attr : Bool} : ∀ {f : Nat} {l : List UInt8} {k : Nat} {a : List UInt8}, unL attr f l k = .ok a → ∀ j, unL attr f l j = .ok a := by
  intro f
  induction f with
  | zero => intro l k a h j; simpa [unL] using h
  | succ f ih =>
    intro l k a h j
    cases l with
    | nil => simpa [unL] using h
    | cons c l =>
      unfold unL at h ⊢
      by_cases h38 : c = 38
      · rw [if_pos h38] at h ⊢
        cases hs : semi l with
        | none => rw [hs] at h; cases h
        | some p =>
          obtain ⟨t, r⟩ := p
          rw [hs] at h
          simp only at h ⊢
          cases hv : refV t with
          | none => rw [hv] at h; cases h
          | some x =>
            rw [hv] at h
            simp only at h ⊢
            obtain ⟨b, hb, rfl⟩ := ex_map_ok h
            rw [ih hb]
            rfl
      · rw [if_neg h38] at h ⊢
        by_cases h13 : c = 13
        · rw [if_pos h13] at h ⊢
          by_cases h10 : l.take 1 = [10]
          · rw [if_pos h10] at h ⊢
            obtain ⟨b, hb, rfl⟩ := ex_map_ok h
            rw [ih hb]
            rfl
          · rw [if_neg h10] at h ⊢
            obtain ⟨b, hb, rfl⟩ := ex_map_ok h
            rw [ih hb]
            rfl
        · rw [if_neg h13] at h ⊢
          obtain ⟨b, hb, rfl⟩ := ex_map_ok h
          rw [ih hb]
          rfl
end Wb
namespace Wb
def refB (attr : Bool) (c : UInt8) : List UInt8 :=
  if c = 38 then [38, 97, 109, 112, 59] else if c = 60 then [38, 108, 116, 59] else if c = 62 ∧ attr = false then [38, 103, 116, 59]
  else if c = 34 ∧ attr = true then [38, 113, 117, 111, 116, 59] else if c = 13 then [38, 35, 49, 51, 59]
  else if c = 10 ∧ attr = true then [38, 35, 49, 48, 59] else if c = 9 ∧ attr = true then [38, 35, 57, 59] else []
def escB (attr : Bool) (c : UInt8) : List UInt8 := if refB attr c = [] then [c] else refB attr c
def escL (attr : Bool) : List UInt8 → List UInt8
  | [] => []
  | c :: l => escB attr c ++ escL attr l
theorem escL_app (attr : Bool) (a b : List UInt8) : escL attr (a ++ b) = escL attr a ++ escL attr b := by
  induction a with
  | nil => rfl
  | cons c a ih => rw [List.cons_append, escL, ih, escL, List.append_assoc]
theorem escL_plain {attr : Bool} {l : List UInt8} (h : ∀ c ∈ l, refB attr c = []) : escL attr l = l := by
  induction l with
  | nil => rfl
  | cons c l ih =>
    rw [escL, ih (fun x hx => h x (List.mem_cons_of_mem _ hx))]
    unfold escB
    rw [if_pos (h c (List.mem_cons_self ..))]
    rfl
theorem refB_len (attr : Bool) (c : UInt8) : (refB attr c).length ≤ 6 := by
  unfold refB
  repeat' split
  all_goals simp
theorem escB_len (attr : Bool) (c : UInt8) : 1 ≤ (escB attr c).length ∧ (escB attr c).length ≤ 6 := by
  unfold escB
  split
  · simp
  · rename_i h
    exact ⟨List.length_pos_iff.2 h, refB_len attr c⟩
theorem escL_len (attr : Bool) (l : List UInt8) : l.length ≤ (escL attr l).length ∧ (escL attr l).length ≤ 6 * l.length := by
  induction l with
  | nil => simp [escL]
  | cons c l ih =>
    have := escB_len attr c
    rw [escL, List.length_append, List.length_cons]
    omega
end Wb
