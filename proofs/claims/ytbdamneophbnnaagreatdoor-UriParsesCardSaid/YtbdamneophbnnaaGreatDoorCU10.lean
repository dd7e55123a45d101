/- SaC SaD SaE SaF Txt QdA Take. -/
import Derived.Deep.Cut
import Derived.Deep.RegionHeld2
import Derived.Test.YtbdamneophbnnaaGreatDoorCU2
import Derived.Test.YtbdamneophbnnaaGreatDoorCU3
import Derived.Test.YtbdamneophbnnaaGreatDoorCU4
import Derived.Test.YtbdamneophbnnaaGreatDoorCU5
import Derived.Test.YtbdamneophbnnaaGreatDoorCU8
import Derived.Test.YtbdamneophbnnaaGreatDoorCU9
namespace Wb
inductive BR : List UInt8 → List Pr → Prop
  | done {s : List UInt8} (h : s.dropWhile blkU = []) : BR s []
  | more {s n sp r : List UInt8} {ls : List Pr} (hne : s.dropWhile blkU ≠ []) (h : bind1 (s.dropWhile blkU) = some ((n, sp), r)) (hb : bindB ⟨n.toArray⟩ ⟨sp.toArray⟩ = 0) (hr : BR r ls) : BR s ((⟨n.toArray⟩, ⟨sp.toArray⟩) :: ls)
theorem sdw_len (s : List UInt8) : (s.dropWhile blkU).length ≤ s.length := (List.dropWhile_sublist _).length_le
theorem bindsL_ok : ∀ (f : Nat) (s : List UInt8) (out m : List Pr), out.length ≤ 16 → bindsL f s out = (m, 0) → ∃ ls, m = out ++ ls ∧ BR s ls ∧ m.length ≤ 16
  | 0, s, out, m, _, h => by
    rw [bindsL] at h
    simp at h
  | f + 1, s, out, m, ho, h => by
    rw [bindsL] at h
    split at h
    · rename_i hd
      injection h with h1 h2
      subst h1
      exact ⟨[], by simp, .done hd, ho⟩
    · rename_i c l hd
      split at h
      · simp at h
      · rename_i n sp r hb
        split at h
        · simp at h
        · rename_i h16
          split at h
          · rename_i h0
            obtain ⟨ls, h1, h2, h3⟩ := bindsL_ok f r _ m (by rw [List.length_append]; simp; omega) h
            exact ⟨_, by rw [h1, List.append_assoc]; rfl, .more (by rw [hd]; simp) (by rw [hd]; exact hb) h0 h2, h3⟩
          · rename_i h0
            injection h with h1 h2
            exact absurd h2 h0
theorem bindsL_br : ∀ {s : List UInt8} {ls : List Pr}, BR s ls → ∀ (f : Nat) (out : List Pr), s.length < f → out.length ≤ 16 → bindsL f s out = if out.length + ls.length ≤ 16 then (out ++ ls, 0) else ([], 3) := by
  intro s ls h
  induction h with
  | done h =>
    intro f out hf ho
    obtain ⟨f, rfl⟩ : ∃ g, f = g + 1 := ⟨f - 1, by omega⟩
    rw [bindsL, h]
    simp [ho]
  | @more s n sp r ls hne h hb hr ih =>
    intro f out hf ho
    obtain ⟨f, rfl⟩ : ∃ g, f = g + 1 := ⟨f - 1, by omega⟩
    have hl := (bind1_len h).1
    have hd := sdw_len s
    rw [bindsL]
    split
    · rename_i e; exact absurd e hne
    · rename_i c l e
      rw [e] at h
      rw [h]
      simp only
      by_cases h16 : 16 ≤ out.length
      · rw [if_pos h16, if_neg (by simp; omega)]
      · rw [if_neg h16, if_pos hb, ih f _ (by rw [e] at hl hd; omega) (by rw [List.length_append]; simp; omega)]
        simp only [List.length_append, List.length_cons, List.length_nil, List.append_assoc, List.cons_append, List.nil_append]
        congr 1
        rw [eq_iff_iff]
        omega
theorem BR.nil : BR [] [] := .done rfl
theorem bindsP_ok {q : List UInt8} {m : List Pr} (h : bindsP q = (m, 0)) : ∃ s, decP q = (s, 0) ∧ BR s m ∧ m.length ≤ 16 := by
  unfold bindsP at h
  split at h
  · rename_i h0
    obtain ⟨ls, h1, h2, h3⟩ := bindsL_ok _ _ _ m (by simp) h
    rw [List.nil_append] at h1
    subst h1
    exact ⟨_, Prod.ext rfl h0, h2, h3⟩
  · rename_i h0
    injection h with _ h
    exact absurd h h0
theorem bindsP_br {q s : List UInt8} {m : List Pr} (hd : decP q = (s, 0)) (h : BR s m) : bindsP q = if m.length ≤ 16 then (m, 0) else ([], 3) := by
  unfold bindsP
  rw [hd]
  simp only [if_true]
  rw [bindsL_br h _ [] (by omega) (by simp)]
  simp
theorem bindsP_bad (q : List UInt8) (h : (bindsP q).2 ≠ 0) : (bindsP q).1 = [] := by
  have key : ∀ (f : Nat) (s : List UInt8) (out : List Pr), (bindsL f s out).2 ≠ 0 → (bindsL f s out).1 = [] := by
    intro f
    induction f with
    | zero => intro s out _; rfl
    | succ f ih =>
      intro s out h
      rw [bindsL] at h ⊢
      split at h
      · exact absurd rfl h
      · split at h
        · rfl
        · split at h
          · rename_i h16
            simp [h16]
          · rename_i h16
            split at h
            · rename_i h0
              simp only [h16, h0, if_true, if_false]
              exact ih _ _ h
            · rename_i h0
              simp [h16, h0]
  unfold bindsP at h ⊢
  split
  · rename_i h0
    rw [if_pos h0] at h
    exact key _ _ _ h
  · rfl
def queryT : Nat → List ByteArray → List UInt8
  | _, [] => []
  | i, s :: sp => sBindK ++ (numT i ++ 61 :: s.data.toList) ++ 41 :: queryT (i + 1) sp
theorem num_eq : ∀ i : Fin 32, ∀ b ∈ numT i.val, b ≠ 61 ∧ b ≠ 41 ∧ b ≠ 91 ∧ b ≠ 64 ∧ b ≠ 42 ∧ b ≠ 47 := by decide +kernel
theorem query_br : ∀ (sp : List ByteArray) (i : Nat), i + sp.length ≤ 32 → (∀ s ∈ sp, spOK s ∧ s ≠ sXML) → BR (queryT i sp) (numP i sp)
  | [], _, _, _ => BR.nil
  | s :: sp, i, hl, h => by
    rw [List.length_cons] at hl
    obtain ⟨⟨h1, h2, h3, _⟩, h5⟩ := h s (by simp)
    have hi : i < 32 := by omega
    have hn : nameB (numT i) = true := num_name ⟨i, hi⟩
    have hb := bind_num hi ((needs_iff s).2 ⟨h1, h5⟩) h2
    have hk : (queryT i (s :: sp)).dropWhile blkU = queryT i (s :: sp) := by
      rw [queryT]
      rfl
    have := BR.more (s := queryT i (s :: sp)) (n := numT i) (sp := s.data.toList) (r := queryT (i + 1) sp) (ls := numP (i + 1) sp) (by rw [hk, queryT]; simp [sBindK])
      (by
        rw [hk, queryT]
        refine bind1_is _ hn (fun x hx => (num_eq ⟨i, hi⟩ x hx).1) fun x hx => ?_
        rcases List.mem_append.1 hx with hx | hx
        · exact (num_eq ⟨i, hi⟩ x hx).2.1
        · rcases List.mem_cons.1 hx with rfl | hx
          · decide
          · intro e
            subst e
            exact h3 hx)
      (by rw [to_list]; exact hb) (query_br sp (i + 1) (by omega) fun x hx => h x (by simp [hx]))
    rw [to_list] at this
    rw [numP]
    exact this
theorem num_txt {i : Nat} (hi : i < 32) : TxtOK (numT i) := (nm_bytes (num_name ⟨i, hi⟩)).2.2.1
theorem query_txt : ∀ (sp : List ByteArray) (i : Nat), i + sp.length ≤ 32 → (∀ s ∈ sp, spOK s ∧ s ≠ sXML) → TxtOK (queryT i sp)
  | [], _, _, _ => TxtOK.nil
  | s :: sp, i, hl, h => by
    rw [List.length_cons] at hl
    rw [queryT]
    have h4 := (h s (by simp)).1.2.2.2
    unfold TxtB at h4
    have e : sBindK ++ (numT i ++ 61 :: s.data.toList) ++ 41 :: queryT (i + 1) sp = sBindK ++ (numT i ++ ([61] ++ s.data.toList)) ++ ([41] ++ queryT (i + 1) sp) := rfl
    rw [e]
    refine TxtOK.app (TxtOK.app (TxtOK.ascii (by decide)) (TxtOK.app (num_txt (by omega)) (TxtOK.app (TxtOK.ascii (by decide)) h4))) (TxtOK.app (TxtOK.ascii (by decide)) (query_txt sp (i + 1) (by omega) fun x hx => h x (by simp [hx])))
theorem chk_txt {l : List UInt8} (h : TxtOK l) : chk l = -1 := by
  obtain ⟨ns, h1, h2⟩ := h
  have := chk_form ns [] (fun n hn => char_sgn n (h1 n hn)) rfl
  rw [if_pos rfl, List.append_nil] at this
  rw [h2]
  exact this
theorem dec_txt {l : List UInt8} (h : TxtOK l) : decP (pctE [] l) = (l, 0) := by
  rw [decP_back, chk_txt h, if_neg (by omega)]
theorem query_back {sp : List ByteArray} (h : SpsOK sp) : bindsP (pctE [] (queryT 0 sp)) = (numP 0 sp, 0) := by
  have hl : ∀ (l : List ByteArray) (i : Nat), (numP i l).length = l.length := by
    intro l
    induction l with
    | nil => intro i; rfl
    | cons s l ih => intro i; rw [numP, List.length_cons, ih, List.length_cons]
  have h16 := h.1
  rw [bindsP_br (dec_txt (query_txt sp 0 (by omega) h.2)) (query_br sp 0 (by omega) h.2), hl, if_pos h16]
end Wb
namespace Wb
structure StV where
  kind : Int
  any : Bool
  name : Pr
  pos : Int
  by_ : Bool
  attr : Pr
  val : ByteArray
def nE : Pr := (sE, sE)
def testP (s : List UInt8) : Option (List UInt8 × List UInt8) :=
  if s.take 2 = [91, 64] then match cutC 61 (s.drop 2) with
    | none => none
    | some (n, t) => match t with
      | [] => none
      | q :: u => if q = 34 ∨ q = 39 then match cutC q u with
          | none => none
          | some (v, e) => if e = [93] ∧ (splitB ⟨n.toArray⟩).2.2 = true then some (n, v) else none
        else none
  else none
def headP (d : List UInt8) : List UInt8 × List UInt8 := (d.takeWhile (· != 91), d.dropWhile (· != 91))
def posnP (r : List UInt8) : Option (Nat × List UInt8) :=
  if r = [] ∨ r.take 2 = [91, 64] then some (0, r) else match cutC 93 (r.drop 1) with
    | none => none
    | some (t, r') => if posP t = 0 then none else some (posP t, r')
def unV (v : List UInt8) : List UInt8 × Int := match unL true (v.length + 1) v 0 with
  | .ok x => (x, 0)
  | .error _ => ([], 16)
theorem unV_esc (v : List UInt8) : unV (escL true v) = (v, 0) := by
  unfold unV
  rw [un_esc true v 0 _ (by omega)]
def stepP (sc : List Pr) (d : List UInt8) : Except Int StV :=
  if (headP d).1 ≠ [42] ∧ (splitB ⟨(headP d).1.toArray⟩).2.2 = false then .error 33
  else match posnP (headP d).2 with
    | none => .error 33
    | some (p, r) =>
      if r = [] then
        if (headP d).1 = [42] then .ok ⟨1, true, nE, p, false, nE, sE⟩
        else if (resB sc ⟨(headP d).1.toArray⟩ false).2 = 0 then .ok ⟨1, false, (resB sc ⟨(headP d).1.toArray⟩ false).1, p, false, nE, sE⟩ else .error (resB sc ⟨(headP d).1.toArray⟩ false).2
      else match testP r with
        | none => .error 33
        | some (an, v) =>
          if (headP d).1 ≠ [42] ∧ (resB sc ⟨(headP d).1.toArray⟩ false).2 ≠ 0 then .error (resB sc ⟨(headP d).1.toArray⟩ false).2
          else if (resB sc ⟨an.toArray⟩ true).2 ≠ 0 then .error (resB sc ⟨an.toArray⟩ true).2
          else if (unV v).2 ≠ 0 then .error (unV v).2
          else .ok ⟨1, decide ((headP d).1 = [42]), if (headP d).1 = [42] then nE else (resB sc ⟨(headP d).1.toArray⟩ false).1, p, true, (resB sc ⟨an.toArray⟩ true).1, ⟨(unV v).1.toArray⟩⟩
def sNsAll : List UInt8 := [110, 97, 109, 101, 115, 112, 97, 99, 101, 58, 58, 42]
def oneP (sc : List Pr) (last : Bool) (d : List UInt8) : Except Int StV :=
  if last = true ∧ d = sNsAll then .ok ⟨3, false, nE, 0, false, nE, sE⟩
  else if last = true ∧ d.head? = some 64 then
    if (resB sc ⟨(d.drop 1).toArray⟩ true).2 = 0 then .ok ⟨2, false, (resB sc ⟨(d.drop 1).toArray⟩ true).1, 0, false, nE, sE⟩ else .error (resB sc ⟨(d.drop 1).toArray⟩ true).2
  else stepP sc d
def parseL' (sc : List Pr) : Bool → List (List UInt8) → Except Int (List StV)
  | _, [] => .ok []
  | first, p :: r => if (decP p).2 ≠ 0 then .error (decP p).2 else match oneP sc (!first && r.isEmpty) (decP p).1 with
    | .error e => .error e
    | .ok x => match parseL' sc false r with
      | .error e => .error e
      | .ok l => .ok (x :: l)
def parseS (s : List UInt8) (space : ByteArray) (binds : List Pr) : Except Int (List StV) :=
  if 16 < (pieceF 47 s).length then .error 3 else parseL' ((sE, space) :: binds) true (pieceF 47 s)
def shape1 (last : Bool) (x : StV) : Bool :=
  if x.kind = 1 then (x.any == decide (x.name = nE)) && decide (0 ≤ x.pos) && decide (x.pos ≤ 9999) && (x.by_ || (decide (x.attr = nE) && decide (x.val = sE)))
  else if x.kind = 2 then last && (!x.any && decide (x.pos = 0) && !x.by_ && decide (x.attr = nE) && decide (x.val = sE))
  else if x.kind = 3 then last && (!x.any && decide (x.pos = 0) && !x.by_ && decide (x.attr = nE) && decide (x.val = sE)) && decide (x.name = nE)
  else false
def shapeL : Bool → List StV → Bool
  | _, [] => true
  | first, x :: r => shape1 (!first && r.isEmpty) x && shapeL false r
def shapeS (l : List StV) : Bool := shapeL true l && (decide (1 ≤ l.length) && decide (l.length ≤ 16))
def posT (p : Int) : List UInt8 := if 0 < p then 91 :: dgN p.toNat ++ [93] else []
def testT (a v : List UInt8) : List UInt8 := [91, 64] ++ a ++ [61, 34] ++ v ++ [34, 93]
def elemT (x : StV) (space : ByteArray) (l : List ByteArray) : Except Int (List UInt8 × List ByteArray) := if x.any = true then .ok ([42], l) else nameT x.name space l
def stpT (x : StV) (space : ByteArray) (l : List ByteArray) : Except Int (List UInt8 × List ByteArray) :=
  if x.kind = 3 then .ok (sNsAll, l)
  else if x.kind = 2 then match nameT x.name sE l with
    | .error e => .error e
    | .ok (t, l') => .ok (64 :: t, l')
  else match elemT x space l with
    | .error e => .error e
    | .ok (t, l') =>
      if x.by_ = false then .ok (t ++ posT x.pos, l')
      else match nameT x.attr sE l' with
        | .error e => .error e
        | .ok (a, l2) => if sgB x.val = false then .error 11 else .ok (t ++ posT x.pos ++ testT a (escL true x.val.data.toList), l2)
def stpsT (space : ByteArray) : List StV → List ByteArray → Except Int (List (List UInt8) × List ByteArray)
  | [], l => .ok ([], l)
  | x :: r, l => match stpT x space l with
    | .error e => .error e
    | .ok (t, l') => match stpsT space r l' with
      | .error e => .error e
      | .ok (ts, l2) => .ok (t :: ts, l2)
def printS (space : ByteArray) (l : List StV) : Except Int (List UInt8 × List UInt8) :=
  if shapeS l = false then .error 33 else match stpsT space l [] with
    | .error e => .error e
    | .ok (ts, sp) => .ok (joinB 47 (ts.map (pctE [])), pctE [] (queryT 0 sp))
def nameC (c : UInt8) : Bool := wordB c && c != 91 && c != 93 && c != 64 && c != 42 && c != 41
theorem part_nameC : ∀ c : Fin 128, partB (c.val : Int) = true → nameC (UInt8.ofNat c.val) = true := by decide +kernel
theorem nm_nameC {l : List UInt8} (h : nameB l = true) : ∀ b ∈ l, nameC b = true ∧ b ≠ 58 := by
  obtain ⟨h1, n, ns, h2, h3, rfl⟩ := (nameB_iff l).1 h
  intro b hb
  obtain ⟨m, hm, hb⟩ := List.mem_flatMap.1 hb
  have hp : partB m = true := by
    rcases List.mem_cons.1 hm with rfl | hm
    · exact start_part m h2
    · exact h3 m hm
  refine ⟨?_, (enc_part_word hp hb).2.1⟩
  have hw := (enc_part_word hp hb).1
  by_cases hl : b.toNat < 128
  · obtain ⟨_, rfl⟩ := enc_low hb hl
    have := part_nameC ⟨b.toNat, hl⟩ hp
    simpa using this
  · unfold nameC
    rw [hw]
    have : ∀ d : UInt8, d.toNat < 128 → (b != d) = true := fun d hd => by
      rw [bne_iff_ne]
      intro e
      subst e
      exact hl hd
    rw [this 91 (by decide), this 93 (by decide), this 64 (by decide), this 42 (by decide), this 41 (by decide)]
    rfl
theorem nameC_ne {b : UInt8} (h : nameC b = true) : b ≠ 91 ∧ b ≠ 93 ∧ b ≠ 64 ∧ b ≠ 42 ∧ b ≠ 61 ∧ b ≠ 47 ∧ b ≠ 34 ∧ b ≠ 39 := by
  unfold nameC wordB at h
  simp only [Bool.and_eq_true, bne_iff_ne] at h
  exact ⟨h.1.1.1.1.2, h.1.1.1.2, h.1.1.2, h.1.2, h.1.1.1.1.1.1.1.1.1.2, h.1.1.1.1.1.1.1.1.1.1.1.2, h.1.1.1.1.1.1.1.2, h.1.1.1.1.1.1.2⟩
theorem nameT_bytes {n : Pr} {plain : ByteArray} {l l' : List ByteArray} {t : List UInt8} (h : nameT n plain l = .ok (t, l')) (hl : l'.length ≤ 32) :
    t ≠ [] ∧ TxtOK t ∧ ∀ b ∈ t, nameC b = true := by
  obtain ⟨hn, hc⟩ := nameT_cases h
  obtain ⟨a1, _, a3, _⟩ := nm_bytes hn
  have a4 := fun b hb => (nm_nameC hn b hb).1
  rcases hc with ⟨_, rfl, _⟩ | ⟨_, _, rfl, _⟩ | ⟨_, _, _, hm, rfl, _⟩
  · exact ⟨a1, a3, a4⟩
  · refine ⟨by simp [sXmlK], TxtOK.app (TxtOK.ascii (by decide)) a3, fun b hb => ?_⟩
    rcases List.mem_append.1 hb with hb | hb
    · exact (show ∀ b ∈ sXmlK, nameC b = true by decide) b hb
    · exact a4 b hb
  · have hi := idxB_lt hm
    have hk := num_name ⟨idxB n.1 l', by omega⟩
    refine ⟨by simp, TxtOK.app (num_txt (by omega)) (TxtOK.app (a := [58]) (TxtOK.ascii (by decide)) a3), fun b hb => ?_⟩
    rcases List.mem_append.1 hb with hb | hb
    · exact (nm_nameC hk b hb).1
    · rcases List.mem_cons.1 hb with rfl | hb
      · decide
      · exact a4 b hb
theorem split_of_res {sc : List Pr} {q : ByteArray} {attr : Bool} {n : Pr} (h : resB sc q attr = (n, 0)) : (splitB q).2.2 = true := by
  unfold resB at h
  split at h
  · injection h with _ h
    exact absurd h (by decide)
  · rename_i hs
    simpa using hs
theorem test_is {a v : List UInt8} (ha : ∀ b ∈ a, b ≠ 61) (hv : ∀ b ∈ v, b ≠ 34) (hs : (splitB ⟨a.toArray⟩).2.2 = true) : testP (testT a v) = some (a, v) := by
  unfold testP testT
  have e : [91, 64] ++ a ++ [61, 34] ++ v ++ [34, 93] = (91 : UInt8) :: 64 :: (a ++ 61 :: (34 :: (v ++ 34 :: [93]))) := by simp
  rw [e]
  simp only [List.take_succ_cons, List.take_zero, List.drop_succ_cons, List.drop_zero, if_true]
  rw [cutC_at _ ha]
  simp only [true_or, if_true]
  rw [cutC_at [93] hv]
  simp [hs]
theorem dw_true {p : UInt8 → Bool} : ∀ {l : List UInt8}, (∀ x ∈ l, p x = true) → l.dropWhile p = []
  | [], _ => rfl
  | x :: l, h => by
    rw [List.dropWhile_cons, if_pos (h x (by simp))]
    exact dw_true fun y hy => h y (by simp [hy])
theorem head_is {t r : List UInt8} (ht : ∀ b ∈ t, b ≠ 91) (hr : r = [] ∨ ∃ r', r = 91 :: r') : headP (t ++ r) = (t, r) := by
  unfold headP
  rcases hr with rfl | ⟨r', rfl⟩
  · have h1 : ∀ x ∈ t, (x != 91) = true := fun x hx => by rw [bne_iff_ne]; exact ht x hx
    rw [List.append_nil]
    have h2 := List.takeWhile_append_dropWhile (p := fun x : UInt8 => x != 91) (l := t)
    have h3 : t.dropWhile (· != 91) = [] := dw_true h1
    rw [h3, List.append_nil] at h2
    rw [h2, h3]
  · obtain ⟨h1, h2⟩ := tw_free (c := 91) r' ht
    rw [h1, h2]
theorem posn_is {p : Int} {r : List UInt8} (h : p ≤ 9999) (hp : 0 ≤ p) (hr : r = [] ∨ r.take 2 = [91, 64]) : posnP (posT p ++ r) = some (p.toNat, r) := by
  unfold posT
  by_cases h0 : 0 < p
  · rw [if_pos h0]
    have hd := dgN_byte p.toNat
    obtain ⟨c, q, e, _⟩ := dgN_head p.toNat (by omega)
    have hc := hd c (by rw [e]; simp)
    unfold posnP
    rw [if_neg]
    · have e2 : (91 :: dgN p.toNat ++ [93] ++ r).drop 1 = dgN p.toNat ++ 93 :: r := by simp
      rw [e2, cutC_at r fun x hx => fun e => by
        have := hd x hx
        subst e
        revert this
        decide]
      simp only
      rw [posP_is (by omega) (by omega), if_neg (by omega)]
    · rintro (h | h)
      · simp at h
      · rw [e] at h
        simp only [List.cons_append, List.take_succ_cons, List.take_zero, List.cons.injEq, and_true, true_and] at h
        subst h
        revert hc
        decide
  · rw [if_neg h0, List.nil_append]
    unfold posnP
    rw [if_pos hr]
    congr 2
    omega
end Wb
namespace Wb
theorem esc_no34 (v : List UInt8) : ∀ b ∈ escL true v, b ≠ 34 := fun b hb => ((esc_bytes true v b hb).2.2.1 rfl).1
theorem elem_facts {x : StV} {space : ByteArray} {l l' : List ByteArray} {t : List UInt8} (h : elemT x space l = .ok (t, l')) (hs : (x.any == decide (x.name = nE)) = true) (hl : SpsOK l) :
    SpsOK l' ∧ (∃ r, l' = l ++ r) ∧ t ≠ [] ∧ TxtOK t ∧ (∀ b ∈ t, b ≠ 91) ∧ t.head? ≠ some 64 ∧ t ≠ sNsAll ∧ (x.any = true → t = [42] ∧ x.name = nE) ∧
      (x.any = false → t ≠ [42] ∧ ∀ r, (l' ++ r).length ≤ 32 → resB ((sE, space) :: numP 0 (l' ++ r)) ⟨t.toArray⟩ false = (x.name, 0)) := by
  unfold elemT at h
  split at h
  · rename_i ha
    injection h with h
    injection h with h1 h2
    subst h1 h2
    rw [ha] at hs
    refine ⟨hl, ⟨[], by simp⟩, by simp, TxtOK.ascii (by decide), by decide, by decide, by decide, fun _ => ⟨rfl, by simpa using hs⟩, fun h => (by rw [ha] at h; cases h)⟩
  · rename_i ha
    have ha : x.any = false := by simpa using ha
    obtain ⟨s1, s2⟩ := nameT_sps h hl
    obtain ⟨b1, b2, b3⟩ := nameT_bytes h (by have := s1.1; omega)
    have h42 : (42 : UInt8) ∉ t := fun hm => (nameC_ne (b3 _ hm)).2.2.2.1 rfl
    refine ⟨s1, s2, b1, b2, fun b hb => (nameC_ne (b3 b hb)).1, ?_, fun e => h42 (by rw [e]; decide), fun h => (by rw [ha] at h; cases h), fun _ => ⟨fun e => h42 (by rw [e]; decide), fun r hr => nameT_res false h r hr⟩⟩
    cases t with
    | nil => exact absurd rfl b1
    | cons c t =>
      intro e
      simp only [List.head?_cons, Option.some.injEq] at e
      exact (nameC_ne (b3 c (by simp))).2.2.1 e
theorem posT_head (p : Int) : posT p = [] ∨ ∃ r, posT p = 91 :: r := by
  unfold posT
  split
  · exact .inr ⟨_, rfl⟩
  · exact .inl rfl
theorem posT_txt (p : Int) : TxtOK (posT p) := by
  unfold posT
  split
  · refine TxtOK.ascii fun b hb => ?_
    rcases List.mem_append.1 hb with hb | hb
    · rcases List.mem_cons.1 hb with rfl | hb
      · decide
      · have := dgN_byte _ b hb
        omega
    · rw [List.mem_singleton] at hb
      subst hb
      decide
  · exact TxtOK.nil
theorem ns_no (t r : List UInt8) (ht : t ≠ sNsAll) (hr : r = [] ∨ ∃ r', r = 91 :: r') : t ++ r ≠ sNsAll := by
  rcases hr with rfl | ⟨r', rfl⟩
  · rw [List.append_nil]
    exact ht
  · intro e
    have : (91 : UInt8) ∈ sNsAll := by rw [← e]; simp
    exact absurd this (by decide)
theorem head_app {t r : List UInt8} (hne : t ≠ []) : (t ++ r).head? = t.head? := by
  cases t with
  | nil => exact absurd rfl hne
  | cons c t => rfl
theorem step_back {x : StV} {space : ByteArray} {l l' : List ByteArray} {t : List UInt8} {last : Bool} (h : stpT x space l = .ok (t, l')) (hs : shape1 last x = true) (hl : SpsOK l) :
    SpsOK l' ∧ (∃ r, l' = l ++ r) ∧ TxtOK t ∧ ∀ r, (l' ++ r).length ≤ 32 → oneP ((sE, space) :: numP 0 (l' ++ r)) last t = .ok x := by
  obtain ⟨kind, any, name, pos, by_, attr, val⟩ := x
  unfold stpT at h
  unfold shape1 at hs
  simp only at h hs
  by_cases h3 : kind = 3
  · subst h3
    simp only [if_true] at h hs
    injection h with h
    injection h with h1 h2
    subst h1 h2
    simp only [show ¬ (3 : Int) = 1 by decide, show ¬ (3 : Int) = 2 by decide, if_false, Bool.and_eq_true, decide_eq_true_eq, Bool.not_eq_true'] at hs
    obtain ⟨⟨rfl, ⟨⟨⟨rfl, rfl⟩, rfl⟩, rfl⟩, rfl⟩, rfl⟩ := hs
    refine ⟨hl, ⟨[], by simp⟩, TxtOK.ascii (by decide), fun r _ => ?_⟩
    unfold oneP
    rw [if_pos ⟨rfl, rfl⟩]
  rw [if_neg h3] at h
  by_cases h2 : kind = 2
  · subst h2
    simp only [if_true] at h
    simp only [show ¬ (2 : Int) = 1 by decide, if_false, if_true, Bool.and_eq_true, decide_eq_true_eq, Bool.not_eq_true'] at hs
    obtain ⟨rfl, ⟨⟨⟨rfl, rfl⟩, rfl⟩, rfl⟩, rfl⟩ := hs
    split at h
    · cases h
    · rename_i t0 l0 hn
      injection h with h
      injection h with h1 h2
      subst h1 h2
      obtain ⟨s1, s2⟩ := nameT_sps hn hl
      obtain ⟨b1, b2, b3⟩ := nameT_bytes hn (by have := s1.1; omega)
      refine ⟨s1, s2, TxtOK.app (a := [64]) (TxtOK.ascii (by decide)) b2, fun r hr => ?_⟩
      have hres := nameT_res (space := space) true hn r hr
      unfold oneP
      rw [if_neg (fun e => by have := congrArg List.head? e.2; simp [sNsAll] at this), if_pos ⟨rfl, rfl⟩]
      simp only [List.drop_succ_cons, List.drop_zero]
      rw [hres]
      rfl
  rw [if_neg h2] at h
  have h1 : kind = 1 := by
    apply Classical.byContradiction
    intro h1
    rw [if_neg h1, if_neg h2, if_neg h3] at hs
    cases hs
  subst h1
  simp only [if_true, Bool.and_eq_true, decide_eq_true_eq] at hs
  obtain ⟨⟨⟨hany, hp0⟩, hp9⟩, hby⟩ := hs
  split at h
  · cases h
  · rename_i t0 l0 he
    obtain ⟨s1, s2, f1, f2, f3, f4, f5, f6, f7⟩ := elem_facts he hany hl
    have hpt := posT_head pos
    have hpos : ((pos.toNat : Nat) : Int) = pos := by omega
    split at h
    · rename_i hb
      subst hb
      injection h with h
      injection h with h1 h2
      subst h1 h2
      simp only [Bool.false_or, Bool.and_eq_true, decide_eq_true_eq] at hby
      obtain ⟨rfl, rfl⟩ := hby
      refine ⟨s1, s2, TxtOK.app f2 (posT_txt pos), fun r hr => ?_⟩
      unfold oneP
      rw [if_neg (fun e => ns_no _ _ f5 hpt e.2), if_neg (fun e => f4 (by rw [← head_app (r := posT pos) f1]; exact e.2))]
      unfold stepP
      have hpn := posn_is (p := pos) (r := []) hp9 hp0 (.inl rfl)
      rw [List.append_nil] at hpn
      rw [head_is f3 hpt]
      simp only
      rw [hpn]
      simp only [if_true]
      cases any with
      | true =>
        obtain ⟨e1, e2⟩ := f6 rfl
        simp only at e2
        rw [if_neg (fun e => e.1 e1), if_pos e1, e2, hpos]
      | false =>
        obtain ⟨e1, e2⟩ := f7 rfl
        have e3 := e2 r hr
        have e4 := split_of_res e3
        rw [if_neg (fun e => by rw [e4] at e; cases e.2), if_neg e1, e3]
        simp only [if_true, hpos]
    · rename_i hb
      have hb : by_ = true := by simpa using hb
      subst hb
      split at h
      · cases h
      · rename_i a l2 hn
        split at h
        · cases h
        · rename_i hv
          have hv : TxtB val := (sgB_iff _).1 (by simpa using hv)
          injection h with h
          injection h with h1 h2
          subst h1 h2
          obtain ⟨s3, r3, e3⟩ := nameT_sps hn s1
          obtain ⟨r2, e2⟩ := s2
          obtain ⟨b1, b2, b3⟩ := nameT_bytes hn (by have := s3.1; omega)
          have htx : TxtOK (testT a (escL true val.data.toList)) := by
            unfold testT
            exact TxtOK.app (TxtOK.app (TxtOK.app (TxtOK.app (TxtOK.ascii (by decide)) b2) (TxtOK.ascii (by decide))) (esc_txt true hv)) (TxtOK.ascii (by decide))
          refine ⟨s3, ⟨r2 ++ r3, by rw [e3, e2, List.append_assoc]⟩, TxtOK.app (TxtOK.app f2 (posT_txt pos)) htx, fun r hr => ?_⟩
          have hra := nameT_res (space := space) true hn r hr
          have hte := test_is (a := a) (v := escL true val.data.toList) (fun b hb => (nameC_ne (b3 b hb)).2.2.2.2.1) (esc_no34 _) (split_of_res hra)
          have hth : ∃ q, testT a (escL true val.data.toList) = 91 :: q := ⟨_, by unfold testT; rfl⟩
          have ht2 : (testT a (escL true val.data.toList)).take 2 = [91, 64] := by unfold testT; rfl
          have htn : testT a (escL true val.data.toList) ≠ [] := by
            obtain ⟨q, hq⟩ := hth
            rw [hq]
            simp
          generalize testT a (escL true val.data.toList) = tt at *
          have hcat : posT pos ++ tt = [] ∨ ∃ q, posT pos ++ tt = 91 :: q := by
            obtain ⟨q, hq⟩ := hth
            rcases hpt with e | ⟨q2, e⟩
            · exact .inr ⟨q, by rw [e, List.nil_append]; exact hq⟩
            · exact .inr ⟨q2 ++ tt, by rw [e]; rfl⟩
          rw [List.append_assoc]
          unfold oneP
          rw [if_neg (fun e => ns_no _ _ f5 hcat e.2), if_neg (fun e => f4 (by rw [← head_app (r := posT pos ++ tt) f1]; exact e.2))]
          unfold stepP
          have hpn := posn_is (p := pos) (r := tt) hp9 hp0 (.inr ht2)
          rw [head_is f3 hcat]
          simp only
          rw [hpn]
          simp only
          rw [if_neg htn, hte]
          simp only
          rw [hra, unV_esc]
          simp only [ne_eq, not_true_eq_false, if_false]
          rw [to_list]
          cases any with
          | true =>
            obtain ⟨e1, e2⟩ := f6 rfl
            simp only at e2
            rw [if_neg (fun e => e.1 e1), if_neg (fun e => e.1 e1), if_pos e1, e2, hpos, decide_eq_true e1]
          | false =>
            obtain ⟨e1, e5⟩ := f7 rfl
            have e6 := e5 (r3 ++ r) (by rw [← List.append_assoc, ← e3]; exact hr)
            rw [← List.append_assoc, ← e3] at e6
            have e4 := split_of_res e6
            rw [if_neg (fun e => by rw [e4] at e; cases e.2), e6]
            simp only [not_true_eq_false, and_false, if_false]
            rw [if_neg e1, hpos, decide_eq_false e1]
end Wb
namespace Wb
theorem piece_app {c : UInt8} : ∀ (x cur r : List UInt8), c ∉ x → pieceA c cur (x ++ c :: r) = (cur ++ x) :: pieceA c [] r
  | [], cur, r, _ => by
    rw [List.nil_append, pieceA, if_pos rfl, List.append_nil]
  | d :: x, cur, r, h => by
    have hd : d ≠ c := fun e => h (by simp [e])
    rw [List.cons_append, pieceA, if_neg hd, piece_app x (cur ++ [d]) r fun e => h (by simp [e]), List.append_assoc]
    rfl
theorem piece_end {c : UInt8} : ∀ (x cur : List UInt8), c ∉ x → pieceA c cur x = [cur ++ x]
  | [], cur, _ => by rw [pieceA, List.append_nil]
  | d :: x, cur, h => by
    have hd : d ≠ c := fun e => h (by simp [e])
    rw [pieceA, if_neg hd, piece_end x (cur ++ [d]) fun e => h (by simp [e]), List.append_assoc]
    rfl
theorem join_pieces {c : UInt8} : ∀ (L : List (List UInt8)), L ≠ [] → (∀ x ∈ L, c ∉ x) → pieceF c (joinB c L) = L
  | [], h, _ => absurd rfl h
  | [x], _, h => by
    unfold pieceF
    rw [joinB, piece_end x [] (h x (by simp))]
    rfl
  | x :: y :: r, _, h => by
    unfold pieceF
    rw [joinB, piece_app x [] _ (h x (by simp))]
    have := join_pieces (c := c) (y :: r) (by simp) fun z hz => h z (by simp [hz])
    unfold pieceF at this
    rw [this]
    rfl
theorem pct_no47 (t : List UInt8) : (47 : UInt8) ∉ pctE [] t := fun h => by
  rcases pctE_mem [] t 47 h with h | h | h
  · revert h; decide
  · revert h; decide
  · simp at h
theorem steps_back {space : ByteArray} : ∀ (l : List StV) (first : Bool) (sp0 sp : List ByteArray) (ts : List (List UInt8)), stpsT space l sp0 = .ok (ts, sp) → shapeL first l = true → SpsOK sp0 →
    SpsOK sp ∧ (∃ r, sp = sp0 ++ r) ∧ ts.length = l.length ∧ ∀ r, (sp ++ r).length ≤ 32 → parseL' ((sE, space) :: numP 0 (sp ++ r)) first (ts.map (pctE [])) = .ok l
  | [], first, sp0, sp, ts, h, _, hs => by
    rw [stpsT] at h
    injection h with h
    injection h with h1 h2
    subst h1 h2
    refine ⟨hs, ⟨[], by simp⟩, rfl, fun r _ => ?_⟩
    rw [List.map_nil, parseL']
  | x :: l, first, sp0, sp, ts, h, hp, hs => by
    rw [stpsT] at h
    rw [shapeL, Bool.and_eq_true] at hp
    split at h
    · cases h
    · rename_i t l1 h1
      split at h
      · cases h
      · rename_i ts' l2 h2
        injection h with h
        injection h with e1 e2
        subst e1 e2
        obtain ⟨a1, ⟨r1, a2⟩, a3, a4⟩ := step_back h1 hp.1 hs
        obtain ⟨c1, ⟨r2, c2⟩, c3, c4⟩ := steps_back l false l1 l2 ts' h2 hp.2 a1
        refine ⟨c1, ⟨r1 ++ r2, by rw [c2, a2, List.append_assoc]⟩, by rw [List.length_cons, List.length_cons, c3], fun r hr => ?_⟩
        rw [List.map_cons, parseL', dec_txt a3, if_neg (by simp)]
        have hem : (ts'.map (pctE [])).isEmpty = l.isEmpty := by
          cases ts' with
          | nil =>
            cases l with
            | nil => rfl
            | cons y l => simp at c3
          | cons u ts' =>
            cases l with
            | nil => simp at c3
            | cons y l => rfl
        rw [hem]
        have e := a4 (r2 ++ r) (by rw [← List.append_assoc, ← c2]; exact hr)
        rw [← List.append_assoc, ← c2] at e
        simp only
        rw [e]
        simp only
        rw [c4 r hr]
theorem print_back {space : ByteArray} {l : List StV} {s q : List UInt8} (h : printS space l = .ok (s, q)) : ∃ b, bindsP q = (b, 0) ∧ parseS s space b = .ok l := by
  unfold printS at h
  split at h
  · cases h
  · rename_i hsh
    have hsh : shapeS l = true := by simpa using hsh
    unfold shapeS at hsh
    simp only [Bool.and_eq_true, decide_eq_true_eq] at hsh
    obtain ⟨h1, h2, h3⟩ := hsh
    split at h
    · cases h
    · rename_i ts sp hst
      injection h with h
      injection h with e1 e2
      subst e1 e2
      obtain ⟨a1, _, a3, a4⟩ := steps_back l true [] sp ts hst h1 ⟨by simp, by simp⟩
      refine ⟨numP 0 sp, query_back a1, ?_⟩
      have hp : pieceF 47 (joinB 47 (ts.map (pctE []))) = ts.map (pctE []) := by
        refine join_pieces _ ?_ fun x hx => ?_
        · intro e
          have := congrArg List.length e
          rw [List.length_map, List.length_nil] at this
          omega
        · obtain ⟨t, _, rfl⟩ := List.mem_map.1 hx
          exact pct_no47 t
      unfold parseS
      rw [hp, List.length_map, if_neg (by omega)]
      have := a4 [] (by have := a1.1; simp; omega)
      rw [List.append_nil] at this
      exact this
end Wb
namespace Go.Proofs.YtbdamneophbnnaaGreatDoor
open Go.RowKit Wb
theorem txt_byte : (Tryz.prog.info? 5).map (fun i => (i.zero, i.size, i.bytes)) = some (some (.int .u8 0), 1, 1) := by kernel_rfl
theorem run_txt {w : World} {base n : Nat} {e : TypeId} {v : Value} (l : List UInt8) (h : w.ownsRow base e 1 v n (cellsB l)) :
    (convert 74 9 v).run Tryz.prog w = .ok (.string ⟨l.toArray⟩) w := by
  have hn : n = l.length := by have := h.1; rw [cellsB_length] at this; omega
  have e8 : (b8 ∘ fun b : UInt8 => (b.toNat : Int)) = id := funext fun b => by
    show b8 (b.toNat : Int) = b
    unfold b8
    simp
  by_cases hl : l = []
  · subst hl
    rcases h.2 with ⟨rfl, _⟩ | ⟨g, cap, cur, rfl, _⟩
    · rw [List.length_nil] at hn
      subst hn
      rw [run_convert_bytes_string w _ _ _ _ 0 0 Tryz.underlying74 Tryz.underlying5 Tryz.underlying9]
      unfold Conv.bytesToString
      simp [Sem.run_pure]
      rfl
    · rw [List.length_nil] at hn
      subst hn
      rw [run_text w g 0 cap [] rfl (by intro j u hu; simp at hu)]
      rfl
  · obtain ⟨g, cap, rfl, _, _⟩ := h.form (by cases l with
      | nil => exact absurd rfl hl
      | cons a r => rw [hn]; simp)
    rw [run_text w g n cap (l.map fun b => (b.toNat : Int)) (by simp [hn]) (by
      intro j u hu
      have := h.cells (g := g) rfl j u (by simpa [cellsB] using hu)
      rw [Addr.add_lit, Nat.zero_add] at this
      exact this)]
    rw [List.map_map, e8, List.map_id]
end Go.Proofs.YtbdamneophbnnaaGreatDoor
namespace Go.Proofs.YtbdamneophbnnaaGreatDoor
open Go.RowKit Wb
set_option maxRecDepth 100000 in
set_option maxHeartbeats 4000000 in
theorem r9plain_any (c : UInt8) (w : World) :
    Calls Tryz.prog 53 #[.int .u8 c.toNat] w fun e w' => e = .returned (.bool (plC c)) ∧ w = w' := by
  have hv : ∀ b : Bool, (plC c = b ↔ ((97 ≤ c.toNat ∧ c.toNat ≤ 122) ∨ (65 ≤ c.toNat ∧ c.toNat ≤ 90) ∨ (48 ≤ c.toNat ∧ c.toNat ≤ 57) ∨ c.toNat = 45 ∨ c.toNat = 46 ∨ c.toNat = 95 ∨ c.toNat = 126 ↔ b = true)) := by
    intro b
    unfold plC
    rw [Bool.eq_iff_iff]
    have e : ∀ d : UInt8, (c == d) = true ↔ c.toNat = d.toNat := fun d => by rw [beq_iff_eq, UInt8.toNat_inj]
    simp only [Bool.or_eq_true, Bool.and_eq_true, decide_eq_true_eq, or_assoc, e]
    rfl
  have hr : (plC c = true ∧ 97 ≤ c.toNat ∧ c.toNat ≤ 122) ∨ (plC c = true ∧ 65 ≤ c.toNat ∧ c.toNat ≤ 90) ∨ (plC c = true ∧ 48 ≤ c.toNat ∧ c.toNat ≤ 57) ∨
      (plC c = true ∧ (c.toNat = 45 ∨ c.toNat = 46 ∨ c.toNat = 95 ∨ c.toNat = 126)) ∨
      (plC c = false ∧ c.toNat < 48 ∧ c.toNat ≠ 45 ∧ c.toNat ≠ 46) ∨ (plC c = false ∧ 57 < c.toNat ∧ c.toNat < 65) ∨ (plC c = false ∧ 90 < c.toNat ∧ c.toNat < 97 ∧ c.toNat ≠ 95) ∨ (plC c = false ∧ 122 < c.toNat ∧ c.toNat ≠ 126) := by
    rw [hv true, hv false]
    simp only [Bool.false_eq_true, iff_false, iff_true]
    omega
  clear hv
  go_enter Tryz.func53, Tryz.ntmps53
  rcases hr with ⟨hr, h1, h2⟩ | ⟨hr, h1, h2⟩ | ⟨hr, h1, h2⟩ | ⟨hr, h1 | h1 | h1 | h1⟩ | ⟨hr, h1, h2, h3⟩ | ⟨hr, h1, h2⟩ | ⟨hr, h1, h2, h3⟩ | ⟨hr, h1, h2⟩
  all_goals
    rw [hr]
    clear hr
    go_wp2
    go_ret
  all_goals first
    | exact ⟨rfl, rfl⟩
    | (refine ⟨?_, rfl⟩; simp; omega)
    | (refine ⟨?_, rfl⟩; simp [h1])
end Go.Proofs.YtbdamneophbnnaaGreatDoor
namespace Wb
open Go Go.RowKit
theorem op_at {ops : Array Oper} {i : Nat} {oi : Oper} {rest : List Oper} (h : ops.toList.drop i = oi :: rest) : ops[i]? = some oi := by
  have h2 : (ops.toList.drop i)[0]? = some oi := by rw [h]; rfl
  rw [List.getElem?_drop] at h2
  simpa using h2
theorem takeW {P : Program} {md : Region.Mode} {ops : Array Oper} {Q : Exit → Act → World → Prop} {S : World → Prop} {oi : Oper} {rest : List Oper} {v : Value} {fuel : Nat} {listed : Array Bool} {a : Act} {w : World} (i : Nat)
    (h : wpAnyH P md ops Q S fuel (listed.setIfInBounds i true) (a.put oi.dst v) w) (hi : ops.toList.drop i = oi :: rest := by rfl)
    (hy : ∀ w, S w → (execOp a.eval oi).run P w = .ok (.value v) w := by (intro w' hSw; (try dsimp only at hSw); go_simp; (try with_reducible rfl)))
    (hs : Region.noSelect ops = true := by kernel_rfl) (hf : Region.free md ops listed i = true := by kernel_rfl) (hr : (Region.ready md ops listed).contains i = true := by kernel_rfl)
    (hQ : ∀ c a w, Q (.panic c) (a.put oi.dst v) w → Q (.panic c) a w := by exact fun _ _ _ h => h) (hw : Region.wanted oi (yielded ops a.tmps) = true := by rfl) (hS : S w := by assumption) : wpAnyH P md ops Q S (fuel + 1) listed a w :=
  wpAnyH_take (op_at hi) hs hf hr hQ (.inl ⟨hw, hy⟩) hS h
theorem takeU {P : Program} {md : Region.Mode} {ops : Array Oper} {Q : Exit → Act → World → Prop} {S : World → Prop} {oi : Oper} {rest : List Oper} {fuel : Nat} {listed : Array Bool} {a : Act} {w : World} (i : Nat)
    (h : wpAnyH P md ops Q S fuel (listed.setIfInBounds i true) (a.put oi.dst undef) w)
    (hi : ops.toList.drop i = oi :: rest := by rfl) (hs : Region.noSelect ops = true := by kernel_rfl) (hf : Region.free md ops listed i = true := by kernel_rfl) (hr : (Region.ready md ops listed).contains i = true := by kernel_rfl)
    (hQ : ∀ c a w, Q (.panic c) (a.put oi.dst undef) w → Q (.panic c) a w := by exact fun _ _ _ h => h) (hw : Region.wanted oi (yielded ops a.tmps) = false := by rfl) (hS : S w := by assumption) : wpAnyH P md ops Q S (fuel + 1) listed a w :=
  wpAnyH_take (op_at hi) hs hf hr hQ (.inr ⟨hw, rfl⟩) hS h
end Wb
