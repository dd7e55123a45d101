import Derived.Test.YtjohfljkhlkjoaaGreatDoorMgJ
import Derived.Test.YtjohfljkhlkjoaaGreatDoorMgR
import Derived.Test.YtjohfljkhlkjoaaGreatDoorTrS
namespace Wb
def Reads {α : Type} (f : Rd α) (X : List UInt8) (a : α) : Prop := ∀ B, f (X ++ B) = some (X.length, a)
theorem Reads.bind {α β : Type} {f : Rd α} {g : α → Rd β} {X Y : List UInt8} {a : α} {b : β} (hf : Reads f X a) (hg : Reads (g a) Y b) : Reads (bindR f g) (X ++ Y) b := by
  intro B
  rw [List.append_assoc, List.length_append]
  exact bindR_of (hf _) (by rw [List.drop_left]; exact hg B)
theorem Reads.guard {α : Type} {f : Rd α} {c : Bool} {X : List UInt8} {a : α} (hc : c = true) (hf : Reads f X a) : Reads (guardR c f) X a := by
  intro B
  unfold guardR
  rw [if_pos hc]
  exact hf B
theorem Reads.map {α β : Type} {f : Rd α} {g : α → Option β} {X : List UInt8} {a : α} {b : β} (hf : Reads f X a) (hg : g a = some b) : Reads (mapR f g) X b := by
  intro B
  unfold mapR
  rw [hf B]
  simp only [hg]
theorem Reads.lit (p : List UInt8) : Reads (litR p) p () := fun B => litR_yes p B
theorem Reads.byte (c : UInt8) : Reads byteR [c] c := fun _ => rfl
theorem Reads.pure {α : Type} (a : α) : Reads (pureR a) [] a := fun _ => rfl
theorem Reads.span {β : Type} {p : UInt8 → Bool} {g : List UInt8 → Rd β} {w Y : List UInt8} {b : β} (hw : ∀ c ∈ w, p c = true) (hY : ∃ d r, Y = d :: r ∧ p d = false) (hg : Reads (g w) Y b) : Reads (bindR (spanR p) g) (w ++ Y) b := by
  intro B
  obtain ⟨d, r, rfl, hd⟩ := hY
  have ht : (w ++ ((d :: r) ++ B)).takeWhile p = w := by
    rw [List.takeWhile_append_of_pos hw, List.cons_append, List.takeWhile_cons_of_neg (by simp [hd]), List.append_nil]
  rw [List.append_assoc, List.length_append]
  refine bindR_of (n := w.length) (a := w) ?_ (by rw [List.drop_left]; exact hg B)
  unfold spanR
  rw [ht, if_pos (by simp only [List.length_append, List.length_cons]; omega)]
theorem Reads.until1 {q : UInt8} {r : List UInt8} (h : ∀ b ∈ r, b ≠ q) : Reads (untilR [q]) (r ++ [q]) r := by
  intro B
  rw [List.append_assoc, until_skip rfl B r h, List.length_append]
theorem part_word : ∀ c : Fin 128, partB (c.val : Int) = true → wordB (UInt8.ofNat c.val) = true ∧ UInt8.ofNat c.val ≠ 58 ∧ UInt8.ofNat c.val ≠ 63 ∧ UInt8.ofNat c.val ≠ 33 := by decide +kernel
theorem enc_part_word {n : Int} (hn : partB n = true) {b : UInt8} (hb : b ∈ enc n) : wordB b = true ∧ b ≠ 58 ∧ b ≠ 63 ∧ b ≠ 33 := by
  by_cases hl : b.toNat < 128
  · obtain ⟨_, rfl⟩ := enc_low hb hl
    have := part_word ⟨b.toNat, hl⟩ hn
    simpa using this
  · refine ⟨?_, ?_, ?_, ?_⟩
    · cases h : wordB b with
      | true => rfl
      | false => exact absurd (word_low h) hl
    · intro e; subst e; exact hl (by decide)
    · intro e; subst e; exact hl (by decide)
    · intro e; subst e; exact hl (by decide)
theorem nm_bytes {l : List UInt8} (h : nameB l = true) : l ≠ [] ∧ l.length ≤ 64 ∧ TxtOK l ∧ ∀ b ∈ l, wordB b = true ∧ b ≠ 58 ∧ b ≠ 63 ∧ b ≠ 33 := by
  obtain ⟨h1, n, ns, h2, h3, rfl⟩ := (nameB_iff l).1 h
  have hp : ∀ m ∈ n :: ns, partB m = true := fun m hm => by
    rcases List.mem_cons.1 hm with rfl | hm
    · exact start_part m h2
    · exact h3 m hm
  have hs := slen_one n (start_sgn n h2)
  have hl := enc_length n
  refine ⟨fun e => ?_, h1, ⟨n :: ns, fun m hm => part_char m (hp m hm), rfl⟩, fun b hb => ?_⟩
  · have := congrArg List.length e
    simp only [List.flatMap_cons, List.length_append, List.length_nil] at this
    omega
  · obtain ⟨m, hm, hb⟩ := List.mem_flatMap.1 hb
    exact enc_part_word (hp m hm) hb
structure WordOK (w : List UInt8) : Prop where
  ne : w ≠ []
  len : w.length ≤ 129
  each : ∀ b ∈ w, wordB b = true ∧ b ≠ 63 ∧ b ≠ 33
theorem WordOK.name {l : List UInt8} (h : nameB l = true) : WordOK l := by
  obtain ⟨h1, h2, _, h4⟩ := nm_bytes h
  exact ⟨h1, by omega, fun b hb => ⟨(h4 b hb).1, (h4 b hb).2.2⟩⟩
theorem WordOK.pre {p l : List UInt8} (hp : ∀ b ∈ p, wordB b = true ∧ b ≠ 63 ∧ b ≠ 33) (hl : p.length ≤ 65) (h : nameB l = true) : WordOK (p ++ l) := by
  obtain ⟨h1, h2, _, h4⟩ := nm_bytes h
  refine ⟨fun e => h1 (List.append_eq_nil_iff.1 e).2, by rw [List.length_append]; omega, fun b hb => ?_⟩
  rcases List.mem_append.1 hb with hb | hb
  · exact hp b hb
  · exact ⟨(h4 b hb).1, (h4 b hb).2.2⟩
theorem value_read (v : List UInt8) : Reads valueR ([34] ++ (escL true v ++ [34])) v := by
  have hb := esc_bytes true v
  unfold valueR
  refine Reads.bind (Reads.byte 34) (Reads.guard rfl (Reads.map (Reads.until1 fun b h => ((hb b h).2.2.1 rfl).1) ?_))
  rw [if_neg]
  · rw [un_esc true v 0 _ (Nat.lt_succ_self _)]
    rfl
  · intro h
    obtain ⟨b, h1, h2⟩ := List.any_eq_true.1 h
    exact (hb b h1).1 (by simpa using h2)
theorem word_not {c : UInt8} (h : wordB c = true) : blkB c = false ∧ c ≠ 47 ∧ c ≠ 62 := by
  refine ⟨?_, ?_, ?_⟩
  · unfold wordB at h
    cases hb : blkB c with
    | false => rfl
    | true => rw [hb] at h; simp at h
  · rintro rfl; revert h; decide
  · rintro rfl; revert h; decide
theorem attr_read {c : UInt8} {w : List UInt8} (v : List UInt8) (hw : ∀ b ∈ w, wordB b = true) (hl : w.length < 129) : Reads (attrR c) (w ++ ([61] ++ ([34] ++ (escL true v ++ [34])))) (c :: w, v) := by
  unfold attrR
  refine Reads.span hw ⟨61, _, rfl, by decide⟩ (Reads.guard (by simpa using hl) ?_)
  refine Reads.span (w := []) (by simp) ⟨61, _, rfl, by decide⟩ ?_
  refine Reads.bind (Reads.lit [61]) ?_
  refine Reads.span (w := []) (by simp) ⟨34, _, rfl, by decide⟩ ?_
  exact Reads.map (value_read v) rfl
def rawsT : List (List UInt8 × List UInt8) → List UInt8
  | [] => []
  | a :: l => attrT a.1 a.2 ++ rawsT l
theorem rawsT_app (a b : List (List UInt8 × List UInt8)) : rawsT (a ++ b) = rawsT a ++ rawsT b := by
  induction a with
  | nil => rfl
  | cons x a ih => rw [List.cons_append, rawsT, ih, rawsT, List.append_assoc]
def FinT (fin : List UInt8) (k : Int) : Prop := (fin = [62] ∧ k = 1) ∨ (fin = [47, 62] ∧ k = 3)
theorem attrs_read {fin : List UInt8} {k : Int} (hf : FinT fin k) : ∀ (l : List (List UInt8 × List UInt8)) (f : Nat) (acc : List (List UInt8 × List UInt8)), l.length < f → acc.length + l.length ≤ 65 → (∀ a ∈ l, WordOK a.1) →
    Reads (attrsR f acc) (rawsT l ++ fin) (k, acc ++ l)
  | [], f, acc, h, _, _ => by
    obtain ⟨f, rfl⟩ : ∃ f', f = f' + 1 := ⟨f - 1, by omega⟩
    unfold attrsR rawsT
    rw [List.append_nil, List.nil_append]
    rcases hf with ⟨rfl, rfl⟩ | ⟨rfl, rfl⟩
    · refine Reads.span (w := []) (Y := [62]) (by simp) ⟨62, [], rfl, by decide⟩ (Reads.bind (X := [62]) (Y := []) (Reads.byte 62) ?_)
      rw [if_pos rfl]
      exact Reads.pure _
    · refine Reads.span (w := []) (Y := [47, 62]) (by simp) ⟨47, [62], rfl, by decide⟩ (Reads.bind (X := [47]) (Y := [62]) (Reads.byte 47) ?_)
      rw [if_neg (by decide), if_pos rfl]
      exact Reads.map (Reads.lit [62]) rfl
  | (nm, v) :: l, f, acc, h, h65, hw => by
    obtain ⟨f, rfl⟩ : ∃ f', f = f' + 1 := ⟨f - 1, by omega⟩
    have ha := hw (nm, v) (by simp)
    obtain ⟨c, w, rfl⟩ : ∃ c w, nm = c :: w := by
      cases nm with
      | nil => exact absurd rfl ha.ne
      | cons c w => exact ⟨c, w, rfl⟩
    have hc := word_not (ha.each c (by simp)).1
    simp only [List.length_cons] at h h65
    have e : rawsT ((c :: w, v) :: l) ++ fin = [32] ++ ([c] ++ ((w ++ ([61] ++ ([34] ++ (escL true v ++ [34])))) ++ (rawsT l ++ fin))) := by
      simp [rawsT, attrT, List.append_assoc]
    rw [e]
    unfold attrsR
    refine Reads.span (p := blkB) (w := [32]) (by simp [blkB]) ⟨c, _, rfl, hc.1⟩ (Reads.bind (Reads.byte c) ?_)
    rw [if_neg hc.2.2, if_neg hc.2.1]
    refine Reads.guard ?_ (Reads.bind (attr_read v (fun b hb => (ha.each b (by simp [hb])).1) (by have := ha.len; simp only [List.length_cons] at this; omega)) ?_)
    · rw [(ha.each c (by simp)).1]
      simp
      omega
    · have := attrs_read hf l f (acc ++ [(c :: w, v)]) (by omega) (by simp; omega) (fun a h => hw a (by simp [h]))
      rwa [List.append_assoc] at this
theorem fin_head {fin : List UInt8} {k : Int} (hf : FinT fin k) (l : List (List UInt8 × List UInt8)) : ∃ d r, rawsT l ++ fin = d :: r ∧ wordB d = false := by
  cases l with
  | nil =>
    rcases hf with ⟨rfl, _⟩ | ⟨rfl, _⟩
    · exact ⟨62, [], rfl, by decide⟩
    · exact ⟨47, [62], rfl, by decide⟩
  | cons a l => exact ⟨32, _, rfl, by decide⟩
theorem start_piece {nm fin : List UInt8} {k : Int} {l : List (List UInt8 × List UInt8)} (hf : FinT fin k) (hn : WordOK nm) (h65 : l.length ≤ 65) (hw : ∀ a ∈ l, WordOK a.1) :
    Reads pieceR ([60] ++ (nm ++ (rawsT l ++ fin))) (some (k, nm, l, [])) := by
  obtain ⟨c, w, rfl⟩ : ∃ c w, nm = c :: w := by
    cases nm with
    | nil => exact absurd rfl hn.ne
    | cons c w => exact ⟨c, w, rfl⟩
  have hc := hn.each c (by simp)
  have hm : Reads markR ([60] ++ ([c] ++ (w ++ (rawsT l ++ fin)))) (some (k, c :: w, l, [])) := by
    unfold markR
    refine Reads.bind (Reads.lit [60]) (Reads.bind (Reads.byte c) ?_)
    rw [if_neg hc.2.1, if_neg hc.2.2, if_neg (word_not hc.1).2.1]
    refine Reads.guard hc.1 ?_
    unfold startR
    refine Reads.span (fun b hb => (hn.each b (by simp [hb])).1) (fin_head hf l) (Reads.guard (by have := hn.len; simp only [List.length_cons] at this; simpa using by omega) ?_)
    have := attrs_read hf l 67 [] (by omega) (by simpa using h65) hw
    exact Reads.map this rfl
  intro B
  have := hm B
  unfold pieceR
  rw [if_pos (by rfl)]
  exact this
theorem end_piece {nm : List UInt8} (hn : WordOK nm) : Reads pieceR ([60] ++ ([47] ++ (nm ++ [62]))) (some (2, nm, [], [])) := by
  have hm : Reads markR ([60] ++ ([47] ++ (nm ++ [62]))) (some (2, nm, [], [])) := by
    unfold markR
    refine Reads.bind (Reads.lit [60]) (Reads.bind (Reads.byte 47) ?_)
    rw [if_neg (by decide), if_neg (by decide), if_pos rfl]
    unfold endR
    refine Reads.span (fun b hb => (hn.each b hb).1) ⟨62, [], rfl, by decide⟩ (Reads.guard ?_ ?_)
    · have h1 := hn.len
      have h2 := hn.ne
      simp [h1, h2]
    · exact Reads.span (w := []) (Y := [62]) (by simp) ⟨62, [], rfl, by decide⟩ (Reads.map (Reads.lit [62]) rfl)
  intro B
  have := hm B
  unfold pieceR
  rw [if_pos (by rfl)]
  exact this
theorem no_cd : ∀ (l : List UInt8), (∀ b ∈ l, b ≠ 62) → hasCd l = false
  | [], _ => rfl
  | c :: l, h => by
    unfold hasCd
    rw [no_cd l (fun b hb => h b (by simp [hb])), Bool.or_false]
    apply Bool.eq_false_iff.2
    intro e
    have e := eq_of_beq e
    have : (62 : UInt8) ∈ (c :: l).take 3 := by rw [e]; simp
    exact h 62 (List.mem_of_mem_take this) rfl
theorem text_piece {t B : List UInt8} (ht : t ≠ []) (hB : B = [] ∨ B.take 1 = [60]) : pieceR (escL false t ++ B) = some ((escL false t).length, some (4, [], [], t)) := by
  have hb := esc_bytes false t
  have hl := (escL_len false t).1
  have hlt := List.length_pos_iff.2 ht
  have hu := un_esc false t 0 _ (Nat.lt_succ_self _)
  have hcd := no_cd (escL false t) (fun b h => (hb b h).2.2.2 rfl)
  generalize escL false t = E at *
  have htw : (E ++ B).takeWhile (· != 60) = E := by
    rw [List.takeWhile_append_of_pos (fun b h => by simpa using (hb b h).1)]
    rcases hB with rfl | hB
    · simp
    · cases B with
      | nil => simp
      | cons d B =>
        simp at hB
        subst hB
        simp
  have h60 : ¬ (E ++ B).take 1 = [60] := by
    cases E with
    | nil => simp only [List.length_nil] at hl; omega
    | cons d E =>
      intro h
      simp at h
      exact (hb d (by simp)).1 h
  unfold pieceR
  rw [if_neg h60]
  unfold textR
  simp only [htw]
  rw [hcd, hu]
  have : E.isEmpty = false := by
    cases E with
    | nil => simp only [List.length_nil] at hl; omega
    | cons d E => rfl
  rw [this]
  rfl
end Wb

namespace Wb
def dflW (own space : ByteArray) : List (List UInt8 × List UInt8) := if own = space then [] else [(sXmlnsL, own.data.toList)]
def dclW : Nat → List ByteArray → List (List UInt8 × List UInt8)
  | _, [] => []
  | i, s :: sp => (sXmlnsK ++ numT i, s.data.toList) :: dclW (i + 1) sp
def echW (sp : List ByteArray) (l : List Tr) : List (List UInt8 × List UInt8) := l.map fun a => (preT sp a.1.1 ++ a.1.2.data.toList, a.2.data.toList)
def rawW (n : Pr) (as : List Tr) (space : ByteArray) : List (List UInt8 × List UInt8) :=
  dflW (ownT n space) space ++ (dclW 0 (spacesT (sortT as)) ++ echW (spacesT (sortT as)) (sortT as))
theorem dclW_T (sp : List ByteArray) : ∀ i, rawsT (dclW i sp) = declT i sp := by
  induction sp with
  | nil => intro i; rfl
  | cons s sp ih => intro i; rw [dclW, rawsT, declT, ih]
theorem echW_T (sp : List ByteArray) (l : List Tr) : rawsT (echW sp l) = eachT sp l := by
  induction l with
  | nil => rfl
  | cons a l ih =>
    show attrT _ _ ++ rawsT (echW sp l) = _
    rw [ih, eachT]
theorem rawW_T (n : Pr) (as : List Tr) (space : ByteArray) : rawsT (rawW n as space) = nsT n space ++ attrsT as := by
  unfold rawW
  rw [rawsT_app, rawsT_app, dclW_T, echW_T]
  unfold attrsT nsT dflW
  split
  · rfl
  · show (attrT _ _ ++ []) ++ _ = _
    rw [List.append_nil]
theorem dclW_len (sp : List ByteArray) : ∀ i, (dclW i sp).length = sp.length := by
  induction sp with
  | nil => intro i; rfl
  | cons s sp ih => intro i; rw [dclW, List.length_cons, ih, List.length_cons]
theorem onceT_len : ∀ (l : List ByteArray), (onceT l).length ≤ l.length
  | [] => by simp [onceT]
  | [x] => by simp [onceT]
  | x :: y :: l => by
    have := onceT_len (y :: l)
    unfold onceT
    split
    · simp only [List.length_cons] at *; omega
    · simp only [List.length_cons] at *; omega
theorem onceT_mem : ∀ (l : List ByteArray) (z : ByteArray), z ∈ onceT l ↔ z ∈ l
  | [], z => by simp [onceT]
  | [x], z => by simp [onceT]
  | x :: y :: l, z => by
    have ih := onceT_mem (y :: l) z
    unfold onceT
    split
    · rename_i h
      rw [ih, h]
      simp
    · rw [List.mem_cons, ih, List.mem_cons (a := z) (b := x)]
theorem spcT_len (l : List Tr) : (spacesT l).length ≤ l.length := by
  unfold spacesT
  refine Nat.le_trans (onceT_len _) (Nat.le_trans (List.length_filter_le _ _) ?_)
  simp
theorem spcT_mem (l : List Tr) (s : ByteArray) : s ∈ spacesT l ↔ (∃ a ∈ l, a.1.1 = s) ∧ needs s = true := by
  unfold spacesT
  rw [onceT_mem, List.mem_filter, List.mem_map]
theorem needs_iff (s : ByteArray) : needs s = true ↔ s ≠ sE ∧ s ≠ sXML := by
  unfold needs
  rw [Bool.and_eq_true, Bool.not_eq_true', Bool.not_eq_true', eqT_false, eqT_false]
theorem num_name : ∀ i : Fin 32, nameB (numT i.val) = true := by decide +kernel
theorem num_inj : ∀ i j : Fin 32, numT i.val = numT j.val → i = j := by decide +kernel
theorem num_word : ∀ i : Fin 32, ∀ b ∈ numT i.val ++ [58], wordB b = true ∧ b ≠ 63 ∧ b ≠ 33 := by decide +kernel
theorem num_len : ∀ i : Fin 32, (numT i.val).length ≤ 3 := by decide +kernel
theorem xmlnsK_word : ∀ b ∈ sXmlnsK, wordB b = true ∧ b ≠ 63 ∧ b ≠ 33 := by decide
theorem xmlK_word : ∀ b ∈ sXmlK, wordB b = true ∧ b ≠ 63 ∧ b ≠ 33 := by decide
theorem tag_word {n : Pr} (h : nameOK n) : WordOK (tagT n) := by
  unfold tagT
  split
  · exact WordOK.pre xmlK_word (by decide) h.1
  · exact WordOK.name h.1
theorem dclW_word : ∀ (sp : List ByteArray) (i : Nat), i + sp.length ≤ 32 → ∀ a ∈ dclW i sp, WordOK a.1
  | [], _, _, a, ha => by cases ha
  | s :: sp, i, h, a, ha => by
    simp only [List.length_cons] at h
    rw [dclW] at ha
    rcases List.mem_cons.1 ha with rfl | ha
    · exact WordOK.pre xmlnsK_word (by decide) (num_name ⟨i, by omega⟩)
    · exact dclW_word sp (i + 1) (by omega) a ha
theorem pre_word {sp : List ByteArray} (hs : sp.length ≤ 32) {s : ByteArray} (hm : needs s = true → s ∈ sp) {lo : List UInt8} (h : nameB lo = true) : WordOK (preT sp s ++ lo) := by
  unfold preT
  split
  · exact WordOK.name h
  · split
    · exact WordOK.pre xmlK_word (by decide) h
    · rename_i h1 h2
      have hi := idxB_lt (hm ((needs_iff s).2 ⟨h1, h2⟩))
      have hl : (numT (idxB s sp)).length ≤ 3 := num_len ⟨idxB s sp, by omega⟩
      exact WordOK.pre (num_word ⟨idxB s sp, by omega⟩) (by rw [List.length_append]; simp only [List.length_cons, List.length_nil]; omega) h
theorem raw_word {n : Pr} {as : List Tr} (space : ByteArray) (ha : attrsOK as) : (rawW n as space).length ≤ 65 ∧ ∀ a ∈ rawW n as space, WordOK a.1 := by
  have h1 := spcT_len (sortT as)
  have h2 := sortT_len as
  have h3 := ha.1
  constructor
  · unfold rawW
    rw [List.length_append, List.length_append, dclW_len]
    unfold echW
    rw [List.length_map]
    have : (dflW (ownT n space) space).length ≤ 1 := by
      unfold dflW
      split <;> simp
    omega
  · intro a hm
    unfold rawW at hm
    rcases List.mem_append.1 hm with hm | hm
    · unfold dflW at hm
      split at hm
      · cases hm
      · rw [List.mem_singleton] at hm
        subst hm
        exact ⟨by show sXmlnsL ≠ []; decide, by show sXmlnsL.length ≤ 129; decide, by show ∀ b ∈ sXmlnsL, _; decide⟩
    · rcases List.mem_append.1 hm with hm | hm
      · exact dclW_word _ 0 (by omega) a hm
      · unfold echW at hm
        obtain ⟨x, hx, rfl⟩ := List.mem_map.1 hm
        refine pre_word (by omega) (fun hn => (spcT_mem _ _).2 ⟨⟨x, hx, rfl⟩, hn⟩) ?_
        exact (ha.2.2 x ((sortT_perm as).mem_iff.1 hx)).1.1
mutual
def tkN : Nd → ByteArray → List Tk
  | .mk kd n as ks t, sp => if kd = 2 then [(4, [], [], t.data.toList)] else if ks.isEmpty then [(3, tagT n, rawW n as sp, [])] else (1, tagT n, rawW n as sp, []) :: (tkKs ks (ownT n sp) ++ [(2, tagT n, [], [])])
def tkKs : List Nd → ByteArray → List Tk
  | [], _ => []
  | k :: ks, own => tkN k own ++ tkKs ks own
end
theorem piece_tok {X B : List UInt8} {t : Tk} {f at_ : Nat} {us : List (Nat × Tk)} (hp : pieceR (X ++ B) = some (X.length, some t)) (hX : 1 ≤ X.length) (h : tokL f B (at_ + X.length) = some us) :
    tokL (f + X.length) (X ++ B) at_ = some ((at_, t) :: us) := by
  have h1 : tokL (f + 1) (X ++ B) at_ = some (consT at_ (some t) us) := tokL_step hp (by rw [List.drop_left]; exact h)
  exact tokL_more _ _ _ _ h1 _ (by omega)
theorem okN_kind {d : Nat} {n : Nd} (h : okN d n) : n.kind = 1 ∨ n.kind = 2 := by
  obtain ⟨k, nm, al, ks, t⟩ := n
  unfold okN at h
  rcases h with h | h
  · exact .inl h.1
  · exact .inr h.1
theorem node_head {n : Nd} (h : n.kind = 1) (sp : ByteArray) : ∃ r, nodeT n sp = 60 :: r := by
  rw [nodeT_is, if_neg (by rw [h]; decide)]
  exact ⟨_, rfl⟩
def NodeToks (n : Nd) : Prop := ∀ (d : Nat) (sp : ByteArray), okN d n → ∀ (B : List UInt8) (f at_ : Nat) (us : List (Nat × Tk)), (n.kind = 2 → B.take 1 = [60]) → tokL f B (at_ + (nodeT n sp).length) = some us →
  ∃ vs, tokL (f + (nodeT n sp).length) (nodeT n sp ++ B) at_ = some (vs ++ us) ∧ vs.map (·.2) = tkN n sp
theorem kids_toks : ∀ (ks : List Nd), (∀ k ∈ ks, NodeToks k) → ∀ (d : Nat) (a : Int) (own : ByteArray), okKs d a ks → ∀ (B : List UInt8) (f at_ : Nat) (us : List (Nat × Tk)), B.take 1 = [60] → tokL f B (at_ + (kidsT ks own).length) = some us →
    ∃ vs, tokL (f + (kidsT ks own).length) (kidsT ks own ++ B) at_ = some (vs ++ us) ∧ vs.map (·.2) = tkKs ks own
  | [], _, _, _, _, _, B, f, at_, us, _, h => by
    refine ⟨[], ?_, rfl⟩
    simpa [kidsT] using h
  | k :: ks, hk, d, a, own, hok, B, f, at_, us, hB, h => by
    simp only [okKs] at hok
    obtain ⟨_, h2, h3⟩ := hok
    have e : (kidsT (k :: ks) own).length = (nodeT k own).length + (kidsT ks own).length := by rw [kidsT, List.length_append]
    rw [e] at h ⊢
    rw [← Nat.add_assoc] at h
    obtain ⟨vs, v1, v2⟩ := kids_toks ks (fun x hx => hk x (by simp [hx])) d k.kind own h3 B f _ us hB h
    have hhead : k.kind = 2 → (kidsT ks own ++ B).take 1 = [60] := by
      intro hk2
      cases ks with
      | nil => simpa [kidsT] using hB
      | cons j ks =>
        simp only [okKs] at h3
        have hj : j.kind = 1 := by
          rcases okN_kind h3.2.1 with h | h
          · exact h
          · exact absurd ⟨hk2, h⟩ h3.1
        obtain ⟨r, hr⟩ := node_head hj own
        rw [kidsT, hr]
        rfl
    obtain ⟨ws, w1, w2⟩ := hk k (by simp) d own h2 (kidsT ks own ++ B) _ at_ _ hhead v1
    refine ⟨ws ++ vs, ?_, by rw [List.map_append, w2, v2, tkKs]⟩
    rw [kidsT, List.append_assoc, List.append_assoc]
    rw [show f + ((nodeT k own).length + (kidsT ks own).length) = f + (kidsT ks own).length + (nodeT k own).length from by omega]
    exact w1
theorem toks_node (n : Nd) : NodeToks n := by
  induction n using Nd.induct with
  | h n ih =>
    intro d sp hok B f at_ us hB h
    obtain ⟨kd, nm, al, ks, t⟩ := n
    simp only [Nd.kids, Nd.kind] at ih hB
    unfold okN at hok
    rcases hok with ⟨rfl, _, rfl, hnm, hal, hks⟩ | ⟨rfl, ht, _, _, _, _⟩
    · have hw := tag_word hnm
      obtain ⟨h65, hrw⟩ := raw_word (n := nm) sp hal
      have hT := rawW_T nm al sp
      by_cases hke : ks = []
      · subst hke
        have e : nodeT (.mk 1 nm al [] sE) sp = [60] ++ (tagT nm ++ (rawsT (rawW nm al sp) ++ [47, 62])) := by
          rw [hT, nodeT]
          simp
        rw [e] at h ⊢
        have hp := start_piece (.inr ⟨rfl, rfl⟩) hw h65 hrw
        refine ⟨[(at_, _)], piece_tok (hp B) (by simp) h, ?_⟩
        unfold tkN
        simp
      · have hie : ks.isEmpty = false := by cases ks with
          | nil => exact absurd rfl hke
          | cons _ _ => rfl
        have e : nodeT (.mk 1 nm al ks sE) sp = ([60] ++ (tagT nm ++ (rawsT (rawW nm al sp) ++ [62]))) ++ (kidsT ks (ownT nm sp) ++ ([60] ++ ([47] ++ (tagT nm ++ [62])))) := by
          rw [hT, nodeT, hie]
          simp
        have hp1 := start_piece (.inl ⟨rfl, rfl⟩) hw h65 hrw
        have hp2 := end_piece hw
        have htk : tkN (.mk 1 nm al ks sE) sp = (1, tagT nm, rawW nm al sp, []) :: (tkKs ks (ownT nm sp) ++ [(2, tagT nm, [], [])]) := by
          rw [tkN, hie]
          simp
        rw [e] at h ⊢
        rw [htk]
        have l1 : 1 ≤ ([60] ++ (tagT nm ++ (rawsT (rawW nm al sp) ++ [62]))).length := by simp
        have l2 : 1 ≤ ([60] ++ ([47] ++ (tagT nm ++ [62]))).length := by simp
        generalize [60] ++ (tagT nm ++ (rawsT (rawW nm al sp) ++ [62])) = X1 at *
        have hx2 : ([60] ++ ([47] ++ (tagT nm ++ [62])) : List UInt8).take 1 = [60] := rfl
        generalize [60] ++ ([47] ++ (tagT nm ++ [62])) = X2 at *
        simp only [List.length_append] at h
        rw [← Nat.add_assoc, ← Nat.add_assoc] at h
        have s1 := piece_tok (hp2 B) l2 h
        obtain ⟨vs, v1, v2⟩ := kids_toks ks ih (d + 1) 0 (ownT nm sp) hks (X2 ++ B) _ (at_ + X1.length) _ (by
          cases X2 with
          | nil => simp at l2
          | cons c X2 => simpa using hx2) s1
        have s2 := piece_tok (at_ := at_) (hp1 (kidsT ks (ownT nm sp) ++ (X2 ++ B))) l1 v1
        refine ⟨(at_, (1, tagT nm, rawW nm al sp, [])) :: (vs ++ [(at_ + X1.length + (kidsT ks (ownT nm sp)).length, (2, tagT nm, [], []))]), ?_, ?_⟩
        · rw [List.append_assoc, List.append_assoc]
          simp only [List.length_append, List.cons_append, List.append_assoc, List.nil_append]
          rw [show f + (X1.length + ((kidsT ks (ownT nm sp)).length + X2.length)) = f + X2.length + (kidsT ks (ownT nm sp)).length + X1.length from by omega]
          exact s2
        · simp [v2]
    · have e : nodeT (.mk 2 nm al ks t) sp = escL false t.data.toList := by rw [nodeT, if_pos rfl]
      rw [e] at h ⊢
      have ht' : t.data.toList ≠ [] := fun e => ht (ba_data (by rw [e]; rfl))
      have hl := (escL_len false t.data.toList).1
      have hlt := List.length_pos_iff.2 ht'
      have hp := text_piece ht' (.inr (hB rfl))
      refine ⟨[(at_, _)], piece_tok hp (by omega) h, ?_⟩
      rw [tkN, if_pos rfl]
      rfl
theorem refB_high {attr : Bool} {c : UInt8} (h : 128 ≤ c.toNat) : refB attr c = [] := by
  unfold refB
  have ne : ∀ d : UInt8, d.toNat < 128 → c ≠ d := fun d hd e => by rw [e] at h; omega
  rw [if_neg (ne 38 (by decide)), if_neg (ne 60 (by decide)), if_neg (fun e => ne 62 (by decide) e.1), if_neg (fun e => ne 34 (by decide) e.1), if_neg (ne 13 (by decide)), if_neg (fun e => ne 10 (by decide) e.1), if_neg (fun e => ne 9 (by decide) e.1)]
theorem refB_txt (attr : Bool) (c : UInt8) : TxtOK (refB attr c) := by
  refine TxtOK.ascii ?_
  unfold refB
  repeat' split
  all_goals decide
theorem esc_txt (attr : Bool) {l : List UInt8} (h : TxtOK l) : TxtOK (escL attr l) := by
  obtain ⟨ns, h1, rfl⟩ := h
  induction ns with
  | nil => exact TxtOK.nil
  | cons n ns ih =>
    rw [List.flatMap_cons, escL_app]
    refine TxtOK.app ?_ (ih (fun m hm => h1 m (by simp [hm])))
    have hn : TxtOK (enc n) := ⟨[n], fun m hm => h1 m (by rw [List.mem_singleton] at hm; simp [hm]), by simp⟩
    by_cases hx : ∃ b ∈ enc n, b.toNat < 128
    · obtain ⟨b, hb, hl⟩ := hx
      have e := (enc_low hb hl).1
      rw [e] at hn ⊢
      show TxtOK (escB attr b ++ [])
      rw [List.append_nil]
      unfold escB
      split
      · exact hn
      · exact refB_txt _ _
    · rw [escL_plain (fun c hc => refB_high (by
        apply Classical.byContradiction
        intro hh
        exact hx ⟨c, hc, by omega⟩))]
      exact hn
theorem attrT_txt {nm v : List UInt8} (hn : TxtOK nm) (hv : TxtOK v) : TxtOK (attrT nm v) := by
  unfold attrT
  refine TxtOK.app (a := [32]) (TxtOK.ascii (by decide)) (TxtOK.app (TxtOK.app (TxtOK.app hn (TxtOK.ascii (by decide))) (esc_txt true hv)) (TxtOK.ascii (by decide)))
theorem tagT_txt {n : Pr} (h : nameOK n) : TxtOK (tagT n) := by
  have := (nm_bytes h.1).2.2.1
  unfold tagT
  split
  · exact TxtOK.app (TxtOK.ascii (by decide)) this
  · exact this
theorem preT_txt {sp : List ByteArray} (hs : sp.length ≤ 32) {s : ByteArray} (hm : needs s = true → s ∈ sp) : TxtOK (preT sp s) := by
  unfold preT
  split
  · exact TxtOK.nil
  · split
    · exact TxtOK.ascii (by decide)
    · rename_i h1 h2
      have hi := idxB_lt (hm ((needs_iff s).2 ⟨h1, h2⟩))
      exact TxtOK.app (nm_bytes (num_name ⟨idxB s sp, by omega⟩)).2.2.1 (TxtOK.ascii (by decide))
theorem declT_txt : ∀ (sp : List ByteArray) (i : Nat), i + sp.length ≤ 32 → (∀ s ∈ sp, TxtB s) → TxtOK (declT i sp)
  | [], _, _, _ => TxtOK.nil
  | s :: sp, i, h, hs => by
    simp only [List.length_cons] at h
    rw [declT]
    exact TxtOK.app (attrT_txt (TxtOK.app (TxtOK.ascii (by decide)) (nm_bytes (num_name ⟨i, by omega⟩)).2.2.1) (hs s (by simp))) (declT_txt sp (i + 1) (by omega) (fun x hx => hs x (by simp [hx])))
theorem eachT_txt {sp : List ByteArray} (hs : sp.length ≤ 32) : ∀ (l : List Tr), (∀ a ∈ l, (needs a.1.1 = true → a.1.1 ∈ sp) ∧ nameOK a.1 ∧ TxtB a.2) → TxtOK (eachT sp l)
  | [], _ => TxtOK.nil
  | a :: l, h => by
    obtain ⟨h1, h2, h3⟩ := h a (by simp)
    rw [eachT]
    exact TxtOK.app (attrT_txt (TxtOK.app (preT_txt hs h1) (nm_bytes h2.1).2.2.1) h3) (eachT_txt hs l (fun x hx => h x (by simp [hx])))
theorem attrsT_txt {as : List Tr} (ha : attrsOK as) : TxtOK (attrsT as) := by
  have h1 := spcT_len (sortT as)
  have h2 := sortT_len as
  have h3 := ha.1
  have hm : ∀ a ∈ sortT as, a ∈ as := fun a h => (sortT_perm as).mem_iff.1 h
  unfold attrsT
  refine TxtOK.app (declT_txt _ 0 (by omega) fun s hs => ?_) (eachT_txt (by omega) _ fun a h => ⟨fun hn => (spcT_mem _ _).2 ⟨⟨a, h, rfl⟩, hn⟩, (ha.2.2 a (hm a h)).1, (ha.2.2 a (hm a h)).2.2⟩)
  obtain ⟨⟨a, h, rfl⟩, _⟩ := (spcT_mem _ _).1 hs
  exact (ha.2.2 a (hm a h)).1.2.1
theorem nodeT_txt (n : Nd) : ∀ (d : Nat) (sp : ByteArray), okN d n → TxtOK (nodeT n sp) := by
  induction n using Nd.induct with
  | h n ih =>
    intro d sp hok
    obtain ⟨kd, nm, al, ks, t⟩ := n
    simp only [Nd.kids] at ih
    unfold okN at hok
    rcases hok with ⟨rfl, _, rfl, hnm, hal, hks⟩ | ⟨rfl, ht, htx, _, _, _⟩
    · have kt : ∀ (ks : List Nd), (∀ k ∈ ks, ∀ (d : Nat) (sp : ByteArray), okN d k → TxtOK (nodeT k sp)) → ∀ (d : Nat) (a : Int) (own : ByteArray), okKs d a ks → TxtOK (kidsT ks own) := by
        intro ks
        induction ks with
        | nil => intro _ _ _ _ _; exact TxtOK.nil
        | cons k ks ihk =>
          intro hk d a own ho
          simp only [okKs] at ho
          rw [kidsT]
          exact TxtOK.app (hk k (by simp) d own ho.2.1) (ihk (fun x hx => hk x (by simp [hx])) d k.kind own ho.2.2)
      have asc : ∀ l : List UInt8, (∀ b ∈ l, 32 ≤ b.toNat ∧ b.toNat < 128) → TxtOK l := fun l h => TxtOK.ascii h
      have hns : TxtOK (nsT nm sp) := by
        unfold nsT
        split
        · exact TxtOK.nil
        · rename_i hne
          have : ownT nm sp = nm.1 := by
            unfold ownT at hne ⊢
            split
            · rename_i hx; rw [if_pos hx] at hne; exact absurd rfl hne
            · rfl
          rw [this]
          exact attrT_txt (asc _ (by decide)) hnm.2.1
      rw [nodeT, if_neg (by decide)]
      refine TxtOK.app (a := [60]) (asc _ (by decide)) (TxtOK.app (TxtOK.app (TxtOK.app (tagT_txt hnm) hns) (attrsT_txt hal)) ?_)
      split
      · exact asc _ (by decide)
      · exact TxtOK.app (a := [62]) (asc _ (by decide)) (TxtOK.app (TxtOK.app (TxtOK.app (kt ks ih _ _ _ hks) (asc _ (by decide))) (tagT_txt hnm)) (asc _ (by decide)))
    · rw [nodeT, if_pos rfl]
      exact esc_txt false htx
theorem doc_printed {n : Nd} (hok : okN 1 n) (hk : n.kind = 1) (hl : (nodeT n sE).length ≤ 32768) : ∃ ts, DocIs (nodeT n sE) ts ∧ ts.map (·.2) = tkN n sE := by
  obtain ⟨vs, v1, v2⟩ := toks_node n 1 sE hok [] 0 0 [] (fun h => by rw [hk] at h; cases h) (tokL_nil _ _)
  rw [List.append_nil, List.append_nil] at v1
  refine ⟨vs, ⟨hl, nodeT_txt n 1 sE hok, .inr ⟨?_, tokL_more _ _ _ _ v1 _ (by omega)⟩⟩, v2⟩
  rintro ⟨h1, _⟩
  obtain ⟨kd, nm, al, ks, t⟩ := n
  simp only [Nd.kind] at hk
  subst hk
  unfold okN at hok
  rcases hok with ⟨_, _, _, hnm, _⟩ | ⟨h, _⟩
  · have hw := tag_word hnm
    rw [nodeT, if_neg (by decide)] at h1
    cases htg : tagT nm with
    | nil => exact hw.ne htg
    | cons c w =>
      rw [htg] at h1
      simp at h1
      exact (hw.each c (by rw [htg]; simp)).2.1 h1.1
  · cases h
end Wb

namespace Wb
open Go
mutual
def ordN : Nd → Nd
  | .mk k n as ks t => .mk k n (sortT as) (ordKs ks) t
def ordKs : List Nd → List Nd
  | [] => []
  | k :: ks => ordN k :: ordKs ks
end
theorem ordN_kind (n : Nd) : (ordN n).kind = n.kind := by cases n; rfl
theorem ordKs_map : ∀ ks : List Nd, ordKs ks = ks.map ordN
  | [] => rfl
  | k :: ks => by rw [ordKs, ordKs_map ks, List.map_cons]
theorem ext_list (s : ByteArray) (a b : Nat) : (s.extract a b).data.toList = (s.data.toList.drop a).take (b - a) := by
  simp [ByteArray.data_extract]
theorem of_list (l : List UInt8) : (ByteArray.mk l.toArray).data.toList = l := by simp
theorem to_list (s : ByteArray) : (⟨s.data.toList.toArray⟩ : ByteArray) = s := by
  apply ba_data; simp
theorem bang_at {q : ByteArray} {l : List UInt8} (hq : q.data.toList = l) {i : Nat} (h : i < l.length) : q[i]! = l[i] := by
  have hi : i < q.size := by rw [Go.Lib.size_eq, hq]; exact h
  rw [getElem!_pos q i hi]
  subst hq
  show q.data[i] = _
  rw [← Array.getElem_toList]
theorem cIx_at {q : ByteArray} {a b : List UInt8} (hq : q.data.toList = a ++ 58 :: b) (ha : ∀ x ∈ a, x ≠ 58) : cIx q = some a.length := by
  rw [cIx_some]
  refine ⟨by rw [Go.Lib.size_eq, hq]; simp, ?_, fun i hi => ?_⟩
  · rw [bang_at hq (i := a.length) (by simp)]
    simp
  · rw [bang_at hq (i := i) (by simp; omega), List.getElem_append_left hi]
    exact ha _ (List.getElem_mem _)
theorem cIx_bare {q : ByteArray} (ha : ∀ x ∈ q.data.toList, x ≠ 58) : cIx q = none := by
  rw [cIx_none]
  intro i hi
  rw [Go.Lib.size_eq] at hi
  rw [bang_at rfl hi]
  exact ha _ (List.getElem_mem _)
theorem split_bare {lo : ByteArray} (h : nameB lo.data.toList = true) : splitB lo = (sE, lo, true) := by
  rw [splitB_none (cIx_bare fun x hx => ((nm_bytes h).2.2.2 x hx).2.1) h]
  rfl
theorem split_pre {q p lo : ByteArray} (hp : nameB p.data.toList = true) (h : nameB lo.data.toList = true) (hq : q.data.toList = p.data.toList ++ 58 :: lo.data.toList) : splitB q = (p, lo, true) := by
  have hc := cIx_at hq (fun x hx => ((nm_bytes hp).2.2.2 x hx).2.1)
  have e1 : q.extract 0 p.data.toList.length = p := ba_data (by
    rw [ext_list, hq, List.drop_zero, Nat.sub_zero, List.take_left])
  have e2 : q.extract (p.data.toList.length + 1) q.size = lo := ba_data (by
    have hs : q.size = p.data.toList.length + (lo.data.toList.length + 1) := by rw [Go.Lib.size_eq, hq]; simp
    rw [ext_list, hq, show p.data.toList ++ 58 :: lo.data.toList = (p.data.toList ++ [58]) ++ lo.data.toList from by simp, List.drop_left' (by simp), hs]
    exact List.take_of_length_le (by omega))
  rw [splitB_some hc rfl rfl, e1, e2, hp, h]
  rfl
theorem xmlnsL_is : (⟨sXmlnsL.toArray⟩ : ByteArray) = sXmlns := rfl
theorem pre_yes {n : ByteArray} {r : List UInt8} (h : n.data.toList = sXmlnsC ++ r) : preB n = true ∧ n.extract 6 n.size = ⟨r.toArray⟩ := by
  have hs : n.size = 6 + r.length := by rw [Go.Lib.size_eq, h, List.length_append]; rfl
  refine ⟨preB_long (by omega) ?_, ba_data ?_⟩
  · rw [ByteArray.toList_eq, ext_list, h, List.drop_zero]
    exact beq_iff_eq.2 (by rw [show 6 - 0 = sXmlnsC.length from rfl, List.take_left])
  · rw [ext_list, h, show (6 : Nat) = sXmlnsC.length from rfl, List.drop_left, of_list]
    refine List.take_of_length_le ?_
    rw [hs]
    show r.length ≤ 6 + r.length - 6
    omega
theorem pre_no {n : ByteArray} (h : ¬ n.data.toList.take 6 = sXmlnsC) : preB n = false := by
  cases hb : preB n with
  | false => rfl
  | true =>
    exfalso
    have h6 := preB_size hb
    unfold preB at hb
    rw [Bool.and_eq_true, beq_iff_eq, ByteArray.toList_eq, ext_list, List.drop_zero] at hb
    exact h hb.2
theorem decl_no {n : ByteArray} (h1 : n ≠ sXmlns) (h2 : ¬ n.data.toList.take 6 = sXmlnsC) : (declB n).2 = false := by
  rw [declB_3 (eqT_false.2 h1) (pre_no h2)]
theorem decl_num (i : Nat) : declB ⟨(sXmlnsK ++ numT i).toArray⟩ = (⟨(numT i).toArray⟩, true) := by
  obtain ⟨h1, h2⟩ := pre_yes (n := ⟨(sXmlnsK ++ numT i).toArray⟩) (r := numT i) (by rw [of_list]; rfl)
  have hne : (⟨(sXmlnsK ++ numT i).toArray⟩ : ByteArray) ≠ sXmlns := fun e => by
    have := congrArg (fun s : ByteArray => s.data.toList.length) e
    simp only [List.length_append] at this
    have h3 : sXmlns.data.toList.length = 5 := rfl
    have h4 : sXmlnsK.length = 6 := rfl
    omega
  rw [declB_2 (eqT_false.2 hne) h1, h2]
def numP : Nat → List ByteArray → List Pr
  | _, [] => []
  | i, s :: sp => (⟨(numT i).toArray⟩, s) :: numP (i + 1) sp
def dflP (own space : ByteArray) : List Pr := if own = space then [] else [(sE, own)]
def prW (q : List UInt8 × List UInt8) : Pr := (⟨q.1.toArray⟩, ⟨q.2.toArray⟩)
theorem num_ne {i j : Nat} (hi : i < 32) (hj : j < 32) (h : i ≠ j) : (⟨(numT i).toArray⟩ : ByteArray) ≠ ⟨(numT j).toArray⟩ := fun e => by
  have := congrArg (fun s : ByteArray => s.data.toList) e
  simp only at this
  have := num_inj ⟨i, hi⟩ ⟨j, hj⟩ this
  simp only [Fin.mk.injEq] at this
  exact h this
theorem num_neE (i : Nat) : (⟨(numT i).toArray⟩ : ByteArray) ≠ sE := fun e => by
  have h2 : (numT i).toArray.size = 0 := congrArg ByteArray.size e
  rw [List.size_toArray] at h2
  unfold numT at h2
  simp at h2
theorem num_neX (i : Nat) : (⟨(numT i).toArray⟩ : ByteArray) ≠ sXmlns ∧ (⟨(numT i).toArray⟩ : ByteArray) ≠ sXmlQ := by
  have key : ∀ s : ByteArray, s.data.toList.head? = some 120 → (⟨(numT i).toArray⟩ : ByteArray) ≠ s := fun s hs e => by
    have := congrArg (fun s : ByteArray => s.data.toList.head?) e
    simp only at this
    rw [hs] at this
    unfold numT at this
    simp at this
  exact ⟨key _ rfl, key _ rfl⟩
theorem bind_num {i : Nat} (hi : i < 32) {s : ByteArray} (h1 : needs s = true) (h2 : s ≠ sXMLNS) : bindB ⟨(numT i).toArray⟩ s = 0 := by
  obtain ⟨h3, h4⟩ := (needs_iff s).1 h1
  have e1 := eqT_false.2 (num_neE i)
  have e2 := eqT_false.2 (num_neX i).1
  have e3 := eqT_false.2 (num_neX i).2
  have e4 := eqT_false.2 h3
  have e5 := eqT_false.2 h4
  have e6 := eqT_false.2 h2
  have e7 : nameB (ByteArray.mk (numT i).toArray).data.toList = true := by rw [of_list]; exact num_name ⟨i, hi⟩
  unfold bindB
  rw [e1, e2, e3, e4, e5, e6, e7]
  rfl
theorem bind_dfl {own : ByteArray} (h1 : own ≠ sXML) (h2 : own ≠ sXMLNS) : bindB sE own = 0 := by
  have e5 := eqT_false.2 h1
  have e6 := eqT_false.2 h2
  have e1 : eqT sE sE = true := eqT_self _
  have e2 : eqT sE sXmlns = false := eqT_false.2 (by decide)
  have e3 : eqT sE sXmlQ = false := eqT_false.2 (by decide)
  unfold bindB
  rw [e1, e2, e3, e5, e6]
  rfl
theorem declL_num : ∀ (sp : List ByteArray) (i : Nat) (seen : List ByteArray) (binds rest tail : List Pr), i + sp.length ≤ 32 → (∀ s ∈ sp, needs s = true ∧ s ≠ sXMLNS) → (∀ y ∈ seen, ∀ j, i ≤ j → j < 32 → y ≠ ⟨(numT j).toArray⟩) →
    ∃ seen', declL ((dclW i sp).map prW ++ tail) seen binds rest = declL tail seen' (binds ++ numP i sp) rest
  | [], i, seen, binds, rest, tail, _, _, _ => ⟨seen, by simp [dclW, numP]⟩
  | s :: sp, i, seen, binds, rest, tail, h, hs, hseen => by
    simp only [List.length_cons] at h
    obtain ⟨seen', e⟩ := declL_num sp (i + 1) (seen ++ [⟨(numT i).toArray⟩]) (binds ++ [(⟨(numT i).toArray⟩, s)]) rest tail (by omega) (fun x hx => hs x (by simp [hx])) (fun y hy j h1 h2 => by
      rcases List.mem_append.1 hy with hy | hy
      · exact hseen y hy j (by omega) h2
      · rw [List.mem_singleton] at hy
        rw [hy]
        exact num_ne (by omega) h2 (by omega))
    refine ⟨seen', ?_⟩
    rw [dclW, List.map_cons, List.cons_append, numP]
    rw [List.append_assoc, List.singleton_append] at e
    rw [← e]
    show declL ((⟨(sXmlnsK ++ numT i).toArray⟩, ⟨s.data.toList.toArray⟩) :: _) seen binds rest = _
    rw [to_list, declL]
    have hd := decl_num i
    have hn : nameB (ByteArray.mk (numT i).toArray).data.toList = true := by rw [of_list]; exact num_name ⟨i, by omega⟩
    have hany : seen.any (fun y => eqT y ⟨(numT i).toArray⟩) = false := by
      rw [List.any_eq_false]
      intro y hy
      rw [eqT_false.2 (hseen y hy i (Nat.le_refl _) (by omega))]
      decide
    simp only [hd, hn, hany, Bool.not_true, Bool.and_false, if_true, Bool.false_eq_true, if_false]
    rw [if_pos (bind_num (by omega) (hs s (by simp)).1 (hs s (by simp)).2)]
theorem declL_each : ∀ (l : List Pr) (seen : List ByteArray) (binds rest : List Pr), (∀ x ∈ l, (declB x.1).2 = false) → declL l seen binds rest = .ok (binds, rest ++ l)
  | [], seen, binds, rest, _ => by simp [declL]
  | x :: l, seen, binds, rest, h => by
    rw [declL, if_neg (by rw [h x (by simp)]; decide), declL_each l _ _ _ (fun y hy => h y (by simp [hy]))]
    simp
theorem each_no {sp : List ByteArray} {a : Tr} (hn : nameOK a.1) (hx : a.1 ≠ (sE, sXmlns)) : (declB ⟨(preT sp a.1.1 ++ a.1.2.data.toList).toArray⟩).2 = false := by
  obtain ⟨⟨s, lo⟩, v⟩ := a
  simp only at hn hx ⊢
  have hb := (nm_bytes hn.1).2.2.2
  unfold preT
  split
  · rename_i h
    rw [List.nil_append, to_list]
    refine decl_no (fun e => hx (by rw [h, e])) (fun e => ?_)
    have : (58 : UInt8) ∈ lo.data.toList.take 6 := by rw [e]; decide
    exact (hb 58 (List.mem_of_mem_take this)).2.1 rfl
  · split
    · refine decl_no (fun e => ?_) (fun e => ?_)
      · have := congrArg (fun s : ByteArray => s.data.toList) e
        simp only at this
        exact absurd (congrArg (List.take 4) this) (by simp [sXmlK, sXmlns])
      · rw [of_list] at e
        have := congrArg (List.take 4) e
        rw [List.take_take] at this
        simp [sXmlK, sXmlnsC] at this
    · refine decl_no (fun e => ?_) (fun e => ?_)
      · have := congrArg (fun s : ByteArray => s.data.toList.head?) e
        simp only at this
        simp [numT, sXmlns] at this
      · rw [of_list] at e
        have := congrArg (List.head?) e
        simp [numT, sXmlnsC] at this
theorem lastB_app (a b : List Pr) (p : ByteArray) : lastB (a ++ b) p = match lastB b p with | some s => some s | none => lastB a p := by
  induction a with
  | nil => simp only [List.nil_append, lastB]; cases lastB b p <;> rfl
  | cons x a ih =>
    rw [List.cons_append, lastB, ih]
    cases lastB b p with
    | some s => rfl
    | none => rfl
theorem lastB_numE : ∀ (sp : List ByteArray) (i : Nat), lastB (numP i sp) sE = none
  | [], _ => rfl
  | s :: sp, i => by
    rw [numP, lastB, lastB_numE sp (i + 1)]
    simp only [eqT_false.2 (num_neE i)]
    rfl
theorem lastB_below : ∀ (sp : List ByteArray) (i j : Nat), i + sp.length ≤ 32 → j < i → lastB (numP i sp) ⟨(numT j).toArray⟩ = none
  | [], _, _, _, _ => rfl
  | s :: sp, i, j, h, hj => by
    simp only [List.length_cons] at h
    rw [numP, lastB, lastB_below sp (i + 1) j (by omega) (by omega)]
    simp only [eqT_false.2 (num_ne (i := i) (j := j) (by omega) (by omega) (by omega))]
    rfl
theorem lastB_num : ∀ (sp : List ByteArray) (i k : Nat) (s : ByteArray), i + sp.length ≤ 32 → sp[k]? = some s → lastB (numP i sp) ⟨(numT (i + k)).toArray⟩ = some s
  | [], _, _, _, _, h => by simp at h
  | x :: sp, i, 0, s, h, hs => by
    simp only [List.length_cons] at h
    simp only [List.getElem?_cons_zero, Option.some.injEq] at hs
    subst hs
    rw [numP, lastB]
    simp only [Nat.add_zero]
    rw [lastB_below sp (i + 1) i (by omega) (by omega)]
    simp only [eqT_self]
    rfl
  | x :: sp, i, k + 1, s, h, hs => by
    simp only [List.length_cons] at h
    rw [numP, lastB, show i + (k + 1) = i + 1 + k from by omega, lastB_num sp (i + 1) k s (by omega) (by simpa using hs)]
theorem idxB_get : ∀ {l : List ByteArray} {x : ByteArray}, x ∈ l → l[idxB x l]? = some x
  | y :: l, x, h => by
    unfold idxB
    by_cases e : y = x
    · rw [if_pos e, e]; rfl
    · rw [if_neg e]
      rcases List.mem_cons.1 h with h | h
      · exact absurd h.symm e
      · simpa using idxB_get h
theorem find_default {sc : List Pr} {own space : ByteArray} (sp : List ByteArray) (h : findB sc sE = (space, true)) : findB (sc ++ (dflP own space ++ numP 0 sp)) sE = (own, true) := by
  have hx : eqT sE sXmlQ = false := eqT_false.2 (by decide)
  unfold dflP
  by_cases e : own = space
  · rw [if_pos e, List.nil_append, e, ← h]
    unfold findB
    rw [hx, lastB_app, lastB_numE]
  · rw [if_neg e]
    refine findB_some hx ?_
    rw [lastB_app, lastB_app, lastB_numE]
    simp only [lastB, eqT_self]
    rfl
theorem res_tag {sc : List Pr} {n : Pr} {space : ByteArray} (hn : nameOK n) (h : findB sc sE = (ownT n space, true)) : resB sc ⟨(tagT n).toArray⟩ false = (n, 0) := by
  obtain ⟨s, lo⟩ := n
  unfold tagT ownT at *
  simp only at hn h ⊢
  by_cases hx : s = sXML
  · rw [if_pos hx]
    have hs := split_pre (q := ⟨(sXmlK ++ lo.data.toList).toArray⟩) (p := sXmlQ) (by decide +kernel) hn.1 (by rw [of_list]; rfl)
    rw [resB_full (attr := false) hs rfl (findB_xml (l := sc) (eqT_self sXmlQ)) (eqT_false.2 (by decide) : eqT sXmlQ sXmlns = false), hx]
    rfl
  · rw [if_neg hx] at h ⊢
    rw [to_list]
    rw [resB_full (attr := false) (split_bare hn.1) rfl h (eqT_false.2 (by decide) : eqT sE sXmlns = false)]
    rfl
theorem res_attr {sc : List Pr} {sp : List ByteArray} (pre : List Pr) {n : Pr} (hn : nameOK n) (hl : sp.length ≤ 32) (hm : needs n.1 = true → n.1 ∈ sp) (hsc : sc = pre ++ numP 0 sp) : resB sc ⟨(preT sp n.1 ++ n.2.data.toList).toArray⟩ true = (n, 0) := by
  obtain ⟨s, lo⟩ := n
  simp only at hn hm ⊢
  unfold preT
  by_cases h1 : s = sE
  · rw [if_pos h1, List.nil_append, to_list, resB_bare (split_bare hn.1) (eqT_self _), h1]
  · rw [if_neg h1]
    by_cases h2 : s = sXML
    · rw [if_pos h2]
      have hs := split_pre (q := ⟨(sXmlK ++ lo.data.toList).toArray⟩) (p := sXmlQ) (by decide +kernel) hn.1 (by rw [of_list]; rfl)
      rw [resB_full (attr := true) hs (by rw [eqT_false.2 (by decide : sXmlQ ≠ sE)]; rfl) (findB_xml (l := sc) (eqT_self sXmlQ)) (eqT_false.2 (by decide) : eqT sXmlQ sXmlns = false), h2]
      rfl
    · rw [if_neg h2]
      have hmem := hm ((needs_iff s).2 ⟨h1, h2⟩)
      have hi := idxB_lt hmem
      have hg := idxB_get hmem
      have hs := split_pre (q := ⟨((numT (idxB s sp) ++ [58]) ++ lo.data.toList).toArray⟩) (p := ⟨(numT (idxB s sp)).toArray⟩) (by rw [of_list]; exact num_name ⟨idxB s sp, by omega⟩) hn.1 (by rw [of_list, of_list]; simp)
      have hf : findB sc ⟨(numT (idxB s sp)).toArray⟩ = (s, true) := by
        refine findB_some (eqT_false.2 (num_neX _).2) ?_
        have := lastB_num sp 0 (idxB s sp) s (by omega) hg
        rw [Nat.zero_add] at this
        rw [hsc, lastB_app, this]
      rw [resB_full (attr := true) hs (by rw [eqT_false.2 (num_neE _)]; rfl) hf (eqT_false.2 (num_neX _).1)]
      rfl
theorem begun_printed {sc : List Pr} {n : Pr} {as : List Tr} {space : ByteArray} {t : TkV} (hn : nameOK n) (ha : attrsOK as) (hs : findB sc sE = (space, true)) (h1 : t.name = ⟨(tagT n).toArray⟩) (h2 : t.attrs = (rawW n as space).map prW) :
    ∃ sc', findB sc' sE = (ownT n space, true) ∧ begunX sc t = .ok ⟨t.name, sc', n, sortT as, []⟩ := by
  have hl := spcT_len (sortT as)
  have hl2 := sortT_len as
  have hl3 := ha.1
  have hmem : ∀ a ∈ sortT as, nameOK a.1 ∧ a.1 ≠ (sE, sXmlns) ∧ TxtB a.2 := fun a h => ha.2.2 a ((sortT_perm as).mem_iff.1 h)
  have hneed : ∀ a ∈ sortT as, needs a.1.1 = true → a.1.1 ∈ spacesT (sortT as) := fun a h hh => (spcT_mem _ _).2 ⟨⟨a, h, rfl⟩, hh⟩
  have hsp : ∀ s ∈ spacesT (sortT as), needs s = true ∧ s ≠ sXMLNS := fun s h => by
    obtain ⟨⟨a, h1, rfl⟩, h2⟩ := (spcT_mem _ _).1 h
    exact ⟨h2, (hmem a h1).1.2.2⟩
  have hdl : declL t.attrs [] [] [] = .ok (dflP (ownT n space) space ++ numP 0 (spacesT (sortT as)), (echW (spacesT (sortT as)) (sortT as)).map prW) := by
    have heach : ∀ x ∈ (echW (spacesT (sortT as)) (sortT as)).map prW, (declB x.1).2 = false := fun x hx => by
      obtain ⟨y, hy, rfl⟩ := List.mem_map.1 hx
      unfold echW at hy
      obtain ⟨a, h, rfl⟩ := List.mem_map.1 hy
      exact each_no (hmem a h).1 (hmem a h).2.1
    rw [h2]
    unfold rawW
    rw [List.map_append, List.map_append]
    unfold dflW dflP
    by_cases e : ownT n space = space
    · rw [if_pos e, if_pos e, List.map_nil, List.nil_append, List.nil_append]
      obtain ⟨seen', e1⟩ := declL_num (spacesT (sortT as)) 0 [] [] [] ((echW (spacesT (sortT as)) (sortT as)).map prW) (by omega) hsp (fun y hy => by cases hy)
      rw [e1, declL_each _ _ _ _ heach, List.nil_append, List.nil_append]
    · rw [if_neg e, if_neg e]
      have hown : ownT n space = n.1 ∧ n.1 ≠ sXML := by
        unfold ownT at e ⊢
        by_cases hx : n.1 = sXML
        · rw [if_pos hx] at e; exact absurd rfl e
        · exact ⟨if_neg hx, hx⟩
      obtain ⟨seen', e1⟩ := declL_num (spacesT (sortT as)) 0 [sE] [(sE, ownT n space)] [] ((echW (spacesT (sortT as)) (sortT as)).map prW) (by omega) hsp (fun y hy j _ _ => by
        rw [List.mem_singleton] at hy
        rw [hy]
        exact (num_neE j).symm)
      have : declL ((List.map prW [(sXmlnsL, (ownT n space).data.toList)]) ++ (List.map prW (dclW 0 (spacesT (sortT as))) ++ List.map prW (echW (spacesT (sortT as)) (sortT as)))) [] [] [] = declL (List.map prW (dclW 0 (spacesT (sortT as))) ++ List.map prW (echW (spacesT (sortT as)) (sortT as))) [sE] [(sE, ownT n space)] [] := by
        show declL ((⟨sXmlnsL.toArray⟩, ⟨(ownT n space).data.toList.toArray⟩) :: _) [] [] [] = _
        rw [to_list, xmlnsL_is, declL, declB_1 (eqT_self _)]
        have hbd : bindB sE (ownT n space) = 0 := by rw [hown.1]; exact bind_dfl hown.2 hn.2.2
        simp only [eqT_self, Bool.not_true, Bool.false_and, if_true, Bool.false_eq_true, if_false, List.any_nil, hbd, List.nil_append]
        rfl
      rw [this, e1, declL_each _ _ _ _ heach, List.nil_append]
  have hfd := find_default (own := ownT n space) (spacesT (sortT as)) hs
  have hrt := res_tag (sc := sc ++ (dflP (ownT n space) space ++ numP 0 (spacesT (sortT as)))) hn hfd
  have hat : attrL (sc ++ (dflP (ownT n space) space ++ numP 0 (spacesT (sortT as)))) ((echW (spacesT (sortT as)) (sortT as)).map prW) [] = .ok (sortT as) := by
    have hra : ∀ a ∈ sortT as, resB (sc ++ (dflP (ownT n space) space ++ numP 0 (spacesT (sortT as)))) ⟨(preT (spacesT (sortT as)) a.1.1 ++ a.1.2.data.toList).toArray⟩ true = (a.1, 0) := fun a h =>
      res_attr (sc ++ dflP (ownT n space) space) (hmem a h).1 (by omega) (hneed a h) (List.append_assoc _ _ _).symm
    have hmap : ((echW (spacesT (sortT as)) (sortT as)).map prW).map (attrF (sc ++ (dflP (ownT n space) space ++ numP 0 (spacesT (sortT as))))) = sortT as := by
      unfold echW
      rw [List.map_map, List.map_map]
      refine (List.map_congr_left (g := id) fun a h => ?_).trans (List.map_id _)
      show ((resB _ ⟨(preT (spacesT (sortT as)) a.1.1 ++ a.1.2.data.toList).toArray⟩ true).1, (⟨a.2.data.toList.toArray⟩ : ByteArray)) = a
      rw [hra a h, to_list]
    rw [attrL_ok_iff]
    refine ⟨fun x hx => ?_, by rw [List.nil_append]; exact hmap, fun x _ y hy => (by cases hy), ?_⟩
    · obtain ⟨y, hy, rfl⟩ := List.mem_map.1 hx
      unfold echW at hy
      obtain ⟨a, h, rfl⟩ := List.mem_map.1 hy
      have := hra a h
      show (resB _ ⟨(preT (spacesT (sortT as)) a.1.1 ++ a.1.2.data.toList).toArray⟩ true).2 = 0
      rw [this]
    · rw [show (fun x => (attrF (sc ++ (dflP (ownT n space) space ++ numP 0 (spacesT (sortT as)))) x).1) = (fun x : Tr => x.1) ∘ attrF (sc ++ (dflP (ownT n space) space ++ numP 0 (spacesT (sortT as)))) from rfl, ← List.map_map, hmap]
      exact ((sortT_perm as).map (·.1)).pairwise_iff (fun h => Ne.symm h) |>.2 ha.2.1
  refine ⟨sc ++ (dflP (ownT n space) space ++ numP 0 (spacesT (sortT as))), hfd, ?_⟩
  unfold begunX
  rw [hdl]
  simp only
  rw [if_neg (by unfold echW; rw [List.length_map, List.length_map]; omega), h1, hrt]
  simp only [ne_eq, not_true_eq_false, if_false]
  rw [hat]
end Wb

namespace Wb
open Go
theorem takeAll_app : ∀ (x y : List TkV) (b b' : Bd), takeAll b x = .ok b' → takeAll b (x ++ y) = takeAll b' y
  | [], y, b, b', h => by
    simp only [takeAll, Except.ok.injEq] at h
    rw [h, List.nil_append]
  | t :: x, y, b, b', h => by
    rw [List.cons_append]
    unfold takeAll at h
    conv => lhs; unfold takeAll
    cases hs : takeX' b t with
    | error e => rw [hs] at h; cases h
    | ok b2 =>
      rw [hs] at h
      exact takeAll_app x y b2 b' h
def addN (b : Bd) (n : Nd) (m : Nat) : Bd := match b.opened.getLast? with | none => ⟨[], n, m⟩ | some f => ⟨b.opened.dropLast ++ [f.more n], b.root, m⟩
theorem addN_root {b : Bd} (h : b.opened = []) (n : Nd) (m : Nat) : addN b n m = ⟨[], n, m⟩ := by unfold addN; rw [h]; rfl
theorem addN_in {b : Bd} {l : List El} {e : El} (h : b.opened = l ++ [e]) (n : Nd) (m : Nat) : addN b n m = ⟨l ++ [e.more n], b.root, m⟩ := by unfold addN; rw [h]; simp
theorem close_add (b : Bd) (e : El) (m : Nat) : closeX ⟨b.opened ++ [e], b.root, m⟩ = addN b e.node m := by
  rcases last_cases b.opened with h | ⟨l, f, h⟩
  · rw [addN_root h, closeX_one (b := ⟨b.opened ++ [e], b.root, m⟩) (e := e) (by rw [h]; rfl)]
  · rw [addN_in h, closeX_more (b := ⟨b.opened ++ [e], b.root, m⟩) (l := l) (f := f) (e := e) (by rw [h])]
theorem scope_in {b : Bd} {l : List El} {e : El} (h : b.opened = l ++ [e]) : scopeX b = e.scope := by unfold scopeX; rw [h]; simp
def NodeTake (n : Nd) : Prop := ∀ (d : Nat) (sp : ByteArray) (b : Bd) (vs : List (Nat × Tk)), okN d n → vs.map (·.2) = tkN n sp → b.opened.length + 1 = d → b.root.kind ≠ 1 → b.nodes + costN n ≤ 2000 → findB (scopeX b) sE = (sp, true) →
  (n.kind = 2 → ∃ l e, b.opened = l ++ [e] ∧ lastK 0 e.kids ≠ 2) → takeAll b (vs.map tkv) = .ok (addN b (ordN n) (b.nodes + costN n))
theorem kids_take : ∀ (ks : List Nd), (∀ k ∈ ks, NodeTake k) → ∀ (d : Nat) (own : ByteArray) (b : Bd) (vs : List (Nat × Tk)) (l : List El) (e : El), okKs d (lastK 0 e.kids) ks → vs.map (·.2) = tkKs ks own → b.opened = l ++ [e] → b.opened.length + 1 = d → b.root.kind ≠ 1 →
    b.nodes + costNs ks ≤ 2000 → findB e.scope sE = (own, true) → takeAll b (vs.map tkv) = .ok ⟨l ++ [{ e with kids := e.kids ++ ordKs ks }], b.root, b.nodes + costNs ks⟩
  | [], _, d, own, b, vs, l, e, _, hv, ho, _, _, _, _ => by
    have : vs = [] := by simpa [tkKs] using hv
    subst this
    obtain ⟨op, rt, nd⟩ := b
    simp only at ho
    simp [takeAll, ordKs, costNs, ho]
  | k :: ks, hk, d, own, b, vs, l, e, hok, hv, ho, hd, hr, hc, hs => by
    simp only [okKs] at hok
    obtain ⟨h1, h2, h3⟩ := hok
    rw [tkKs] at hv
    obtain ⟨v1, v2, rfl, e1, e2⟩ := List.map_eq_append_iff.1 hv
    simp only [costNs] at hc ⊢
    have s1 := hk k (by simp) d own b v1 h2 e1 hd hr (by omega) (by rw [scope_in ho]; exact hs) (fun hk2 => ⟨l, e, ho, fun hl => h1 ⟨hl, hk2⟩⟩)
    rw [addN_in ho] at s1
    have hl : lastK 0 (e.more (ordN k)).kids = k.kind := by
      unfold lastK El.more
      simp [ordN_kind]
    have s2 := kids_take ks (fun x hx => hk x (by simp [hx])) d own ⟨l ++ [e.more (ordN k)], b.root, b.nodes + costN k⟩ v2 l (e.more (ordN k)) (by rw [hl]; exact h3) e2 rfl (by rw [← hd, ho]; simp) hr (by show b.nodes + costN k + costNs ks ≤ 2000; omega) hs
    rw [List.map_append, takeAll_app _ _ _ _ s1, s2]
    simp only [El.more, ordKs, List.append_assoc, List.singleton_append, Nat.add_assoc]
theorem take_node (n : Nd) : NodeTake n := by
  induction n using Nd.induct with
  | h n ih =>
    intro d sp b vs hok hv hd hr hc hs hk2
    obtain ⟨kd, nm, al, ks, t⟩ := n
    simp only [Nd.kids, Nd.kind] at ih hk2
    have hcn := costN_is (.mk kd nm al ks t)
    rw [show (Nd.mk kd nm al ks t).kids = ks from rfl] at hcn
    rw [hcn] at hc ⊢
    unfold okN at hok
    rcases hok with ⟨rfl, h24, rfl, hnm, hal, hks⟩ | ⟨rfl, ht, _, rfl, rfl, rfl⟩
    · have hdl : ¬ b.opened.length = 24 := by omega
      have hn : ¬ b.nodes = 2000 := by omega
      have start : ∀ (k : Int) (p : Nat), k ≠ 4 → k ≠ 2 → ∃ sc', findB sc' sE = (ownT nm sp, true) ∧ startX b (tkv (p, (k, tagT nm, rawW nm al sp, []))) = .ok ⟨b.opened ++ [⟨⟨(tagT nm).toArray⟩, sc', nm, sortT al, []⟩], b.root, b.nodes + 1⟩ := by
        intro k p _ _
        obtain ⟨sc', h1, h2⟩ := begun_printed (t := tkv (p, (k, tagT nm, rawW nm al sp, []))) hnm hal hs rfl rfl
        refine ⟨sc', h1, ?_⟩
        unfold startX
        rw [if_neg hr, if_neg hdl, if_neg hn, h2]
        rfl
      by_cases hke : ks = []
      · subst hke
        have hv : vs.map (·.2) = [(3, tagT nm, rawW nm al sp, [])] := by rw [hv, tkN]; simp
        obtain ⟨x, rfl⟩ : ∃ x, vs = [x] := by
          have := congrArg List.length hv
          rw [List.length_map] at this
          exact List.length_eq_one_iff.1 this
        obtain ⟨p, tk⟩ := x
        simp only [List.map_cons, List.map_nil, List.cons.injEq, and_true] at hv
        subst hv
        obtain ⟨sc', _, h2⟩ := start 3 p (by decide) (by decide)
        rw [List.map_cons, List.map_nil]
        unfold takeAll takeX'
        rw [if_neg (by show ¬ (3 : Int) = 4; decide), if_neg (by show ¬ (3 : Int) = 2; decide), h2]
        simp only
        rw [if_pos (by rfl), close_add]
        rfl
      · have hie : ks.isEmpty = false := by cases ks with
          | nil => exact absurd rfl hke
          | cons _ _ => rfl
        have hv : vs.map (·.2) = [(1, tagT nm, rawW nm al sp, [])] ++ (tkKs ks (ownT nm sp) ++ [(2, tagT nm, [], [])]) := by rw [hv, tkN, hie]; simp
        obtain ⟨v1, v2, rfl, e1, e2⟩ := List.map_eq_append_iff.1 hv
        obtain ⟨v3, v4, rfl, e3, e4⟩ := List.map_eq_append_iff.1 e2
        obtain ⟨x, rfl⟩ : ∃ x, v1 = [x] := by
          have := congrArg List.length e1
          rw [List.length_map] at this
          exact List.length_eq_one_iff.1 this
        obtain ⟨y, rfl⟩ : ∃ y, v4 = [y] := by
          have := congrArg List.length e4
          rw [List.length_map] at this
          exact List.length_eq_one_iff.1 this
        obtain ⟨p, tk⟩ := x
        obtain ⟨q, tk2⟩ := y
        simp only [List.map_cons, List.map_nil, List.cons.injEq, and_true] at e1 e4
        subst e1 e4
        obtain ⟨sc', h1, h2⟩ := start 1 p (by decide) (by decide)
        have s1 : takeAll b ([(p, ((1 : Int), tagT nm, rawW nm al sp, ([] : List UInt8)))].map tkv) = .ok ⟨b.opened ++ [⟨⟨(tagT nm).toArray⟩, sc', nm, sortT al, []⟩], b.root, b.nodes + 1⟩ := by
          rw [List.map_cons, List.map_nil]
          unfold takeAll takeX'
          rw [if_neg (by show ¬ (1 : Int) = 4; decide), if_neg (by show ¬ (1 : Int) = 2; decide), h2]
          simp only
          rw [if_neg (by show ¬ (1 : Int) = 3; decide)]
          rfl
        have s2 := kids_take ks ih (d + 1) (ownT nm sp) ⟨b.opened ++ [⟨⟨(tagT nm).toArray⟩, sc', nm, sortT al, []⟩], b.root, b.nodes + 1⟩ v3 b.opened ⟨⟨(tagT nm).toArray⟩, sc', nm, sortT al, []⟩ hks e3 rfl (by simp; omega) hr (by show b.nodes + 1 + costNs ks ≤ 2000; omega) h1
        rw [List.map_append, List.map_append, takeAll_app _ _ _ _ s1, takeAll_app _ _ _ _ s2, List.map_cons, List.map_nil]
        unfold takeAll takeX'
        rw [if_neg (by show ¬ (2 : Int) = 4; decide), if_pos (by rfl)]
        unfold endX'
        simp only [List.getLast?_append, List.getLast?_singleton, Option.some_or]
        rw [show (tkv (q, ((2 : Int), tagT nm, ([] : List (List UInt8 × List UInt8)), ([] : List UInt8)))).name = ⟨(tagT nm).toArray⟩ from rfl, if_pos (eqT_self (ByteArray.mk (tagT nm).toArray)), close_add]
        rw [Nat.add_assoc]
        rfl
    · obtain ⟨l, e, ho, hl⟩ := hk2 rfl
      have hv : vs.map (·.2) = [(4, [], [], t.data.toList)] := by rw [hv, tkN, if_pos rfl]
      obtain ⟨x, rfl⟩ : ∃ x, vs = [x] := by
        have := congrArg List.length hv
        rw [List.length_map] at this
        exact List.length_eq_one_iff.1 this
      obtain ⟨p, tk⟩ := x
      simp only [List.map_cons, List.map_nil, List.cons.injEq, and_true] at hv
      subst hv
      have hn : ¬ b.nodes = 2000 := by omega
      have htk : textKids e.kids t = (e.kids ++ [.mk 2 (sE, sE) [] [] t], true) := by
        rcases last_cases e.kids with h0 | ⟨m, k, h0⟩
        · rw [h0]; rfl
        · rw [h0] at hl ⊢
          refine textKids_else t fun hk => hl ?_
          unfold lastK
          simp [hk]
      rw [addN_in ho, List.map_cons, List.map_nil]
      unfold takeAll takeX'
      rw [if_pos (by rfl)]
      unfold textX'
      rw [ho]
      simp only [List.getLast?_append, List.getLast?_singleton, Option.some_or, List.dropLast_concat]
      rw [show (tkv (p, ((4 : Int), ([] : List UInt8), ([] : List (List UInt8 × List UInt8)), t.data.toList))).text = t from to_list t, if_neg (by rw [eqT_false.2 ht]; decide), htk]
      simp only
      rw [if_neg (by decide), if_neg hn]
      rfl
theorem tree_printed {n : Nd} (hok : okN 1 n) (hk : n.kind = 1) (hc : costN n ≤ 2000) {ts : List (Nat × Tk)} (hts : ts.map (·.2) = tkN n sE) (len : Nat) : treeX len (ts.map tkv) = .ok (ordN n) := by
  have h := take_node n 1 sE Bd.none_ ts hok hts rfl (by decide) (by show 0 + costN n ≤ 2000; omega) (by rw [show scopeX Bd.none_ = [] from rfl, findB_none (l := []) (eqT_false.2 (by decide)) rfl, eqT_self]) (fun h => by rw [hk] at h; cases h)
  unfold treeX
  rw [h, addN_root rfl]
  simp only
  rw [if_neg (by simp), if_neg (by rw [ordN_kind, hk]; decide)]
theorem sameN_ord (n : Nd) : sameN n (ordN n) = true := by
  induction n using Nd.induct with
  | h n ih =>
    obtain ⟨kd, nm, al, ks, t⟩ := n
    simp only [Nd.kids] at ih
    rw [sameN_iff]
    refine ⟨rfl, rfl, rfl, (sortT_perm al).symm, ?_, fun i x y hx hy => ?_⟩
    · show ks.length = (ordKs ks).length
      rw [ordKs_map, List.length_map]
    · have hy : (ordKs ks)[i]? = some y := hy
      have hx : ks[i]? = some x := hx
      rw [ordKs_map, List.getElem?_map, hx] at hy
      simp only [Option.map_some, Option.some.injEq] at hy
      rw [← hy]
      exact ih x (List.mem_of_getElem? hx)
end Wb

