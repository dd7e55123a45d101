/- SaF Txt QdA Take QdB. -/
import Derived.Deep.Cut
import Derived.Deep.RegionHeld2
import Derived.Test.YtbeglliabpflpaaGreatDoorCU2
import Derived.Test.YtbeglliabpflpaaGreatDoorCU3
import Derived.Test.YtbeglliabpflpaaGreatDoorCU4
import Derived.Test.YtbeglliabpflpaaGreatDoorCU5
import Derived.Test.YtbeglliabpflpaaGreatDoorCU8
import Derived.Test.YtbeglliabpflpaaGreatDoorCU10
namespace Wb
theorem piece_app {c : UInt8} : ∀ (x cur r : List UInt8), c ∉ x → pieceA c cur (x ++ c :: r) = (cur ++ x) :: pieceA c [] r
  | [], cur, r, _ => by
    rw [List.nil_append, pieceA, if_pos rfl, List.append_nil]
  | d :: x, cur, r, h => by
    have hd : d ≠ c := fun e => h (by simp [e])
    rw [List.cons_append, pieceA, if_neg hd, piece_app x (cur ++ [d]) r fun e => h (by simp [e]), List.append_assoc]
    rfl
theorem piece_end {c : UInt8} : ∀ (x cur : List UInt8), c ∉ x → pieceA c cur x = [cur ++ x]
  | [], cur, _ => by rw [pieceA, List.append_nil]
  | d :: x, cur, h => by
    have hd : d ≠ c := fun e => h (by simp [e])
    rw [pieceA, if_neg hd, piece_end x (cur ++ [d]) fun e => h (by simp [e]), List.append_assoc]
    rfl
theorem join_pieces {c : UInt8} : ∀ (L : List (List UInt8)), L ≠ [] → (∀ x ∈ L, c ∉ x) → pieceF c (joinB c L) = L
  | [], h, _ => absurd rfl h
  | [x], _, h => by
    unfold pieceF
    rw [joinB, piece_end x [] (h x (by simp))]
    rfl
  | x :: y :: r, _, h => by
    unfold pieceF
    rw [joinB, piece_app x [] _ (h x (by simp))]
    have := join_pieces (c := c) (y :: r) (by simp) fun z hz => h z (by simp [hz])
    unfold pieceF at this
    rw [this]
    rfl
theorem pct_no47 (t : List UInt8) : (47 : UInt8) ∉ pctE [] t := fun h => by
  rcases pctE_mem [] t 47 h with h | h | h
  · revert h; decide
  · revert h; decide
  · simp at h
theorem steps_back {space : ByteArray} : ∀ (l : List StV) (first : Bool) (sp0 sp : List ByteArray) (ts : List (List UInt8)), stpsT space l sp0 = .ok (ts, sp) → shapeL first l = true → SpsOK sp0 →
    SpsOK sp ∧ (∃ r, sp = sp0 ++ r) ∧ ts.length = l.length ∧ ∀ r, (sp ++ r).length ≤ 32 → parseL' ((sE, space) :: numP 0 (sp ++ r)) first (ts.map (pctE [])) = .ok l
  | [], first, sp0, sp, ts, h, _, hs => by
    rw [stpsT] at h
    injection h with h
    injection h with h1 h2
    subst h1 h2
    refine ⟨hs, ⟨[], by simp⟩, rfl, fun r _ => ?_⟩
    rw [List.map_nil, parseL']
  | x :: l, first, sp0, sp, ts, h, hp, hs => by
    rw [stpsT] at h
    rw [shapeL, Bool.and_eq_true] at hp
    split at h
    · cases h
    · rename_i t l1 h1
      split at h
      · cases h
      · rename_i ts' l2 h2
        injection h with h
        injection h with e1 e2
        subst e1 e2
        obtain ⟨a1, ⟨r1, a2⟩, a3, a4⟩ := step_back h1 hp.1 hs
        obtain ⟨c1, ⟨r2, c2⟩, c3, c4⟩ := steps_back l false l1 l2 ts' h2 hp.2 a1
        refine ⟨c1, ⟨r1 ++ r2, by rw [c2, a2, List.append_assoc]⟩, by rw [List.length_cons, List.length_cons, c3], fun r hr => ?_⟩
        rw [List.map_cons, parseL', dec_txt a3, if_neg (by simp)]
        have hem : (ts'.map (pctE [])).isEmpty = l.isEmpty := by
          cases ts' with
          | nil =>
            cases l with
            | nil => rfl
            | cons y l => simp at c3
          | cons u ts' =>
            cases l with
            | nil => simp at c3
            | cons y l => rfl
        rw [hem]
        have e := a4 (r2 ++ r) (by rw [← List.append_assoc, ← c2]; exact hr)
        rw [← List.append_assoc, ← c2] at e
        simp only
        rw [e]
        simp only
        rw [c4 r hr]
theorem print_back {space : ByteArray} {l : List StV} {s q : List UInt8} (h : printS space l = .ok (s, q)) : ∃ b, bindsP q = (b, 0) ∧ parseS s space b = .ok l := by
  unfold printS at h
  split at h
  · cases h
  · rename_i hsh
    have hsh : shapeS l = true := by simpa using hsh
    unfold shapeS at hsh
    simp only [Bool.and_eq_true, decide_eq_true_eq] at hsh
    obtain ⟨h1, h2, h3⟩ := hsh
    split at h
    · cases h
    · rename_i ts sp hst
      injection h with h
      injection h with e1 e2
      subst e1 e2
      obtain ⟨a1, _, a3, a4⟩ := steps_back l true [] sp ts hst h1 ⟨by simp, by simp⟩
      refine ⟨numP 0 sp, query_back a1, ?_⟩
      have hp : pieceF 47 (joinB 47 (ts.map (pctE []))) = ts.map (pctE []) := by
        refine join_pieces _ ?_ fun x hx => ?_
        · intro e
          have := congrArg List.length e
          rw [List.length_map, List.length_nil] at this
          omega
        · obtain ⟨t, _, rfl⟩ := List.mem_map.1 hx
          exact pct_no47 t
      unfold parseS
      rw [hp, List.length_map, if_neg (by omega)]
      have := a4 [] (by have := a1.1; simp; omega)
      rw [List.append_nil] at this
      exact this
theorem res_name {sc : List Pr} {q : ByteArray} {attr : Bool} (h : (resB sc q attr).2 = 0) : nameB (resB sc q attr).1.2.data.toList = true := by
  have key : ∀ q : ByteArray, (splitB q).2.2 = true → nameB (splitB q).2.1.data.toList = true := by
    intro q hq
    unfold splitB at hq ⊢
    split
    · split
      · rename_i h; exact h
      · rename_i e h
        rw [e] at hq
        simp only at hq
        rw [if_neg h] at hq
        cases hq
    · rename_i k e
      rw [e] at hq
      simp only at hq
      split
      · rename_i h
        rw [Bool.and_eq_true] at h
        exact h.2
      · rename_i h
        rw [if_neg h] at hq
        cases hq
  unfold resB at h ⊢
  split
  · rename_i hs
    rw [if_pos hs] at h
    exact absurd h (by decide)
  · rename_i hs
    rw [if_neg hs] at h
    have hs : (splitB q).2.2 = true := by simpa using hs
    split
    · exact key q hs
    · rename_i h2
      rw [if_neg h2] at h
      split
      · rename_i h3
        rw [if_pos h3] at h
        exact absurd h (by decide)
      · exact key q hs
theorem name_ne {n : Pr} (h : nameB n.2.data.toList = true) : n ≠ nE := by
  intro e
  rw [e] at h
  revert h
  decide
def Parsed (last : Bool) (x : StV) : Prop := shape1 last x = true ∧ (x.kind = 3 ∨ (x.kind = 2 ∧ nameB x.name.2.data.toList = true) ∨ (x.kind = 1 ∧ (x.any = true ∨ nameB x.name.2.data.toList = true) ∧ (x.by_ = true → nameB x.attr.2.data.toList = true)))
theorem parsed_el {last any : Bool} {n : Pr} {p : Nat} (hp : p ≤ 9999) (hn : (any = true ∧ n = nE) ∨ (any = false ∧ nameB n.2.data.toList = true)) : Parsed last ⟨1, any, n, p, false, nE, sE⟩ := by
  refine ⟨?_, .inr (.inr ⟨rfl, ?_, fun h => by cases h⟩)⟩
  · unfold shape1
    simp only [if_true, Bool.and_eq_true, decide_eq_true_eq, Bool.false_or, and_true]
    refine ⟨⟨?_, by omega⟩, by omega⟩
    rcases hn with ⟨rfl, rfl⟩ | ⟨rfl, h⟩
    · simp
    · simp [name_ne h]
  · rcases hn with ⟨h, _⟩ | ⟨_, h⟩
    · exact .inl h
    · exact .inr h
theorem parsed_by {last any : Bool} {n a : Pr} {v : ByteArray} {p : Nat} (hp : p ≤ 9999) (hn : (any = true ∧ n = nE) ∨ (any = false ∧ nameB n.2.data.toList = true)) (ha : nameB a.2.data.toList = true) : Parsed last ⟨1, any, n, p, true, a, v⟩ := by
  refine ⟨?_, .inr (.inr ⟨rfl, ?_, fun _ => ha⟩)⟩
  · unfold shape1
    simp only [if_true, Bool.and_eq_true, decide_eq_true_eq, Bool.true_or, and_true]
    refine ⟨⟨?_, by omega⟩, by omega⟩
    rcases hn with ⟨rfl, rfl⟩ | ⟨rfl, h⟩
    · simp
    · simp [name_ne h]
  · rcases hn with ⟨h, _⟩ | ⟨_, h⟩
    · exact .inl h
    · exact .inr h
theorem posnP_le {r r' : List UInt8} {p : Nat} (h : posnP r = some (p, r')) : p ≤ 9999 := by
  unfold posnP at h
  split at h
  · injection h with h
    injection h with h1 h2
    omega
  · split at h
    · cases h
    · rename_i t r2 _
      split at h
      · cases h
      · injection h with h
        injection h with h1 h2
        have := posP_le t
        omega
theorem stepP_parsed {sc : List Pr} {d : List UInt8} {x : StV} {last : Bool} (h : stepP sc d = .ok x) : Parsed last x := by
  unfold stepP at h
  split at h
  · cases h
  · split at h
    · cases h
    · rename_i p r hp
      have hp9 := posnP_le hp
      split at h
      · split at h
        · injection h with h
          subst h
          exact parsed_el hp9 (.inl ⟨rfl, rfl⟩)
        · split at h
          · rename_i h0
            injection h with h
            subst h
            exact parsed_el hp9 (.inr ⟨rfl, res_name h0⟩)
          · cases h
      · split at h
        · cases h
        · rename_i an v _
          split at h
          · cases h
          · rename_i h1
            split at h
            · cases h
            · rename_i h2
              have h2 : (resB sc ⟨an.toArray⟩ true).2 = 0 := by simpa using h2
              split at h
              · cases h
              · injection h with h
                subst h
                refine parsed_by hp9 ?_ (res_name h2)
                by_cases e : (headP d).1 = [42]
                · rw [if_pos e]
                  exact .inl ⟨decide_eq_true e, rfl⟩
                · rw [if_neg e]
                  have : (resB sc ⟨(headP d).1.toArray⟩ false).2 = 0 := by
                    apply Classical.byContradiction
                    exact fun h0 => h1 ⟨e, h0⟩
                  exact .inr ⟨decide_eq_false e, res_name this⟩
theorem oneP_parsed {sc : List Pr} {d : List UInt8} {x : StV} {last : Bool} (h : oneP sc last d = .ok x) : Parsed last x := by
  unfold oneP at h
  split at h
  · rename_i hl
    injection h with h
    subst h
    refine ⟨?_, .inl rfl⟩
    rw [hl.1]
    decide
  · split at h
    · rename_i hl
      split at h
      · rename_i h0
        injection h with h
        subst h
        refine ⟨?_, .inr (.inl ⟨rfl, res_name h0⟩)⟩
        rw [hl.1]
        unfold shape1
        simp
      · cases h
    · exact stepP_parsed h
theorem parseL_parsed {sc : List Pr} : ∀ (L : List (List UInt8)) (first : Bool) (l : List StV), parseL' sc first L = .ok l → shapeL first l = true ∧ l.length = L.length ∧ ∀ x ∈ l, ∃ last, Parsed last x
  | [], first, l, h => by
    rw [parseL'] at h
    injection h with h
    subst h
    exact ⟨rfl, rfl, by simp⟩
  | p :: r, first, l, h => by
    rw [parseL'] at h
    split at h
    · cases h
    · split at h
      · cases h
      · rename_i x hx
        split at h
        · cases h
        · rename_i l' hl
          injection h with h
          subst h
          obtain ⟨a1, a2, a3⟩ := parseL_parsed r false l' hl
          have hp := oneP_parsed hx
          have hem : r.isEmpty = l'.isEmpty := by
            cases r with
            | nil =>
              cases l' with
              | nil => rfl
              | cons y l => simp at a2
            | cons u r =>
              cases l' with
              | nil => simp at a2
              | cons y l => rfl
          refine ⟨?_, by simp [a2], fun y hy => ?_⟩
          · rw [shapeL, a1, Bool.and_true, ← hem]
            exact hp.1
          · rcases List.mem_cons.1 hy with rfl | hy
            · exact ⟨_, hp⟩
            · exact a3 y hy
theorem nameT_err {n : Pr} {plain : ByteArray} {l : List ByteArray} {e : Int} (hn : nameB n.2.data.toList = true) (h : nameT n plain l = .error e) : e = 13 ∨ e = 3 := by
  unfold nameT at h
  rw [if_neg (by rw [hn]; decide)] at h
  repeat' split at h
  all_goals first
    | (injection h with h; omega)
    | cases h
theorem stpT_err {x : StV} {space : ByteArray} {l : List ByteArray} {e : Int} {last : Bool} (hx : Parsed last x) (h : stpT x space l = .error e) : e = 13 ∨ e = 11 ∨ e = 3 := by
  obtain ⟨_, hx⟩ := hx
  unfold stpT at h
  split at h
  · cases h
  · rename_i h3
    split at h
    · rename_i h2
      have hn : nameB x.name.2.data.toList = true := by
        rcases hx with hx | hx | hx
        · exact absurd hx h3
        · exact hx.2
        · omega
      split at h
      · rename_i e' he
        injection h with h
        subst h
        have := nameT_err hn he
        omega
      · cases h
    · rename_i h2
      obtain ⟨_, hn, ha⟩ : x.kind = 1 ∧ (x.any = true ∨ nameB x.name.2.data.toList = true) ∧ (x.by_ = true → nameB x.attr.2.data.toList = true) := by
        rcases hx with hx | hx | hx
        · exact absurd hx h3
        · exact absurd hx.1 h2
        · exact hx
      split at h
      · rename_i e' he
        injection h with h
        subst h
        unfold elemT at he
        split at he
        · cases he
        · rename_i hany
          have := nameT_err (hn.resolve_left hany) he
          omega
      · split at h
        · cases h
        · rename_i hb
          split at h
          · rename_i e' he
            injection h with h
            subst h
            have := nameT_err (ha (by simpa using hb)) he
            omega
          · split at h
            · injection h with h
              omega
            · cases h
theorem stpsT_err {space : ByteArray} : ∀ (l : List StV) (sp : List ByteArray) (e : Int), (∀ x ∈ l, ∃ last, Parsed last x) → stpsT space l sp = .error e → e = 13 ∨ e = 11 ∨ e = 3
  | [], sp, e, _, h => by rw [stpsT] at h; cases h
  | x :: l, sp, e, hp, h => by
    rw [stpsT] at h
    split at h
    · rename_i e' he
      injection h with h
      subst h
      obtain ⟨last, hx⟩ := hp x (by simp)
      exact stpT_err hx he
    · split at h
      · rename_i e' he
        injection h with h
        subst h
        exact stpsT_err l _ _ (fun y hy => hp y (by simp [hy])) he
      · cases h
theorem parse_print {s : List UInt8} {space space' : ByteArray} {b : List Pr} {l : List StV} {e : Int} (h : parseS s space b = .ok l) (hp : printS space' l = .error e) : e = 13 ∨ e = 11 ∨ e = 3 := by
  unfold parseS at h
  split at h
  · cases h
  · rename_i h16
    obtain ⟨a1, a2, a3⟩ := parseL_parsed _ _ _ h
    unfold printS at hp
    have hne : (pieceF 47 s).length ≠ 0 := by
      intro e0
      exact pieceA_ne 47 [] s (List.eq_nil_of_length_eq_zero e0)
    split at hp
    · rename_i hsh
      unfold shapeS at hsh
      rw [a1, decide_eq_true (show 1 ≤ l.length by omega), decide_eq_true (show l.length ≤ 16 by omega)] at hsh
      cases hsh
    · split at hp
      · rename_i e' he
        injection hp with hp
        subst hp
        exact stpsT_err l [] _ a3 he
      · cases hp
end Wb
namespace Go.Proofs.YtbeglliabpflpaaGreatDoor
open Go.RowKit Wb
theorem txt_byte : (Tryz.prog.info? 5).map (fun i => (i.zero, i.size, i.bytes)) = some (some (.int .u8 0), 1, 1) := by kernel_rfl
theorem run_txt {w : World} {base n : Nat} {e : TypeId} {v : Value} (l : List UInt8) (h : w.ownsRow base e 1 v n (cellsB l)) :
    (convert 78 9 v).run Tryz.prog w = .ok (.string ⟨l.toArray⟩) w := by
  have hn : n = l.length := by have := h.1; rw [cellsB_length] at this; omega
  have e8 : (b8 ∘ fun b : UInt8 => (b.toNat : Int)) = id := funext fun b => by
    show b8 (b.toNat : Int) = b
    unfold b8
    simp
  by_cases hl : l = []
  · subst hl
    rcases h.2 with ⟨rfl, _⟩ | ⟨g, cap, cur, rfl, _⟩
    · rw [List.length_nil] at hn
      subst hn
      rw [run_convert_bytes_string w _ _ _ _ 0 0 Tryz.underlying78 Tryz.underlying5 Tryz.underlying9]
      unfold Conv.bytesToString
      simp [Sem.run_pure]
      rfl
    · rw [List.length_nil] at hn
      subst hn
      rw [run_text w g 0 cap [] rfl (by intro j u hu; simp at hu)]
      rfl
  · obtain ⟨g, cap, rfl, _, _⟩ := h.form (by cases l with
      | nil => exact absurd rfl hl
      | cons a r => rw [hn]; simp)
    rw [run_text w g n cap (l.map fun b => (b.toNat : Int)) (by simp [hn]) (by
      intro j u hu
      have := h.cells (g := g) rfl j u (by simpa [cellsB] using hu)
      rw [Addr.add_lit, Nat.zero_add] at this
      exact this)]
    rw [List.map_map, e8, List.map_id]
end Go.Proofs.YtbeglliabpflpaaGreatDoor
namespace Go.Proofs.YtbeglliabpflpaaGreatDoor
open Go.RowKit Wb
set_option maxRecDepth 100000 in
set_option maxHeartbeats 4000000 in
theorem r9plain_any (c : UInt8) (w : World) :
    Calls Tryz.prog 67 #[.int .u8 c.toNat] w fun e w' => e = .returned (.bool (plC c)) ∧ w = w' := by
  have hv : ∀ b : Bool, (plC c = b ↔ ((97 ≤ c.toNat ∧ c.toNat ≤ 122) ∨ (65 ≤ c.toNat ∧ c.toNat ≤ 90) ∨ (48 ≤ c.toNat ∧ c.toNat ≤ 57) ∨ c.toNat = 45 ∨ c.toNat = 46 ∨ c.toNat = 95 ∨ c.toNat = 126 ↔ b = true)) := by
    intro b
    unfold plC
    rw [Bool.eq_iff_iff]
    have e : ∀ d : UInt8, (c == d) = true ↔ c.toNat = d.toNat := fun d => by rw [beq_iff_eq, UInt8.toNat_inj]
    simp only [Bool.or_eq_true, Bool.and_eq_true, decide_eq_true_eq, or_assoc, e]
    rfl
  have hr : (plC c = true ∧ 97 ≤ c.toNat ∧ c.toNat ≤ 122) ∨ (plC c = true ∧ 65 ≤ c.toNat ∧ c.toNat ≤ 90) ∨ (plC c = true ∧ 48 ≤ c.toNat ∧ c.toNat ≤ 57) ∨
      (plC c = true ∧ (c.toNat = 45 ∨ c.toNat = 46 ∨ c.toNat = 95 ∨ c.toNat = 126)) ∨
      (plC c = false ∧ c.toNat < 48 ∧ c.toNat ≠ 45 ∧ c.toNat ≠ 46) ∨ (plC c = false ∧ 57 < c.toNat ∧ c.toNat < 65) ∨ (plC c = false ∧ 90 < c.toNat ∧ c.toNat < 97 ∧ c.toNat ≠ 95) ∨ (plC c = false ∧ 122 < c.toNat ∧ c.toNat ≠ 126) := by
    rw [hv true, hv false]
    simp only [Bool.false_eq_true, iff_false, iff_true]
    omega
  clear hv
  go_enter Tryz.func67, Tryz.ntmps67
  rcases hr with ⟨hr, h1, h2⟩ | ⟨hr, h1, h2⟩ | ⟨hr, h1, h2⟩ | ⟨hr, h1 | h1 | h1 | h1⟩ | ⟨hr, h1, h2, h3⟩ | ⟨hr, h1, h2⟩ | ⟨hr, h1, h2, h3⟩ | ⟨hr, h1, h2⟩
  all_goals
    rw [hr]
    clear hr
    go_wp2
    go_ret
  all_goals first
    | exact ⟨rfl, rfl⟩
    | (refine ⟨?_, rfl⟩; simp; omega)
    | (refine ⟨?_, rfl⟩; simp [h1])
set_option maxRecDepth 100000 in
set_option maxHeartbeats 4000000 in
theorem rdigit_any (c : UInt8) (w : World) :
    Calls Tryz.prog 49 #[.int .u8 c.toNat] w fun e w' => e = .returned (.int .i64 (dgV c)) ∧ w = w' := by
  have hr : (dgV c = c.toNat - 48 ∧ 48 ≤ c.toNat ∧ c.toNat ≤ 57) ∨ (dgV c = c.toNat - 55 ∧ 65 ≤ c.toNat ∧ c.toNat ≤ 70) ∨ (dgV c = c.toNat - 87 ∧ 97 ≤ c.toNat ∧ c.toNat ≤ 102) ∨
      (dgV c = -1 ∧ c.toNat < 48) ∨ (dgV c = -1 ∧ 57 < c.toNat ∧ c.toNat < 65) ∨ (dgV c = -1 ∧ 70 < c.toNat ∧ c.toNat < 97) ∨ (dgV c = -1 ∧ 102 < c.toNat) := by
    unfold dgV
    repeat' split
    all_goals omega
  have hk := c.toNat_lt
  go_enter Tryz.func49, Tryz.ntmps49
  rcases hr with ⟨hr, h1, h2⟩ | ⟨hr, h1, h2⟩ | ⟨hr, h1, h2⟩ | ⟨hr, h1⟩ | ⟨hr, h1, h2⟩ | ⟨hr, h1, h2⟩ | ⟨hr, h1⟩
  all_goals
    rw [hr]
    clear hr
    go_wp2
    go_ret
  all_goals first
    | exact ⟨rfl, rfl⟩
    | (refine ⟨?_, rfl⟩; go_num)
end Go.Proofs.YtbeglliabpflpaaGreatDoor
namespace Wb
open Go Go.RowKit
theorem op_at {ops : Array Oper} {i : Nat} {oi : Oper} {rest : List Oper} (h : ops.toList.drop i = oi :: rest) : ops[i]? = some oi := by
  have h2 : (ops.toList.drop i)[0]? = some oi := by rw [h]; rfl
  rw [List.getElem?_drop] at h2
  simpa using h2
theorem takeW {P : Program} {md : Region.Mode} {ops : Array Oper} {Q : Exit → Act → World → Prop} {S : World → Prop} {oi : Oper} {rest : List Oper} {v : Value} {fuel : Nat} {listed : Array Bool} {a : Act} {w : World} (i : Nat)
    (h : wpAnyH P md ops Q S fuel (listed.setIfInBounds i true) (a.put oi.dst v) w) (hi : ops.toList.drop i = oi :: rest := by rfl)
    (hy : ∀ w, S w → (execOp a.eval oi).run P w = .ok (.value v) w := by (intro w' hSw; (try dsimp only at hSw); go_simp; (try with_reducible rfl)))
    (hs : Region.noSelect ops = true := by kernel_rfl) (hf : Region.free md ops listed i = true := by kernel_rfl) (hr : (Region.ready md ops listed).contains i = true := by kernel_rfl)
    (hQ : ∀ c a w, Q (.panic c) (a.put oi.dst v) w → Q (.panic c) a w := by exact fun _ _ _ h => h) (hw : Region.wanted oi (yielded ops a.tmps) = true := by rfl) (hS : S w := by assumption) : wpAnyH P md ops Q S (fuel + 1) listed a w :=
  wpAnyH_take (op_at hi) hs hf hr hQ (.inl ⟨hw, hy⟩) hS h
theorem takeU {P : Program} {md : Region.Mode} {ops : Array Oper} {Q : Exit → Act → World → Prop} {S : World → Prop} {oi : Oper} {rest : List Oper} {fuel : Nat} {listed : Array Bool} {a : Act} {w : World} (i : Nat)
    (h : wpAnyH P md ops Q S fuel (listed.setIfInBounds i true) (a.put oi.dst undef) w)
    (hi : ops.toList.drop i = oi :: rest := by rfl) (hs : Region.noSelect ops = true := by kernel_rfl) (hf : Region.free md ops listed i = true := by kernel_rfl) (hr : (Region.ready md ops listed).contains i = true := by kernel_rfl)
    (hQ : ∀ c a w, Q (.panic c) (a.put oi.dst undef) w → Q (.panic c) a w := by exact fun _ _ _ h => h) (hw : Region.wanted oi (yielded ops a.tmps) = false := by rfl) (hS : S w := by assumption) : wpAnyH P md ops Q S (fuel + 1) listed a w :=
  wpAnyH_take (op_at hi) hs hf hr hQ (.inr ⟨hw, rfl⟩) hS h
end Wb
namespace Wb
def okK (keep : List UInt8) (c : UInt8) (k : Nat) : Bool := plC c || (keep.take k).contains c
theorem okK_step {keep : List UInt8} {c : UInt8} {k : Nat} (h : k < keep.length) : okK keep c (k + 1) = (okK keep c k || (keep[k] == c)) := by
  unfold okK
  rw [← List.take_append_getElem h, List.contains_append, Bool.or_assoc]
  congr 2
  rw [List.contains_cons, List.contains_nil, Bool.or_false]
  rw [Bool.eq_iff_iff, beq_iff_eq, beq_iff_eq]
  exact eq_comm
theorem okK_end {keep : List UInt8} {c : UInt8} {k : Nat} (h : keep.length ≤ k) : okK keep c k = (plC c || keep.contains c) := by
  unfold okK
  rw [List.take_of_length_le h]
theorem u8_eqn (a b : UInt8) : ((a.toNat : Int) == (b.toNat : Int)) = (a == b) := by
  rw [Bool.eq_iff_iff, beq_iff_eq, beq_iff_eq]
  exact ⟨fun h => UInt8.toNat_inj.1 (by omega), fun h => by rw [h]⟩
theorem hex_tab (n : Nat) (h : n < 16) : (ByteArray.mk #[48, 49, 50, 51, 52, 53, 54, 55, 56, 57, 65, 66, 67, 68, 69, 70])[n]'h = hexG n := by
  have t : ∀ v : Fin 16, (ByteArray.mk #[48, 49, 50, 51, 52, 53, 54, 55, 56, 57, 65, 66, 67, 68, 69, 70])[v.val]'v.isLt = hexG v.val := by decide
  exact t ⟨n, h⟩
end Wb
namespace Go.Proofs.YtbeglliabpflpaaGreatDoor
open Go.RowKit Wb
set_option maxRecDepth 100000 in
set_option maxHeartbeats 8000000 in
theorem rencode_any (s keep : ByteArray) (w : World) (hs : s.size ≤ 1000000) (hkp : keep.size ≤ 1000000) :
    Calls Tryz.prog 34 #[.string s, .string keep] w fun e w' => e = .returned (.string ⟨(pctE keep.data.toList s.data.toList).toArray⟩) ∧ Below w.heap.size w w' := by
  obtain ⟨i0, hi, hz0, hz1, hz2⟩ := info_parts txt_byte
  go_enter Tryz.func34, Tryz.ntmps34
  go_wp2
  go_loopw [5, 6, 7, 8, 9] (fun v5 v6 _ _ _ wr => ∃ (i : Nat) (out : List UInt8), i ≤ s.size ∧ v6 = .int .i64 i ∧ out.length ≤ 3 * i ∧ Hid (out = pctE keep.data.toList (s.data.toList.take i)) ∧ Hid (wr.ownsRow w.heap.size 5 1 v5 out.length (cellsB out)) ∧ Hid (Below w.heap.size w wr)) (fun _ v6 _ _ _ _ => ((s.size : Int) - intOf v6).toNat)
  case atStart => exact ⟨0, [], by omega, rfl, by simp, Lib.hid (by simp [pctE]), Lib.hid (World.ownsRow_nil _ _ _ _), Lib.hid (Below.refl _ _)⟩
  case round =>
    obtain ⟨i, out, hil, rfl, hol, HO, HW, HB⟩ := hrel
    by_cases h0 : i < s.size
    · have HE := Lib.hid (enc_step keep.data.toList s.data.toList i (by simpa using h0))
      obtain ⟨c, hc⟩ : ∃ c, s[i] = c := ⟨_, rfl⟩
      have HE2 : Hid (pctE keep.data.toList (s.data.toList.take (i + 1)) = out ++ pctC keep.data.toList c) := Lib.hid (by
        rw [HE.out, ← HO.out, ← hc]
        rfl)
      have HL := Lib.hid (pctC_len keep.data.toList c)
      clear HE HO
      go_wp2_with fail
      (try rw [hc])
      refine (r9plain_any c _).mono ?_
      rintro e w2 ⟨rfl, rfl⟩
      (try rw [hc])
      clear hc
      have hbs := HB.out.size
      go_wp2
      go_loopw [8, 9] (fun v8 v9 wq => ∃ (k : Nat) (q : Bool), k ≤ keep.size ∧ v9 = .int .i64 k ∧ v8 = .bool q ∧ Hid (okK keep.data.toList c k = q) ∧ wq = wr) (fun _ v9 _ => ((keep.size : Int) - intOf v9).toNat)
      case atStart => exact ⟨0, _, by omega, rfl, rfl, Lib.hid (by unfold okK; simp), rfl⟩
      case round =>
        obtain ⟨k, q, hk, rfl, rfl, HQ, rfl⟩ := hrel
        by_cases hk0 : k < keep.size
        · have hst := okK_step (c := c) (show k < keep.data.toList.length by simpa using hk0)
          rw [HQ.out] at hst
          have t1 : (((keep[k]).toNat : Int) == (c.toNat : Int)) = (keep.data.toList[k]'(by simpa using hk0) == c) := u8_eqn _ _
          cases q
          · rw [Bool.false_or] at hst
            rw [← hst] at t1
            cases hd : okK keep.data.toList c (k + 1)
            all_goals
              rw [hd] at t1
              have HD := Lib.hid hd
              clear hd hst
              go_wp2
              go_roundw
              case rel => exact ⟨k + 1, _, by omega, by go_num, rfl, HD, by first | rfl | trivial⟩
              case measure => simp [intOf]; omega
          · have HD := Lib.hid hst
            clear hst t1
            go_wp2
            go_roundw
            case rel => exact ⟨k + 1, true, by omega, by go_num, rfl, Lib.hid (HD.out.trans (by simp)), by first | rfl | trivial⟩
            case measure => simp [intOf]; omega
        · have hq := okK_end (c := c) (show keep.data.toList.length ≤ k by simp; omega)
          rw [HQ.out] at hq
          clear HQ
          have hmA : out.length + 1 ≤ maxLen := by simp only [maxLen]; omega
          have hmC : out.length + 3 ≤ maxLen := by simp only [maxLen]; omega
          have hp37 : ((c.toNat : Int) == 37) = decide (c = 37) := by
            rw [show (37 : Int) = ((37 : UInt8).toNat : Int) from rfl, u8_eqn]
            rw [Bool.eq_iff_iff, beq_iff_eq, decide_eq_true_eq]
          by_cases hx : q = true ∧ c ≠ 37
          · obtain ⟨rfl, hx⟩ := hx
            rw [decide_eq_false hx] at hp37
            have HC : Hid (pctE keep.data.toList (s.data.toList.take (i + 1)) = out ++ [c]) := Lib.hid (by
              rw [HE2.out, pctC, ← hq, if_pos (by simp [hx])])
            clear hq HE2 hx
            go_upto_region 12 with fail
            go_wp2_with (at_builtin; apply Classical.byContradiction; intro hNG)
            refine hNG ?_
            refine wpList_append_sl _ rfl (.tmp 40) (.tmp 42) _ rfl w.heap.size 5 i0 _ 1 1 Tryz.underlying78 hi hz0 hz1 hz2 rfl (by omega) _ out.length (cellsB out) rfl (HW.out.alloc _) (some ⟨wr.heap.size, 0, none⟩) 1 1 [.int .u8 (c.toNat : Int)] rfl (Sl.lit wr 1 [.int .u8 (c.toNat : Int)] _ 1 rfl) (cellsB_one [c]) hmA (by omega) (HB.out.alloc HB.out.size _).size ?_
            intro v4 w4 hown4 hg4 hat4
            have HB4 := Lib.hid ((HB.out.alloc HB.out.size _).grown hg4 (HB.out.alloc HB.out.size _).size (fun g hg => (HW.out.lt g hg).1))
            have HOWN := Lib.hid hown4
            clear hown4 hg4 hat4
            go_wp2
            go_roundw
            case rel => exact ⟨i + 1, out ++ [c], by omega, by go_num, by rw [List.length_append]; simp; omega, Lib.hid HC.out.symm, Lib.hid (by rw [List.length_append, cellsB_append]; exact HOWN.out), HB4⟩
            case measure => simp [intOf]; omega
          · have HC : Hid (pctE keep.data.toList (s.data.toList.take (i + 1)) = out ++ [37, hexG (c.toNat / 16), hexG (c.toNat % 16)]) := Lib.hid (by
              rw [HE2.out, pctC, ← hq, if_neg (by
                intro h
                rw [Bool.and_eq_true, bne_iff_ne] at h
                exact hx h)])
            clear HE2 hq
            have hcl := c.toNat_lt
            have e1 : (c.toNat : Int).tdiv 16 = ((c.toNat / 16 : Nat) : Int) := by rw [Int.tdiv_eq_ediv_of_nonneg (by omega)]; omega
            have e2 : (c.toNat : Int).tmod 16 = ((c.toNat % 16 : Nat) : Int) := by rw [Int.tmod_eq_emod_of_nonneg (by omega)]; omega
            have hpl : c.toNat / 16 < 16 := by omega
            have hql : c.toNat % 16 < 16 := by omega
            have hq37 : q = false ∨ (q = true ∧ ((c.toNat : Int) == 37) = true) := by
              cases q
              · exact .inl rfl
              · exact .inr ⟨rfl, by rw [hp37, decide_eq_true_eq]; by_cases h : c = 37; exact h; exact absurd ⟨rfl, h⟩ hx⟩
            clear hx hp37
            rcases hq37 with rfl | ⟨rfl, hp37⟩
            all_goals
              go_upto_region 13 with fail
              generalize c.toNat / 16 = pn at *
              generalize c.toNat % 16 = qn at *
              have f1 : IntKind.u8.wrap (pn : Int) = (pn : Int) := by rw [IntKind.wrap_u8]; omega
              have f2 : IntKind.u8.wrap (qn : Int) = (qn : Int) := by rw [IntKind.wrap_u8]; omega
              have x1 := hex_tab pn hpl
              have x2 := hex_tab qn hql
              have l1 : (pn : Int) < 16 := by omega
              have l2 : (qn : Int) < 16 := by omega
              generalize hexG pn = hp at *
              generalize hexG qn = hq at *
              have HRd : Hid (wr.drew.ownsRow w.heap.size 5 1 u5 out.length (cellsB out)) := Lib.hid HW.out
              have HBd : Hid (Below w.heap.size w wr.drew) := Lib.hid HB.out.drew
              have hwz : w.heap.size ≤ wr.drew.heap.size := HBd.out.size
              clear HL
              (try simp only [List.append])
              refine wp_region_held_drew (S := (fun _ => True)) (by kernel_rfl) (trivial) (fun hHeld => ?_)
              refine takeW 0 ?_
              refine takeW 1 ?_
              refine takeW 2 ?_
              refine takeW 3 ?_
              (try simp only [Act.put, List.setIfInBounds_toArray, List.set_cons_zero, List.set_cons_succ])
              refine takeW 4 ?_
              refine takeW 5 ?_
              refine takeW 6 ?_
              (try simp only [Act.put, List.setIfInBounds_toArray, List.set_cons_zero, List.set_cons_succ])
              refine wpAnyH_ready (rs := [7]) (by kernel_rfl) (by simp) ?_
              refine AllReadyH.cons rfl (fun K2 hK2 => ?_) AllReadyH.nil
              go_simp
              refine hK2.out _ _ trivial (fun _ => ?_)
              (try simp only [Act.put, List.setIfInBounds_toArray, List.set_cons_zero, List.set_cons_succ])
              refine wpAnyH_ready (rs := [8]) (by kernel_rfl) (by simp) ?_
              refine AllReadyH.cons rfl (fun K2 hK2 => ?_) AllReadyH.nil
              skip
              refine step_append_sl _ rfl (.tmp 44) (.tmp 51) _ rfl w.heap.size 5 i0 _ 1 1 Tryz.underlying78 hi hz0 hz1 hz2 rfl (by omega) _ out.length (cellsB out) rfl (HRd.out.alloc _) (some ⟨wr.drew.heap.size, 0, none⟩) 3 3 [.int .u8 37, .int .u8 (hp.toNat : Int), .int .u8 (hq.toNat : Int)] rfl (Sl.lit wr.drew 1 [.int .u8 37, .int .u8 (hp.toNat : Int), .int .u8 (hq.toNat : Int)] _ 3 rfl) (cellsB_one [37, hp, hq]) hmC (by omega) (by simp; omega) ?_
              intro v5 w5 hown5 hg5 hat5
              change K2 (Act.put _ (some 52) v5) w5
              refine hK2.out _ _ trivial (fun _ => ?_)
              refine takeW 9 ?_
              (try simp only [Act.put, List.setIfInBounds_toArray, List.set_cons_zero, List.set_cons_succ])
              refine wpAnyH_done (by kernel_rfl) ?_ _
              have HB4 := Lib.hid ((HBd.out.alloc hwz _).grown hg5 (by simp; omega) (fun g hg => (HRd.out.lt g hg).1))
              have HOWN := Lib.hid hown5
              clear hown5 hg5 hat5
              go_wp2
              go_roundw
              case rel => exact ⟨i + 1, out ++ [37, hp, hq], by omega, by go_num, by rw [List.length_append]; simp; omega, Lib.hid HC.out.symm, Lib.hid (by rw [List.length_append, cellsB_append]; exact HOWN.out), HB4⟩
              case measure => simp [intOf]; omega
    · have HO2 := Lib.hid (HO.out.trans (by rw [List.take_of_length_le (by simp; omega)]))
      have hconv := run_txt out HW.out
      rw [HO2.out] at hconv
      go_wp2
      go_ret
      exact ⟨rfl, HB.out⟩
end Go.Proofs.YtbeglliabpflpaaGreatDoor
