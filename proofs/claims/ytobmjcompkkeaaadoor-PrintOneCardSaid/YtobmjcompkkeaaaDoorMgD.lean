
/- Contract: Tokens. -/
import Derived.Test.YtobmjcompkkeaaaDoorMgC
import Derived.Test.YtobmjcompkkeaaaDoorLxS
import Derived.KernelRfl
import Derived.Test.YtobmjcompkkeaaaDoorMgF
import Derived.Test.YtobmjcompkkeaaaDoorMgL
namespace Go.Proofs.YtobmjcompkkeaaaDoor
open Go.RowKit Wb

def tv (p : Nat × Tk) : TokV := ⟨p.2.1, p.1, ⟨p.2.2.1.toArray⟩, prs p.2.2.2.1, ⟨p.2.2.2.2.toArray⟩⟩

/-- What Tokens answers. -/
def TksOut (r : Er (List (Nat × Tk))) (e : Ending) (w' : World) : Prop :=
  match r with
  | .ok ts => ∃ A c, e = .returned (.tuple #[.slice A ts.length c, .int .i64 0, .int .i64 0]) ∧ TokS w' A (ts.map tv)
  | .error (p, c) => e = .returned (.tuple #[.slice none 0 0, .int .i64 p, .int .i64 c])

def joinE (acc : List (Nat × Tk)) (m : Er (List (Nat × Tk))) : Er (List (Nat × Tk)) :=
  match m with
  | .error e => .error e
  | .ok ts => .ok (acc ++ ts)
theorem declX_le {L : List UInt8} {a : Nat} (h : declX L = .ok a) : a ≤ L.length := by
  unfold declX at h
  simp only at h
  split at h
  · split at h
    · simp only [Except.ok.injEq] at h; omega
    · cases h
  · simp only [Except.ok.injEq] at h; omega

theorem Sl.to {w w' : World} {k n : Nat} {A : Option Addr} {cs : List Value} (h : Sl w k A n cs) (hs : w.heap.size ≤ w'.heap.size) (hb : 0 < n → ∀ ad, A = some ad → ad.block < w.heap.size → w'.heap[ad.block]? = w.heap[ad.block]?) : Sl w' k A n cs := by
  refine ⟨h.1, fun h0 => ?_⟩
  obtain ⟨ad, e, hl, hc⟩ := h.2 h0
  refine ⟨ad, e, Nat.lt_of_lt_of_le hl hs, fun i v' hv => ?_⟩
  rw [← hc i v' hv]
  have hb2 : (ad.add i).block = ad.block := by unfold Addr.add; split <;> rfl
  exact World.cell?_of_block (w := w) (by rw [hb2]; exact hb h0 ad e hl)

theorem own_lt {w : World} {base sz n g : Nat} {e : TypeId} {v : Value} {xs : List Value} (h : w.ownsRow base e sz v n xs) (hv : v.ownBlock = some g) : base ≤ g ∧ g < w.heap.size := by
  rcases h.2 with ⟨rfl, _⟩ | ⟨q, cap, cur, rfl, hbq, hq, _⟩
  · simp [Value.ownBlock] at hv
  · simp [Value.ownBlock] at hv
    subst hv
    exact ⟨hbq, blk_lt hq⟩

end Go.Proofs.YtobmjcompkkeaaaDoor

namespace Wb
theorem awake1 : tokensU [60, 97, 32, 98, 61, 39, 49, 39, 62, 120, 38, 108, 116, 59, 60, 47, 97, 62] = .ok [(0, (1, [97], [([98], [49])], [])), (9, (4, [], [], [120, 60])), (14, (2, [97], [], []))] := by kernel_rfl
theorem awake2 : tokensU [60, 97, 32, 98, 62] = .error (4, 4) := by kernel_rfl
end Wb
namespace Go.Proofs.YtobmjcompkkeaaaDoor
open Go.RowKit Wb

end Go.Proofs.YtobmjcompkkeaaaDoor

namespace Go.Proofs.YtobmjcompkkeaaaDoor
open Go.RowKit Wb

theorem toks_few {ts : List (Nat × Tk)} {n : Nat} (h : (ts.map (·.1)).Pairwise (· < ·)) (hb : ∀ x ∈ ts, x.1 < n) : ts.length ≤ n := by
  have key : ∀ (l : List Nat) (a : Nat), l.Pairwise (· < ·) → (∀ x ∈ l, a ≤ x ∧ x < n) → l.length + a ≤ n ∨ l = [] := by
    intro l
    induction l with
    | nil => intro a _ _; exact .inr rfl
    | cons c l ih =>
      intro a hp hx
      left
      rw [List.pairwise_cons] at hp
      have hc := hx c (by simp)
      rcases ih (c + 1) hp.2 (fun x hm => ⟨hp.1 x hm, (hx x (by simp [hm])).2⟩) with h | h
      · simp only [List.length_cons]; omega
      · subst h; simp only [List.length_cons, List.length_nil]; omega
  rcases key (ts.map (·.1)) 0 h (fun x hx => by
    obtain ⟨y, hy, rfl⟩ := List.mem_map.1 hx
    exact ⟨Nat.zero_le _, hb y hy⟩) with h | h
  · simpa using h
  · have := congrArg List.length h
    simp at this
    simp [this]

/-- The text with something put in at a place, as the statement makes it. -/
def putB (s : ByteArray) (p : Nat) (a r b : ByteArray) : ByteArray := s.extract 0 p ++ a ++ r ++ b ++ s.extract p s.size
theorem putB_size (s : ByteArray) (p : Nat) (a r b : ByteArray) (hp : p ≤ s.size) : (putB s p a r b).size = s.size + a.size + r.size + b.size := by
  unfold putB
  simp only [ByteArray.size_append, ByteArray.size_extract]
  omega
theorem putB_L (s : ByteArray) (p : Nat) (a r b : ByteArray) : (putB s p a r b).data.toList = s.data.toList.take p ++ ((a.data.toList ++ (r.data.toList ++ b.data.toList)) ++ s.data.toList.drop p) := by
  unfold putB
  have hs : s.size = s.data.toList.length := by simp
  rw [app_list, app_list, app_list, app_list, extract_L, extract_L, List.drop_zero, Nat.sub_zero, List.take_of_length_le (l := s.data.toList.drop p) (by rw [List.length_drop]; omega)]
  simp only [List.append_assoc]

structure RemOK (r : ByteArray) : Prop where
  len : r.size ≤ 1000
  chk : Wb.chk r.data.toList = -1
  each : ∀ b ∈ r.data.toList, 32 ≤ b.toNat ∧ b ≠ 45 ∧ b ≠ 63 ∧ b ≠ 239

theorem put_tokens {s r : ByteArray} {ts : List (Nat × Tk)} (h : DocIs s.data.toList ts) (hs : s.size ≤ 20000) (hr : RemOK r) {k : Nat} (hk : k < ts.length) (h4 : ts[k].2.1 ≠ 4) :
    (∃ us, tokensU (putB s ts[k].1 ⟨#[60, 33, 45, 45]⟩ r ⟨#[45, 45, 62]⟩).data.toList = .ok us ∧ us.map (·.2) = ts.map (·.2)) ∧
    (∃ us, tokensU (putB s ts[k].1 ⟨#[60, 63, 120, 32]⟩ r ⟨#[63, 62]⟩).data.toList = .ok us ∧ us.map (·.2) = ts.map (·.2)) := by
  have hsl : s.data.toList.length = s.size := by simp
  have hrl : r.data.toList.length = r.size := by simp
  have hrs := hr.len
  have hR : TxtOK r.data.toList := TxtOK.of_chk hr.chk (fun b hb => ⟨(hr.each b hb).1, (hr.each b hb).2.2.2⟩)
  have asc : ∀ l : List UInt8, (∀ b ∈ l, 32 ≤ b.toNat ∧ b.toNat < 128) → TxtOK l := fun l h => TxtOK.ascii h
  have hm : (ts[k].1, ts[k].2) ∈ ts := List.getElem_mem hk
  have fin : ∀ (L : List UInt8) (us : List (Nat × Tk)), DocIs L us → tokensU L = .ok us := by
    intro L us hd
    rcases tokens_fit L with ⟨vs, h1, h2⟩ | ⟨h1, _⟩
    · rw [h2, doc_one h1 hd]
    · exact absurd hd (h1 us)
  constructor
  · obtain ⟨_, us, h1, h2⟩ := doc_put h hm h4 (X := remX r.data.toList) rfl (by simp [remX]) (by simp [remX]) (fun B => rem_piece _ B (fun b hb => (hr.each b hb).2.1))
      ((asc [60, 33, 45, 45] (by decide)).app (hR.app (asc [45, 45, 62] (by decide)))) (by simp only [remX, List.length_append, List.length_cons, List.length_nil]; omega)
    refine ⟨us, ?_, h2⟩
    rw [putB_L]
    exact fin _ us h1
  · obtain ⟨_, us, h1, h2⟩ := doc_put h hm h4 (X := piX r.data.toList) rfl (by simp [piX]) (by simp [piX]) (fun B => pi_piece _ B (fun b hb => (hr.each b hb).2.2.1))
      ((asc [60, 63, 120, 32] (by decide)).app (hR.app (asc [63, 62] (by decide)))) (by simp only [piX, List.length_append, List.length_cons, List.length_nil]; omega)
    refine ⟨us, ?_, h2⟩
    rw [putB_L]
    exact fin _ us h1

/-- Tokens whose tokens are the same read alike. -/
theorem alike_of {ts us : List (Nat × Tk)} (h : us.map (·.2) = ts.map (·.2)) : us.length = ts.length ∧ ∀ (k : Nat) (t u : TokV), (us.map tv)[k]? = some t → (ts.map tv)[k]? = some u → t.kind = u.kind ∧ t.name = u.name ∧ t.attrs = u.attrs ∧ t.text = u.text := by
  refine ⟨by have := congrArg List.length h; simpa using this, fun k t u h1 h2 => ?_⟩
  rw [List.getElem?_map] at h1 h2
  have h3 := congrArg (·[k]?) h
  simp only [List.getElem?_map] at h3
  cases hu : us[k]? with
  | none => rw [hu] at h1; cases h1
  | some x =>
    cases ht : ts[k]? with
    | none => rw [ht] at h2; cases h2
    | some y =>
      rw [hu] at h1 h3
      rw [ht] at h2 h3
      simp only [Option.map_some, Option.some.injEq] at h1 h2 h3
      subst h1 h2
      simp only [tv]
      rw [h3]
      exact ⟨rfl, rfl, rfl, rfl⟩

/-! ### no token has many attributes -/
theorem attrs_few : ∀ (f : Nat) (acc : List (List UInt8 × List UInt8)) (l : List UInt8) (n : Nat) (k : Int) (r : List (List UInt8 × List UInt8)), attrsR f acc l = some (n, (k, r)) → r.length ≤ acc.length + f
  | 0, _, _, _, _, _, h => by cases h
  | f + 1, acc, l, n, k, r, h => by
    unfold attrsR at h
    obtain ⟨n1, bs, m1, _, h2, rfl⟩ := bindR_some h
    obtain ⟨n2, c, m2, _, h4, rfl⟩ := bindR_some h2
    split at h4
    · simp only [pureR, Option.some.injEq, Prod.mk.injEq] at h4
      rw [← h4.2.2]; omega
    · split at h4
      · obtain ⟨_, _, h5⟩ := mapR_some h4
        simp only [Option.some.injEq, Prod.mk.injEq] at h5
        rw [← h5.2]; omega
      · unfold guardR at h4
        split at h4
        · obtain ⟨n3, a, m3, _, h6, rfl⟩ := bindR_some h4
          have := attrs_few f _ _ _ _ _ h6
          simp only [List.length_append, List.length_cons, List.length_nil] at this
          omega
        · cases h4
theorem piece_few {l : List UInt8} {n : Nat} {t : Tk} (h : pieceR l = some (n, some t)) : t.2.2.1.length ≤ 67 := by
  unfold pieceR at h
  split at h
  · unfold markR at h
    obtain ⟨n1, _, m1, _, h2, _⟩ := bindR_some h
    obtain ⟨n2, c, m2, _, h4, _⟩ := bindR_some h2
    split at h4
    · unfold piR at h4
      obtain ⟨_, _, _, _, h6, _⟩ := bindR_some h4
      unfold guardR at h6
      split at h6
      · obtain ⟨_, _, h7⟩ := mapR_some h6
        simp at h7
      · cases h6
    · split at h4
      · unfold bangR at h4
        obtain ⟨n3, d, m3, _, h6, _⟩ := bindR_some h4
        split at h6
        · obtain ⟨_, _, _, _, h8, _⟩ := bindR_some h6
          obtain ⟨_, _, _, _, h10, _⟩ := bindR_some h8
          obtain ⟨_, _, h11⟩ := mapR_some h10
          simp at h11
        · unfold guardR at h6
          split at h6
          · obtain ⟨_, _, _, _, h8, _⟩ := bindR_some h6
            obtain ⟨_, _, h9⟩ := mapR_some h8
            simp only [Option.some.injEq] at h9
            subst h9
            simp
          · cases h6
      · split at h4
        · unfold endR at h4
          obtain ⟨_, w, _, _, h6, _⟩ := bindR_some h4
          unfold guardR at h6
          split at h6
          · obtain ⟨_, _, _, _, h8, _⟩ := bindR_some h6
            obtain ⟨_, _, h9⟩ := mapR_some h8
            simp only [Option.some.injEq] at h9
            subst h9
            simp
          · cases h6
        · unfold guardR at h4
          split at h4
          · unfold startR at h4
            obtain ⟨_, w, _, _, h6, _⟩ := bindR_some h4
            unfold guardR at h6
            split at h6
            · obtain ⟨⟨k, at_⟩, h7, h8⟩ := mapR_some h6
              simp only [Option.some.injEq] at h8
              subst h8
              have := attrs_few _ _ _ _ _ _ h7
              simpa using this
            · cases h6
          · cases h4
  · obtain ⟨_, _, x, hx⟩ := text_some h
    simp only [Option.some.injEq] at hx
    subst hx
    simp
theorem tokL_few : ∀ (f : Nat) (l : List UInt8) (a : Nat) (ts : List (Nat × Tk)), tokL f l a = some ts → ∀ x ∈ ts, x.2.2.2.1.length ≤ 67 := by
  intro f
  induction f with
  | zero =>
    intro l a ts h x hx
    rcases tokL_some h with ⟨_, rfl⟩ | ⟨f', _, _, _, h0, _⟩
    · simp at hx
    · omega
  | succ f ih =>
    intro l a ts h x hx
    rcases tokL_some h with ⟨_, rfl⟩ | ⟨f', n, o, us, h0, hp, hr, hts⟩
    · simp at hx
    · obtain rfl : f' = f := by omega
      cases o with
      | none => rw [hts] at hx; exact ih _ _ _ hr x hx
      | some t =>
        rw [hts] at hx
        rcases List.mem_cons.1 hx with rfl | hx
        · exact piece_few hp
        · exact ih _ _ _ hr x hx
theorem doc_few {s : List UInt8} {ts : List (Nat × Tk)} (h : DocIs s ts) : ∀ x ∈ ts, x.2.2.2.1.length ≤ 67 := by
  rcases h.2.2 with ⟨_, n, _, ht⟩ | ⟨_, ht⟩
  · exact tokL_few _ _ _ _ ht
  · exact tokL_few _ _ _ _ ht
end Go.Proofs.YtobmjcompkkeaaaDoor

