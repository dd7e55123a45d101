import Derived.Test.YtobmjcompkkeaaaGreatDoorTrZa
import Derived.Test.YtobmjcompkkeaaaGreatDoorMgY
namespace Wb
theorem cost_mem {k : Nd} : ∀ {ks : List Nd}, k ∈ ks → costN k ≤ costNs ks
  | x :: ks, h => by
    simp only [costNs]
    rcases List.mem_cons.1 h with rfl | h
    · omega
    · have := cost_mem h; omega
theorem len_costs' : ∀ ks : List Nd, ks.length ≤ costNs ks
  | [] => by simp
  | k :: ks => by
    have := len_costs' ks
    have := costN_pos k
    simp only [costNs, List.length_cons]
    omega
theorem gd_small {T : Nat} (n : Nd) : gdN T n → costN n ≤ 1000000 → smallN n := by
  induction n using Nd.induct with
  | h n ih =>
    intro h hc
    obtain ⟨_, _, _, h4, _, hk⟩ := (gdN_iff T n).1 h
    rw [costN_is] at hc
    have := len_costs' n.kids
    exact (smallN_is n).2 ⟨by omega, by omega, fun k hm => ih k hm (hk k hm) (by have := cost_mem hm; omega)⟩
theorem gd_sz {T : Nat} (hT : T ≤ 1000000000) (n : Nd) : gdN T n → szN n := by
  induction n using Nd.induct with
  | h n ih =>
    intro h
    obtain ⟨h1, h2, h3, _, h5, hk⟩ := (gdN_iff T n).1 h
    obtain ⟨k, nm, al, ks, t⟩ := n
    simp only [Nd.name, Nd.attrs, Nd.kids, Nd.text] at *
    unfold szN
    refine ⟨by omega, by omega, fun a ha => ?_, by omega, (szKs_iff ks).2 fun k hm => ih k hm (hk k hm)⟩
    have := h3 a ha
    omega
end Wb
namespace Go.Proofs.YtobmjcompkkeaaaGreatDoor
open Go.RowKit Wb
theorem parse_gd {s : ByteArray} {n : Nd} (h : parseX s = .ok n) : gdN 200000 n := by
  unfold parseX at h
  rcases tokens_fit s.data.toList with ⟨ts, hd, ht⟩ | ⟨_, p, c, ht, _⟩
  · rw [ht] at h
    have h : treeX s.size (ts.map tkv) = .ok n := h
    unfold treeX at h
    split at h
    · cases h
    · rename_i b hb
      split at h
      · cases h
      · split at h
        · cases h
        · simp only [Except.ok.injEq] at h
          subst h
          have hg := takeAll_gd (ts.map tkv) (BdG.none_ 0) BdSz.none_ (fun t hm => by
            obtain ⟨x, hx, rfl⟩ := List.mem_map.1 hm
            exact tkv_ok hd.1 ((doc_len hd).1 x hx) (doc_few hd x hx)) hb
          have hs : ((ts.map tkv).map fun t => t.text.size).sum = txS ts := by
            unfold txS
            rw [List.map_map]
            rfl
          rw [hs] at hg
          have := doc_text hd
          have := hd.1
          exact hg.root.mono (by omega)
  · rw [ht] at h
    cases h
end Go.Proofs.YtobmjcompkkeaaaGreatDoor
