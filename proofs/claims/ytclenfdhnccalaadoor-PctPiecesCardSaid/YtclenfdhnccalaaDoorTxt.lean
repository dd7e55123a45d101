
/- A row of bytes of the call's own, made a text. -/
import Derived.Test.YtclenfdhnccalaaDoorMem3
import Derived.Test.YtclenfdhnccalaaDoorUtfC
namespace Go.Proofs.YtclenfdhnccalaaDoor
open Go.RowKit Wb
theorem txt_byte : (Tryd.prog.info? 5).map (fun i => (i.zero, i.size, i.bytes)) = some (some (.int .u8 0), 1, 1) := by kernel_rfl
theorem run_txt {w : World} {base n : Nat} {e : TypeId} {v : Value} (l : List UInt8) (h : w.ownsRow base e 1 v n (cellsB l)) :
    (convert 35 9 v).run Tryd.prog w = .ok (.string ⟨l.toArray⟩) w := by
  have hn : n = l.length := by have := h.1; rw [cellsB_length] at this; omega
  have e8 : (b8 ∘ fun b : UInt8 => (b.toNat : Int)) = id := funext fun b => by
    show b8 (b.toNat : Int) = b
    unfold b8
    simp
  by_cases hl : l = []
  · subst hl
    rcases h.2 with ⟨rfl, _⟩ | ⟨g, cap, cur, rfl, _⟩
    · rw [List.length_nil] at hn
      subst hn
      rw [run_convert_bytes_string w _ _ _ _ 0 0 Tryd.underlying35 Tryd.underlying5 Tryd.underlying9]
      unfold Conv.bytesToString
      simp [Sem.run_pure]
      rfl
    · rw [List.length_nil] at hn
      subst hn
      rw [run_text w g 0 cap [] rfl (by intro j u hu; simp at hu)]
      rfl
  · obtain ⟨g, cap, rfl, _, _⟩ := h.form (by cases l with
      | nil => exact absurd rfl hl
      | cons a r => rw [hn]; simp)
    rw [run_text w g n cap (l.map fun b => (b.toNat : Int)) (by simp [hn]) (by
      intro j u hu
      have := h.cells (g := g) rfl j u (by simpa [cellsB] using hu)
      rw [Addr.add_lit, Nat.zero_add] at this
      exact this)]
    rw [List.map_map, e8, List.map_id]
end Go.Proofs.YtclenfdhnccalaaDoor
