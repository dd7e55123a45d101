
/- Contract of the reference's Unescape: the walk. Written by program (gen in NOTES' sense: text that stands for both values of attr). -/
import Derived.Test.YtflfnnkdkfcpkaaGreatDoorLxE
namespace Go.Proofs.YtflfnnkdkfcpkaaGreatDoor
open Go.RowKit Wb

theorem byte_info : (Tryz.prog.info? 5).map (fun i => (i.zero, i.size, i.bytes)) = some (some (.int .u8 0), 1, 1) := by kernel_rfl

theorem b8_toNat (b : UInt8) : b8 (b.toNat : Int) = b := by unfold b8; simp

/-- What an own row of bytes is as a text. -/
theorem run_text_own {w : World} {base n : Nat} {e : TypeId} {v : Value} (l : List UInt8) (h : w.ownsRow base e 1 v n (cellsB l)) (hl : l ≠ []) :
    (convert 98 9 v).run Tryz.prog w = .ok (.string ⟨l.toArray⟩) w := by
  have hn : n = l.length := by have := h.1; rw [cellsB_length] at this; omega
  obtain ⟨g, cap, rfl, _, _⟩ := h.form (by cases l with
    | nil => exact absurd rfl hl
    | cons a r => rw [hn]; simp)
  rw [run_text w g n cap (l.map fun b => (b.toNat : Int)) (by simp [hn]) (by
    intro j u hu
    have := h.cells (g := g) rfl j u (by simpa [cellsB] using hu)
    rw [Addr.add_lit, Nat.zero_add] at this
    exact this)]
  rw [List.map_map, show (b8 ∘ fun b : UInt8 => (b.toNat : Int)) = id from funext b8_toNat, List.map_id]

theorem map_nil (o : Except Nat (List UInt8)) : o = o.map ([] ++ ·) := by cases o <;> rfl

theorem run_text_none (w : World) : (convert 98 9 (.slice none 0 0)).run Tryz.prog w = .ok (.string ⟨#[]⟩) w := by
  rw [run_convert_bytes_string w _ _ _ _ 0 0 Tryz.underlying98 Tryz.underlying5 Tryz.underlying9]
  unfold Conv.bytesToString
  simp [Sem.run_pure]
  rfl
theorem run_text_empty (w : World) (g c : Nat) : (convert 98 9 (.slice (some ⟨g, 0, none⟩) 0 c)).run Tryz.prog w = .ok (.string ⟨#[]⟩) w := by
  rw [run_text w g 0 c [] rfl (by simp)]
  rfl

theorem own_len {w : World} {base n : Nat} {e : TypeId} {v : Value} {l : List UInt8} (h : w.ownsRow base e 1 v n (cellsB l)) : n = l.length := by
  have := h.1; rw [cellsB_length] at this; omega

end Go.Proofs.YtflfnnkdkfcpkaaGreatDoor
