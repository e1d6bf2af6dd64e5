/- What an entry that came in is of bulk. No conditions. -/
import Derived.Test.YtijffkklhgnknaaDoorRm
set_option linter.unusedVariables false
set_option maxRecDepth 20000
namespace Go.Proofs.YtijffkklhgnknaaDoor
open Go.RowKit Go.ChangeShapes Go.WideShapes Go.ChangeAt
section
variable {H : Type} {enc : TypeId × Value → H}
theorem ent_bulk {W : World} {base : Nat} {sp : Nat → Bool} {held : Bool} {e : Ent} {d : DataW H} {p : List MemPlace} (h : DataW.Trod enc Tryd.prog W base sp held 42 (.agg (ecs e).toArray) d p) : e.nm.size ≤ Rows.uptoBulk d := by
  obtain ⟨fuel, hf⟩ := h
  have hf : DataW.trod enc Tryd.prog W base sp held fuel 42 (ecs e) = some (d, p) := by simpa [Value.cells] using hf
  have ci : Tryd.prog.cellsOf 3 = 1 := by kernel_rfl
  have cs1 : Tryd.prog.cellsOf 9 = 1 := by kernel_rfl
  have c32 : Tryd.prog.cellsOf 35 = 1 := by kernel_rfl
  have cr : Tryd.prog.cellsOf 40 = 2 := by kernel_rfl
  have cd : Tryd.prog.cellsOf 42 = 5 := by kernel_rfl
  obtain ⟨xs, m, _, hx, hl, hlen, hf'⟩ := DataW.trod_struct Tryd.underlying42 hf
  obtain ⟨y0, y1, y2, y3, rfl⟩ := list4 hlen
  have g0 := hf' 0 _ rfl
  simp [cs1, ecs] at g0
  obtain ⟨nm, e0, hz, hm⟩ := DataW.trod_string Tryd.underlying9 g0
  simp at e0
  subst e0
  have hx : d = DataW.agg ([y0, y1, y2, y3].map (·.1)) := congrArg Prod.fst hx
  rw [hx]
  simp only [List.map_cons, Rows.uptoBulk, Rows.uptoBulkAll]
  rw [hz]
  simp only [Rows.uptoBulk]
  rw [Array.length_toList]
  show e.nm.data.size ≤ _
  omega
end
end Go.Proofs.YtijffkklhgnknaaDoor
