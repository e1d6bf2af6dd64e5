/- The reference's constants. No conditions. -/
import Derived.Test.YtcbojloladkkdaaDoorRot
import Derived.Test.YtcbojloladkkdaaDoorRows2
set_option linter.unusedVariables false
namespace Go.Proofs.YtcbojloladkkdaaDoor
open Go.RowKit

set_option maxRecDepth 20000 in
set_option maxHeartbeats 1000000 in
theorem k_any (w : World) : Calls Tryd.prog 13 #[] w fun e w' => ∃ g, e = .returned (.slice (some ⟨g, 0, none⟩) 64 64) ∧ Row w' g 38 (arr 64 kk) ∧ w.heap.size ≤ g ∧ Below w.heap.size w w' := by
  go_enter Tryd.func13, Tryd.ntmps13
  go_wp2
  go_ret
  refine ⟨w.heap.size, rfl, ?_, Nat.le_refl _, (Below.refl _ _).alloc (Nat.le_refl _) _⟩
  have key : ∀ C : Array Value, C = (arr 64 kk).toArray → Row (w.alloc (.cells C 38)) w.heap.size 38 (arr 64 kk) := by
    rintro C rfl
    exact Row.made _ _ _
  exact key _ (by kernel_rfl)
end Go.Proofs.YtcbojloladkkdaaDoor
