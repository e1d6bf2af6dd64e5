/- Of no space nothing is told: the walk. Condition: the library's table lies there. -/
import Derived.Test.YtkmnmmenjpkkpaaDoorSa
set_option linter.unusedVariables false
namespace Go.Proofs.YtkmnmmenjpkkpaaDoor.spaceNone
open Go.RowKit

set_option maxHeartbeats 400000 in
theorem walk (W : World) (z : Int) (hw : (Lit.int .i64 z).wf = true) (hT : Tab W) : Calls Tryd.prog 6 #[.int .i64 z] W fun e w' => e = .returned (.bool true) ∧ Below W.heap.size W w' := by
  have HT := Lib.hid hT
  clear hT hw
  go_enter Tryd.func6, Tryd.ntmps6
  go_wp2_with (first
    | (go_at_call 8; refine (awake_any _ HT.out).mono ?_; rintro e w1 ⟨rfl, hb1⟩; have HB1 := Lib.hid hb1; clear hb1)
    | (go_at_call 11; refine take_nil.mono ?_; rintro e w2 ⟨rfl, rfl⟩)
    | (go_at_call 13; refine (mark_nil z).mono ?_; rintro e w3 ⟨rfl, rfl⟩)
    | (go_at_call 15; refine (give_nil z).mono ?_; rintro e w4 ⟨rfl, rfl⟩)
    | (go_at_call 16; refine (undo_nil z).mono ?_; rintro e w5 ⟨rfl, rfl⟩)
    | (go_at_call 17; refine settleS_nil.mono ?_; rintro e w6 ⟨rfl, hb6⟩; have HB6 := Lib.hid hb6; clear hb6)
    | (go_at_call 19; refine free_nil.mono ?_; rintro e w7 ⟨rfl, rfl⟩)
    | (go_at_call 21; refine (state_nil z).mono ?_; rintro e w8 ⟨rfl, rfl⟩))
  go_ret
  exact ⟨rfl, HB1.out.trans (HB6.out.mono HB1.out.size)⟩
end Go.Proofs.YtkmnmmenjpkkpaaDoor.spaceNone
