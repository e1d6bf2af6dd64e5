/- The walk of InodeOne. Conditions: those named. -/
import Derived.Test.YtpmldaoligmkaaaIu0
import Derived.Test.YtpmldaoligmkaaaIu1
import Derived.Test.YtpmldaoligmkaaaIu2
import Derived.Test.YtpmldaoligmkaaaIu3
import Derived.Test.YtpmldaoligmkaaaIu4
import Derived.Test.YtpmldaoligmkaaaIu5
import Derived.Test.YtpmldaoligmkaaaIu6
import Derived.Test.YtpmldaoligmkaaaIu7
set_option linter.unusedVariables false
set_option maxRecDepth 20000
namespace Go.Proofs.Ytpmldaoligmkaaa
open Go.RowKit

theorem ioneW (v : Nat → Int) (hw : Wf v) (a b : Nat) (ha : a < 256) (hb : b < 256) (w : World) : Calls Try.prog 7 #[.agg (ncs v).toArray, .int .u8 (a : Int), .int .u8 (b : Int)] w fun e w' => e = .returned (.bool true) ∧ Below w.heap.size w w' := by
  rcases (by omega : a % 8 = 0 ∨ a % 8 = 1 ∨ a % 8 = 2 ∨ a % 8 = 3 ∨ a % 8 = 4 ∨ a % 8 = 5 ∨ a % 8 = 6 ∨ a % 8 = 7) with h | h | h | h | h | h | h | h
  · exact one_0 v hw a b ha hb h w
  · exact one_1 v hw a b ha hb h w
  · exact one_2 v hw a b ha hb h w
  · exact one_3 v hw a b ha hb h w
  · exact one_4 v hw a b ha hb h w
  · exact one_5 v hw a b ha hb h w
  · exact one_6 v hw a b ha hb h w
  · exact one_7 v hw a b ha hb h w
end Go.Proofs.Ytpmldaoligmkaaa
