/-
  No cell of these rows narrows 'for every input' (looked for: loops, veiled, ifaces, maps, wideKeys, modest, calm, conditions, laid).
  DERIVED. THE GIVEN ROWS OF THIS SEAT. 6 by the template 'for every input the law returns true; each argument reads behind the call as it read before'; 0 by the template 'total and deterministic' (their statements: YtpkmbgbglefcfaaTotals.lean).
  GIVEN WITH THE SEED: the statements are not yours to turn. If you find one false, say at which input.
  Laid BY PROGRAM, IN A SANDBOX (cutbox-rows.mjs): the forced cells as the released guide's own fill.sh prints them over the translation f7c883dbf2f7a0f3… (all of the seat's roots in one cut). By AI agents, Wed Nov 11 2026. No macro, syntax, notation, axiom, sorry.
-/
import Derived.Test.YtpkmbgbglefcfaaChecked
import GoSem.Claim
import GoSem.ClaimJoined
import GoSem.ClaimMapViews
import Derived.JoinedTies
import Derived.KernelRfl
namespace Go.Proofs.Ytpkmbgbglefcfaa
/- THE CELL 'sum', in the pinned program and in every row, IS THE sha256 OF THE DUMP (.gsa) THAT YtpkmbgbglefcfaaProg.lean LOADS. Nothing in Lean hashes anything: it is a label: what it is worth is what the hold of that sum in a sandbox is worth. -/
noncomputable def Try.pinned : Pinned := { name := "ytpkmbgbglefcfaa", sum := "f7c883dbf2f7a0f3fa586d6de2fbde8232192d8fb6c2e0c43b06fb318edd0f73", checked := Try.checked }
namespace Rows
def none {H : Type} : Left H := { results := [], args := [] }

/-- 'oubliettelaw07.PathSizes': WHATEVER THE INPUT: true; the input reads as it did. -/
def pathSizesSpec : ChangeSpec := { name := "pathSizes", fn := fun _ => fun
  | [d] => { results := [.lit (.bool true)], args := [d] }
  | _ => none }
def pathSizesRow : OpenClaim := { program := "ytpkmbgbglefcfaa", sum := "f7c883dbf2f7a0f3fa586d6de2fbde8232192d8fb6c2e0c43b06fb318edd0f73", func := "oubliette/oubliettelaw07.PathSizes", spec := "pathSizes", apart := false }
def PathSizesSaid : Prop := pathSizesRow.holds Try.pinned (OpenSpec.ofChange pathSizesSpec)

/-- ITS FALSE NEIGHBOUR: 'it returns false'. Refute it at one input. -/
def pathSizesWrong : ChangeSpec := { name := "pathSizes", fn := fun _ => fun
  | [d] => { results := [.lit (.bool false)], args := [d] }
  | _ => none }
def PathSizesWrongFalsely : Prop := pathSizesRow.holds Try.pinned (OpenSpec.ofChange pathSizesWrong)

/-- 'oubliettelaw07.PathWays': WHATEVER THE INPUT: true; the input reads as it did. -/
def pathWaysSpec : ChangeSpec := { name := "pathWays", fn := fun _ => fun
  | [d1, d2, d3] => { results := [.lit (.bool true)], args := [d1, d2, d3] }
  | _ => none }
def pathWaysRow : OpenClaim := { program := "ytpkmbgbglefcfaa", sum := "f7c883dbf2f7a0f3fa586d6de2fbde8232192d8fb6c2e0c43b06fb318edd0f73", func := "oubliette/oubliettelaw07.PathWays", spec := "pathWays", apart := false }
def PathWaysSaid : Prop := pathWaysRow.holds Try.pinned (OpenSpec.ofChange pathWaysSpec)

/-- ITS FALSE NEIGHBOUR: 'it returns false'. Refute it at one input. -/
def pathWaysWrong : ChangeSpec := { name := "pathWays", fn := fun _ => fun
  | [d1, d2, d3] => { results := [.lit (.bool false)], args := [d1, d2, d3] }
  | _ => none }
def PathWaysWrongFalsely : Prop := pathWaysRow.holds Try.pinned (OpenSpec.ofChange pathWaysWrong)

/-- 'oubliettelaw07.PathAbove': WHATEVER THE INPUT: true; the input reads as it did. -/
def pathAboveSpec : ChangeSpec := { name := "pathAbove", fn := fun _ => fun
  | [d1, d2] => { results := [.lit (.bool true)], args := [d1, d2] }
  | _ => none }
def pathAboveRow : OpenClaim := { program := "ytpkmbgbglefcfaa", sum := "f7c883dbf2f7a0f3fa586d6de2fbde8232192d8fb6c2e0c43b06fb318edd0f73", func := "oubliette/oubliettelaw07.PathAbove", spec := "pathAbove", recurses := true, apart := false }
def PathAboveSaid : Prop := pathAboveRow.holds Try.pinned (OpenSpec.ofChange pathAboveSpec)

/-- ITS FALSE NEIGHBOUR: 'it returns false'. Refute it at one input. -/
def pathAboveWrong : ChangeSpec := { name := "pathAbove", fn := fun _ => fun
  | [d1, d2] => { results := [.lit (.bool false)], args := [d1, d2] }
  | _ => none }
def PathAboveWrongFalsely : Prop := pathAboveRow.holds Try.pinned (OpenSpec.ofChange pathAboveWrong)

/-- 'oubliettelaw07.PathOne': WHATEVER THE INPUT: true; the input reads as it did. -/
def pathOneSpec : ChangeSpec := { name := "pathOne", fn := fun _ => fun
  | [d1, d2] => { results := [.lit (.bool true)], args := [d1, d2] }
  | _ => none }
def pathOneRow : OpenClaim := { program := "ytpkmbgbglefcfaa", sum := "f7c883dbf2f7a0f3fa586d6de2fbde8232192d8fb6c2e0c43b06fb318edd0f73", func := "oubliette/oubliettelaw07.PathOne", spec := "pathOne", recurses := true, apart := false }
def PathOneSaid : Prop := pathOneRow.holds Try.pinned (OpenSpec.ofChange pathOneSpec)

/-- ITS FALSE NEIGHBOUR: 'it returns false'. Refute it at one input. -/
def pathOneWrong : ChangeSpec := { name := "pathOne", fn := fun _ => fun
  | [d1, d2] => { results := [.lit (.bool false)], args := [d1, d2] }
  | _ => none }
def PathOneWrongFalsely : Prop := pathOneRow.holds Try.pinned (OpenSpec.ofChange pathOneWrong)

/-- 'oubliettelaw07.PathUnion': WHATEVER THE INPUT: true; the input reads as it did. -/
def pathUnionSpec : ChangeSpec := { name := "pathUnion", fn := fun _ => fun
  | [d1, d2, d3] => { results := [.lit (.bool true)], args := [d1, d2, d3] }
  | _ => none }
def pathUnionRow : OpenClaim := { program := "ytpkmbgbglefcfaa", sum := "f7c883dbf2f7a0f3fa586d6de2fbde8232192d8fb6c2e0c43b06fb318edd0f73", func := "oubliette/oubliettelaw07.PathUnion", spec := "pathUnion", recurses := true, apart := false }
def PathUnionSaid : Prop := pathUnionRow.holds Try.pinned (OpenSpec.ofChange pathUnionSpec)

/-- ITS FALSE NEIGHBOUR: 'it returns false'. Refute it at one input. -/
def pathUnionWrong : ChangeSpec := { name := "pathUnion", fn := fun _ => fun
  | [d1, d2, d3] => { results := [.lit (.bool false)], args := [d1, d2, d3] }
  | _ => none }
def PathUnionWrongFalsely : Prop := pathUnionRow.holds Try.pinned (OpenSpec.ofChange pathUnionWrong)

/-- 'oubliettelaw07.PathFan': WHATEVER THE INPUT: true; the input reads as it did. -/
def pathFanSpec : ChangeSpec := { name := "pathFan", fn := fun _ => fun
  | [d] => { results := [.lit (.bool true)], args := [d] }
  | _ => none }
def pathFanRow : OpenClaim := { program := "ytpkmbgbglefcfaa", sum := "f7c883dbf2f7a0f3fa586d6de2fbde8232192d8fb6c2e0c43b06fb318edd0f73", func := "oubliette/oubliettelaw07.PathFan", spec := "pathFan", apart := false }
def PathFanSaid : Prop := pathFanRow.holds Try.pinned (OpenSpec.ofChange pathFanSpec)

/-- ITS FALSE NEIGHBOUR: 'it returns false'. Refute it at one input. -/
def pathFanWrong : ChangeSpec := { name := "pathFan", fn := fun _ => fun
  | [d] => { results := [.lit (.bool false)], args := [d] }
  | _ => none }
def PathFanWrongFalsely : Prop := pathFanRow.holds Try.pinned (OpenSpec.ofChange pathFanWrong)

/- THE SECOND FORM. 'bulk': how many values and letters a reading holds, each counted each time it is reached (what is shared counts as often as it is met; a slice's spare places count too). A statement '..UptoSaid' is the law's where the arguments, and the package variables that the reading takes, are together of bulk at most 1048576: NARROWER than '..Said'. Prove '..Said' where nothing that the law and all that it calls make is longer than what came in: it says more and counts as full. Else prove '..UptoSaid'. A law counts once. -/
mutual
def uptoBulk {H : Type} : DataW H → Nat
  | .lit (.string bytes) => bytes.length + 1
  | .lit _ => 1
  | .nil => 1
  | .ptr d => uptoBulk d + 1
  | .slice elems spare => uptoBulkAll elems + uptoBulkAll spare + 1
  | .agg parts => uptoBulkAll parts + 1
  | .iface _ d => uptoBulk d + 1
  | .map entries => uptoBulkEntries entries + 1
  | .held _ => 1
def uptoBulkAll {H : Type} : List (DataW H) → Nat
  | [] => 0
  | d :: r => uptoBulk d + uptoBulkAll r
def uptoBulkEntries {H : Type} : List (Lit × DataW H) → Nat
  | [] => 0
  | x :: r => uptoBulkEntry x + uptoBulkEntries r
def uptoBulkEntry {H : Type} : Lit × DataW H → Nat
  | (.string bytes, d) => bytes.length + uptoBulk d + 1
  | (_, d) => uptoBulk d + 1
 end
def uptoSmall : (H : Type) → List (DataW H) → Bool := fun _ ds => decide (uptoBulkAll ds ≤ 1048576)
def OpenSpec.upto (s : _root_.Go.ChangeSpec) : _root_.Go.OpenSpec := { _root_.Go.OpenSpec.ofChange s with cond := some uptoSmall }

/-- 'oubliettelaw07.PathSizes', WHERE WHAT IT READS IS OF BULK AT MOST 1048576: true; the input reads as it did. -/
def pathSizesUptoRow : OpenClaim := { program := "ytpkmbgbglefcfaa", sum := "f7c883dbf2f7a0f3fa586d6de2fbde8232192d8fb6c2e0c43b06fb318edd0f73", func := "oubliette/oubliettelaw07.PathSizes", spec := "pathSizes", apart := false, narrowed := true }
def PathSizesUptoSaid : Prop := pathSizesUptoRow.holds Try.pinned (OpenSpec.upto pathSizesSpec)

/-- 'oubliettelaw07.PathWays', WHERE WHAT IT READS IS OF BULK AT MOST 1048576: true; the input reads as it did. -/
def pathWaysUptoRow : OpenClaim := { program := "ytpkmbgbglefcfaa", sum := "f7c883dbf2f7a0f3fa586d6de2fbde8232192d8fb6c2e0c43b06fb318edd0f73", func := "oubliette/oubliettelaw07.PathWays", spec := "pathWays", apart := false, narrowed := true }
def PathWaysUptoSaid : Prop := pathWaysUptoRow.holds Try.pinned (OpenSpec.upto pathWaysSpec)

/-- 'oubliettelaw07.PathAbove', WHERE WHAT IT READS IS OF BULK AT MOST 1048576: true; the input reads as it did. -/
def pathAboveUptoRow : OpenClaim := { program := "ytpkmbgbglefcfaa", sum := "f7c883dbf2f7a0f3fa586d6de2fbde8232192d8fb6c2e0c43b06fb318edd0f73", func := "oubliette/oubliettelaw07.PathAbove", spec := "pathAbove", recurses := true, apart := false, narrowed := true }
def PathAboveUptoSaid : Prop := pathAboveUptoRow.holds Try.pinned (OpenSpec.upto pathAboveSpec)

/-- 'oubliettelaw07.PathOne', WHERE WHAT IT READS IS OF BULK AT MOST 1048576: true; the input reads as it did. -/
def pathOneUptoRow : OpenClaim := { program := "ytpkmbgbglefcfaa", sum := "f7c883dbf2f7a0f3fa586d6de2fbde8232192d8fb6c2e0c43b06fb318edd0f73", func := "oubliette/oubliettelaw07.PathOne", spec := "pathOne", recurses := true, apart := false, narrowed := true }
def PathOneUptoSaid : Prop := pathOneUptoRow.holds Try.pinned (OpenSpec.upto pathOneSpec)

/-- 'oubliettelaw07.PathUnion', WHERE WHAT IT READS IS OF BULK AT MOST 1048576: true; the input reads as it did. -/
def pathUnionUptoRow : OpenClaim := { program := "ytpkmbgbglefcfaa", sum := "f7c883dbf2f7a0f3fa586d6de2fbde8232192d8fb6c2e0c43b06fb318edd0f73", func := "oubliette/oubliettelaw07.PathUnion", spec := "pathUnion", recurses := true, apart := false, narrowed := true }
def PathUnionUptoSaid : Prop := pathUnionUptoRow.holds Try.pinned (OpenSpec.upto pathUnionSpec)

/-- 'oubliettelaw07.PathFan', WHERE WHAT IT READS IS OF BULK AT MOST 1048576: true; the input reads as it did. -/
def pathFanUptoRow : OpenClaim := { program := "ytpkmbgbglefcfaa", sum := "f7c883dbf2f7a0f3fa586d6de2fbde8232192d8fb6c2e0c43b06fb318edd0f73", func := "oubliette/oubliettelaw07.PathFan", spec := "pathFan", apart := false, narrowed := true }
def PathFanUptoSaid : Prop := pathFanUptoRow.holds Try.pinned (OpenSpec.upto pathFanSpec)

end Rows
end Go.Proofs.Ytpkmbgbglefcfaa
