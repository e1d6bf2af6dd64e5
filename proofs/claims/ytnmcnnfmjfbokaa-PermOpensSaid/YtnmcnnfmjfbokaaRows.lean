/-
  No cell of these rows narrows 'for every input' (looked for: loops, veiled, ifaces, maps, wideKeys, modest, calm, conditions, laid).
  DERIVED. THE GIVEN ROWS OF THIS SEAT. 3 by the template 'for every input the law returns true; each argument reads behind the call as it read before'; 0 by the template 'total and deterministic' (their statements: YtnmcnnfmjfbokaaTotals.lean).
  GIVEN WITH THE SEED: the statements are not yours to turn. If you find one false, say at which input.
  Laid BY PROGRAM, IN A SANDBOX (cutbox-rows.mjs): the forced cells as the released guide's own fill.sh prints them over the translation 544f31293f66e92c… (all of the seat's roots in one cut). By AI agents, Wed Nov 11 2026. No macro, syntax, notation, axiom, sorry.
-/
import Derived.Test.YtnmcnnfmjfbokaaChecked
import GoSem.Claim
import GoSem.ClaimJoined
import GoSem.ClaimMapViews
import Derived.JoinedTies
import Derived.KernelRfl
namespace Go.Proofs.Ytnmcnnfmjfbokaa
/- THE CELL 'sum', in the pinned program and in every row, IS THE sha256 OF THE DUMP (.gsa) THAT YtnmcnnfmjfbokaaProg.lean LOADS. Nothing in Lean hashes anything: it is a label: what it is worth is what the hold of that sum in a sandbox is worth. -/
noncomputable def Try.pinned : Pinned := { name := "ytnmcnnfmjfbokaa", sum := "544f31293f66e92c03e7002dc7c370388be53429de7c3c0a3a4e2831e9c9f837", checked := Try.checked }
namespace Rows
def none {H : Type} : Left H := { results := [], args := [] }

/-- 'oubliettelaw15.PermLess': WHATEVER THE INPUT: true; the input reads as it did. -/
def permLessSpec : ChangeSpec := { name := "permLess", fn := fun _ => fun
  | [d1, d2, d3] => { results := [.lit (.bool true)], args := [d1, d2, d3] }
  | _ => none }
def permLessRow : OpenClaim := { program := "ytnmcnnfmjfbokaa", sum := "544f31293f66e92c03e7002dc7c370388be53429de7c3c0a3a4e2831e9c9f837", func := "oubliette/oubliettelaw15.PermLess", spec := "permLess", apart := false }
def PermLessSaid : Prop := permLessRow.holds Try.pinned (OpenSpec.ofChange permLessSpec)

/-- ITS FALSE NEIGHBOUR: 'it returns false'. Refute it at one input. -/
def permLessWrong : ChangeSpec := { name := "permLess", fn := fun _ => fun
  | [d1, d2, d3] => { results := [.lit (.bool false)], args := [d1, d2, d3] }
  | _ => none }
def PermLessWrongFalsely : Prop := permLessRow.holds Try.pinned (OpenSpec.ofChange permLessWrong)

/-- 'oubliettelaw15.PermWants': WHATEVER THE INPUT: true; the input reads as it did. -/
def permWantsSpec : ChangeSpec := { name := "permWants", fn := fun _ => fun
  | [d] => { results := [.lit (.bool true)], args := [d] }
  | _ => none }
def permWantsRow : OpenClaim := { program := "ytnmcnnfmjfbokaa", sum := "544f31293f66e92c03e7002dc7c370388be53429de7c3c0a3a4e2831e9c9f837", func := "oubliette/oubliettelaw15.PermWants", spec := "permWants", apart := false }
def PermWantsSaid : Prop := permWantsRow.holds Try.pinned (OpenSpec.ofChange permWantsSpec)

/-- ITS FALSE NEIGHBOUR: 'it returns false'. Refute it at one input. -/
def permWantsWrong : ChangeSpec := { name := "permWants", fn := fun _ => fun
  | [d] => { results := [.lit (.bool false)], args := [d] }
  | _ => none }
def PermWantsWrongFalsely : Prop := permWantsRow.holds Try.pinned (OpenSpec.ofChange permWantsWrong)

/-- 'oubliettelaw15.PermOpens': WHATEVER THE INPUT: true; the input reads as it did. -/
def permOpensSpec : ChangeSpec := { name := "permOpens", fn := fun _ => fun
  | [d1, d2] => { results := [.lit (.bool true)], args := [d1, d2] }
  | _ => none }
def permOpensRow : OpenClaim := { program := "ytnmcnnfmjfbokaa", sum := "544f31293f66e92c03e7002dc7c370388be53429de7c3c0a3a4e2831e9c9f837", func := "oubliette/oubliettelaw15.PermOpens", spec := "permOpens", apart := false }
def PermOpensSaid : Prop := permOpensRow.holds Try.pinned (OpenSpec.ofChange permOpensSpec)

/-- ITS FALSE NEIGHBOUR: 'it returns false'. Refute it at one input. -/
def permOpensWrong : ChangeSpec := { name := "permOpens", fn := fun _ => fun
  | [d1, d2] => { results := [.lit (.bool false)], args := [d1, d2] }
  | _ => none }
def PermOpensWrongFalsely : Prop := permOpensRow.holds Try.pinned (OpenSpec.ofChange permOpensWrong)

/- THE SECOND FORM. 'bulk': how many values and letters a reading holds, each counted each time it is reached (what is shared counts as often as it is met; a slice's spare places count too). A statement '..UptoSaid' is the law's where the arguments, and the package variables that the reading takes, are together of bulk at most 1048576: NARROWER than '..Said'. Prove '..Said' where nothing that the law and all that it calls make is longer than what came in: it says more and counts as full. Else prove '..UptoSaid'. A law counts once. -/
mutual
def uptoBulk {H : Type} : DataW H → Nat
  | .lit (.string bytes) => bytes.length + 1
  | .lit _ => 1
  | .nil => 1
  | .ptr d => uptoBulk d + 1
  | .slice elems spare => uptoBulkAll elems + uptoBulkAll spare + 1
  | .agg parts => uptoBulkAll parts + 1
  | .iface _ d => uptoBulk d + 1
  | .map entries => uptoBulkEntries entries + 1
  | .held _ => 1
def uptoBulkAll {H : Type} : List (DataW H) → Nat
  | [] => 0
  | d :: r => uptoBulk d + uptoBulkAll r
def uptoBulkEntries {H : Type} : List (Lit × DataW H) → Nat
  | [] => 0
  | x :: r => uptoBulkEntry x + uptoBulkEntries r
def uptoBulkEntry {H : Type} : Lit × DataW H → Nat
  | (.string bytes, d) => bytes.length + uptoBulk d + 1
  | (_, d) => uptoBulk d + 1
 end
def uptoSmall : (H : Type) → List (DataW H) → Bool := fun _ ds => decide (uptoBulkAll ds ≤ 1048576)
def OpenSpec.upto (s : _root_.Go.ChangeSpec) : _root_.Go.OpenSpec := { _root_.Go.OpenSpec.ofChange s with cond := some uptoSmall }

/-- 'oubliettelaw15.PermLess', WHERE WHAT IT READS IS OF BULK AT MOST 1048576: true; the input reads as it did. -/
def permLessUptoRow : OpenClaim := { program := "ytnmcnnfmjfbokaa", sum := "544f31293f66e92c03e7002dc7c370388be53429de7c3c0a3a4e2831e9c9f837", func := "oubliette/oubliettelaw15.PermLess", spec := "permLess", apart := false, narrowed := true }
def PermLessUptoSaid : Prop := permLessUptoRow.holds Try.pinned (OpenSpec.upto permLessSpec)

/-- 'oubliettelaw15.PermWants', WHERE WHAT IT READS IS OF BULK AT MOST 1048576: true; the input reads as it did. -/
def permWantsUptoRow : OpenClaim := { program := "ytnmcnnfmjfbokaa", sum := "544f31293f66e92c03e7002dc7c370388be53429de7c3c0a3a4e2831e9c9f837", func := "oubliette/oubliettelaw15.PermWants", spec := "permWants", apart := false, narrowed := true }
def PermWantsUptoSaid : Prop := permWantsUptoRow.holds Try.pinned (OpenSpec.upto permWantsSpec)

/-- 'oubliettelaw15.PermOpens', WHERE WHAT IT READS IS OF BULK AT MOST 1048576: true; the input reads as it did. -/
def permOpensUptoRow : OpenClaim := { program := "ytnmcnnfmjfbokaa", sum := "544f31293f66e92c03e7002dc7c370388be53429de7c3c0a3a4e2831e9c9f837", func := "oubliette/oubliettelaw15.PermOpens", spec := "permOpens", apart := false, narrowed := true }
def PermOpensUptoSaid : Prop := permOpensUptoRow.holds Try.pinned (OpenSpec.upto permOpensSpec)

end Rows
end Go.Proofs.Ytnmcnnfmjfbokaa
