/-
  NARROWER THAN 'FOR EVERY INPUT', by the rows' own cells (each row's printed sentence says how): DirLeaves: laid · DirParses: laid · DirTold: laid · DirGoes: laid · DirMore: laid · DirFinds: laid.
  DERIVED. THE GIVEN ROWS OF THIS SEAT. 6 by the template 'for every input the law returns true; each argument reads behind the call as it read before'; 0 by the template 'total and deterministic' (their statements: YtijffkklhgnknaaDoorTotals.lean).
  GIVEN WITH THE SEED: the statements are not yours to turn. If you find one false, say at which input.
  Laid BY PROGRAM, IN A SANDBOX (cutbox-rows.mjs): the forced cells as the released guide's own fill.sh prints them over the translation 526d20389fe10502… (all of the seat's roots in one cut). By AI agents, Wed Nov 11 2026. No macro, syntax, notation, axiom, sorry.
-/
import Derived.Test.YtijffkklhgnknaaDoorChecked
import GoSem.PinnedTables
import GoSem.Claim
import GoSem.ClaimJoined
import GoSem.ClaimMapViews
import Derived.JoinedTies
import Derived.KernelRfl
namespace Go.Proofs.YtijffkklhgnknaaDoor
/- THE CELL 'sum', in the pinned program and in every row, IS THE sha256 OF THE DUMP (.gsa) THAT YtijffkklhgnknaaDoorProg.lean LOADS. Nothing in Lean hashes anything: it is a label: what it is worth is what the hold of that sum in a sandbox is worth. -/
noncomputable def Tryd.pinned : Pinned := { name := "ytijffkklhgnknaadoor", sum := "526d20389fe10502ccffc24d01496596000859206e4c05a318c20f85b0b5ff0a", checked := Tryd.checked }
namespace Rows
def none {H : Type} : Left H := { results := [], args := [] }

/- WHAT THE LISTED PACKAGE-LEVEL VARIABLES READ AS WHEN THE CALL BEGINS. Each datum BY PROGRAM (the guide's laid-datum.mjs) off the statement by which the dump's own 'gosem.cut.vars' lays the variable. In a bare row this is a premise. The card (YtijffkklhgnknaaDoorCards.lean) ties it to the program's text. -/
def laid_unicode_utf8_acceptRanges {H : Type} : DataW H := .agg [.agg [.lit (.int .u8 128), .lit (.int .u8 191)], .agg [.lit (.int .u8 160), .lit (.int .u8 191)], .agg [.lit (.int .u8 128), .lit (.int .u8 159)], .agg [.lit (.int .u8 144), .lit (.int .u8 191)], .agg [.lit (.int .u8 128), .lit (.int .u8 143)], .agg [.lit (.int .u8 0), .lit (.int .u8 0)], .agg [.lit (.int .u8 0), .lit (.int .u8 0)], .agg [.lit (.int .u8 0), .lit (.int .u8 0)], .agg [.lit (.int .u8 0), .lit (.int .u8 0)], .agg [.lit (.int .u8 0), .lit (.int .u8 0)], .agg [.lit (.int .u8 0), .lit (.int .u8 0)], .agg [.lit (.int .u8 0), .lit (.int .u8 0)], .agg [.lit (.int .u8 0), .lit (.int .u8 0)], .agg [.lit (.int .u8 0), .lit (.int .u8 0)], .agg [.lit (.int .u8 0), .lit (.int .u8 0)], .agg [.lit (.int .u8 0), .lit (.int .u8 0)]]
/-- One of Go's own tables, pinned by name: the form's constant. -/
def laid_unicode_utf8_first : DataW Unit := Go.Pinned.utf8First

/-- 'oubliettelaw14.DirLeaves': WHATEVER THE INPUT: true; the input reads as it did. -/
def dirLeavesSpec : ChangeSpec := { name := "dirLeaves", fn := fun _ => fun
  | [d] => { results := [.lit (.bool true)], args := [d] }
  | _ => none }
def dirLeavesRow : OpenClaim := { program := "ytijffkklhgnknaadoor", sum := "526d20389fe10502ccffc24d01496596000859206e4c05a318c20f85b0b5ff0a", func := "oubliette/oubliettelaw14.DirLeaves", spec := "dirLeaves", unfollowed := true, recurses := true, named := ["unicode/utf8.first", "unicode/utf8.acceptRanges"], apart := false, laid := [("unicode/utf8.acceptRanges", laid_unicode_utf8_acceptRanges), ("unicode/utf8.first", laid_unicode_utf8_first)] }
def DirLeavesSaid : Prop := dirLeavesRow.holds Tryd.pinned (OpenSpec.ofChange dirLeavesSpec)

/-- ITS FALSE NEIGHBOUR: 'it returns false'. Refute it at one input. -/
def dirLeavesWrong : ChangeSpec := { name := "dirLeaves", fn := fun _ => fun
  | [d] => { results := [.lit (.bool false)], args := [d] }
  | _ => none }
def DirLeavesWrongFalsely : Prop := dirLeavesRow.holds Tryd.pinned (OpenSpec.ofChange dirLeavesWrong)

/-- 'oubliettelaw14.DirParses': WHATEVER THE INPUT: true; the input reads as it did. -/
def dirParsesSpec : ChangeSpec := { name := "dirParses", fn := fun _ => fun
  | [d] => { results := [.lit (.bool true)], args := [d] }
  | _ => none }
def dirParsesRow : OpenClaim := { program := "ytijffkklhgnknaadoor", sum := "526d20389fe10502ccffc24d01496596000859206e4c05a318c20f85b0b5ff0a", func := "oubliette/oubliettelaw14.DirParses", spec := "dirParses", unfollowed := true, recurses := true, named := ["unicode/utf8.first", "unicode/utf8.acceptRanges"], apart := false, laid := [("unicode/utf8.acceptRanges", laid_unicode_utf8_acceptRanges), ("unicode/utf8.first", laid_unicode_utf8_first)] }
def DirParsesSaid : Prop := dirParsesRow.holds Tryd.pinned (OpenSpec.ofChange dirParsesSpec)

/-- ITS FALSE NEIGHBOUR: 'it returns false'. Refute it at one input. -/
def dirParsesWrong : ChangeSpec := { name := "dirParses", fn := fun _ => fun
  | [d] => { results := [.lit (.bool false)], args := [d] }
  | _ => none }
def DirParsesWrongFalsely : Prop := dirParsesRow.holds Tryd.pinned (OpenSpec.ofChange dirParsesWrong)

/-- 'oubliettelaw14.DirTold': WHATEVER THE INPUT: true; the input reads as it did. -/
def dirToldSpec : ChangeSpec := { name := "dirTold", fn := fun _ => fun
  | [d1, d2, d3] => { results := [.lit (.bool true)], args := [d1, d2, d3] }
  | _ => none }
def dirToldRow : OpenClaim := { program := "ytijffkklhgnknaadoor", sum := "526d20389fe10502ccffc24d01496596000859206e4c05a318c20f85b0b5ff0a", func := "oubliette/oubliettelaw14.DirTold", spec := "dirTold", unfollowed := true, recurses := true, named := ["unicode/utf8.first", "unicode/utf8.acceptRanges"], apart := false, laid := [("unicode/utf8.acceptRanges", laid_unicode_utf8_acceptRanges), ("unicode/utf8.first", laid_unicode_utf8_first)] }
def DirToldSaid : Prop := dirToldRow.holds Tryd.pinned (OpenSpec.ofChange dirToldSpec)

/-- ITS FALSE NEIGHBOUR: 'it returns false'. Refute it at one input. -/
def dirToldWrong : ChangeSpec := { name := "dirTold", fn := fun _ => fun
  | [d1, d2, d3] => { results := [.lit (.bool false)], args := [d1, d2, d3] }
  | _ => none }
def DirToldWrongFalsely : Prop := dirToldRow.holds Tryd.pinned (OpenSpec.ofChange dirToldWrong)

/-- 'oubliettelaw14.DirGoes': WHATEVER THE INPUT: true; the input reads as it did. -/
def dirGoesSpec : ChangeSpec := { name := "dirGoes", fn := fun _ => fun
  | [d1, d2] => { results := [.lit (.bool true)], args := [d1, d2] }
  | _ => none }
def dirGoesRow : OpenClaim := { program := "ytijffkklhgnknaadoor", sum := "526d20389fe10502ccffc24d01496596000859206e4c05a318c20f85b0b5ff0a", func := "oubliette/oubliettelaw14.DirGoes", spec := "dirGoes", unfollowed := true, recurses := true, named := ["unicode/utf8.first", "unicode/utf8.acceptRanges"], apart := false, laid := [("unicode/utf8.acceptRanges", laid_unicode_utf8_acceptRanges), ("unicode/utf8.first", laid_unicode_utf8_first)] }
def DirGoesSaid : Prop := dirGoesRow.holds Tryd.pinned (OpenSpec.ofChange dirGoesSpec)

/-- ITS FALSE NEIGHBOUR: 'it returns false'. Refute it at one input. -/
def dirGoesWrong : ChangeSpec := { name := "dirGoes", fn := fun _ => fun
  | [d1, d2] => { results := [.lit (.bool false)], args := [d1, d2] }
  | _ => none }
def DirGoesWrongFalsely : Prop := dirGoesRow.holds Tryd.pinned (OpenSpec.ofChange dirGoesWrong)

/-- 'oubliettelaw14.DirMore': WHATEVER THE INPUT: true; the input reads as it did. -/
def dirMoreSpec : ChangeSpec := { name := "dirMore", fn := fun _ => fun
  | [d1, d2] => { results := [.lit (.bool true)], args := [d1, d2] }
  | _ => none }
def dirMoreRow : OpenClaim := { program := "ytijffkklhgnknaadoor", sum := "526d20389fe10502ccffc24d01496596000859206e4c05a318c20f85b0b5ff0a", func := "oubliette/oubliettelaw14.DirMore", spec := "dirMore", inPlace := ["slices.overlaps[oubliette/api.Entry]"], unfollowed := true, recurses := true, named := ["unicode/utf8.first", "unicode/utf8.acceptRanges"], apart := false, laid := [("unicode/utf8.acceptRanges", laid_unicode_utf8_acceptRanges), ("unicode/utf8.first", laid_unicode_utf8_first)] }
def DirMoreSaid : Prop := dirMoreRow.holds Tryd.pinned (OpenSpec.ofChange dirMoreSpec)

/-- ITS FALSE NEIGHBOUR: 'it returns false'. Refute it at one input. -/
def dirMoreWrong : ChangeSpec := { name := "dirMore", fn := fun _ => fun
  | [d1, d2] => { results := [.lit (.bool false)], args := [d1, d2] }
  | _ => none }
def DirMoreWrongFalsely : Prop := dirMoreRow.holds Tryd.pinned (OpenSpec.ofChange dirMoreWrong)

/-- 'oubliettelaw14.DirFinds': WHATEVER THE INPUT: true; the input reads as it did. -/
def dirFindsSpec : ChangeSpec := { name := "dirFinds", fn := fun _ => fun
  | [d1, d2, d3] => { results := [.lit (.bool true)], args := [d1, d2, d3] }
  | _ => none }
def dirFindsRow : OpenClaim := { program := "ytijffkklhgnknaadoor", sum := "526d20389fe10502ccffc24d01496596000859206e4c05a318c20f85b0b5ff0a", func := "oubliette/oubliettelaw14.DirFinds", spec := "dirFinds", inPlace := ["slices.overlaps[oubliette/api.Entry]"], unfollowed := true, recurses := true, named := ["unicode/utf8.first", "unicode/utf8.acceptRanges"], apart := false, laid := [("unicode/utf8.acceptRanges", laid_unicode_utf8_acceptRanges), ("unicode/utf8.first", laid_unicode_utf8_first)] }
def DirFindsSaid : Prop := dirFindsRow.holds Tryd.pinned (OpenSpec.ofChange dirFindsSpec)

/-- ITS FALSE NEIGHBOUR: 'it returns false'. Refute it at one input. -/
def dirFindsWrong : ChangeSpec := { name := "dirFinds", fn := fun _ => fun
  | [d1, d2, d3] => { results := [.lit (.bool false)], args := [d1, d2, d3] }
  | _ => none }
def DirFindsWrongFalsely : Prop := dirFindsRow.holds Tryd.pinned (OpenSpec.ofChange dirFindsWrong)

/- THE SECOND FORM. 'bulk': how many values and letters a reading holds, each counted each time it is reached (what is shared counts as often as it is met; a slice's spare places count too). A statement '..UptoSaid' is the law's where the arguments, and the package variables that the reading takes, are together of bulk at most 1048576: NARROWER than '..Said'. Prove '..Said' where nothing that the law and all that it calls make is longer than what came in: it says more and counts as full. Else prove '..UptoSaid'. A law counts once. -/
mutual
def uptoBulk {H : Type} : DataW H → Nat
  | .lit (.string bytes) => bytes.length + 1
  | .lit _ => 1
  | .nil => 1
  | .ptr d => uptoBulk d + 1
  | .slice elems spare => uptoBulkAll elems + uptoBulkAll spare + 1
  | .agg parts => uptoBulkAll parts + 1
  | .iface _ d => uptoBulk d + 1
  | .map entries => uptoBulkEntries entries + 1
  | .held _ => 1
def uptoBulkAll {H : Type} : List (DataW H) → Nat
  | [] => 0
  | d :: r => uptoBulk d + uptoBulkAll r
def uptoBulkEntries {H : Type} : List (Lit × DataW H) → Nat
  | [] => 0
  | x :: r => uptoBulkEntry x + uptoBulkEntries r
def uptoBulkEntry {H : Type} : Lit × DataW H → Nat
  | (.string bytes, d) => bytes.length + uptoBulk d + 1
  | (_, d) => uptoBulk d + 1
 end
def uptoSmall : (H : Type) → List (DataW H) → Bool := fun _ ds => decide (uptoBulkAll ds ≤ 1048576)
def OpenSpec.upto (s : _root_.Go.ChangeSpec) : _root_.Go.OpenSpec := { _root_.Go.OpenSpec.ofChange s with cond := some uptoSmall }

/-- 'oubliettelaw14.DirLeaves', WHERE WHAT IT READS IS OF BULK AT MOST 1048576: true; the input reads as it did. -/
def dirLeavesUptoRow : OpenClaim := { program := "ytijffkklhgnknaadoor", sum := "526d20389fe10502ccffc24d01496596000859206e4c05a318c20f85b0b5ff0a", func := "oubliette/oubliettelaw14.DirLeaves", spec := "dirLeaves", unfollowed := true, recurses := true, named := ["unicode/utf8.first", "unicode/utf8.acceptRanges"], apart := false, laid := [("unicode/utf8.acceptRanges", laid_unicode_utf8_acceptRanges), ("unicode/utf8.first", laid_unicode_utf8_first)], narrowed := true }
def DirLeavesUptoSaid : Prop := dirLeavesUptoRow.holds Tryd.pinned (OpenSpec.upto dirLeavesSpec)

/-- 'oubliettelaw14.DirParses', WHERE WHAT IT READS IS OF BULK AT MOST 1048576: true; the input reads as it did. -/
def dirParsesUptoRow : OpenClaim := { program := "ytijffkklhgnknaadoor", sum := "526d20389fe10502ccffc24d01496596000859206e4c05a318c20f85b0b5ff0a", func := "oubliette/oubliettelaw14.DirParses", spec := "dirParses", unfollowed := true, recurses := true, named := ["unicode/utf8.first", "unicode/utf8.acceptRanges"], apart := false, laid := [("unicode/utf8.acceptRanges", laid_unicode_utf8_acceptRanges), ("unicode/utf8.first", laid_unicode_utf8_first)], narrowed := true }
def DirParsesUptoSaid : Prop := dirParsesUptoRow.holds Tryd.pinned (OpenSpec.upto dirParsesSpec)

/-- 'oubliettelaw14.DirTold', WHERE WHAT IT READS IS OF BULK AT MOST 1048576: true; the input reads as it did. -/
def dirToldUptoRow : OpenClaim := { program := "ytijffkklhgnknaadoor", sum := "526d20389fe10502ccffc24d01496596000859206e4c05a318c20f85b0b5ff0a", func := "oubliette/oubliettelaw14.DirTold", spec := "dirTold", unfollowed := true, recurses := true, named := ["unicode/utf8.first", "unicode/utf8.acceptRanges"], apart := false, laid := [("unicode/utf8.acceptRanges", laid_unicode_utf8_acceptRanges), ("unicode/utf8.first", laid_unicode_utf8_first)], narrowed := true }
def DirToldUptoSaid : Prop := dirToldUptoRow.holds Tryd.pinned (OpenSpec.upto dirToldSpec)

/-- 'oubliettelaw14.DirGoes', WHERE WHAT IT READS IS OF BULK AT MOST 1048576: true; the input reads as it did. -/
def dirGoesUptoRow : OpenClaim := { program := "ytijffkklhgnknaadoor", sum := "526d20389fe10502ccffc24d01496596000859206e4c05a318c20f85b0b5ff0a", func := "oubliette/oubliettelaw14.DirGoes", spec := "dirGoes", unfollowed := true, recurses := true, named := ["unicode/utf8.first", "unicode/utf8.acceptRanges"], apart := false, laid := [("unicode/utf8.acceptRanges", laid_unicode_utf8_acceptRanges), ("unicode/utf8.first", laid_unicode_utf8_first)], narrowed := true }
def DirGoesUptoSaid : Prop := dirGoesUptoRow.holds Tryd.pinned (OpenSpec.upto dirGoesSpec)

/-- 'oubliettelaw14.DirMore', WHERE WHAT IT READS IS OF BULK AT MOST 1048576: true; the input reads as it did. -/
def dirMoreUptoRow : OpenClaim := { program := "ytijffkklhgnknaadoor", sum := "526d20389fe10502ccffc24d01496596000859206e4c05a318c20f85b0b5ff0a", func := "oubliette/oubliettelaw14.DirMore", spec := "dirMore", inPlace := ["slices.overlaps[oubliette/api.Entry]"], unfollowed := true, recurses := true, named := ["unicode/utf8.first", "unicode/utf8.acceptRanges"], apart := false, laid := [("unicode/utf8.acceptRanges", laid_unicode_utf8_acceptRanges), ("unicode/utf8.first", laid_unicode_utf8_first)], narrowed := true }
def DirMoreUptoSaid : Prop := dirMoreUptoRow.holds Tryd.pinned (OpenSpec.upto dirMoreSpec)

/-- 'oubliettelaw14.DirFinds', WHERE WHAT IT READS IS OF BULK AT MOST 1048576: true; the input reads as it did. -/
def dirFindsUptoRow : OpenClaim := { program := "ytijffkklhgnknaadoor", sum := "526d20389fe10502ccffc24d01496596000859206e4c05a318c20f85b0b5ff0a", func := "oubliette/oubliettelaw14.DirFinds", spec := "dirFinds", inPlace := ["slices.overlaps[oubliette/api.Entry]"], unfollowed := true, recurses := true, named := ["unicode/utf8.first", "unicode/utf8.acceptRanges"], apart := false, laid := [("unicode/utf8.acceptRanges", laid_unicode_utf8_acceptRanges), ("unicode/utf8.first", laid_unicode_utf8_first)], narrowed := true }
def DirFindsUptoSaid : Prop := dirFindsUptoRow.holds Tryd.pinned (OpenSpec.upto dirFindsSpec)

end Rows
end Go.Proofs.YtijffkklhgnknaaDoor
