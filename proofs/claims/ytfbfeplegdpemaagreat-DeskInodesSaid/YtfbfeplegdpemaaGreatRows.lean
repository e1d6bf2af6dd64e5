/-
  No cell of these rows narrows 'for every input' (looked for: loops, veiled, ifaces, maps, wideKeys, modest, calm, conditions, laid).
  DERIVED. THE GIVEN ROWS OF THIS SEAT. 4 by the template 'for every input the law returns true; each argument reads behind the call as it read before'; 0 by the template 'total and deterministic' (their statements: YtfbfeplegdpemaaGreatTotals.lean).
  GIVEN WITH THE SEED: the statements are not yours to turn. If you find one false, say at which input.
  Laid BY PROGRAM, IN A SANDBOX (cutbox-rows.mjs): the forced cells as the released guide's own fill.sh prints them over the translation 175312b9c1132ebd… (all of the seat's roots in one cut). By AI agents, Wed Nov 11 2026. No macro, syntax, notation, axiom, sorry.
-/
import Derived.Test.YtfbfeplegdpemaaGreatChecked
import GoSem.Claim
import GoSem.ClaimJoined
import GoSem.ClaimMapViews
import Derived.JoinedTies
import Derived.KernelRfl
namespace Go.Proofs.YtfbfeplegdpemaaGreat
/- THE CELL 'sum', in the pinned program and in every row, IS THE sha256 OF THE DUMP (.gsa) THAT YtfbfeplegdpemaaGreatProg.lean LOADS. Nothing in Lean hashes anything: it is a label: what it is worth is what the hold of that sum in a sandbox is worth. -/
noncomputable def Tryz.pinned : Pinned := { name := "ytfbfeplegdpemaagreat", sum := "175312b9c1132ebdfd0234661910bfefdf824be00abba9d2a5e08d1cba238eca", checked := Tryz.checked }
namespace Rows
def none {H : Type} : Left H := { results := [], args := [] }

/-- 'oubliettelaw13.DeskBack': WHATEVER THE INPUT: true; the input reads as it did. -/
def deskBackSpec : ChangeSpec := { name := "deskBack", fn := fun _ => fun
  | [d1, d2, d3] => { results := [.lit (.bool true)], args := [d1, d2, d3] }
  | _ => none }
def deskBackRow : OpenClaim := { program := "ytfbfeplegdpemaagreat", sum := "175312b9c1132ebdfd0234661910bfefdf824be00abba9d2a5e08d1cba238eca", func := "oubliette/oubliettelaw13.DeskBack", spec := "deskBack", unfollowed := true, recurses := true, apart := false }
def DeskBackSaid : Prop := deskBackRow.holds Tryz.pinned (OpenSpec.ofChange deskBackSpec)

/-- ITS FALSE NEIGHBOUR: 'it returns false'. Refute it at one input. -/
def deskBackWrong : ChangeSpec := { name := "deskBack", fn := fun _ => fun
  | [d1, d2, d3] => { results := [.lit (.bool false)], args := [d1, d2, d3] }
  | _ => none }
def DeskBackWrongFalsely : Prop := deskBackRow.holds Tryz.pinned (OpenSpec.ofChange deskBackWrong)

/-- 'oubliettelaw13.DeskInodes': WHATEVER THE INPUT: true; the input reads as it did. -/
def deskInodesSpec : ChangeSpec := { name := "deskInodes", fn := fun _ => fun
  | [d1, d2] => { results := [.lit (.bool true)], args := [d1, d2] }
  | _ => none }
def deskInodesRow : OpenClaim := { program := "ytfbfeplegdpemaagreat", sum := "175312b9c1132ebdfd0234661910bfefdf824be00abba9d2a5e08d1cba238eca", func := "oubliette/oubliettelaw13.DeskInodes", spec := "deskInodes", unfollowed := true, recurses := true, apart := false }
def DeskInodesSaid : Prop := deskInodesRow.holds Tryz.pinned (OpenSpec.ofChange deskInodesSpec)

/-- ITS FALSE NEIGHBOUR: 'it returns false'. Refute it at one input. -/
def deskInodesWrong : ChangeSpec := { name := "deskInodes", fn := fun _ => fun
  | [d1, d2] => { results := [.lit (.bool false)], args := [d1, d2] }
  | _ => none }
def DeskInodesWrongFalsely : Prop := deskInodesRow.holds Tryz.pinned (OpenSpec.ofChange deskInodesWrong)

/-- 'oubliettelaw13.DeskHoles': WHATEVER THE INPUT: true; the input reads as it did. -/
def deskHolesSpec : ChangeSpec := { name := "deskHoles", fn := fun _ => fun
  | [d1, d2, d3] => { results := [.lit (.bool true)], args := [d1, d2, d3] }
  | _ => none }
def deskHolesRow : OpenClaim := { program := "ytfbfeplegdpemaagreat", sum := "175312b9c1132ebdfd0234661910bfefdf824be00abba9d2a5e08d1cba238eca", func := "oubliette/oubliettelaw13.DeskHoles", spec := "deskHoles", unfollowed := true, recurses := true, apart := false }
def DeskHolesSaid : Prop := deskHolesRow.holds Tryz.pinned (OpenSpec.ofChange deskHolesSpec)

/-- ITS FALSE NEIGHBOUR: 'it returns false'. Refute it at one input. -/
def deskHolesWrong : ChangeSpec := { name := "deskHoles", fn := fun _ => fun
  | [d1, d2, d3] => { results := [.lit (.bool false)], args := [d1, d2, d3] }
  | _ => none }
def DeskHolesWrongFalsely : Prop := deskHolesRow.holds Tryz.pinned (OpenSpec.ofChange deskHolesWrong)

/-- 'oubliettelaw13.DeskSaves': WHATEVER THE INPUT: true; the input reads as it did. -/
def deskSavesSpec : ChangeSpec := { name := "deskSaves", fn := fun _ => fun
  | [d] => { results := [.lit (.bool true)], args := [d] }
  | _ => none }
def deskSavesRow : OpenClaim := { program := "ytfbfeplegdpemaagreat", sum := "175312b9c1132ebdfd0234661910bfefdf824be00abba9d2a5e08d1cba238eca", func := "oubliette/oubliettelaw13.DeskSaves", spec := "deskSaves", unfollowed := true, recurses := true, apart := false }
def DeskSavesSaid : Prop := deskSavesRow.holds Tryz.pinned (OpenSpec.ofChange deskSavesSpec)

/-- ITS FALSE NEIGHBOUR: 'it returns false'. Refute it at one input. -/
def deskSavesWrong : ChangeSpec := { name := "deskSaves", fn := fun _ => fun
  | [d] => { results := [.lit (.bool false)], args := [d] }
  | _ => none }
def DeskSavesWrongFalsely : Prop := deskSavesRow.holds Tryz.pinned (OpenSpec.ofChange deskSavesWrong)

/- THE SECOND FORM. 'bulk': how many values and letters a reading holds, each counted each time it is reached (what is shared counts as often as it is met; a slice's spare places count too). A statement '..UptoSaid' is the law's where the arguments, and the package variables that the reading takes, are together of bulk at most 1048576: NARROWER than '..Said'. Prove '..Said' where nothing that the law and all that it calls make is longer than what came in: it says more and counts as full. Else prove '..UptoSaid'. A law counts once. -/
mutual
def uptoBulk {H : Type} : DataW H → Nat
  | .lit (.string bytes) => bytes.length + 1
  | .lit _ => 1
  | .nil => 1
  | .ptr d => uptoBulk d + 1
  | .slice elems spare => uptoBulkAll elems + uptoBulkAll spare + 1
  | .agg parts => uptoBulkAll parts + 1
  | .iface _ d => uptoBulk d + 1
  | .map entries => uptoBulkEntries entries + 1
  | .held _ => 1
def uptoBulkAll {H : Type} : List (DataW H) → Nat
  | [] => 0
  | d :: r => uptoBulk d + uptoBulkAll r
def uptoBulkEntries {H : Type} : List (Lit × DataW H) → Nat
  | [] => 0
  | x :: r => uptoBulkEntry x + uptoBulkEntries r
def uptoBulkEntry {H : Type} : Lit × DataW H → Nat
  | (.string bytes, d) => bytes.length + uptoBulk d + 1
  | (_, d) => uptoBulk d + 1
 end
def uptoSmall : (H : Type) → List (DataW H) → Bool := fun _ ds => decide (uptoBulkAll ds ≤ 1048576)
def OpenSpec.upto (s : _root_.Go.ChangeSpec) : _root_.Go.OpenSpec := { _root_.Go.OpenSpec.ofChange s with cond := some uptoSmall }

/-- 'oubliettelaw13.DeskBack', WHERE WHAT IT READS IS OF BULK AT MOST 1048576: true; the input reads as it did. -/
def deskBackUptoRow : OpenClaim := { program := "ytfbfeplegdpemaagreat", sum := "175312b9c1132ebdfd0234661910bfefdf824be00abba9d2a5e08d1cba238eca", func := "oubliette/oubliettelaw13.DeskBack", spec := "deskBack", unfollowed := true, recurses := true, apart := false, narrowed := true }
def DeskBackUptoSaid : Prop := deskBackUptoRow.holds Tryz.pinned (OpenSpec.upto deskBackSpec)

/-- 'oubliettelaw13.DeskInodes', WHERE WHAT IT READS IS OF BULK AT MOST 1048576: true; the input reads as it did. -/
def deskInodesUptoRow : OpenClaim := { program := "ytfbfeplegdpemaagreat", sum := "175312b9c1132ebdfd0234661910bfefdf824be00abba9d2a5e08d1cba238eca", func := "oubliette/oubliettelaw13.DeskInodes", spec := "deskInodes", unfollowed := true, recurses := true, apart := false, narrowed := true }
def DeskInodesUptoSaid : Prop := deskInodesUptoRow.holds Tryz.pinned (OpenSpec.upto deskInodesSpec)

/-- 'oubliettelaw13.DeskHoles', WHERE WHAT IT READS IS OF BULK AT MOST 1048576: true; the input reads as it did. -/
def deskHolesUptoRow : OpenClaim := { program := "ytfbfeplegdpemaagreat", sum := "175312b9c1132ebdfd0234661910bfefdf824be00abba9d2a5e08d1cba238eca", func := "oubliette/oubliettelaw13.DeskHoles", spec := "deskHoles", unfollowed := true, recurses := true, apart := false, narrowed := true }
def DeskHolesUptoSaid : Prop := deskHolesUptoRow.holds Tryz.pinned (OpenSpec.upto deskHolesSpec)

/-- 'oubliettelaw13.DeskSaves', WHERE WHAT IT READS IS OF BULK AT MOST 1048576: true; the input reads as it did. -/
def deskSavesUptoRow : OpenClaim := { program := "ytfbfeplegdpemaagreat", sum := "175312b9c1132ebdfd0234661910bfefdf824be00abba9d2a5e08d1cba238eca", func := "oubliette/oubliettelaw13.DeskSaves", spec := "deskSaves", unfollowed := true, recurses := true, apart := false, narrowed := true }
def DeskSavesUptoSaid : Prop := deskSavesUptoRow.holds Tryz.pinned (OpenSpec.upto deskSavesSpec)

end Rows
end Go.Proofs.YtfbfeplegdpemaaGreat
