/-
  No cell of these rows narrows 'for every input' (looked for: loops, veiled, ifaces, maps, wideKeys, modest, calm, conditions, laid).
  DERIVED. THE GIVEN ROWS OF THIS SEAT. 6 by the template 'for every input the law returns true; each argument reads behind the call as it read before'; 0 by the template 'total and deterministic' (their statements: YtpmldaoligmkaaaTotals.lean).
  GIVEN WITH THE SEED: the statements are not yours to turn. If you find one false, say at which input.
  Laid BY PROGRAM, IN A SANDBOX (cutbox-rows.mjs): the forced cells as the released guide's own fill.sh prints them over the translation 3f1b8fad443ddc19… (all of the seat's roots in one cut). By AI agents, Wed Nov 11 2026. No macro, syntax, notation, axiom, sorry.
-/
import Derived.Test.YtpmldaoligmkaaaChecked
import GoSem.Claim
import GoSem.ClaimJoined
import GoSem.ClaimMapViews
import Derived.JoinedTies
import Derived.KernelRfl
namespace Go.Proofs.Ytpmldaoligmkaaa
/- THE CELL 'sum', in the pinned program and in every row, IS THE sha256 OF THE DUMP (.gsa) THAT YtpmldaoligmkaaaProg.lean LOADS. Nothing in Lean hashes anything: it is a label: what it is worth is what the hold of that sum in a sandbox is worth. -/
noncomputable def Try.pinned : Pinned := { name := "ytpmldaoligmkaaa", sum := "3f1b8fad443ddc192d41e0adbe8b1ceaee93fb2d7a3550d531b42f3b0b029c5a", checked := Try.checked }
namespace Rows
def none {H : Type} : Left H := { results := [], args := [] }

/-- 'oubliettelaw11.InodePacks': WHATEVER THE INPUT: true; the input reads as it did. -/
def inodePacksSpec : ChangeSpec := { name := "inodePacks", fn := fun _ => fun
  | [d] => { results := [.lit (.bool true)], args := [d] }
  | _ => none }
def inodePacksRow : OpenClaim := { program := "ytpmldaoligmkaaa", sum := "3f1b8fad443ddc192d41e0adbe8b1ceaee93fb2d7a3550d531b42f3b0b029c5a", func := "oubliette/oubliettelaw11.InodePacks", spec := "inodePacks", unfollowed := true, recurses := true, apart := false }
def InodePacksSaid : Prop := inodePacksRow.holds Try.pinned (OpenSpec.ofChange inodePacksSpec)

/-- ITS FALSE NEIGHBOUR: 'it returns false'. Refute it at one input. -/
def inodePacksWrong : ChangeSpec := { name := "inodePacks", fn := fun _ => fun
  | [d] => { results := [.lit (.bool false)], args := [d] }
  | _ => none }
def InodePacksWrongFalsely : Prop := inodePacksRow.holds Try.pinned (OpenSpec.ofChange inodePacksWrong)

/-- 'oubliettelaw11.InodeUnpacks': WHATEVER THE INPUT: true; the input reads as it did. -/
def inodeUnpacksSpec : ChangeSpec := { name := "inodeUnpacks", fn := fun _ => fun
  | [d] => { results := [.lit (.bool true)], args := [d] }
  | _ => none }
def inodeUnpacksRow : OpenClaim := { program := "ytpmldaoligmkaaa", sum := "3f1b8fad443ddc192d41e0adbe8b1ceaee93fb2d7a3550d531b42f3b0b029c5a", func := "oubliette/oubliettelaw11.InodeUnpacks", spec := "inodeUnpacks", unfollowed := true, recurses := true, apart := false }
def InodeUnpacksSaid : Prop := inodeUnpacksRow.holds Try.pinned (OpenSpec.ofChange inodeUnpacksSpec)

/-- ITS FALSE NEIGHBOUR: 'it returns false'. Refute it at one input. -/
def inodeUnpacksWrong : ChangeSpec := { name := "inodeUnpacks", fn := fun _ => fun
  | [d] => { results := [.lit (.bool false)], args := [d] }
  | _ => none }
def InodeUnpacksWrongFalsely : Prop := inodeUnpacksRow.holds Try.pinned (OpenSpec.ofChange inodeUnpacksWrong)

/-- 'oubliettelaw11.InodeLists': WHATEVER THE INPUT: true; the input reads as it did. -/
def inodeListsSpec : ChangeSpec := { name := "inodeLists", fn := fun _ => fun
  | [d1, d2] => { results := [.lit (.bool true)], args := [d1, d2] }
  | _ => none }
def inodeListsRow : OpenClaim := { program := "ytpmldaoligmkaaa", sum := "3f1b8fad443ddc192d41e0adbe8b1ceaee93fb2d7a3550d531b42f3b0b029c5a", func := "oubliette/oubliettelaw11.InodeLists", spec := "inodeLists", unfollowed := true, recurses := true, apart := false }
def InodeListsSaid : Prop := inodeListsRow.holds Try.pinned (OpenSpec.ofChange inodeListsSpec)

/-- ITS FALSE NEIGHBOUR: 'it returns false'. Refute it at one input. -/
def inodeListsWrong : ChangeSpec := { name := "inodeLists", fn := fun _ => fun
  | [d1, d2] => { results := [.lit (.bool false)], args := [d1, d2] }
  | _ => none }
def InodeListsWrongFalsely : Prop := inodeListsRow.holds Try.pinned (OpenSpec.ofChange inodeListsWrong)

/-- 'oubliettelaw11.InodeBlocks': WHATEVER THE INPUT: true; the input reads as it did. -/
def inodeBlocksSpec : ChangeSpec := { name := "inodeBlocks", fn := fun _ => fun
  | [d] => { results := [.lit (.bool true)], args := [d] }
  | _ => none }
def inodeBlocksRow : OpenClaim := { program := "ytpmldaoligmkaaa", sum := "3f1b8fad443ddc192d41e0adbe8b1ceaee93fb2d7a3550d531b42f3b0b029c5a", func := "oubliette/oubliettelaw11.InodeBlocks", spec := "inodeBlocks", unfollowed := true, recurses := true, apart := false }
def InodeBlocksSaid : Prop := inodeBlocksRow.holds Try.pinned (OpenSpec.ofChange inodeBlocksSpec)

/-- ITS FALSE NEIGHBOUR: 'it returns false'. Refute it at one input. -/
def inodeBlocksWrong : ChangeSpec := { name := "inodeBlocks", fn := fun _ => fun
  | [d] => { results := [.lit (.bool false)], args := [d] }
  | _ => none }
def InodeBlocksWrongFalsely : Prop := inodeBlocksRow.holds Try.pinned (OpenSpec.ofChange inodeBlocksWrong)

/-- 'oubliettelaw11.InodeOne': WHATEVER THE INPUT: true; the input reads as it did. -/
def inodeOneSpec : ChangeSpec := { name := "inodeOne", fn := fun _ => fun
  | [d1, d2, d3] => { results := [.lit (.bool true)], args := [d1, d2, d3] }
  | _ => none }
def inodeOneRow : OpenClaim := { program := "ytpmldaoligmkaaa", sum := "3f1b8fad443ddc192d41e0adbe8b1ceaee93fb2d7a3550d531b42f3b0b029c5a", func := "oubliette/oubliettelaw11.InodeOne", spec := "inodeOne", unfollowed := true, recurses := true, apart := false }
def InodeOneSaid : Prop := inodeOneRow.holds Try.pinned (OpenSpec.ofChange inodeOneSpec)

/-- ITS FALSE NEIGHBOUR: 'it returns false'. Refute it at one input. -/
def inodeOneWrong : ChangeSpec := { name := "inodeOne", fn := fun _ => fun
  | [d1, d2, d3] => { results := [.lit (.bool false)], args := [d1, d2, d3] }
  | _ => none }
def InodeOneWrongFalsely : Prop := inodeOneRow.holds Try.pinned (OpenSpec.ofChange inodeOneWrong)

/-- 'oubliettelaw11.InodeSums': WHATEVER THE INPUT: true; the input reads as it did. -/
def inodeSumsSpec : ChangeSpec := { name := "inodeSums", fn := fun _ => fun
  | [d1, d2] => { results := [.lit (.bool true)], args := [d1, d2] }
  | _ => none }
def inodeSumsRow : OpenClaim := { program := "ytpmldaoligmkaaa", sum := "3f1b8fad443ddc192d41e0adbe8b1ceaee93fb2d7a3550d531b42f3b0b029c5a", func := "oubliette/oubliettelaw11.InodeSums", spec := "inodeSums", unfollowed := true, recurses := true, apart := false }
def InodeSumsSaid : Prop := inodeSumsRow.holds Try.pinned (OpenSpec.ofChange inodeSumsSpec)

/-- ITS FALSE NEIGHBOUR: 'it returns false'. Refute it at one input. -/
def inodeSumsWrong : ChangeSpec := { name := "inodeSums", fn := fun _ => fun
  | [d1, d2] => { results := [.lit (.bool false)], args := [d1, d2] }
  | _ => none }
def InodeSumsWrongFalsely : Prop := inodeSumsRow.holds Try.pinned (OpenSpec.ofChange inodeSumsWrong)

/- THE SECOND FORM. 'bulk': how many values and letters a reading holds, each counted each time it is reached (what is shared counts as often as it is met; a slice's spare places count too). A statement '..UptoSaid' is the law's where the arguments, and the package variables that the reading takes, are together of bulk at most 1048576: NARROWER than '..Said'. Prove '..Said' where nothing that the law and all that it calls make is longer than what came in: it says more and counts as full. Else prove '..UptoSaid'. A law counts once. -/
mutual
def uptoBulk {H : Type} : DataW H → Nat
  | .lit (.string bytes) => bytes.length + 1
  | .lit _ => 1
  | .nil => 1
  | .ptr d => uptoBulk d + 1
  | .slice elems spare => uptoBulkAll elems + uptoBulkAll spare + 1
  | .agg parts => uptoBulkAll parts + 1
  | .iface _ d => uptoBulk d + 1
  | .map entries => uptoBulkEntries entries + 1
  | .held _ => 1
def uptoBulkAll {H : Type} : List (DataW H) → Nat
  | [] => 0
  | d :: r => uptoBulk d + uptoBulkAll r
def uptoBulkEntries {H : Type} : List (Lit × DataW H) → Nat
  | [] => 0
  | x :: r => uptoBulkEntry x + uptoBulkEntries r
def uptoBulkEntry {H : Type} : Lit × DataW H → Nat
  | (.string bytes, d) => bytes.length + uptoBulk d + 1
  | (_, d) => uptoBulk d + 1
 end
def uptoSmall : (H : Type) → List (DataW H) → Bool := fun _ ds => decide (uptoBulkAll ds ≤ 1048576)
def OpenSpec.upto (s : _root_.Go.ChangeSpec) : _root_.Go.OpenSpec := { _root_.Go.OpenSpec.ofChange s with cond := some uptoSmall }

/-- 'oubliettelaw11.InodePacks', WHERE WHAT IT READS IS OF BULK AT MOST 1048576: true; the input reads as it did. -/
def inodePacksUptoRow : OpenClaim := { program := "ytpmldaoligmkaaa", sum := "3f1b8fad443ddc192d41e0adbe8b1ceaee93fb2d7a3550d531b42f3b0b029c5a", func := "oubliette/oubliettelaw11.InodePacks", spec := "inodePacks", unfollowed := true, recurses := true, apart := false, narrowed := true }
def InodePacksUptoSaid : Prop := inodePacksUptoRow.holds Try.pinned (OpenSpec.upto inodePacksSpec)

/-- 'oubliettelaw11.InodeUnpacks', WHERE WHAT IT READS IS OF BULK AT MOST 1048576: true; the input reads as it did. -/
def inodeUnpacksUptoRow : OpenClaim := { program := "ytpmldaoligmkaaa", sum := "3f1b8fad443ddc192d41e0adbe8b1ceaee93fb2d7a3550d531b42f3b0b029c5a", func := "oubliette/oubliettelaw11.InodeUnpacks", spec := "inodeUnpacks", unfollowed := true, recurses := true, apart := false, narrowed := true }
def InodeUnpacksUptoSaid : Prop := inodeUnpacksUptoRow.holds Try.pinned (OpenSpec.upto inodeUnpacksSpec)

/-- 'oubliettelaw11.InodeLists', WHERE WHAT IT READS IS OF BULK AT MOST 1048576: true; the input reads as it did. -/
def inodeListsUptoRow : OpenClaim := { program := "ytpmldaoligmkaaa", sum := "3f1b8fad443ddc192d41e0adbe8b1ceaee93fb2d7a3550d531b42f3b0b029c5a", func := "oubliette/oubliettelaw11.InodeLists", spec := "inodeLists", unfollowed := true, recurses := true, apart := false, narrowed := true }
def InodeListsUptoSaid : Prop := inodeListsUptoRow.holds Try.pinned (OpenSpec.upto inodeListsSpec)

/-- 'oubliettelaw11.InodeBlocks', WHERE WHAT IT READS IS OF BULK AT MOST 1048576: true; the input reads as it did. -/
def inodeBlocksUptoRow : OpenClaim := { program := "ytpmldaoligmkaaa", sum := "3f1b8fad443ddc192d41e0adbe8b1ceaee93fb2d7a3550d531b42f3b0b029c5a", func := "oubliette/oubliettelaw11.InodeBlocks", spec := "inodeBlocks", unfollowed := true, recurses := true, apart := false, narrowed := true }
def InodeBlocksUptoSaid : Prop := inodeBlocksUptoRow.holds Try.pinned (OpenSpec.upto inodeBlocksSpec)

/-- 'oubliettelaw11.InodeOne', WHERE WHAT IT READS IS OF BULK AT MOST 1048576: true; the input reads as it did. -/
def inodeOneUptoRow : OpenClaim := { program := "ytpmldaoligmkaaa", sum := "3f1b8fad443ddc192d41e0adbe8b1ceaee93fb2d7a3550d531b42f3b0b029c5a", func := "oubliette/oubliettelaw11.InodeOne", spec := "inodeOne", unfollowed := true, recurses := true, apart := false, narrowed := true }
def InodeOneUptoSaid : Prop := inodeOneUptoRow.holds Try.pinned (OpenSpec.upto inodeOneSpec)

/-- 'oubliettelaw11.InodeSums', WHERE WHAT IT READS IS OF BULK AT MOST 1048576: true; the input reads as it did. -/
def inodeSumsUptoRow : OpenClaim := { program := "ytpmldaoligmkaaa", sum := "3f1b8fad443ddc192d41e0adbe8b1ceaee93fb2d7a3550d531b42f3b0b029c5a", func := "oubliette/oubliettelaw11.InodeSums", spec := "inodeSums", unfollowed := true, recurses := true, apart := false, narrowed := true }
def InodeSumsUptoSaid : Prop := inodeSumsUptoRow.holds Try.pinned (OpenSpec.upto inodeSumsSpec)

end Rows
end Go.Proofs.Ytpmldaoligmkaaa
