/-
  No cell of these rows narrows 'for every input' (looked for: loops, veiled, ifaces, maps, wideKeys, modest, calm, conditions, laid).
  DERIVED. THE GIVEN ROWS OF THIS SEAT. 5 by the template 'for every input the law returns true; each argument reads behind the call as it read before'; 0 by the template 'total and deterministic' (their statements: YtecojmafnonkiaaTotals.lean).
  GIVEN WITH THE SEED: the statements are not yours to turn. If you find one false, say at which input.
  Laid BY PROGRAM, IN A SANDBOX (cutbox-rows.mjs): the forced cells as the released guide's own fill.sh prints them over the translation b97e3b53dc22a994… (all of the seat's roots in one cut). By AI agents, Wed Nov 11 2026. No macro, syntax, notation, axiom, sorry.
-/
import Derived.Test.YtecojmafnonkiaaChecked
import GoSem.Claim
import GoSem.ClaimJoined
import GoSem.ClaimMapViews
import Derived.JoinedTies
import Derived.KernelRfl
namespace Go.Proofs.Ytecojmafnonkiaa
/- THE CELL 'sum', in the pinned program and in every row, IS THE sha256 OF THE DUMP (.gsa) THAT YtecojmafnonkiaaProg.lean LOADS. Nothing in Lean hashes anything: it is a label: what it is worth is what the hold of that sum in a sandbox is worth. -/
noncomputable def Try.pinned : Pinned := { name := "ytecojmafnonkiaa", sum := "b97e3b53dc22a994c3eeb33bae4eabbc70564fccbdff55c2f7bf3a53c14bd2e5", checked := Try.checked }
namespace Rows
def none {H : Type} : Left H := { results := [], args := [] }

/-- 'oubliettelaw04.VeilMasks': WHATEVER THE INPUT: true; the input reads as it did. -/
def veilMasksSpec : ChangeSpec := { name := "veilMasks", fn := fun _ => fun
  | [d1, d2, d3] => { results := [.lit (.bool true)], args := [d1, d2, d3] }
  | _ => none }
def veilMasksRow : OpenClaim := { program := "ytecojmafnonkiaa", sum := "b97e3b53dc22a994c3eeb33bae4eabbc70564fccbdff55c2f7bf3a53c14bd2e5", func := "oubliette/oubliettelaw04.VeilMasks", spec := "veilMasks", unfollowed := true, recurses := true, plainKeys := false, apart := false }
def VeilMasksSaid : Prop := veilMasksRow.holds Try.pinned (OpenSpec.ofChange veilMasksSpec)

/-- ITS FALSE NEIGHBOUR: 'it returns false'. Refute it at one input. -/
def veilMasksWrong : ChangeSpec := { name := "veilMasks", fn := fun _ => fun
  | [d1, d2, d3] => { results := [.lit (.bool false)], args := [d1, d2, d3] }
  | _ => none }
def VeilMasksWrongFalsely : Prop := veilMasksRow.holds Try.pinned (OpenSpec.ofChange veilMasksWrong)

/-- 'oubliettelaw04.VeilPads': WHATEVER THE INPUT: true; the input reads as it did. -/
def veilPadsSpec : ChangeSpec := { name := "veilPads", fn := fun _ => fun
  | [d1, d2, d3] => { results := [.lit (.bool true)], args := [d1, d2, d3] }
  | _ => none }
def veilPadsRow : OpenClaim := { program := "ytecojmafnonkiaa", sum := "b97e3b53dc22a994c3eeb33bae4eabbc70564fccbdff55c2f7bf3a53c14bd2e5", func := "oubliette/oubliettelaw04.VeilPads", spec := "veilPads", unfollowed := true, recurses := true, plainKeys := false, apart := false }
def VeilPadsSaid : Prop := veilPadsRow.holds Try.pinned (OpenSpec.ofChange veilPadsSpec)

/-- ITS FALSE NEIGHBOUR: 'it returns false'. Refute it at one input. -/
def veilPadsWrong : ChangeSpec := { name := "veilPads", fn := fun _ => fun
  | [d1, d2, d3] => { results := [.lit (.bool false)], args := [d1, d2, d3] }
  | _ => none }
def VeilPadsWrongFalsely : Prop := veilPadsRow.holds Try.pinned (OpenSpec.ofChange veilPadsWrong)

/-- 'oubliettelaw04.VeilTwice': WHATEVER THE INPUT: true; the input reads as it did. -/
def veilTwiceSpec : ChangeSpec := { name := "veilTwice", fn := fun _ => fun
  | [d1, d2, d3] => { results := [.lit (.bool true)], args := [d1, d2, d3] }
  | _ => none }
def veilTwiceRow : OpenClaim := { program := "ytecojmafnonkiaa", sum := "b97e3b53dc22a994c3eeb33bae4eabbc70564fccbdff55c2f7bf3a53c14bd2e5", func := "oubliette/oubliettelaw04.VeilTwice", spec := "veilTwice", unfollowed := true, recurses := true, plainKeys := false, apart := false }
def VeilTwiceSaid : Prop := veilTwiceRow.holds Try.pinned (OpenSpec.ofChange veilTwiceSpec)

/-- ITS FALSE NEIGHBOUR: 'it returns false'. Refute it at one input. -/
def veilTwiceWrong : ChangeSpec := { name := "veilTwice", fn := fun _ => fun
  | [d1, d2, d3] => { results := [.lit (.bool false)], args := [d1, d2, d3] }
  | _ => none }
def VeilTwiceWrongFalsely : Prop := veilTwiceRow.holds Try.pinned (OpenSpec.ofChange veilTwiceWrong)

/-- 'oubliettelaw04.VeilSwaps': WHATEVER THE INPUT: true; the input reads as it did. -/
def veilSwapsSpec : ChangeSpec := { name := "veilSwaps", fn := fun _ => fun
  | [d1, d2, d3] => { results := [.lit (.bool true)], args := [d1, d2, d3] }
  | _ => none }
def veilSwapsRow : OpenClaim := { program := "ytecojmafnonkiaa", sum := "b97e3b53dc22a994c3eeb33bae4eabbc70564fccbdff55c2f7bf3a53c14bd2e5", func := "oubliette/oubliettelaw04.VeilSwaps", spec := "veilSwaps", unfollowed := true, recurses := true, plainKeys := false, apart := false }
def VeilSwapsSaid : Prop := veilSwapsRow.holds Try.pinned (OpenSpec.ofChange veilSwapsSpec)

/-- ITS FALSE NEIGHBOUR: 'it returns false'. Refute it at one input. -/
def veilSwapsWrong : ChangeSpec := { name := "veilSwaps", fn := fun _ => fun
  | [d1, d2, d3] => { results := [.lit (.bool false)], args := [d1, d2, d3] }
  | _ => none }
def VeilSwapsWrongFalsely : Prop := veilSwapsRow.holds Try.pinned (OpenSpec.ofChange veilSwapsWrong)

/-- 'oubliettelaw04.VeilBlocks': WHATEVER THE INPUT: true; the input reads as it did. -/
def veilBlocksSpec : ChangeSpec := { name := "veilBlocks", fn := fun _ => fun
  | [d1, d2, d3] => { results := [.lit (.bool true)], args := [d1, d2, d3] }
  | _ => none }
def veilBlocksRow : OpenClaim := { program := "ytecojmafnonkiaa", sum := "b97e3b53dc22a994c3eeb33bae4eabbc70564fccbdff55c2f7bf3a53c14bd2e5", func := "oubliette/oubliettelaw04.VeilBlocks", spec := "veilBlocks", unfollowed := true, recurses := true, plainKeys := false, apart := false }
def VeilBlocksSaid : Prop := veilBlocksRow.holds Try.pinned (OpenSpec.ofChange veilBlocksSpec)

/-- ITS FALSE NEIGHBOUR: 'it returns false'. Refute it at one input. -/
def veilBlocksWrong : ChangeSpec := { name := "veilBlocks", fn := fun _ => fun
  | [d1, d2, d3] => { results := [.lit (.bool false)], args := [d1, d2, d3] }
  | _ => none }
def VeilBlocksWrongFalsely : Prop := veilBlocksRow.holds Try.pinned (OpenSpec.ofChange veilBlocksWrong)

/- THE SECOND FORM. 'bulk': how many values and letters a reading holds, each counted each time it is reached (what is shared counts as often as it is met; a slice's spare places count too). A statement '..UptoSaid' is the law's where the arguments, and the package variables that the reading takes, are together of bulk at most 1048576: NARROWER than '..Said'. Prove '..Said' where nothing that the law and all that it calls make is longer than what came in: it says more and counts as full. Else prove '..UptoSaid'. A law counts once. -/
mutual
def uptoBulk {H : Type} : DataW H → Nat
  | .lit (.string bytes) => bytes.length + 1
  | .lit _ => 1
  | .nil => 1
  | .ptr d => uptoBulk d + 1
  | .slice elems spare => uptoBulkAll elems + uptoBulkAll spare + 1
  | .agg parts => uptoBulkAll parts + 1
  | .iface _ d => uptoBulk d + 1
  | .map entries => uptoBulkEntries entries + 1
  | .held _ => 1
def uptoBulkAll {H : Type} : List (DataW H) → Nat
  | [] => 0
  | d :: r => uptoBulk d + uptoBulkAll r
def uptoBulkEntries {H : Type} : List (Lit × DataW H) → Nat
  | [] => 0
  | x :: r => uptoBulkEntry x + uptoBulkEntries r
def uptoBulkEntry {H : Type} : Lit × DataW H → Nat
  | (.string bytes, d) => bytes.length + uptoBulk d + 1
  | (_, d) => uptoBulk d + 1
 end
def uptoSmall : (H : Type) → List (DataW H) → Bool := fun _ ds => decide (uptoBulkAll ds ≤ 1048576)
def OpenSpec.upto (s : _root_.Go.ChangeSpec) : _root_.Go.OpenSpec := { _root_.Go.OpenSpec.ofChange s with cond := some uptoSmall }

/-- 'oubliettelaw04.VeilMasks', WHERE WHAT IT READS IS OF BULK AT MOST 1048576: true; the input reads as it did. -/
def veilMasksUptoRow : OpenClaim := { program := "ytecojmafnonkiaa", sum := "b97e3b53dc22a994c3eeb33bae4eabbc70564fccbdff55c2f7bf3a53c14bd2e5", func := "oubliette/oubliettelaw04.VeilMasks", spec := "veilMasks", unfollowed := true, recurses := true, plainKeys := false, apart := false, narrowed := true }
def VeilMasksUptoSaid : Prop := veilMasksUptoRow.holds Try.pinned (OpenSpec.upto veilMasksSpec)

/-- 'oubliettelaw04.VeilPads', WHERE WHAT IT READS IS OF BULK AT MOST 1048576: true; the input reads as it did. -/
def veilPadsUptoRow : OpenClaim := { program := "ytecojmafnonkiaa", sum := "b97e3b53dc22a994c3eeb33bae4eabbc70564fccbdff55c2f7bf3a53c14bd2e5", func := "oubliette/oubliettelaw04.VeilPads", spec := "veilPads", unfollowed := true, recurses := true, plainKeys := false, apart := false, narrowed := true }
def VeilPadsUptoSaid : Prop := veilPadsUptoRow.holds Try.pinned (OpenSpec.upto veilPadsSpec)

/-- 'oubliettelaw04.VeilTwice', WHERE WHAT IT READS IS OF BULK AT MOST 1048576: true; the input reads as it did. -/
def veilTwiceUptoRow : OpenClaim := { program := "ytecojmafnonkiaa", sum := "b97e3b53dc22a994c3eeb33bae4eabbc70564fccbdff55c2f7bf3a53c14bd2e5", func := "oubliette/oubliettelaw04.VeilTwice", spec := "veilTwice", unfollowed := true, recurses := true, plainKeys := false, apart := false, narrowed := true }
def VeilTwiceUptoSaid : Prop := veilTwiceUptoRow.holds Try.pinned (OpenSpec.upto veilTwiceSpec)

/-- 'oubliettelaw04.VeilSwaps', WHERE WHAT IT READS IS OF BULK AT MOST 1048576: true; the input reads as it did. -/
def veilSwapsUptoRow : OpenClaim := { program := "ytecojmafnonkiaa", sum := "b97e3b53dc22a994c3eeb33bae4eabbc70564fccbdff55c2f7bf3a53c14bd2e5", func := "oubliette/oubliettelaw04.VeilSwaps", spec := "veilSwaps", unfollowed := true, recurses := true, plainKeys := false, apart := false, narrowed := true }
def VeilSwapsUptoSaid : Prop := veilSwapsUptoRow.holds Try.pinned (OpenSpec.upto veilSwapsSpec)

/-- 'oubliettelaw04.VeilBlocks', WHERE WHAT IT READS IS OF BULK AT MOST 1048576: true; the input reads as it did. -/
def veilBlocksUptoRow : OpenClaim := { program := "ytecojmafnonkiaa", sum := "b97e3b53dc22a994c3eeb33bae4eabbc70564fccbdff55c2f7bf3a53c14bd2e5", func := "oubliette/oubliettelaw04.VeilBlocks", spec := "veilBlocks", unfollowed := true, recurses := true, plainKeys := false, apart := false, narrowed := true }
def VeilBlocksUptoSaid : Prop := veilBlocksUptoRow.holds Try.pinned (OpenSpec.upto veilBlocksSpec)

end Rows
end Go.Proofs.Ytecojmafnonkiaa
