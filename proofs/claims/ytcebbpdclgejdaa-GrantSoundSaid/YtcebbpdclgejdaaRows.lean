/-
  No cell of these rows narrows 'for every input' (looked for: loops, veiled, ifaces, maps, wideKeys, modest, calm, conditions, laid).
  DERIVED. THE GIVEN ROWS OF THIS SEAT. 4 by the template 'for every input the law returns true; each argument reads behind the call as it read before'; 0 by the template 'total and deterministic' (their statements: YtcebbpdclgejdaaTotals.lean).
  GIVEN WITH THE SEED: the statements are not yours to turn. If you find one false, say at which input.
  Laid BY PROGRAM, IN A SANDBOX (cutbox-rows.mjs): the forced cells as the released guide's own fill.sh prints them over the translation 0280277fb9026241… (all of the seat's roots in one cut). By AI agents, Wed Nov 11 2026. No macro, syntax, notation, axiom, sorry.
-/
import Derived.Test.YtcebbpdclgejdaaChecked
import GoSem.Claim
import GoSem.ClaimJoined
import GoSem.ClaimMapViews
import Derived.JoinedTies
import Derived.KernelRfl
namespace Go.Proofs.Ytcebbpdclgejdaa
/- THE CELL 'sum', in the pinned program and in every row, IS THE sha256 OF THE DUMP (.gsa) THAT YtcebbpdclgejdaaProg.lean LOADS. Nothing in Lean hashes anything: it is a label: what it is worth is what the hold of that sum in a sandbox is worth. -/
noncomputable def Try.pinned : Pinned := { name := "ytcebbpdclgejdaa", sum := "0280277fb90262419f7018d12dc4a12998842d6306b0d02336203fbc2abb070b", checked := Try.checked }
namespace Rows
def none {H : Type} : Left H := { results := [], args := [] }

/-- 'oubliettelaw10.GrantPacks': WHATEVER THE INPUT: true; the input reads as it did. -/
def grantPacksSpec : ChangeSpec := { name := "grantPacks", fn := fun _ => fun
  | [d] => { results := [.lit (.bool true)], args := [d] }
  | _ => none }
def grantPacksRow : OpenClaim := { program := "ytcebbpdclgejdaa", sum := "0280277fb90262419f7018d12dc4a12998842d6306b0d02336203fbc2abb070b", func := "oubliette/oubliettelaw10.GrantPacks", spec := "grantPacks", apart := false }
def GrantPacksSaid : Prop := grantPacksRow.holds Try.pinned (OpenSpec.ofChange grantPacksSpec)

/-- ITS FALSE NEIGHBOUR: 'it returns false'. Refute it at one input. -/
def grantPacksWrong : ChangeSpec := { name := "grantPacks", fn := fun _ => fun
  | [d] => { results := [.lit (.bool false)], args := [d] }
  | _ => none }
def GrantPacksWrongFalsely : Prop := grantPacksRow.holds Try.pinned (OpenSpec.ofChange grantPacksWrong)

/-- 'oubliettelaw10.GrantUnpacks': WHATEVER THE INPUT: true; the input reads as it did. -/
def grantUnpacksSpec : ChangeSpec := { name := "grantUnpacks", fn := fun _ => fun
  | [d] => { results := [.lit (.bool true)], args := [d] }
  | _ => none }
def grantUnpacksRow : OpenClaim := { program := "ytcebbpdclgejdaa", sum := "0280277fb90262419f7018d12dc4a12998842d6306b0d02336203fbc2abb070b", func := "oubliette/oubliettelaw10.GrantUnpacks", spec := "grantUnpacks", apart := false }
def GrantUnpacksSaid : Prop := grantUnpacksRow.holds Try.pinned (OpenSpec.ofChange grantUnpacksSpec)

/-- ITS FALSE NEIGHBOUR: 'it returns false'. Refute it at one input. -/
def grantUnpacksWrong : ChangeSpec := { name := "grantUnpacks", fn := fun _ => fun
  | [d] => { results := [.lit (.bool false)], args := [d] }
  | _ => none }
def GrantUnpacksWrongFalsely : Prop := grantUnpacksRow.holds Try.pinned (OpenSpec.ofChange grantUnpacksWrong)

/-- 'oubliettelaw10.GrantSound': WHATEVER THE INPUT: true; the input reads as it did. -/
def grantSoundSpec : ChangeSpec := { name := "grantSound", fn := fun _ => fun
  | [d1, d2] => { results := [.lit (.bool true)], args := [d1, d2] }
  | _ => none }
def grantSoundRow : OpenClaim := { program := "ytcebbpdclgejdaa", sum := "0280277fb90262419f7018d12dc4a12998842d6306b0d02336203fbc2abb070b", func := "oubliette/oubliettelaw10.GrantSound", spec := "grantSound", apart := false }
def GrantSoundSaid : Prop := grantSoundRow.holds Try.pinned (OpenSpec.ofChange grantSoundSpec)

/-- ITS FALSE NEIGHBOUR: 'it returns false'. Refute it at one input. -/
def grantSoundWrong : ChangeSpec := { name := "grantSound", fn := fun _ => fun
  | [d1, d2] => { results := [.lit (.bool false)], args := [d1, d2] }
  | _ => none }
def GrantSoundWrongFalsely : Prop := grantSoundRow.holds Try.pinned (OpenSpec.ofChange grantSoundWrong)

/-- 'oubliettelaw10.GrantBack': WHATEVER THE INPUT: true; the input reads as it did. -/
def grantBackSpec : ChangeSpec := { name := "grantBack", fn := fun _ => fun
  | [d1, d2] => { results := [.lit (.bool true)], args := [d1, d2] }
  | _ => none }
def grantBackRow : OpenClaim := { program := "ytcebbpdclgejdaa", sum := "0280277fb90262419f7018d12dc4a12998842d6306b0d02336203fbc2abb070b", func := "oubliette/oubliettelaw10.GrantBack", spec := "grantBack", apart := false }
def GrantBackSaid : Prop := grantBackRow.holds Try.pinned (OpenSpec.ofChange grantBackSpec)

/-- ITS FALSE NEIGHBOUR: 'it returns false'. Refute it at one input. -/
def grantBackWrong : ChangeSpec := { name := "grantBack", fn := fun _ => fun
  | [d1, d2] => { results := [.lit (.bool false)], args := [d1, d2] }
  | _ => none }
def GrantBackWrongFalsely : Prop := grantBackRow.holds Try.pinned (OpenSpec.ofChange grantBackWrong)

/- THE SECOND FORM. 'bulk': how many values and letters a reading holds, each counted each time it is reached (what is shared counts as often as it is met; a slice's spare places count too). A statement '..UptoSaid' is the law's where the arguments, and the package variables that the reading takes, are together of bulk at most 1048576: NARROWER than '..Said'. Prove '..Said' where nothing that the law and all that it calls make is longer than what came in: it says more and counts as full. Else prove '..UptoSaid'. A law counts once. -/
mutual
def uptoBulk {H : Type} : DataW H → Nat
  | .lit (.string bytes) => bytes.length + 1
  | .lit _ => 1
  | .nil => 1
  | .ptr d => uptoBulk d + 1
  | .slice elems spare => uptoBulkAll elems + uptoBulkAll spare + 1
  | .agg parts => uptoBulkAll parts + 1
  | .iface _ d => uptoBulk d + 1
  | .map entries => uptoBulkEntries entries + 1
  | .held _ => 1
def uptoBulkAll {H : Type} : List (DataW H) → Nat
  | [] => 0
  | d :: r => uptoBulk d + uptoBulkAll r
def uptoBulkEntries {H : Type} : List (Lit × DataW H) → Nat
  | [] => 0
  | x :: r => uptoBulkEntry x + uptoBulkEntries r
def uptoBulkEntry {H : Type} : Lit × DataW H → Nat
  | (.string bytes, d) => bytes.length + uptoBulk d + 1
  | (_, d) => uptoBulk d + 1
 end
def uptoSmall : (H : Type) → List (DataW H) → Bool := fun _ ds => decide (uptoBulkAll ds ≤ 1048576)
def OpenSpec.upto (s : _root_.Go.ChangeSpec) : _root_.Go.OpenSpec := { _root_.Go.OpenSpec.ofChange s with cond := some uptoSmall }

/-- 'oubliettelaw10.GrantPacks', WHERE WHAT IT READS IS OF BULK AT MOST 1048576: true; the input reads as it did. -/
def grantPacksUptoRow : OpenClaim := { program := "ytcebbpdclgejdaa", sum := "0280277fb90262419f7018d12dc4a12998842d6306b0d02336203fbc2abb070b", func := "oubliette/oubliettelaw10.GrantPacks", spec := "grantPacks", apart := false, narrowed := true }
def GrantPacksUptoSaid : Prop := grantPacksUptoRow.holds Try.pinned (OpenSpec.upto grantPacksSpec)

/-- 'oubliettelaw10.GrantUnpacks', WHERE WHAT IT READS IS OF BULK AT MOST 1048576: true; the input reads as it did. -/
def grantUnpacksUptoRow : OpenClaim := { program := "ytcebbpdclgejdaa", sum := "0280277fb90262419f7018d12dc4a12998842d6306b0d02336203fbc2abb070b", func := "oubliette/oubliettelaw10.GrantUnpacks", spec := "grantUnpacks", apart := false, narrowed := true }
def GrantUnpacksUptoSaid : Prop := grantUnpacksUptoRow.holds Try.pinned (OpenSpec.upto grantUnpacksSpec)

/-- 'oubliettelaw10.GrantSound', WHERE WHAT IT READS IS OF BULK AT MOST 1048576: true; the input reads as it did. -/
def grantSoundUptoRow : OpenClaim := { program := "ytcebbpdclgejdaa", sum := "0280277fb90262419f7018d12dc4a12998842d6306b0d02336203fbc2abb070b", func := "oubliette/oubliettelaw10.GrantSound", spec := "grantSound", apart := false, narrowed := true }
def GrantSoundUptoSaid : Prop := grantSoundUptoRow.holds Try.pinned (OpenSpec.upto grantSoundSpec)

/-- 'oubliettelaw10.GrantBack', WHERE WHAT IT READS IS OF BULK AT MOST 1048576: true; the input reads as it did. -/
def grantBackUptoRow : OpenClaim := { program := "ytcebbpdclgejdaa", sum := "0280277fb90262419f7018d12dc4a12998842d6306b0d02336203fbc2abb070b", func := "oubliette/oubliettelaw10.GrantBack", spec := "grantBack", apart := false, narrowed := true }
def GrantBackUptoSaid : Prop := grantBackUptoRow.holds Try.pinned (OpenSpec.upto grantBackSpec)

end Rows
end Go.Proofs.Ytcebbpdclgejdaa
