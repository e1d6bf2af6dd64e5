/-
  DERIVED. GIVEN WITH THE SEED: THE CARDS: each row of YtijffkklhgnknaaGreatDoorRows.lean that lists a variable, with what it lists TIED to the program's text (the seventh form; the later family's looks); each row that meets fmt, with fmt's text TOLD by the authors' own Lean function (tested against real Go, not proved from fmt's source: count such statements apart). THE CARD IS WHAT COUNTS. Prove the row's statement (the work); the ties are given (YtijffkklhgnknaaGreatDoorTie.lean); close each card by the builder's one call (the guide's Derived/Test/ToyasCard.lean, 'card_holds'). Laid BY PROGRAM, IN A SANDBOX (cutbox-door.mjs). By AI agents, Wed Nov 11 2026. No macro, syntax, notation, axiom, sorry.
-/
import Derived.Test.YtijffkklhgnknaaGreatDoorRows
import GoSem.ClaimSeven
namespace Go.Proofs.YtijffkklhgnknaaGreatDoor
namespace Rows

/-- THE TIED CARD OF 'oubliettelaw14.DirFiles'. -/
def dirFilesCard : Claim7 := { stood := { row := dirFilesRow, standIns := [], harness := (true, "a1c402c8b61ce99bbe5a666e22306829ce613a1a9108b9d373cc4a4c8af58efc"), looks := true }, kinds := [], alts := [], laidByText := true, laidKinds := [.data, .pinned], laidTests := true, laidLooks := .later }
def DirFilesCardSaid : Prop := Claim7.holds Tryz.pinned (.plain (OpenSpec.ofChange dirFilesSpec)) dirFilesCard

/-- THE SECOND FORM's CARD OF 'oubliettelaw14.DirFiles'. -/
def dirFilesUptoCard : Claim7 := { stood := { row := dirFilesUptoRow, standIns := [], harness := (true, "a1c402c8b61ce99bbe5a666e22306829ce613a1a9108b9d373cc4a4c8af58efc"), looks := true }, kinds := [], alts := [], laidByText := true, laidKinds := [.data, .pinned], laidTests := true, laidLooks := .later }
def DirFilesUptoCardSaid : Prop := Claim7.holds Tryz.pinned (.plain (OpenSpec.upto dirFilesSpec)) dirFilesUptoCard
end Rows
end Go.Proofs.YtijffkklhgnknaaGreatDoor
