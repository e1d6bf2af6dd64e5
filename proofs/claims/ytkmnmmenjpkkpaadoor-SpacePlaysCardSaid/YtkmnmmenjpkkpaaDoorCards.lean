/-
  DERIVED. GIVEN WITH THE SEED: THE CARDS: each row of YtkmnmmenjpkkpaaDoorRows.lean that lists a variable, with what it lists TIED to the program's text (the seventh form; the later family's looks); each row that meets fmt, with fmt's text TOLD by the authors' own Lean function (tested against real Go, not proved from fmt's source: count such statements apart). THE CARD IS WHAT COUNTS. Prove the row's statement (the work); the ties are given (YtkmnmmenjpkkpaaDoorTie.lean); close each card by the builder's one call (the guide's Derived/Test/ToyasCard.lean, 'card_holds'). Laid BY PROGRAM, IN A SANDBOX (cutbox-door.mjs). By AI agents, Wed Nov 11 2026. No macro, syntax, notation, axiom, sorry.
-/
import Derived.Test.YtkmnmmenjpkkpaaDoorRows
import GoSem.ClaimSeven
namespace Go.Proofs.YtkmnmmenjpkkpaaDoor
namespace Rows

/-- THE TIED CARD OF 'oubliettelaw08.SpacePlays'. -/
def spacePlaysCard : Claim7 := { stood := { row := spacePlaysRow, standIns := [], harness := (true, "f5984df46ba5f99658a886dedaed19105bf950d63b53e9459f06db0baf0c7fe0"), looks := false }, kinds := [], alts := [], laidByText := true, laidKinds := [.data], laidTests := true, laidLooks := .later }
def SpacePlaysCardSaid : Prop := Claim7.holds Tryd.pinned (.plain (OpenSpec.ofChange spacePlaysSpec)) spacePlaysCard

/-- THE TIED CARD OF 'oubliettelaw08.SpaceOnce'. -/
def spaceOnceCard : Claim7 := { stood := { row := spaceOnceRow, standIns := [], harness := (true, "f5984df46ba5f99658a886dedaed19105bf950d63b53e9459f06db0baf0c7fe0"), looks := false }, kinds := [], alts := [], laidByText := true, laidKinds := [.data], laidTests := true, laidLooks := .later }
def SpaceOnceCardSaid : Prop := Claim7.holds Tryd.pinned (.plain (OpenSpec.ofChange spaceOnceSpec)) spaceOnceCard

/-- THE TIED CARD OF 'oubliettelaw08.SpaceLeast'. -/
def spaceLeastCard : Claim7 := { stood := { row := spaceLeastRow, standIns := [], harness := (true, "f5984df46ba5f99658a886dedaed19105bf950d63b53e9459f06db0baf0c7fe0"), looks := false }, kinds := [], alts := [], laidByText := true, laidKinds := [.data], laidTests := true, laidLooks := .later }
def SpaceLeastCardSaid : Prop := Claim7.holds Tryd.pinned (.plain (OpenSpec.ofChange spaceLeastSpec)) spaceLeastCard

/-- THE TIED CARD OF 'oubliettelaw08.SpaceNone'. -/
def spaceNoneCard : Claim7 := { stood := { row := spaceNoneRow, standIns := [], harness := (true, "f5984df46ba5f99658a886dedaed19105bf950d63b53e9459f06db0baf0c7fe0"), looks := false }, kinds := [], alts := [], laidByText := true, laidKinds := [.data], laidTests := true, laidLooks := .later }
def SpaceNoneCardSaid : Prop := Claim7.holds Tryd.pinned (.plain (OpenSpec.ofChange spaceNoneSpec)) spaceNoneCard

/-- THE TIED CARD OF 'oubliettelaw08.SpaceUndone'. -/
def spaceUndoneCard : Claim7 := { stood := { row := spaceUndoneRow, standIns := [], harness := (true, "f5984df46ba5f99658a886dedaed19105bf950d63b53e9459f06db0baf0c7fe0"), looks := false }, kinds := [], alts := [], laidByText := true, laidKinds := [.data], laidTests := true, laidLooks := .later }
def SpaceUndoneCardSaid : Prop := Claim7.holds Tryd.pinned (.plain (OpenSpec.ofChange spaceUndoneSpec)) spaceUndoneCard

/-- THE SECOND FORM's CARD OF 'oubliettelaw08.SpacePlays'. -/
def spacePlaysUptoCard : Claim7 := { stood := { row := spacePlaysUptoRow, standIns := [], harness := (true, "f5984df46ba5f99658a886dedaed19105bf950d63b53e9459f06db0baf0c7fe0"), looks := false }, kinds := [], alts := [], laidByText := true, laidKinds := [.data], laidTests := true, laidLooks := .later }
def SpacePlaysUptoCardSaid : Prop := Claim7.holds Tryd.pinned (.plain (OpenSpec.upto spacePlaysSpec)) spacePlaysUptoCard

/-- THE SECOND FORM's CARD OF 'oubliettelaw08.SpaceOnce'. -/
def spaceOnceUptoCard : Claim7 := { stood := { row := spaceOnceUptoRow, standIns := [], harness := (true, "f5984df46ba5f99658a886dedaed19105bf950d63b53e9459f06db0baf0c7fe0"), looks := false }, kinds := [], alts := [], laidByText := true, laidKinds := [.data], laidTests := true, laidLooks := .later }
def SpaceOnceUptoCardSaid : Prop := Claim7.holds Tryd.pinned (.plain (OpenSpec.upto spaceOnceSpec)) spaceOnceUptoCard

/-- THE SECOND FORM's CARD OF 'oubliettelaw08.SpaceLeast'. -/
def spaceLeastUptoCard : Claim7 := { stood := { row := spaceLeastUptoRow, standIns := [], harness := (true, "f5984df46ba5f99658a886dedaed19105bf950d63b53e9459f06db0baf0c7fe0"), looks := false }, kinds := [], alts := [], laidByText := true, laidKinds := [.data], laidTests := true, laidLooks := .later }
def SpaceLeastUptoCardSaid : Prop := Claim7.holds Tryd.pinned (.plain (OpenSpec.upto spaceLeastSpec)) spaceLeastUptoCard

/-- THE SECOND FORM's CARD OF 'oubliettelaw08.SpaceNone'. -/
def spaceNoneUptoCard : Claim7 := { stood := { row := spaceNoneUptoRow, standIns := [], harness := (true, "f5984df46ba5f99658a886dedaed19105bf950d63b53e9459f06db0baf0c7fe0"), looks := false }, kinds := [], alts := [], laidByText := true, laidKinds := [.data], laidTests := true, laidLooks := .later }
def SpaceNoneUptoCardSaid : Prop := Claim7.holds Tryd.pinned (.plain (OpenSpec.upto spaceNoneSpec)) spaceNoneUptoCard

/-- THE SECOND FORM's CARD OF 'oubliettelaw08.SpaceUndone'. -/
def spaceUndoneUptoCard : Claim7 := { stood := { row := spaceUndoneUptoRow, standIns := [], harness := (true, "f5984df46ba5f99658a886dedaed19105bf950d63b53e9459f06db0baf0c7fe0"), looks := false }, kinds := [], alts := [], laidByText := true, laidKinds := [.data], laidTests := true, laidLooks := .later }
def SpaceUndoneUptoCardSaid : Prop := Claim7.holds Tryd.pinned (.plain (OpenSpec.upto spaceUndoneSpec)) spaceUndoneUptoCard
end Rows
end Go.Proofs.YtkmnmmenjpkkpaaDoor
