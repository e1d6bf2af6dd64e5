/-
  DERIVED. GIVEN WITH THE SEED: THE CARDS: each row of YtibnmhaipogleaaDoorRows.lean that lists a variable, with what it lists TIED to the program's text (the seventh form; the later family's looks); each row that meets fmt, with fmt's text TOLD by the authors' own Lean function (tested against real Go, not proved from fmt's source: count such statements apart). THE CARD IS WHAT COUNTS. Prove the row's statement (the work); the ties are given (YtibnmhaipogleaaDoorTie.lean); close each card by the builder's one call (the guide's Derived/Test/ToyasCard.lean, 'card_holds'). Laid BY PROGRAM, IN A SANDBOX (cutbox-door.mjs). By AI agents, Wed Nov 11 2026. No macro, syntax, notation, axiom, sorry.
-/
import Derived.Test.YtibnmhaipogleaaDoorRows
import GoSem.ClaimSeven
namespace Go.Proofs.YtibnmhaipogleaaDoor
namespace Rows

/-- THE TIED CARD OF 'oubliettelaw06.NodePacks'. -/
def nodePacksCard : Claim7 := { stood := { row := nodePacksRow, standIns := [], harness := (true, "37d8b87dec87f9983e9c432d807bb7b23f9ea90a098441ff5b3bb377be83ea20"), looks := false }, kinds := [], alts := [], laidByText := true, laidKinds := [.data, .data], laidTests := true, laidLooks := .later }
def NodePacksCardSaid : Prop := Claim7.holds Tryd.pinned (.plain (OpenSpec.ofChange nodePacksSpec)) nodePacksCard

/-- THE TIED CARD OF 'oubliettelaw06.NodeUnpacks'. -/
def nodeUnpacksCard : Claim7 := { stood := { row := nodeUnpacksRow, standIns := [], harness := (true, "37d8b87dec87f9983e9c432d807bb7b23f9ea90a098441ff5b3bb377be83ea20"), looks := false }, kinds := [], alts := [], laidByText := true, laidKinds := [.data, .data], laidTests := true, laidLooks := .later }
def NodeUnpacksCardSaid : Prop := Claim7.holds Tryd.pinned (.plain (OpenSpec.ofChange nodeUnpacksSpec)) nodeUnpacksCard

/-- THE TIED CARD OF 'oubliettelaw06.NodeSeals'. -/
def nodeSealsCard : Claim7 := { stood := { row := nodeSealsRow, standIns := [], harness := (true, "37d8b87dec87f9983e9c432d807bb7b23f9ea90a098441ff5b3bb377be83ea20"), looks := false }, kinds := [], alts := [], laidByText := true, laidKinds := [.data, .data], laidTests := true, laidLooks := .later }
def NodeSealsCardSaid : Prop := Claim7.holds Tryd.pinned (.plain (OpenSpec.ofChange nodeSealsSpec)) nodeSealsCard

/-- THE TIED CARD OF 'oubliettelaw06.NodeOpens'. -/
def nodeOpensCard : Claim7 := { stood := { row := nodeOpensRow, standIns := [], harness := (true, "37d8b87dec87f9983e9c432d807bb7b23f9ea90a098441ff5b3bb377be83ea20"), looks := false }, kinds := [], alts := [], laidByText := true, laidKinds := [.data, .data], laidTests := true, laidLooks := .later }
def NodeOpensCardSaid : Prop := Claim7.holds Tryd.pinned (.plain (OpenSpec.ofChange nodeOpensSpec)) nodeOpensCard

/-- THE TIED CARD OF 'oubliettelaw06.NodeTurns'. -/
def nodeTurnsCard : Claim7 := { stood := { row := nodeTurnsRow, standIns := [], harness := (true, "37d8b87dec87f9983e9c432d807bb7b23f9ea90a098441ff5b3bb377be83ea20"), looks := false }, kinds := [], alts := [], laidByText := true, laidKinds := [.data, .data], laidTests := true, laidLooks := .later }
def NodeTurnsCardSaid : Prop := Claim7.holds Tryd.pinned (.plain (OpenSpec.ofChange nodeTurnsSpec)) nodeTurnsCard

/-- THE TIED CARD OF 'oubliettelaw06.NodePlaces'. -/
def nodePlacesCard : Claim7 := { stood := { row := nodePlacesRow, standIns := [], harness := (true, "37d8b87dec87f9983e9c432d807bb7b23f9ea90a098441ff5b3bb377be83ea20"), looks := false }, kinds := [], alts := [], laidByText := true, laidKinds := [.data, .data], laidTests := true, laidLooks := .later }
def NodePlacesCardSaid : Prop := Claim7.holds Tryd.pinned (.plain (OpenSpec.ofChange nodePlacesSpec)) nodePlacesCard

/-- THE TIED CARD OF 'oubliettelaw06.NodeKinds'. -/
def nodeKindsCard : Claim7 := { stood := { row := nodeKindsRow, standIns := [], harness := (true, "37d8b87dec87f9983e9c432d807bb7b23f9ea90a098441ff5b3bb377be83ea20"), looks := false }, kinds := [], alts := [], laidByText := true, laidKinds := [.data, .data], laidTests := true, laidLooks := .later }
def NodeKindsCardSaid : Prop := Claim7.holds Tryd.pinned (.plain (OpenSpec.ofChange nodeKindsSpec)) nodeKindsCard

/-- THE SECOND FORM's CARD OF 'oubliettelaw06.NodePacks'. -/
def nodePacksUptoCard : Claim7 := { stood := { row := nodePacksUptoRow, standIns := [], harness := (true, "37d8b87dec87f9983e9c432d807bb7b23f9ea90a098441ff5b3bb377be83ea20"), looks := false }, kinds := [], alts := [], laidByText := true, laidKinds := [.data, .data], laidTests := true, laidLooks := .later }
def NodePacksUptoCardSaid : Prop := Claim7.holds Tryd.pinned (.plain (OpenSpec.upto nodePacksSpec)) nodePacksUptoCard

/-- THE SECOND FORM's CARD OF 'oubliettelaw06.NodeUnpacks'. -/
def nodeUnpacksUptoCard : Claim7 := { stood := { row := nodeUnpacksUptoRow, standIns := [], harness := (true, "37d8b87dec87f9983e9c432d807bb7b23f9ea90a098441ff5b3bb377be83ea20"), looks := false }, kinds := [], alts := [], laidByText := true, laidKinds := [.data, .data], laidTests := true, laidLooks := .later }
def NodeUnpacksUptoCardSaid : Prop := Claim7.holds Tryd.pinned (.plain (OpenSpec.upto nodeUnpacksSpec)) nodeUnpacksUptoCard

/-- THE SECOND FORM's CARD OF 'oubliettelaw06.NodeSeals'. -/
def nodeSealsUptoCard : Claim7 := { stood := { row := nodeSealsUptoRow, standIns := [], harness := (true, "37d8b87dec87f9983e9c432d807bb7b23f9ea90a098441ff5b3bb377be83ea20"), looks := false }, kinds := [], alts := [], laidByText := true, laidKinds := [.data, .data], laidTests := true, laidLooks := .later }
def NodeSealsUptoCardSaid : Prop := Claim7.holds Tryd.pinned (.plain (OpenSpec.upto nodeSealsSpec)) nodeSealsUptoCard

/-- THE SECOND FORM's CARD OF 'oubliettelaw06.NodeOpens'. -/
def nodeOpensUptoCard : Claim7 := { stood := { row := nodeOpensUptoRow, standIns := [], harness := (true, "37d8b87dec87f9983e9c432d807bb7b23f9ea90a098441ff5b3bb377be83ea20"), looks := false }, kinds := [], alts := [], laidByText := true, laidKinds := [.data, .data], laidTests := true, laidLooks := .later }
def NodeOpensUptoCardSaid : Prop := Claim7.holds Tryd.pinned (.plain (OpenSpec.upto nodeOpensSpec)) nodeOpensUptoCard

/-- THE SECOND FORM's CARD OF 'oubliettelaw06.NodeTurns'. -/
def nodeTurnsUptoCard : Claim7 := { stood := { row := nodeTurnsUptoRow, standIns := [], harness := (true, "37d8b87dec87f9983e9c432d807bb7b23f9ea90a098441ff5b3bb377be83ea20"), looks := false }, kinds := [], alts := [], laidByText := true, laidKinds := [.data, .data], laidTests := true, laidLooks := .later }
def NodeTurnsUptoCardSaid : Prop := Claim7.holds Tryd.pinned (.plain (OpenSpec.upto nodeTurnsSpec)) nodeTurnsUptoCard

/-- THE SECOND FORM's CARD OF 'oubliettelaw06.NodePlaces'. -/
def nodePlacesUptoCard : Claim7 := { stood := { row := nodePlacesUptoRow, standIns := [], harness := (true, "37d8b87dec87f9983e9c432d807bb7b23f9ea90a098441ff5b3bb377be83ea20"), looks := false }, kinds := [], alts := [], laidByText := true, laidKinds := [.data, .data], laidTests := true, laidLooks := .later }
def NodePlacesUptoCardSaid : Prop := Claim7.holds Tryd.pinned (.plain (OpenSpec.upto nodePlacesSpec)) nodePlacesUptoCard

/-- THE SECOND FORM's CARD OF 'oubliettelaw06.NodeKinds'. -/
def nodeKindsUptoCard : Claim7 := { stood := { row := nodeKindsUptoRow, standIns := [], harness := (true, "37d8b87dec87f9983e9c432d807bb7b23f9ea90a098441ff5b3bb377be83ea20"), looks := false }, kinds := [], alts := [], laidByText := true, laidKinds := [.data, .data], laidTests := true, laidLooks := .later }
def NodeKindsUptoCardSaid : Prop := Claim7.holds Tryd.pinned (.plain (OpenSpec.upto nodeKindsSpec)) nodeKindsUptoCard
end Rows
end Go.Proofs.YtibnmhaipogleaaDoor
