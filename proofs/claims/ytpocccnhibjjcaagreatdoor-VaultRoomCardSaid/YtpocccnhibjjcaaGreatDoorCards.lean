/-
  DERIVED. GIVEN WITH THE SEED: THE CARDS: each row of YtpocccnhibjjcaaGreatDoorRows.lean that lists a variable, with what it lists TIED to the program's text (the seventh form; the later family's looks); each row that meets fmt, with fmt's text TOLD by the authors' own Lean function (tested against real Go, not proved from fmt's source: count such statements apart). THE CARD IS WHAT COUNTS. Prove the row's statement (the work); the ties are given (YtpocccnhibjjcaaGreatDoorTie.lean); close each card by the builder's one call (the guide's Derived/Test/ToyasCard.lean, 'card_holds'). Laid BY PROGRAM, IN A SANDBOX (cutbox-door.mjs). By AI agents, Wed Nov 11 2026. No macro, syntax, notation, axiom, sorry.
-/
import Derived.Test.YtpocccnhibjjcaaGreatDoorRows
import GoSem.ClaimSeven
namespace Go.Proofs.YtpocccnhibjjcaaGreatDoor
namespace Rows

/-- THE TIED CARD OF 'oubliettelaw09.VaultNews'. -/
def vaultNewsCard : Claim7 := { stood := { row := vaultNewsRow, standIns := [], harness := (true, "1e80d61f9366bb60790f18ef9789176d1bbd7624f43415327ee05ffc78c95f5c"), looks := true }, kinds := [], alts := [], laidByText := true, laidKinds := [.data, .data, .data], laidTests := true, laidLooks := .later }
def VaultNewsCardSaid : Prop := Claim7.holds Tryz.pinned (.plain (OpenSpec.ofChange vaultNewsSpec)) vaultNewsCard

/-- THE TIED CARD OF 'oubliettelaw09.VaultLasts'. -/
def vaultLastsCard : Claim7 := { stood := { row := vaultLastsRow, standIns := [], harness := (true, "1e80d61f9366bb60790f18ef9789176d1bbd7624f43415327ee05ffc78c95f5c"), looks := true }, kinds := [], alts := [], laidByText := true, laidKinds := [.data, .data, .data], laidTests := true, laidLooks := .later }
def VaultLastsCardSaid : Prop := Claim7.holds Tryz.pinned (.plain (OpenSpec.ofChange vaultLastsSpec)) vaultLastsCard

/-- THE TIED CARD OF 'oubliettelaw09.VaultRoom'. -/
def vaultRoomCard : Claim7 := { stood := { row := vaultRoomRow, standIns := [], harness := (true, "1e80d61f9366bb60790f18ef9789176d1bbd7624f43415327ee05ffc78c95f5c"), looks := true }, kinds := [], alts := [], laidByText := true, laidKinds := [.data, .data, .data], laidTests := true, laidLooks := .later }
def VaultRoomCardSaid : Prop := Claim7.holds Tryz.pinned (.plain (OpenSpec.ofChange vaultRoomSpec)) vaultRoomCard

/-- THE TIED CARD OF 'oubliettelaw09.VaultOthers'. -/
def vaultOthersCard : Claim7 := { stood := { row := vaultOthersRow, standIns := [], harness := (true, "1e80d61f9366bb60790f18ef9789176d1bbd7624f43415327ee05ffc78c95f5c"), looks := true }, kinds := [], alts := [], laidByText := true, laidKinds := [.data, .data, .data], laidTests := true, laidLooks := .later }
def VaultOthersCardSaid : Prop := Claim7.holds Tryz.pinned (.plain (OpenSpec.ofChange vaultOthersSpec)) vaultOthersCard

/-- THE SECOND FORM's CARD OF 'oubliettelaw09.VaultNews'. -/
def vaultNewsUptoCard : Claim7 := { stood := { row := vaultNewsUptoRow, standIns := [], harness := (true, "1e80d61f9366bb60790f18ef9789176d1bbd7624f43415327ee05ffc78c95f5c"), looks := true }, kinds := [], alts := [], laidByText := true, laidKinds := [.data, .data, .data], laidTests := true, laidLooks := .later }
def VaultNewsUptoCardSaid : Prop := Claim7.holds Tryz.pinned (.plain (OpenSpec.upto vaultNewsSpec)) vaultNewsUptoCard

/-- THE SECOND FORM's CARD OF 'oubliettelaw09.VaultLasts'. -/
def vaultLastsUptoCard : Claim7 := { stood := { row := vaultLastsUptoRow, standIns := [], harness := (true, "1e80d61f9366bb60790f18ef9789176d1bbd7624f43415327ee05ffc78c95f5c"), looks := true }, kinds := [], alts := [], laidByText := true, laidKinds := [.data, .data, .data], laidTests := true, laidLooks := .later }
def VaultLastsUptoCardSaid : Prop := Claim7.holds Tryz.pinned (.plain (OpenSpec.upto vaultLastsSpec)) vaultLastsUptoCard

/-- THE SECOND FORM's CARD OF 'oubliettelaw09.VaultRoom'. -/
def vaultRoomUptoCard : Claim7 := { stood := { row := vaultRoomUptoRow, standIns := [], harness := (true, "1e80d61f9366bb60790f18ef9789176d1bbd7624f43415327ee05ffc78c95f5c"), looks := true }, kinds := [], alts := [], laidByText := true, laidKinds := [.data, .data, .data], laidTests := true, laidLooks := .later }
def VaultRoomUptoCardSaid : Prop := Claim7.holds Tryz.pinned (.plain (OpenSpec.upto vaultRoomSpec)) vaultRoomUptoCard

/-- THE SECOND FORM's CARD OF 'oubliettelaw09.VaultOthers'. -/
def vaultOthersUptoCard : Claim7 := { stood := { row := vaultOthersUptoRow, standIns := [], harness := (true, "1e80d61f9366bb60790f18ef9789176d1bbd7624f43415327ee05ffc78c95f5c"), looks := true }, kinds := [], alts := [], laidByText := true, laidKinds := [.data, .data, .data], laidTests := true, laidLooks := .later }
def VaultOthersUptoCardSaid : Prop := Claim7.holds Tryz.pinned (.plain (OpenSpec.upto vaultOthersSpec)) vaultOthersUptoCard
end Rows
end Go.Proofs.YtpocccnhibjjcaaGreatDoor
