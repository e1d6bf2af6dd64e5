/-
  DERIVED. GIVEN WITH THE SEED: THE CARDS: each row of YtijffkklhgnknaaDoorRows.lean that lists a variable, with what it lists TIED to the program's text (the seventh form; the later family's looks); each row that meets fmt, with fmt's text TOLD by the authors' own Lean function (tested against real Go, not proved from fmt's source: count such statements apart). THE CARD IS WHAT COUNTS. Prove the row's statement (the work); the ties are given (YtijffkklhgnknaaDoorTie.lean); close each card by the builder's one call (the guide's Derived/Test/ToyasCard.lean, 'card_holds'). Laid BY PROGRAM, IN A SANDBOX (cutbox-door.mjs). By AI agents, Wed Nov 11 2026. No macro, syntax, notation, axiom, sorry.
-/
import Derived.Test.YtijffkklhgnknaaDoorRows
import GoSem.ClaimSeven
namespace Go.Proofs.YtijffkklhgnknaaDoor
namespace Rows

/-- THE TIED CARD OF 'oubliettelaw14.DirLeaves'. -/
def dirLeavesCard : Claim7 := { stood := { row := dirLeavesRow, standIns := [], harness := (true, "147203ae4b288c8b1f5478040930a0cfab41e9f92f48759bdccf90802748b661"), looks := false }, kinds := [], alts := [], laidByText := true, laidKinds := [.data, .pinned], laidTests := true, laidLooks := .later }
def DirLeavesCardSaid : Prop := Claim7.holds Tryd.pinned (.plain (OpenSpec.ofChange dirLeavesSpec)) dirLeavesCard

/-- THE TIED CARD OF 'oubliettelaw14.DirParses'. -/
def dirParsesCard : Claim7 := { stood := { row := dirParsesRow, standIns := [], harness := (true, "147203ae4b288c8b1f5478040930a0cfab41e9f92f48759bdccf90802748b661"), looks := false }, kinds := [], alts := [], laidByText := true, laidKinds := [.data, .pinned], laidTests := true, laidLooks := .later }
def DirParsesCardSaid : Prop := Claim7.holds Tryd.pinned (.plain (OpenSpec.ofChange dirParsesSpec)) dirParsesCard

/-- THE TIED CARD OF 'oubliettelaw14.DirTold'. -/
def dirToldCard : Claim7 := { stood := { row := dirToldRow, standIns := [], harness := (true, "147203ae4b288c8b1f5478040930a0cfab41e9f92f48759bdccf90802748b661"), looks := false }, kinds := [], alts := [], laidByText := true, laidKinds := [.data, .pinned], laidTests := true, laidLooks := .later }
def DirToldCardSaid : Prop := Claim7.holds Tryd.pinned (.plain (OpenSpec.ofChange dirToldSpec)) dirToldCard

/-- THE TIED CARD OF 'oubliettelaw14.DirGoes'. -/
def dirGoesCard : Claim7 := { stood := { row := dirGoesRow, standIns := [], harness := (true, "147203ae4b288c8b1f5478040930a0cfab41e9f92f48759bdccf90802748b661"), looks := false }, kinds := [], alts := [], laidByText := true, laidKinds := [.data, .pinned], laidTests := true, laidLooks := .later }
def DirGoesCardSaid : Prop := Claim7.holds Tryd.pinned (.plain (OpenSpec.ofChange dirGoesSpec)) dirGoesCard

/-- THE TIED CARD OF 'oubliettelaw14.DirMore'. -/
def dirMoreCard : Claim7 := { stood := { row := dirMoreRow, standIns := [], harness := (true, "147203ae4b288c8b1f5478040930a0cfab41e9f92f48759bdccf90802748b661"), looks := false }, kinds := [], alts := [], laidByText := true, laidKinds := [.data, .pinned], laidTests := true, laidLooks := .later }
def DirMoreCardSaid : Prop := Claim7.holds Tryd.pinned (.plain (OpenSpec.ofChange dirMoreSpec)) dirMoreCard

/-- THE TIED CARD OF 'oubliettelaw14.DirFinds'. -/
def dirFindsCard : Claim7 := { stood := { row := dirFindsRow, standIns := [], harness := (true, "147203ae4b288c8b1f5478040930a0cfab41e9f92f48759bdccf90802748b661"), looks := false }, kinds := [], alts := [], laidByText := true, laidKinds := [.data, .pinned], laidTests := true, laidLooks := .later }
def DirFindsCardSaid : Prop := Claim7.holds Tryd.pinned (.plain (OpenSpec.ofChange dirFindsSpec)) dirFindsCard

/-- THE SECOND FORM's CARD OF 'oubliettelaw14.DirLeaves'. -/
def dirLeavesUptoCard : Claim7 := { stood := { row := dirLeavesUptoRow, standIns := [], harness := (true, "147203ae4b288c8b1f5478040930a0cfab41e9f92f48759bdccf90802748b661"), looks := false }, kinds := [], alts := [], laidByText := true, laidKinds := [.data, .pinned], laidTests := true, laidLooks := .later }
def DirLeavesUptoCardSaid : Prop := Claim7.holds Tryd.pinned (.plain (OpenSpec.upto dirLeavesSpec)) dirLeavesUptoCard

/-- THE SECOND FORM's CARD OF 'oubliettelaw14.DirParses'. -/
def dirParsesUptoCard : Claim7 := { stood := { row := dirParsesUptoRow, standIns := [], harness := (true, "147203ae4b288c8b1f5478040930a0cfab41e9f92f48759bdccf90802748b661"), looks := false }, kinds := [], alts := [], laidByText := true, laidKinds := [.data, .pinned], laidTests := true, laidLooks := .later }
def DirParsesUptoCardSaid : Prop := Claim7.holds Tryd.pinned (.plain (OpenSpec.upto dirParsesSpec)) dirParsesUptoCard

/-- THE SECOND FORM's CARD OF 'oubliettelaw14.DirTold'. -/
def dirToldUptoCard : Claim7 := { stood := { row := dirToldUptoRow, standIns := [], harness := (true, "147203ae4b288c8b1f5478040930a0cfab41e9f92f48759bdccf90802748b661"), looks := false }, kinds := [], alts := [], laidByText := true, laidKinds := [.data, .pinned], laidTests := true, laidLooks := .later }
def DirToldUptoCardSaid : Prop := Claim7.holds Tryd.pinned (.plain (OpenSpec.upto dirToldSpec)) dirToldUptoCard

/-- THE SECOND FORM's CARD OF 'oubliettelaw14.DirGoes'. -/
def dirGoesUptoCard : Claim7 := { stood := { row := dirGoesUptoRow, standIns := [], harness := (true, "147203ae4b288c8b1f5478040930a0cfab41e9f92f48759bdccf90802748b661"), looks := false }, kinds := [], alts := [], laidByText := true, laidKinds := [.data, .pinned], laidTests := true, laidLooks := .later }
def DirGoesUptoCardSaid : Prop := Claim7.holds Tryd.pinned (.plain (OpenSpec.upto dirGoesSpec)) dirGoesUptoCard

/-- THE SECOND FORM's CARD OF 'oubliettelaw14.DirMore'. -/
def dirMoreUptoCard : Claim7 := { stood := { row := dirMoreUptoRow, standIns := [], harness := (true, "147203ae4b288c8b1f5478040930a0cfab41e9f92f48759bdccf90802748b661"), looks := false }, kinds := [], alts := [], laidByText := true, laidKinds := [.data, .pinned], laidTests := true, laidLooks := .later }
def DirMoreUptoCardSaid : Prop := Claim7.holds Tryd.pinned (.plain (OpenSpec.upto dirMoreSpec)) dirMoreUptoCard

/-- THE SECOND FORM's CARD OF 'oubliettelaw14.DirFinds'. -/
def dirFindsUptoCard : Claim7 := { stood := { row := dirFindsUptoRow, standIns := [], harness := (true, "147203ae4b288c8b1f5478040930a0cfab41e9f92f48759bdccf90802748b661"), looks := false }, kinds := [], alts := [], laidByText := true, laidKinds := [.data, .pinned], laidTests := true, laidLooks := .later }
def DirFindsUptoCardSaid : Prop := Claim7.holds Tryd.pinned (.plain (OpenSpec.upto dirFindsSpec)) dirFindsUptoCard
end Rows
end Go.Proofs.YtijffkklhgnknaaDoor
