/-
  DERIVED. GIVEN WITH THE SEED: THE CARDS: each row of YtlccbekalccahaaGreatDoorRows.lean that lists a variable, with what it lists TIED to the program's text (the seventh form; the later family's looks); each row that meets fmt, with fmt's text TOLD by the authors' own Lean function (tested against real Go, not proved from fmt's source: count such statements apart). THE CARD IS WHAT COUNTS. Prove the row's statement (the work); the ties are given (YtlccbekalccahaaGreatDoorTie.lean); close each card by the builder's one call (the guide's Derived/Test/ToyasCard.lean, 'card_holds'). Laid BY PROGRAM, IN A SANDBOX (cutbox-door.mjs). By AI agents, Wed Nov 11 2026. No macro, syntax, notation, axiom, sorry.
-/
import Derived.Test.YtlccbekalccahaaGreatDoorRows
import GoSem.ClaimSeven
namespace Go.Proofs.YtlccbekalccahaaGreatDoor
namespace Rows

/-- THE TIED CARD OF 'bezantlaw16.FileEncodes'. -/
def fileEncodesCard : Claim7 := { stood := { row := fileEncodesRow, standIns := [], harness := (true, "d8aed2c2de0091aa97cae9f4eebd3f607a4d147a90241b6a737f1a5f1bfb5e03"), looks := true }, kinds := [], alts := [], laidByText := true, laidKinds := [.handle], laidTests := true, laidLooks := .later }
def FileEncodesCardSaid : Prop := Claim7.holds Tryz.pinned (.plain (OpenSpec.ofChange fileEncodesSpec)) fileEncodesCard

/-- THE TIED CARD OF 'bezantlaw16.FileParses'. -/
def fileParsesCard : Claim7 := { stood := { row := fileParsesRow, standIns := [], harness := (true, "d8aed2c2de0091aa97cae9f4eebd3f607a4d147a90241b6a737f1a5f1bfb5e03"), looks := true }, kinds := [], alts := [], laidByText := true, laidKinds := [.handle], laidTests := true, laidLooks := .later }
def FileParsesCardSaid : Prop := Claim7.holds Tryz.pinned (.plain (OpenSpec.ofChange fileParsesSpec)) fileParsesCard

/-- THE TIED CARD OF 'bezantlaw16.FileBack'. -/
def fileBackCard : Claim7 := { stood := { row := fileBackRow, standIns := [], harness := (true, "d8aed2c2de0091aa97cae9f4eebd3f607a4d147a90241b6a737f1a5f1bfb5e03"), looks := true }, kinds := [], alts := [], laidByText := true, laidKinds := [.handle], laidTests := true, laidLooks := .later }
def FileBackCardSaid : Prop := Claim7.holds Tryz.pinned (.plain (OpenSpec.ofChange fileBackSpec)) fileBackCard

/-- THE SECOND FORM's CARD OF 'bezantlaw16.FileEncodes'. -/
def fileEncodesUptoCard : Claim7 := { stood := { row := fileEncodesUptoRow, standIns := [], harness := (true, "d8aed2c2de0091aa97cae9f4eebd3f607a4d147a90241b6a737f1a5f1bfb5e03"), looks := true }, kinds := [], alts := [], laidByText := true, laidKinds := [.handle], laidTests := true, laidLooks := .later }
def FileEncodesUptoCardSaid : Prop := Claim7.holds Tryz.pinned (.plain (OpenSpec.upto fileEncodesSpec)) fileEncodesUptoCard

/-- THE SECOND FORM's CARD OF 'bezantlaw16.FileParses'. -/
def fileParsesUptoCard : Claim7 := { stood := { row := fileParsesUptoRow, standIns := [], harness := (true, "d8aed2c2de0091aa97cae9f4eebd3f607a4d147a90241b6a737f1a5f1bfb5e03"), looks := true }, kinds := [], alts := [], laidByText := true, laidKinds := [.handle], laidTests := true, laidLooks := .later }
def FileParsesUptoCardSaid : Prop := Claim7.holds Tryz.pinned (.plain (OpenSpec.upto fileParsesSpec)) fileParsesUptoCard

/-- THE SECOND FORM's CARD OF 'bezantlaw16.FileBack'. -/
def fileBackUptoCard : Claim7 := { stood := { row := fileBackUptoRow, standIns := [], harness := (true, "d8aed2c2de0091aa97cae9f4eebd3f607a4d147a90241b6a737f1a5f1bfb5e03"), looks := true }, kinds := [], alts := [], laidByText := true, laidKinds := [.handle], laidTests := true, laidLooks := .later }
def FileBackUptoCardSaid : Prop := Claim7.holds Tryz.pinned (.plain (OpenSpec.upto fileBackSpec)) fileBackUptoCard
end Rows
end Go.Proofs.YtlccbekalccahaaGreatDoor
