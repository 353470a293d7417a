/-
  DERIVED. GIVEN WITH THE SEED: THE CARDS: each row of YtfolanohokflkabGreatDoorRows.lean that lists a variable, with what it lists TIED to the program's text (the seventh form; the later family's looks); each row that meets fmt, with fmt's text TOLD by the authors' own Lean function (tested against real Go, not proved from fmt's source: count such statements apart). THE CARD IS WHAT COUNTS. Prove the row's statement (the work); the ties are given (YtfolanohokflkabGreatDoorTie.lean); close each card by the builder's one call (the guide's Derived/Test/ToyasCard.lean, 'card_holds'). Laid BY PROGRAM, IN A SANDBOX (cutbox-door.mjs). By AI agents, Wed Nov 11 2026. No macro, syntax, notation, axiom, sorry.
-/
import Derived.Test.YtfolanohokflkabGreatDoorRows
import GoSem.ClaimSeven
namespace Go.Proofs.YtfolanohokflkabGreatDoor
namespace Rows

/-- THE TIED CARD OF 'motifkeep.Runs'. -/
def runsCard : Claim7 := { stood := { row := runsRow, standIns := [], harness := (true, "f86f2771ec443f5f0bac616efa25d9cb57b51fe41662211b8961aa97603f0a7a"), looks := true }, kinds := [], alts := [], laidByText := true, laidKinds := [.data, .data, .data, .data, .pinned], laidTests := true, laidLooks := .later }
def RunsCardSaid : Prop := Claim7.holds Tryz.pinned (.plain (OpenSpec.ofChange runsSpec)) runsCard

/-- THE TIED CARD OF 'motifkeep.Literal'. -/
def literalCard : Claim7 := { stood := { row := literalRow, standIns := [], harness := (true, "f86f2771ec443f5f0bac616efa25d9cb57b51fe41662211b8961aa97603f0a7a"), looks := true }, kinds := [], alts := [], laidByText := true, laidKinds := [.data, .data, .data, .data, .pinned], laidTests := true, laidLooks := .later }
def LiteralCardSaid : Prop := Claim7.holds Tryz.pinned (.plain (OpenSpec.ofChange literalSpec)) literalCard

/-- THE TIED CARD OF 'motifkeep.Patient'. -/
def patientCard : Claim7 := { stood := { row := patientRow, standIns := [], harness := (true, "f86f2771ec443f5f0bac616efa25d9cb57b51fe41662211b8961aa97603f0a7a"), looks := true }, kinds := [], alts := [], laidByText := true, laidKinds := [.data, .data, .data, .data, .pinned], laidTests := true, laidLooks := .later }
def PatientCardSaid : Prop := Claim7.holds Tryz.pinned (.plain (OpenSpec.ofChange patientSpec)) patientCard

/-- THE TIED CARD OF 'motiflaw.All'. -/
def allCard : Claim7 := { stood := { row := allRow, standIns := [], harness := (true, "f86f2771ec443f5f0bac616efa25d9cb57b51fe41662211b8961aa97603f0a7a"), looks := true }, kinds := [], alts := [], laidByText := true, laidKinds := [.data, .data, .data, .data, .pinned], laidTests := true, laidLooks := .later }
def AllCardSaid : Prop := Claim7.holds Tryz.pinned (.plain (OpenSpec.ofChange allSpec)) allCard

/-- THE SECOND FORM's CARD OF 'motifkeep.Runs'. -/
def runsUptoCard : Claim7 := { stood := { row := runsUptoRow, standIns := [], harness := (true, "f86f2771ec443f5f0bac616efa25d9cb57b51fe41662211b8961aa97603f0a7a"), looks := true }, kinds := [], alts := [], laidByText := true, laidKinds := [.data, .data, .data, .data, .pinned], laidTests := true, laidLooks := .later }
def RunsUptoCardSaid : Prop := Claim7.holds Tryz.pinned (.plain (OpenSpec.upto runsSpec)) runsUptoCard

/-- THE SECOND FORM's CARD OF 'motifkeep.Literal'. -/
def literalUptoCard : Claim7 := { stood := { row := literalUptoRow, standIns := [], harness := (true, "f86f2771ec443f5f0bac616efa25d9cb57b51fe41662211b8961aa97603f0a7a"), looks := true }, kinds := [], alts := [], laidByText := true, laidKinds := [.data, .data, .data, .data, .pinned], laidTests := true, laidLooks := .later }
def LiteralUptoCardSaid : Prop := Claim7.holds Tryz.pinned (.plain (OpenSpec.upto literalSpec)) literalUptoCard

/-- THE SECOND FORM's CARD OF 'motifkeep.Patient'. -/
def patientUptoCard : Claim7 := { stood := { row := patientUptoRow, standIns := [], harness := (true, "f86f2771ec443f5f0bac616efa25d9cb57b51fe41662211b8961aa97603f0a7a"), looks := true }, kinds := [], alts := [], laidByText := true, laidKinds := [.data, .data, .data, .data, .pinned], laidTests := true, laidLooks := .later }
def PatientUptoCardSaid : Prop := Claim7.holds Tryz.pinned (.plain (OpenSpec.upto patientSpec)) patientUptoCard

/-- THE SECOND FORM's CARD OF 'motiflaw.All'. -/
def allUptoCard : Claim7 := { stood := { row := allUptoRow, standIns := [], harness := (true, "f86f2771ec443f5f0bac616efa25d9cb57b51fe41662211b8961aa97603f0a7a"), looks := true }, kinds := [], alts := [], laidByText := true, laidKinds := [.data, .data, .data, .data, .pinned], laidTests := true, laidLooks := .later }
def AllUptoCardSaid : Prop := Claim7.holds Tryz.pinned (.plain (OpenSpec.upto allSpec)) allUptoCard
end Rows
end Go.Proofs.YtfolanohokflkabGreatDoor
