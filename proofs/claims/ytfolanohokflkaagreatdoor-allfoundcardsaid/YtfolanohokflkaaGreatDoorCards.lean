/-
  DERIVED. GIVEN WITH THE SEED: THE CARDS: each row of YtfolanohokflkaaGreatDoorRows.lean that lists a variable, with what it lists TIED to the program's text (the seventh form; the later family's looks); each row that meets fmt, with fmt's text TOLD by the authors' own Lean function (tested against real Go, not proved from fmt's source: count such statements apart). THE CARD IS WHAT COUNTS. Prove the row's statement (the work); the ties are given (YtfolanohokflkaaGreatDoorTie.lean); close each card by the builder's one call (the guide's Derived/Test/ToyasCard.lean, 'card_holds'). Laid BY PROGRAM, IN A SANDBOX (cutbox-door.mjs). By AI agents, Wed Nov 11 2026. No macro, syntax, notation, axiom, sorry.
-/
import Derived.Test.YtfolanohokflkaaGreatDoorRows
import GoSem.ClaimSeven
namespace Go.Proofs.YtfolanohokflkaaGreatDoor
namespace Rows

/-- THE TIED CARD OF 'motiflaw.Checks'. -/
def checksCard : Claim7 := { stood := { row := checksRow, standIns := [], harness := (true, "afe40d932d7ef5a5983c94b4c616041a1dc68fd691b97f98a68760886af688ce"), looks := true }, kinds := [], alts := [], laidByText := true, laidKinds := [.data, .data, .data, .data, .pinned], laidTests := true, laidLooks := .later }
def ChecksCardSaid : Prop := Claim7.holds Tryz.pinned (.plain (OpenSpec.ofChange checksSpec)) checksCard

/-- THE TIED CARD OF 'motiflaw.Matches'. -/
def matchesCard : Claim7 := { stood := { row := matchesRow, standIns := [], harness := (true, "afe40d932d7ef5a5983c94b4c616041a1dc68fd691b97f98a68760886af688ce"), looks := true }, kinds := [], alts := [], laidByText := true, laidKinds := [.data, .data, .data, .data, .pinned], laidTests := true, laidLooks := .later }
def MatchesCardSaid : Prop := Claim7.holds Tryz.pinned (.plain (OpenSpec.ofChange matchesSpec)) matchesCard

/-- THE TIED CARD OF 'motiflaw.Finds'. -/
def findsCard : Claim7 := { stood := { row := findsRow, standIns := [], harness := (true, "afe40d932d7ef5a5983c94b4c616041a1dc68fd691b97f98a68760886af688ce"), looks := true }, kinds := [], alts := [], laidByText := true, laidKinds := [.data, .data, .data, .data, .pinned], laidTests := true, laidLooks := .later }
def FindsCardSaid : Prop := Claim7.holds Tryz.pinned (.plain (OpenSpec.ofChange findsSpec)) findsCard

/-- THE TIED CARD OF 'motifkeep.Boolean'. -/
def booleanCard : Claim7 := { stood := { row := booleanRow, standIns := [], harness := (true, "afe40d932d7ef5a5983c94b4c616041a1dc68fd691b97f98a68760886af688ce"), looks := true }, kinds := [], alts := [], laidByText := true, laidKinds := [.data, .pinned], laidTests := true, laidLooks := .later }
def BooleanCardSaid : Prop := Claim7.holds Tryz.pinned (.plain (OpenSpec.ofChange booleanSpec)) booleanCard

/-- THE TIED CARD OF 'motifkeep.Row'. -/
def rowCard : Claim7 := { stood := { row := rowRow, standIns := [], harness := (true, "afe40d932d7ef5a5983c94b4c616041a1dc68fd691b97f98a68760886af688ce"), looks := true }, kinds := [], alts := [], laidByText := true, laidKinds := [.data, .pinned], laidTests := true, laidLooks := .later }
def RowCardSaid : Prop := Claim7.holds Tryz.pinned (.plain (OpenSpec.ofChange rowSpec)) rowCard

/-- THE TIED CARD OF 'motifkeep.Found'. -/
def foundCard : Claim7 := { stood := { row := foundRow, standIns := [], harness := (true, "afe40d932d7ef5a5983c94b4c616041a1dc68fd691b97f98a68760886af688ce"), looks := true }, kinds := [], alts := [], laidByText := true, laidKinds := [.data, .pinned], laidTests := true, laidLooks := .later }
def FoundCardSaid : Prop := Claim7.holds Tryz.pinned (.plain (OpenSpec.ofChange foundSpec)) foundCard

/-- THE TIED CARD OF 'motifkeep.AllFound'. -/
def allFoundCard : Claim7 := { stood := { row := allFoundRow, standIns := [], harness := (true, "afe40d932d7ef5a5983c94b4c616041a1dc68fd691b97f98a68760886af688ce"), looks := true }, kinds := [], alts := [], laidByText := true, laidKinds := [.data, .data, .data, .data, .pinned], laidTests := true, laidLooks := .later }
def AllFoundCardSaid : Prop := Claim7.holds Tryz.pinned (.plain (OpenSpec.ofChange allFoundSpec)) allFoundCard

/-- THE TIED CARD OF 'motiflaw.Queries'. -/
def queriesCard : Claim7 := { stood := { row := queriesRow, standIns := [], harness := (true, "afe40d932d7ef5a5983c94b4c616041a1dc68fd691b97f98a68760886af688ce"), looks := true }, kinds := [], alts := [], laidByText := true, laidKinds := [.data, .data, .data, .data, .pinned], laidTests := true, laidLooks := .later }
def QueriesCardSaid : Prop := Claim7.holds Tryz.pinned (.plain (OpenSpec.ofChange queriesSpec)) queriesCard

/-- THE TIED CARD OF 'motifkeep.Witness'. -/
def witnessCard : Claim7 := { stood := { row := witnessRow, standIns := [], harness := (true, "afe40d932d7ef5a5983c94b4c616041a1dc68fd691b97f98a68760886af688ce"), looks := true }, kinds := [], alts := [], laidByText := true, laidKinds := [.data, .pinned], laidTests := true, laidLooks := .later }
def WitnessCardSaid : Prop := Claim7.holds Tryz.pinned (.plain (OpenSpec.ofChange witnessSpec)) witnessCard

/-- THE TIED CARD OF 'motifkeep.Least'. -/
def leastCard : Claim7 := { stood := { row := leastRow, standIns := [], harness := (true, "afe40d932d7ef5a5983c94b4c616041a1dc68fd691b97f98a68760886af688ce"), looks := true }, kinds := [], alts := [], laidByText := true, laidKinds := [.data, .pinned], laidTests := true, laidLooks := .later }
def LeastCardSaid : Prop := Claim7.holds Tryz.pinned (.plain (OpenSpec.ofChange leastSpec)) leastCard

/-- THE TIED CARD OF 'motiflaw.Minimals'. -/
def minimalsCard : Claim7 := { stood := { row := minimalsRow, standIns := [], harness := (true, "afe40d932d7ef5a5983c94b4c616041a1dc68fd691b97f98a68760886af688ce"), looks := true }, kinds := [], alts := [], laidByText := true, laidKinds := [.data, .data, .data, .data, .pinned], laidTests := true, laidLooks := .later }
def MinimalsCardSaid : Prop := Claim7.holds Tryz.pinned (.plain (OpenSpec.ofChange minimalsSpec)) minimalsCard

/-- THE TIED CARD OF 'motifkeep.Canon'. -/
def canonCard : Claim7 := { stood := { row := canonRow, standIns := [], harness := (true, "afe40d932d7ef5a5983c94b4c616041a1dc68fd691b97f98a68760886af688ce"), looks := true }, kinds := [], alts := [], laidByText := true, laidKinds := [.data, .data, .data, .data, .pinned], laidTests := true, laidLooks := .later }
def CanonCardSaid : Prop := Claim7.holds Tryz.pinned (.plain (OpenSpec.ofChange canonSpec)) canonCard

/-- THE SECOND FORM's CARD OF 'motiflaw.Checks'. -/
def checksUptoCard : Claim7 := { stood := { row := checksUptoRow, standIns := [], harness := (true, "afe40d932d7ef5a5983c94b4c616041a1dc68fd691b97f98a68760886af688ce"), looks := true }, kinds := [], alts := [], laidByText := true, laidKinds := [.data, .data, .data, .data, .pinned], laidTests := true, laidLooks := .later }
def ChecksUptoCardSaid : Prop := Claim7.holds Tryz.pinned (.plain (OpenSpec.upto checksSpec)) checksUptoCard

/-- THE SECOND FORM's CARD OF 'motiflaw.Matches'. -/
def matchesUptoCard : Claim7 := { stood := { row := matchesUptoRow, standIns := [], harness := (true, "afe40d932d7ef5a5983c94b4c616041a1dc68fd691b97f98a68760886af688ce"), looks := true }, kinds := [], alts := [], laidByText := true, laidKinds := [.data, .data, .data, .data, .pinned], laidTests := true, laidLooks := .later }
def MatchesUptoCardSaid : Prop := Claim7.holds Tryz.pinned (.plain (OpenSpec.upto matchesSpec)) matchesUptoCard

/-- THE SECOND FORM's CARD OF 'motiflaw.Finds'. -/
def findsUptoCard : Claim7 := { stood := { row := findsUptoRow, standIns := [], harness := (true, "afe40d932d7ef5a5983c94b4c616041a1dc68fd691b97f98a68760886af688ce"), looks := true }, kinds := [], alts := [], laidByText := true, laidKinds := [.data, .data, .data, .data, .pinned], laidTests := true, laidLooks := .later }
def FindsUptoCardSaid : Prop := Claim7.holds Tryz.pinned (.plain (OpenSpec.upto findsSpec)) findsUptoCard

/-- THE SECOND FORM's CARD OF 'motifkeep.Boolean'. -/
def booleanUptoCard : Claim7 := { stood := { row := booleanUptoRow, standIns := [], harness := (true, "afe40d932d7ef5a5983c94b4c616041a1dc68fd691b97f98a68760886af688ce"), looks := true }, kinds := [], alts := [], laidByText := true, laidKinds := [.data, .pinned], laidTests := true, laidLooks := .later }
def BooleanUptoCardSaid : Prop := Claim7.holds Tryz.pinned (.plain (OpenSpec.upto booleanSpec)) booleanUptoCard

/-- THE SECOND FORM's CARD OF 'motifkeep.Row'. -/
def rowUptoCard : Claim7 := { stood := { row := rowUptoRow, standIns := [], harness := (true, "afe40d932d7ef5a5983c94b4c616041a1dc68fd691b97f98a68760886af688ce"), looks := true }, kinds := [], alts := [], laidByText := true, laidKinds := [.data, .pinned], laidTests := true, laidLooks := .later }
def RowUptoCardSaid : Prop := Claim7.holds Tryz.pinned (.plain (OpenSpec.upto rowSpec)) rowUptoCard

/-- THE SECOND FORM's CARD OF 'motifkeep.Found'. -/
def foundUptoCard : Claim7 := { stood := { row := foundUptoRow, standIns := [], harness := (true, "afe40d932d7ef5a5983c94b4c616041a1dc68fd691b97f98a68760886af688ce"), looks := true }, kinds := [], alts := [], laidByText := true, laidKinds := [.data, .pinned], laidTests := true, laidLooks := .later }
def FoundUptoCardSaid : Prop := Claim7.holds Tryz.pinned (.plain (OpenSpec.upto foundSpec)) foundUptoCard

/-- THE SECOND FORM's CARD OF 'motifkeep.AllFound'. -/
def allFoundUptoCard : Claim7 := { stood := { row := allFoundUptoRow, standIns := [], harness := (true, "afe40d932d7ef5a5983c94b4c616041a1dc68fd691b97f98a68760886af688ce"), looks := true }, kinds := [], alts := [], laidByText := true, laidKinds := [.data, .data, .data, .data, .pinned], laidTests := true, laidLooks := .later }
def AllFoundUptoCardSaid : Prop := Claim7.holds Tryz.pinned (.plain (OpenSpec.upto allFoundSpec)) allFoundUptoCard

/-- THE SECOND FORM's CARD OF 'motiflaw.Queries'. -/
def queriesUptoCard : Claim7 := { stood := { row := queriesUptoRow, standIns := [], harness := (true, "afe40d932d7ef5a5983c94b4c616041a1dc68fd691b97f98a68760886af688ce"), looks := true }, kinds := [], alts := [], laidByText := true, laidKinds := [.data, .data, .data, .data, .pinned], laidTests := true, laidLooks := .later }
def QueriesUptoCardSaid : Prop := Claim7.holds Tryz.pinned (.plain (OpenSpec.upto queriesSpec)) queriesUptoCard

/-- THE SECOND FORM's CARD OF 'motifkeep.Witness'. -/
def witnessUptoCard : Claim7 := { stood := { row := witnessUptoRow, standIns := [], harness := (true, "afe40d932d7ef5a5983c94b4c616041a1dc68fd691b97f98a68760886af688ce"), looks := true }, kinds := [], alts := [], laidByText := true, laidKinds := [.data, .pinned], laidTests := true, laidLooks := .later }
def WitnessUptoCardSaid : Prop := Claim7.holds Tryz.pinned (.plain (OpenSpec.upto witnessSpec)) witnessUptoCard

/-- THE SECOND FORM's CARD OF 'motifkeep.Least'. -/
def leastUptoCard : Claim7 := { stood := { row := leastUptoRow, standIns := [], harness := (true, "afe40d932d7ef5a5983c94b4c616041a1dc68fd691b97f98a68760886af688ce"), looks := true }, kinds := [], alts := [], laidByText := true, laidKinds := [.data, .pinned], laidTests := true, laidLooks := .later }
def LeastUptoCardSaid : Prop := Claim7.holds Tryz.pinned (.plain (OpenSpec.upto leastSpec)) leastUptoCard

/-- THE SECOND FORM's CARD OF 'motiflaw.Minimals'. -/
def minimalsUptoCard : Claim7 := { stood := { row := minimalsUptoRow, standIns := [], harness := (true, "afe40d932d7ef5a5983c94b4c616041a1dc68fd691b97f98a68760886af688ce"), looks := true }, kinds := [], alts := [], laidByText := true, laidKinds := [.data, .data, .data, .data, .pinned], laidTests := true, laidLooks := .later }
def MinimalsUptoCardSaid : Prop := Claim7.holds Tryz.pinned (.plain (OpenSpec.upto minimalsSpec)) minimalsUptoCard

/-- THE SECOND FORM's CARD OF 'motifkeep.Canon'. -/
def canonUptoCard : Claim7 := { stood := { row := canonUptoRow, standIns := [], harness := (true, "afe40d932d7ef5a5983c94b4c616041a1dc68fd691b97f98a68760886af688ce"), looks := true }, kinds := [], alts := [], laidByText := true, laidKinds := [.data, .data, .data, .data, .pinned], laidTests := true, laidLooks := .later }
def CanonUptoCardSaid : Prop := Claim7.holds Tryz.pinned (.plain (OpenSpec.upto canonSpec)) canonUptoCard
end Rows
end Go.Proofs.YtfolanohokflkaaGreatDoor
