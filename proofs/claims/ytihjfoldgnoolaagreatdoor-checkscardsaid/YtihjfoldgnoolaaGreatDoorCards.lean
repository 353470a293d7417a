/-
  DERIVED. GIVEN WITH THE SEED: THE CARDS: each row of YtihjfoldgnoolaaGreatDoorRows.lean that lists a variable, with what it lists TIED to the program's text (the seventh form; the later family's looks); each row that meets fmt, with fmt's text TOLD by the authors' own Lean function (tested against real Go, not proved from fmt's source: count such statements apart). THE CARD IS WHAT COUNTS. Prove the row's statement (the work); the ties are given (YtihjfoldgnoolaaGreatDoorTie.lean); close each card by the builder's one call (the guide's Derived/Test/ToyasCard.lean, 'card_holds'). Laid BY PROGRAM, IN A SANDBOX (cutbox-door.mjs). By AI agents, Wed Nov 11 2026. No macro, syntax, notation, axiom, sorry.
-/
import Derived.Test.YtihjfoldgnoolaaGreatDoorRows
import GoSem.ClaimSeven
namespace Go.Proofs.YtihjfoldgnoolaaGreatDoor
namespace Rows

/-- THE TIED CARD OF 'motiflaw.Checks'. -/
def checksCard : Claim7 := { stood := { row := checksRow, standIns := [], harness := (true, "fd7c229c1c3c04c31aa0d3cbbddb14b67e34877e57e7740a5b89743b66a93307"), looks := true }, kinds := [], alts := [], laidByText := true, laidKinds := [.data, .data, .data, .data, .pinned], laidTests := true, laidLooks := .later }
def ChecksCardSaid : Prop := Claim7.holds Tryz.pinned (.plain (OpenSpec.ofChange checksSpec)) checksCard

/-- THE TIED CARD OF 'motiflaw.Matches'. -/
def matchesCard : Claim7 := { stood := { row := matchesRow, standIns := [], harness := (true, "fd7c229c1c3c04c31aa0d3cbbddb14b67e34877e57e7740a5b89743b66a93307"), looks := true }, kinds := [], alts := [], laidByText := true, laidKinds := [.data, .data, .data, .data, .pinned], laidTests := true, laidLooks := .later }
def MatchesCardSaid : Prop := Claim7.holds Tryz.pinned (.plain (OpenSpec.ofChange matchesSpec)) matchesCard

/-- THE TIED CARD OF 'motiflaw.Finds'. -/
def findsCard : Claim7 := { stood := { row := findsRow, standIns := [], harness := (true, "fd7c229c1c3c04c31aa0d3cbbddb14b67e34877e57e7740a5b89743b66a93307"), looks := true }, kinds := [], alts := [], laidByText := true, laidKinds := [.data, .data, .data, .data, .pinned], laidTests := true, laidLooks := .later }
def FindsCardSaid : Prop := Claim7.holds Tryz.pinned (.plain (OpenSpec.ofChange findsSpec)) findsCard

/-- THE TIED CARD OF 'motifkeep.Boolean'. -/
def booleanCard : Claim7 := { stood := { row := booleanRow, standIns := [], harness := (true, "fd7c229c1c3c04c31aa0d3cbbddb14b67e34877e57e7740a5b89743b66a93307"), looks := true }, kinds := [], alts := [], laidByText := true, laidKinds := [.data, .pinned], laidTests := true, laidLooks := .later }
def BooleanCardSaid : Prop := Claim7.holds Tryz.pinned (.plain (OpenSpec.ofChange booleanSpec)) booleanCard

/-- THE TIED CARD OF 'motifkeep.Row'. -/
def rowCard : Claim7 := { stood := { row := rowRow, standIns := [], harness := (true, "fd7c229c1c3c04c31aa0d3cbbddb14b67e34877e57e7740a5b89743b66a93307"), looks := true }, kinds := [], alts := [], laidByText := true, laidKinds := [.data, .pinned], laidTests := true, laidLooks := .later }
def RowCardSaid : Prop := Claim7.holds Tryz.pinned (.plain (OpenSpec.ofChange rowSpec)) rowCard

/-- THE TIED CARD OF 'motifkeep.Found'. -/
def foundCard : Claim7 := { stood := { row := foundRow, standIns := [], harness := (true, "fd7c229c1c3c04c31aa0d3cbbddb14b67e34877e57e7740a5b89743b66a93307"), looks := true }, kinds := [], alts := [], laidByText := true, laidKinds := [.data, .pinned], laidTests := true, laidLooks := .later }
def FoundCardSaid : Prop := Claim7.holds Tryz.pinned (.plain (OpenSpec.ofChange foundSpec)) foundCard

/-- THE TIED CARD OF 'motifkeep.AllFound'. -/
def allFoundCard : Claim7 := { stood := { row := allFoundRow, standIns := [], harness := (true, "fd7c229c1c3c04c31aa0d3cbbddb14b67e34877e57e7740a5b89743b66a93307"), looks := true }, kinds := [], alts := [], laidByText := true, laidKinds := [.data, .data, .data, .data, .pinned], laidTests := true, laidLooks := .later }
def AllFoundCardSaid : Prop := Claim7.holds Tryz.pinned (.plain (OpenSpec.ofChange allFoundSpec)) allFoundCard

/-- THE TIED CARD OF 'motiflaw.Queries'. -/
def queriesCard : Claim7 := { stood := { row := queriesRow, standIns := [], harness := (true, "fd7c229c1c3c04c31aa0d3cbbddb14b67e34877e57e7740a5b89743b66a93307"), looks := true }, kinds := [], alts := [], laidByText := true, laidKinds := [.data, .data, .data, .data, .pinned], laidTests := true, laidLooks := .later }
def QueriesCardSaid : Prop := Claim7.holds Tryz.pinned (.plain (OpenSpec.ofChange queriesSpec)) queriesCard

/-- THE TIED CARD OF 'motifkeep.Witness'. -/
def witnessCard : Claim7 := { stood := { row := witnessRow, standIns := [], harness := (true, "fd7c229c1c3c04c31aa0d3cbbddb14b67e34877e57e7740a5b89743b66a93307"), looks := true }, kinds := [], alts := [], laidByText := true, laidKinds := [.data, .pinned], laidTests := true, laidLooks := .later }
def WitnessCardSaid : Prop := Claim7.holds Tryz.pinned (.plain (OpenSpec.ofChange witnessSpec)) witnessCard

/-- THE TIED CARD OF 'motifkeep.Least'. -/
def leastCard : Claim7 := { stood := { row := leastRow, standIns := [], harness := (true, "fd7c229c1c3c04c31aa0d3cbbddb14b67e34877e57e7740a5b89743b66a93307"), looks := true }, kinds := [], alts := [], laidByText := true, laidKinds := [.data, .pinned], laidTests := true, laidLooks := .later }
def LeastCardSaid : Prop := Claim7.holds Tryz.pinned (.plain (OpenSpec.ofChange leastSpec)) leastCard

/-- THE SECOND FORM's CARD OF 'motiflaw.Checks'. -/
def checksUptoCard : Claim7 := { stood := { row := checksUptoRow, standIns := [], harness := (true, "fd7c229c1c3c04c31aa0d3cbbddb14b67e34877e57e7740a5b89743b66a93307"), looks := true }, kinds := [], alts := [], laidByText := true, laidKinds := [.data, .data, .data, .data, .pinned], laidTests := true, laidLooks := .later }
def ChecksUptoCardSaid : Prop := Claim7.holds Tryz.pinned (.plain (OpenSpec.upto checksSpec)) checksUptoCard

/-- THE SECOND FORM's CARD OF 'motiflaw.Matches'. -/
def matchesUptoCard : Claim7 := { stood := { row := matchesUptoRow, standIns := [], harness := (true, "fd7c229c1c3c04c31aa0d3cbbddb14b67e34877e57e7740a5b89743b66a93307"), looks := true }, kinds := [], alts := [], laidByText := true, laidKinds := [.data, .data, .data, .data, .pinned], laidTests := true, laidLooks := .later }
def MatchesUptoCardSaid : Prop := Claim7.holds Tryz.pinned (.plain (OpenSpec.upto matchesSpec)) matchesUptoCard

/-- THE SECOND FORM's CARD OF 'motiflaw.Finds'. -/
def findsUptoCard : Claim7 := { stood := { row := findsUptoRow, standIns := [], harness := (true, "fd7c229c1c3c04c31aa0d3cbbddb14b67e34877e57e7740a5b89743b66a93307"), looks := true }, kinds := [], alts := [], laidByText := true, laidKinds := [.data, .data, .data, .data, .pinned], laidTests := true, laidLooks := .later }
def FindsUptoCardSaid : Prop := Claim7.holds Tryz.pinned (.plain (OpenSpec.upto findsSpec)) findsUptoCard

/-- THE SECOND FORM's CARD OF 'motifkeep.Boolean'. -/
def booleanUptoCard : Claim7 := { stood := { row := booleanUptoRow, standIns := [], harness := (true, "fd7c229c1c3c04c31aa0d3cbbddb14b67e34877e57e7740a5b89743b66a93307"), looks := true }, kinds := [], alts := [], laidByText := true, laidKinds := [.data, .pinned], laidTests := true, laidLooks := .later }
def BooleanUptoCardSaid : Prop := Claim7.holds Tryz.pinned (.plain (OpenSpec.upto booleanSpec)) booleanUptoCard

/-- THE SECOND FORM's CARD OF 'motifkeep.Row'. -/
def rowUptoCard : Claim7 := { stood := { row := rowUptoRow, standIns := [], harness := (true, "fd7c229c1c3c04c31aa0d3cbbddb14b67e34877e57e7740a5b89743b66a93307"), looks := true }, kinds := [], alts := [], laidByText := true, laidKinds := [.data, .pinned], laidTests := true, laidLooks := .later }
def RowUptoCardSaid : Prop := Claim7.holds Tryz.pinned (.plain (OpenSpec.upto rowSpec)) rowUptoCard

/-- THE SECOND FORM's CARD OF 'motifkeep.Found'. -/
def foundUptoCard : Claim7 := { stood := { row := foundUptoRow, standIns := [], harness := (true, "fd7c229c1c3c04c31aa0d3cbbddb14b67e34877e57e7740a5b89743b66a93307"), looks := true }, kinds := [], alts := [], laidByText := true, laidKinds := [.data, .pinned], laidTests := true, laidLooks := .later }
def FoundUptoCardSaid : Prop := Claim7.holds Tryz.pinned (.plain (OpenSpec.upto foundSpec)) foundUptoCard

/-- THE SECOND FORM's CARD OF 'motifkeep.AllFound'. -/
def allFoundUptoCard : Claim7 := { stood := { row := allFoundUptoRow, standIns := [], harness := (true, "fd7c229c1c3c04c31aa0d3cbbddb14b67e34877e57e7740a5b89743b66a93307"), looks := true }, kinds := [], alts := [], laidByText := true, laidKinds := [.data, .data, .data, .data, .pinned], laidTests := true, laidLooks := .later }
def AllFoundUptoCardSaid : Prop := Claim7.holds Tryz.pinned (.plain (OpenSpec.upto allFoundSpec)) allFoundUptoCard

/-- THE SECOND FORM's CARD OF 'motiflaw.Queries'. -/
def queriesUptoCard : Claim7 := { stood := { row := queriesUptoRow, standIns := [], harness := (true, "fd7c229c1c3c04c31aa0d3cbbddb14b67e34877e57e7740a5b89743b66a93307"), looks := true }, kinds := [], alts := [], laidByText := true, laidKinds := [.data, .data, .data, .data, .pinned], laidTests := true, laidLooks := .later }
def QueriesUptoCardSaid : Prop := Claim7.holds Tryz.pinned (.plain (OpenSpec.upto queriesSpec)) queriesUptoCard

/-- THE SECOND FORM's CARD OF 'motifkeep.Witness'. -/
def witnessUptoCard : Claim7 := { stood := { row := witnessUptoRow, standIns := [], harness := (true, "fd7c229c1c3c04c31aa0d3cbbddb14b67e34877e57e7740a5b89743b66a93307"), looks := true }, kinds := [], alts := [], laidByText := true, laidKinds := [.data, .pinned], laidTests := true, laidLooks := .later }
def WitnessUptoCardSaid : Prop := Claim7.holds Tryz.pinned (.plain (OpenSpec.upto witnessSpec)) witnessUptoCard

/-- THE SECOND FORM's CARD OF 'motifkeep.Least'. -/
def leastUptoCard : Claim7 := { stood := { row := leastUptoRow, standIns := [], harness := (true, "fd7c229c1c3c04c31aa0d3cbbddb14b67e34877e57e7740a5b89743b66a93307"), looks := true }, kinds := [], alts := [], laidByText := true, laidKinds := [.data, .pinned], laidTests := true, laidLooks := .later }
def LeastUptoCardSaid : Prop := Claim7.holds Tryz.pinned (.plain (OpenSpec.upto leastSpec)) leastUptoCard
end Rows
end Go.Proofs.YtihjfoldgnoolaaGreatDoor
