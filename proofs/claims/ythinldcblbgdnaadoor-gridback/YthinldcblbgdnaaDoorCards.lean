/-
  DERIVED. GIVEN WITH THE SEED: THE CARDS: each row of YthinldcblbgdnaaDoorRows.lean that lists a variable, with what it lists TIED to the program's text (the seventh form; the later family's looks); each row that meets fmt, with fmt's text TOLD by the authors' own Lean function (tested against real Go, not proved from fmt's source: count such statements apart). THE CARD IS WHAT COUNTS. Prove the row's statement (the work); the ties are given (YthinldcblbgdnaaDoorTie.lean); close each card by the builder's one call (the guide's Derived/Test/ToyasCard.lean, 'card_holds'). Laid BY PROGRAM, IN A SANDBOX (cutbox-door.mjs). By AI agents, Wed Nov 11 2026. No macro, syntax, notation, axiom, sorry.
-/
import Derived.Test.YthinldcblbgdnaaDoorRows
import GoSem.ClaimSeven
namespace Go.Proofs.YthinldcblbgdnaaDoor
namespace Rows

/-- THE TIED CARD OF 'skirmishlaw05.GridReads'. -/
def gridReadsCard : Claim7 := { stood := { row := gridReadsRow, standIns := [], harness := (true, "31586786edc3dd4012ea5031a1325415b94a10af6652ca8648aba1107d3df3c9"), looks := false }, kinds := [], alts := [], laidByText := true, laidKinds := [.data, .pinned], laidTests := true, laidLooks := .later }
def GridReadsCardSaid : Prop := Claim7.holds Tryd.pinned (.plain (OpenSpec.ofChange gridReadsSpec)) gridReadsCard

/-- THE TIED CARD OF 'skirmishlaw05.GridAsks'. -/
def gridAsksCard : Claim7 := { stood := { row := gridAsksRow, standIns := [], harness := (true, "31586786edc3dd4012ea5031a1325415b94a10af6652ca8648aba1107d3df3c9"), looks := false }, kinds := [], alts := [], laidByText := true, laidKinds := [.data, .pinned], laidTests := true, laidLooks := .later }
def GridAsksCardSaid : Prop := Claim7.holds Tryd.pinned (.plain (OpenSpec.ofChange gridAsksSpec)) gridAsksCard

/-- THE TIED CARD OF 'skirmishlaw05.GridBack'. -/
def gridBackCard : Claim7 := { stood := { row := gridBackRow, standIns := [], harness := (true, "31586786edc3dd4012ea5031a1325415b94a10af6652ca8648aba1107d3df3c9"), looks := false }, kinds := [], alts := [], laidByText := true, laidKinds := [.data, .pinned], laidTests := true, laidLooks := .later }
def GridBackCardSaid : Prop := Claim7.holds Tryd.pinned (.plain (OpenSpec.ofChange gridBackSpec)) gridBackCard

/-- THE TIED CARD OF 'skirmishlaw05.GridSeen'. -/
def gridSeenCard : Claim7 := { stood := { row := gridSeenRow, standIns := [], harness := (true, "31586786edc3dd4012ea5031a1325415b94a10af6652ca8648aba1107d3df3c9"), looks := false }, kinds := [], alts := [], laidByText := true, laidKinds := [.data, .pinned], laidTests := true, laidLooks := .later }
def GridSeenCardSaid : Prop := Claim7.holds Tryd.pinned (.plain (OpenSpec.ofChange gridSeenSpec)) gridSeenCard

/-- THE TIED CARD OF 'skirmishlaw05.GridLines'. -/
def gridLinesCard : Claim7 := { stood := { row := gridLinesRow, standIns := [], harness := (true, "31586786edc3dd4012ea5031a1325415b94a10af6652ca8648aba1107d3df3c9"), looks := false }, kinds := [], alts := [], laidByText := true, laidKinds := [.data, .pinned], laidTests := true, laidLooks := .later }
def GridLinesCardSaid : Prop := Claim7.holds Tryd.pinned (.plain (OpenSpec.ofChange gridLinesSpec)) gridLinesCard

/-- THE SECOND FORM's CARD OF 'skirmishlaw05.GridReads'. -/
def gridReadsUptoCard : Claim7 := { stood := { row := gridReadsUptoRow, standIns := [], harness := (true, "31586786edc3dd4012ea5031a1325415b94a10af6652ca8648aba1107d3df3c9"), looks := false }, kinds := [], alts := [], laidByText := true, laidKinds := [.data, .pinned], laidTests := true, laidLooks := .later }
def GridReadsUptoCardSaid : Prop := Claim7.holds Tryd.pinned (.plain (OpenSpec.upto gridReadsSpec)) gridReadsUptoCard

/-- THE SECOND FORM's CARD OF 'skirmishlaw05.GridAsks'. -/
def gridAsksUptoCard : Claim7 := { stood := { row := gridAsksUptoRow, standIns := [], harness := (true, "31586786edc3dd4012ea5031a1325415b94a10af6652ca8648aba1107d3df3c9"), looks := false }, kinds := [], alts := [], laidByText := true, laidKinds := [.data, .pinned], laidTests := true, laidLooks := .later }
def GridAsksUptoCardSaid : Prop := Claim7.holds Tryd.pinned (.plain (OpenSpec.upto gridAsksSpec)) gridAsksUptoCard

/-- THE SECOND FORM's CARD OF 'skirmishlaw05.GridBack'. -/
def gridBackUptoCard : Claim7 := { stood := { row := gridBackUptoRow, standIns := [], harness := (true, "31586786edc3dd4012ea5031a1325415b94a10af6652ca8648aba1107d3df3c9"), looks := false }, kinds := [], alts := [], laidByText := true, laidKinds := [.data, .pinned], laidTests := true, laidLooks := .later }
def GridBackUptoCardSaid : Prop := Claim7.holds Tryd.pinned (.plain (OpenSpec.upto gridBackSpec)) gridBackUptoCard

/-- THE SECOND FORM's CARD OF 'skirmishlaw05.GridSeen'. -/
def gridSeenUptoCard : Claim7 := { stood := { row := gridSeenUptoRow, standIns := [], harness := (true, "31586786edc3dd4012ea5031a1325415b94a10af6652ca8648aba1107d3df3c9"), looks := false }, kinds := [], alts := [], laidByText := true, laidKinds := [.data, .pinned], laidTests := true, laidLooks := .later }
def GridSeenUptoCardSaid : Prop := Claim7.holds Tryd.pinned (.plain (OpenSpec.upto gridSeenSpec)) gridSeenUptoCard

/-- THE SECOND FORM's CARD OF 'skirmishlaw05.GridLines'. -/
def gridLinesUptoCard : Claim7 := { stood := { row := gridLinesUptoRow, standIns := [], harness := (true, "31586786edc3dd4012ea5031a1325415b94a10af6652ca8648aba1107d3df3c9"), looks := false }, kinds := [], alts := [], laidByText := true, laidKinds := [.data, .pinned], laidTests := true, laidLooks := .later }
def GridLinesUptoCardSaid : Prop := Claim7.holds Tryd.pinned (.plain (OpenSpec.upto gridLinesSpec)) gridLinesUptoCard
end Rows
end Go.Proofs.YthinldcblbgdnaaDoor
