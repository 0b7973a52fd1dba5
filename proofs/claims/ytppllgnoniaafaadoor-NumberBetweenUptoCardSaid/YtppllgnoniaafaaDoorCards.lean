/-
  DERIVED. GIVEN WITH THE SEED: THE CARDS: each row of YtppllgnoniaafaaDoorRows.lean that lists a variable, with what it lists TIED to the program's text (the seventh form; the later family's looks); each row that meets fmt, with fmt's text TOLD by the authors' own Lean function (tested against real Go, not proved from fmt's source: count such statements apart). THE CARD IS WHAT COUNTS. Prove the row's statement (the work); the ties are given (YtppllgnoniaafaaDoorTie.lean); close each card by the builder's one call (the guide's Derived/Test/ToyasCard.lean, 'card_holds'). Laid BY PROGRAM, IN A SANDBOX (cutbox-door.mjs). By AI agents, Wed Nov 11 2026. No macro, syntax, notation, axiom, sorry.
-/
import Derived.Test.YtppllgnoniaafaaDoorRows
import GoSem.ClaimSeven
namespace Go.Proofs.YtppllgnoniaafaaDoor
namespace Rows

/-- THE TIED CARD OF 'inequalitylaw01.NumberFloors'. -/
def numberFloorsCard : Claim7 := { stood := { row := numberFloorsRow, standIns := [], harness := (true, "57bc01a63c92105ef293aec1011895782cfaee5184a77599064dca59ec43edcf"), looks := false }, kinds := [], alts := [], laidByText := true, laidKinds := [.data], laidTests := true, laidLooks := .later }
def NumberFloorsCardSaid : Prop := Claim7.holds Tryd.pinned (.plain (OpenSpec.ofChange numberFloorsSpec)) numberFloorsCard

/-- THE TIED CARD OF 'inequalitylaw01.NumberGrids'. -/
def numberGridsCard : Claim7 := { stood := { row := numberGridsRow, standIns := [], harness := (true, "57bc01a63c92105ef293aec1011895782cfaee5184a77599064dca59ec43edcf"), looks := false }, kinds := [], alts := [], laidByText := true, laidKinds := [.data], laidTests := true, laidLooks := .later }
def NumberGridsCardSaid : Prop := Claim7.holds Tryd.pinned (.plain (OpenSpec.ofChange numberGridsSpec)) numberGridsCard

/-- THE TIED CARD OF 'inequalitylaw01.NumberSteps'. -/
def numberStepsCard : Claim7 := { stood := { row := numberStepsRow, standIns := [], harness := (true, "57bc01a63c92105ef293aec1011895782cfaee5184a77599064dca59ec43edcf"), looks := false }, kinds := [], alts := [], laidByText := true, laidKinds := [.data], laidTests := true, laidLooks := .later }
def NumberStepsCardSaid : Prop := Claim7.holds Tryd.pinned (.plain (OpenSpec.ofChange numberStepsSpec)) numberStepsCard

/-- THE TIED CARD OF 'inequalitylaw01.NumberPows'. -/
def numberPowsCard : Claim7 := { stood := { row := numberPowsRow, standIns := [], harness := (true, "57bc01a63c92105ef293aec1011895782cfaee5184a77599064dca59ec43edcf"), looks := false }, kinds := [], alts := [], laidByText := true, laidKinds := [.data], laidTests := true, laidLooks := .later }
def NumberPowsCardSaid : Prop := Claim7.holds Tryd.pinned (.plain (OpenSpec.ofChange numberPowsSpec)) numberPowsCard

/-- THE TIED CARD OF 'inequalitylaw01.NumberSimplest'. -/
def numberSimplestCard : Claim7 := { stood := { row := numberSimplestRow, standIns := [], harness := (true, "57bc01a63c92105ef293aec1011895782cfaee5184a77599064dca59ec43edcf"), looks := false }, kinds := [], alts := [], laidByText := true, laidKinds := [.data], laidTests := true, laidLooks := .later }
def NumberSimplestCardSaid : Prop := Claim7.holds Tryd.pinned (.plain (OpenSpec.ofChange numberSimplestSpec)) numberSimplestCard

/-- THE TIED CARD OF 'inequalitylaw01.NumberBetween'. -/
def numberBetweenCard : Claim7 := { stood := { row := numberBetweenRow, standIns := [], harness := (true, "57bc01a63c92105ef293aec1011895782cfaee5184a77599064dca59ec43edcf"), looks := false }, kinds := [], alts := [], laidByText := true, laidKinds := [.data], laidTests := true, laidLooks := .later }
def NumberBetweenCardSaid : Prop := Claim7.holds Tryd.pinned (.plain (OpenSpec.ofChange numberBetweenSpec)) numberBetweenCard

/-- THE SECOND FORM's CARD OF 'inequalitylaw01.NumberFloors'. -/
def numberFloorsUptoCard : Claim7 := { stood := { row := numberFloorsUptoRow, standIns := [], harness := (true, "57bc01a63c92105ef293aec1011895782cfaee5184a77599064dca59ec43edcf"), looks := false }, kinds := [], alts := [], laidByText := true, laidKinds := [.data], laidTests := true, laidLooks := .later }
def NumberFloorsUptoCardSaid : Prop := Claim7.holds Tryd.pinned (.plain (OpenSpec.upto numberFloorsSpec)) numberFloorsUptoCard

/-- THE SECOND FORM's CARD OF 'inequalitylaw01.NumberGrids'. -/
def numberGridsUptoCard : Claim7 := { stood := { row := numberGridsUptoRow, standIns := [], harness := (true, "57bc01a63c92105ef293aec1011895782cfaee5184a77599064dca59ec43edcf"), looks := false }, kinds := [], alts := [], laidByText := true, laidKinds := [.data], laidTests := true, laidLooks := .later }
def NumberGridsUptoCardSaid : Prop := Claim7.holds Tryd.pinned (.plain (OpenSpec.upto numberGridsSpec)) numberGridsUptoCard

/-- THE SECOND FORM's CARD OF 'inequalitylaw01.NumberSteps'. -/
def numberStepsUptoCard : Claim7 := { stood := { row := numberStepsUptoRow, standIns := [], harness := (true, "57bc01a63c92105ef293aec1011895782cfaee5184a77599064dca59ec43edcf"), looks := false }, kinds := [], alts := [], laidByText := true, laidKinds := [.data], laidTests := true, laidLooks := .later }
def NumberStepsUptoCardSaid : Prop := Claim7.holds Tryd.pinned (.plain (OpenSpec.upto numberStepsSpec)) numberStepsUptoCard

/-- THE SECOND FORM's CARD OF 'inequalitylaw01.NumberPows'. -/
def numberPowsUptoCard : Claim7 := { stood := { row := numberPowsUptoRow, standIns := [], harness := (true, "57bc01a63c92105ef293aec1011895782cfaee5184a77599064dca59ec43edcf"), looks := false }, kinds := [], alts := [], laidByText := true, laidKinds := [.data], laidTests := true, laidLooks := .later }
def NumberPowsUptoCardSaid : Prop := Claim7.holds Tryd.pinned (.plain (OpenSpec.upto numberPowsSpec)) numberPowsUptoCard

/-- THE SECOND FORM's CARD OF 'inequalitylaw01.NumberSimplest'. -/
def numberSimplestUptoCard : Claim7 := { stood := { row := numberSimplestUptoRow, standIns := [], harness := (true, "57bc01a63c92105ef293aec1011895782cfaee5184a77599064dca59ec43edcf"), looks := false }, kinds := [], alts := [], laidByText := true, laidKinds := [.data], laidTests := true, laidLooks := .later }
def NumberSimplestUptoCardSaid : Prop := Claim7.holds Tryd.pinned (.plain (OpenSpec.upto numberSimplestSpec)) numberSimplestUptoCard

/-- THE SECOND FORM's CARD OF 'inequalitylaw01.NumberBetween'. -/
def numberBetweenUptoCard : Claim7 := { stood := { row := numberBetweenUptoRow, standIns := [], harness := (true, "57bc01a63c92105ef293aec1011895782cfaee5184a77599064dca59ec43edcf"), looks := false }, kinds := [], alts := [], laidByText := true, laidKinds := [.data], laidTests := true, laidLooks := .later }
def NumberBetweenUptoCardSaid : Prop := Claim7.holds Tryd.pinned (.plain (OpenSpec.upto numberBetweenSpec)) numberBetweenUptoCard
end Rows
end Go.Proofs.YtppllgnoniaafaaDoor
