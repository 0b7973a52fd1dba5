/-
  DERIVED. GIVEN WITH THE SEED: THE CARDS: each row of YtjnfnngobkjneaaDoorRows.lean that lists a variable, with what it lists TIED to the program's text (the seventh form; the later family's looks); each row that meets fmt, with fmt's text TOLD by the authors' own Lean function (tested against real Go, not proved from fmt's source: count such statements apart). THE CARD IS WHAT COUNTS. Prove the row's statement (the work); the ties are given (YtjnfnngobkjneaaDoorTie.lean); close each card by the builder's one call (the guide's Derived/Test/ToyasCard.lean, 'card_holds'). Laid BY PROGRAM, IN A SANDBOX (cutbox-door.mjs). By AI agents, Wed Nov 11 2026. No macro, syntax, notation, axiom, sorry.
-/
import Derived.Test.YtjnfnngobkjneaaDoorRows
import GoSem.ClaimSeven
namespace Go.Proofs.YtjnfnngobkjneaaDoor
namespace Rows

/-- THE TIED CARD OF 'inequalitylaw01.NumberParses'. -/
def numberParsesCard : Claim7 := { stood := { row := numberParsesRow, standIns := [], harness := (true, "7f9c91cdbdf7fa367b55b6e8947dda8931679a5c5f241a5a945a24e848575f4d"), looks := false }, kinds := [], alts := [], laidByText := true, laidKinds := [.data], laidTests := true, laidLooks := .later }
def NumberParsesCardSaid : Prop := Claim7.holds Tryd.pinned (.plain (OpenSpec.ofChange numberParsesSpec)) numberParsesCard

/-- THE TIED CARD OF 'inequalitylaw01.NumberFormats'. -/
def numberFormatsCard : Claim7 := { stood := { row := numberFormatsRow, standIns := [], harness := (true, "7f9c91cdbdf7fa367b55b6e8947dda8931679a5c5f241a5a945a24e848575f4d"), looks := false }, kinds := [], alts := [], laidByText := true, laidKinds := [.data, .data, .data], laidTests := true, laidLooks := .later }
def NumberFormatsCardSaid : Prop := Claim7.holds Tryd.pinned (.plain (OpenSpec.ofChange numberFormatsSpec)) numberFormatsCard

/-- THE TIED CARD OF 'inequalitylaw01.NumberDecimals'. -/
def numberDecimalsCard : Claim7 := { stood := { row := numberDecimalsRow, standIns := [], harness := (true, "7f9c91cdbdf7fa367b55b6e8947dda8931679a5c5f241a5a945a24e848575f4d"), looks := false }, kinds := [], alts := [], laidByText := true, laidKinds := [.data], laidTests := true, laidLooks := .later }
def NumberDecimalsCardSaid : Prop := Claim7.holds Tryd.pinned (.plain (OpenSpec.ofChange numberDecimalsSpec)) numberDecimalsCard

/-- THE SECOND FORM's CARD OF 'inequalitylaw01.NumberParses'. -/
def numberParsesUptoCard : Claim7 := { stood := { row := numberParsesUptoRow, standIns := [], harness := (true, "7f9c91cdbdf7fa367b55b6e8947dda8931679a5c5f241a5a945a24e848575f4d"), looks := false }, kinds := [], alts := [], laidByText := true, laidKinds := [.data], laidTests := true, laidLooks := .later }
def NumberParsesUptoCardSaid : Prop := Claim7.holds Tryd.pinned (.plain (OpenSpec.upto numberParsesSpec)) numberParsesUptoCard

/-- THE SECOND FORM's CARD OF 'inequalitylaw01.NumberFormats'. -/
def numberFormatsUptoCard : Claim7 := { stood := { row := numberFormatsUptoRow, standIns := [], harness := (true, "7f9c91cdbdf7fa367b55b6e8947dda8931679a5c5f241a5a945a24e848575f4d"), looks := false }, kinds := [], alts := [], laidByText := true, laidKinds := [.data, .data, .data], laidTests := true, laidLooks := .later }
def NumberFormatsUptoCardSaid : Prop := Claim7.holds Tryd.pinned (.plain (OpenSpec.upto numberFormatsSpec)) numberFormatsUptoCard

/-- THE SECOND FORM's CARD OF 'inequalitylaw01.NumberDecimals'. -/
def numberDecimalsUptoCard : Claim7 := { stood := { row := numberDecimalsUptoRow, standIns := [], harness := (true, "7f9c91cdbdf7fa367b55b6e8947dda8931679a5c5f241a5a945a24e848575f4d"), looks := false }, kinds := [], alts := [], laidByText := true, laidKinds := [.data], laidTests := true, laidLooks := .later }
def NumberDecimalsUptoCardSaid : Prop := Claim7.holds Tryd.pinned (.plain (OpenSpec.upto numberDecimalsSpec)) numberDecimalsUptoCard
end Rows
end Go.Proofs.YtjnfnngobkjneaaDoor
