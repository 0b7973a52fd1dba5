/-
  DERIVED. GIVEN WITH THE SEED: THE CARDS: each row of YtjnfnngobkjneaaGreatDoorRows.lean that lists a variable, with what it lists TIED to the program's text (the seventh form; the later family's looks); each row that meets fmt, with fmt's text TOLD by the authors' own Lean function (tested against real Go, not proved from fmt's source: count such statements apart). THE CARD IS WHAT COUNTS. Prove the row's statement (the work); the ties are given (YtjnfnngobkjneaaGreatDoorTie.lean); close each card by the builder's one call (the guide's Derived/Test/ToyasCard.lean, 'card_holds'). Laid BY PROGRAM, IN A SANDBOX (cutbox-door.mjs). By AI agents, Wed Nov 11 2026. No macro, syntax, notation, axiom, sorry.
-/
import Derived.Test.YtjnfnngobkjneaaGreatDoorRows
import GoSem.ClaimSeven
namespace Go.Proofs.YtjnfnngobkjneaaGreatDoor
namespace Rows

/-- THE TIED CARD OF 'inequalitylaw01.NumberGridRoots'. -/
def numberGridRootsCard : Claim7 := { stood := { row := numberGridRootsRow, standIns := [], harness := (true, "3d6dfd6cb4b7956e170b28cb1d71e6d77c6f5af40e14fabe30e5cd675cb8eb3a"), looks := false }, kinds := [], alts := [], laidByText := true, laidKinds := [.data], laidTests := true, laidLooks := .later }
def NumberGridRootsCardSaid : Prop := Claim7.holds Tryz.pinned (.plain (OpenSpec.ofChange numberGridRootsSpec)) numberGridRootsCard

/-- THE TIED CARD OF 'inequalitylaw01.NumberTexts'. -/
def numberTextsCard : Claim7 := { stood := { row := numberTextsRow, standIns := [], harness := (true, "3d6dfd6cb4b7956e170b28cb1d71e6d77c6f5af40e14fabe30e5cd675cb8eb3a"), looks := false }, kinds := [], alts := [], laidByText := true, laidKinds := [.data, .data, .data], laidTests := true, laidLooks := .later }
def NumberTextsCardSaid : Prop := Claim7.holds Tryz.pinned (.plain (OpenSpec.ofChange numberTextsSpec)) numberTextsCard

/-- THE TIED CARD OF 'inequalitylaw01.NumberDenotes'. -/
def numberDenotesCard : Claim7 := { stood := { row := numberDenotesRow, standIns := [], harness := (true, "3d6dfd6cb4b7956e170b28cb1d71e6d77c6f5af40e14fabe30e5cd675cb8eb3a"), looks := false }, kinds := [], alts := [], laidByText := true, laidKinds := [.data, .data, .data], laidTests := true, laidLooks := .later }
def NumberDenotesCardSaid : Prop := Claim7.holds Tryz.pinned (.plain (OpenSpec.ofChange numberDenotesSpec)) numberDenotesCard

/-- THE SECOND FORM's CARD OF 'inequalitylaw01.NumberGridRoots'. -/
def numberGridRootsUptoCard : Claim7 := { stood := { row := numberGridRootsUptoRow, standIns := [], harness := (true, "3d6dfd6cb4b7956e170b28cb1d71e6d77c6f5af40e14fabe30e5cd675cb8eb3a"), looks := false }, kinds := [], alts := [], laidByText := true, laidKinds := [.data], laidTests := true, laidLooks := .later }
def NumberGridRootsUptoCardSaid : Prop := Claim7.holds Tryz.pinned (.plain (OpenSpec.upto numberGridRootsSpec)) numberGridRootsUptoCard

/-- THE SECOND FORM's CARD OF 'inequalitylaw01.NumberTexts'. -/
def numberTextsUptoCard : Claim7 := { stood := { row := numberTextsUptoRow, standIns := [], harness := (true, "3d6dfd6cb4b7956e170b28cb1d71e6d77c6f5af40e14fabe30e5cd675cb8eb3a"), looks := false }, kinds := [], alts := [], laidByText := true, laidKinds := [.data, .data, .data], laidTests := true, laidLooks := .later }
def NumberTextsUptoCardSaid : Prop := Claim7.holds Tryz.pinned (.plain (OpenSpec.upto numberTextsSpec)) numberTextsUptoCard

/-- THE SECOND FORM's CARD OF 'inequalitylaw01.NumberDenotes'. -/
def numberDenotesUptoCard : Claim7 := { stood := { row := numberDenotesUptoRow, standIns := [], harness := (true, "3d6dfd6cb4b7956e170b28cb1d71e6d77c6f5af40e14fabe30e5cd675cb8eb3a"), looks := false }, kinds := [], alts := [], laidByText := true, laidKinds := [.data, .data, .data], laidTests := true, laidLooks := .later }
def NumberDenotesUptoCardSaid : Prop := Claim7.holds Tryz.pinned (.plain (OpenSpec.upto numberDenotesSpec)) numberDenotesUptoCard
end Rows
end Go.Proofs.YtjnfnngobkjneaaGreatDoor
