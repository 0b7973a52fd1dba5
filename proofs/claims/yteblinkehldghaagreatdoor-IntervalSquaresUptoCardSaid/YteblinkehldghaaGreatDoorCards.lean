/-
  DERIVED. GIVEN WITH THE SEED: THE CARDS: each row of YteblinkehldghaaGreatDoorRows.lean that lists a variable, with what it lists TIED to the program's text (the seventh form; the later family's looks); each row that meets fmt, with fmt's text TOLD by the authors' own Lean function (tested against real Go, not proved from fmt's source: count such statements apart). THE CARD IS WHAT COUNTS. Prove the row's statement (the work); the ties are given (YteblinkehldghaaGreatDoorTie.lean); close each card by the builder's one call (the guide's Derived/Test/ToyasCard.lean, 'card_holds'). Laid BY PROGRAM, IN A SANDBOX (cutbox-door.mjs). By AI agents, Wed Nov 11 2026. No macro, syntax, notation, axiom, sorry.
-/
import Derived.Test.YteblinkehldghaaGreatDoorRows
import GoSem.ClaimSeven
namespace Go.Proofs.YteblinkehldghaaGreatDoor
namespace Rows

/-- THE TIED CARD OF 'inequalitylaw03.IntervalMuls'. -/
def intervalMulsCard : Claim7 := { stood := { row := intervalMulsRow, standIns := [], harness := (true, "2fe4b6e212ab4ae22add80bdf9d09736af6da1efbd2ce5f47e9eefca5c68c605"), looks := true }, kinds := [], alts := [], laidByText := true, laidKinds := [.data], laidTests := true, laidLooks := .later }
def IntervalMulsCardSaid : Prop := Claim7.holds Tryz.pinned (.plain (OpenSpec.ofChange intervalMulsSpec)) intervalMulsCard

/-- THE TIED CARD OF 'inequalitylaw03.IntervalOpposite'. -/
def intervalOppositeCard : Claim7 := { stood := { row := intervalOppositeRow, standIns := [], harness := (true, "2fe4b6e212ab4ae22add80bdf9d09736af6da1efbd2ce5f47e9eefca5c68c605"), looks := true }, kinds := [], alts := [], laidByText := true, laidKinds := [.data], laidTests := true, laidLooks := .later }
def IntervalOppositeCardSaid : Prop := Claim7.holds Tryz.pinned (.plain (OpenSpec.ofChange intervalOppositeSpec)) intervalOppositeCard

/-- THE TIED CARD OF 'inequalitylaw03.IntervalSquares'. -/
def intervalSquaresCard : Claim7 := { stood := { row := intervalSquaresRow, standIns := [], harness := (true, "2fe4b6e212ab4ae22add80bdf9d09736af6da1efbd2ce5f47e9eefca5c68c605"), looks := true }, kinds := [], alts := [], laidByText := true, laidKinds := [.data], laidTests := true, laidLooks := .later }
def IntervalSquaresCardSaid : Prop := Claim7.holds Tryz.pinned (.plain (OpenSpec.ofChange intervalSquaresSpec)) intervalSquaresCard

/-- THE TIED CARD OF 'inequalitylaw03.IntervalInverse'. -/
def intervalInverseCard : Claim7 := { stood := { row := intervalInverseRow, standIns := [], harness := (true, "2fe4b6e212ab4ae22add80bdf9d09736af6da1efbd2ce5f47e9eefca5c68c605"), looks := true }, kinds := [], alts := [], laidByText := true, laidKinds := [.data], laidTests := true, laidLooks := .later }
def IntervalInverseCardSaid : Prop := Claim7.holds Tryz.pinned (.plain (OpenSpec.ofChange intervalInverseSpec)) intervalInverseCard

/-- THE SECOND FORM's CARD OF 'inequalitylaw03.IntervalMuls'. -/
def intervalMulsUptoCard : Claim7 := { stood := { row := intervalMulsUptoRow, standIns := [], harness := (true, "2fe4b6e212ab4ae22add80bdf9d09736af6da1efbd2ce5f47e9eefca5c68c605"), looks := true }, kinds := [], alts := [], laidByText := true, laidKinds := [.data], laidTests := true, laidLooks := .later }
def IntervalMulsUptoCardSaid : Prop := Claim7.holds Tryz.pinned (.plain (OpenSpec.upto intervalMulsSpec)) intervalMulsUptoCard

/-- THE SECOND FORM's CARD OF 'inequalitylaw03.IntervalOpposite'. -/
def intervalOppositeUptoCard : Claim7 := { stood := { row := intervalOppositeUptoRow, standIns := [], harness := (true, "2fe4b6e212ab4ae22add80bdf9d09736af6da1efbd2ce5f47e9eefca5c68c605"), looks := true }, kinds := [], alts := [], laidByText := true, laidKinds := [.data], laidTests := true, laidLooks := .later }
def IntervalOppositeUptoCardSaid : Prop := Claim7.holds Tryz.pinned (.plain (OpenSpec.upto intervalOppositeSpec)) intervalOppositeUptoCard

/-- THE SECOND FORM's CARD OF 'inequalitylaw03.IntervalSquares'. -/
def intervalSquaresUptoCard : Claim7 := { stood := { row := intervalSquaresUptoRow, standIns := [], harness := (true, "2fe4b6e212ab4ae22add80bdf9d09736af6da1efbd2ce5f47e9eefca5c68c605"), looks := true }, kinds := [], alts := [], laidByText := true, laidKinds := [.data], laidTests := true, laidLooks := .later }
def IntervalSquaresUptoCardSaid : Prop := Claim7.holds Tryz.pinned (.plain (OpenSpec.upto intervalSquaresSpec)) intervalSquaresUptoCard

/-- THE SECOND FORM's CARD OF 'inequalitylaw03.IntervalInverse'. -/
def intervalInverseUptoCard : Claim7 := { stood := { row := intervalInverseUptoRow, standIns := [], harness := (true, "2fe4b6e212ab4ae22add80bdf9d09736af6da1efbd2ce5f47e9eefca5c68c605"), looks := true }, kinds := [], alts := [], laidByText := true, laidKinds := [.data], laidTests := true, laidLooks := .later }
def IntervalInverseUptoCardSaid : Prop := Claim7.holds Tryz.pinned (.plain (OpenSpec.upto intervalInverseSpec)) intervalInverseUptoCard
end Rows
end Go.Proofs.YteblinkehldghaaGreatDoor
