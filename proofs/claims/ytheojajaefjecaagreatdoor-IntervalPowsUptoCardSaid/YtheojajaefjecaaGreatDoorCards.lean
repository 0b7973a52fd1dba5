/-
  DERIVED. GIVEN WITH THE SEED: THE CARDS: each row of YtheojajaefjecaaGreatDoorRows.lean that lists a variable, with what it lists TIED to the program's text (the seventh form; the later family's looks); each row that meets fmt, with fmt's text TOLD by the authors' own Lean function (tested against real Go, not proved from fmt's source: count such statements apart). THE CARD IS WHAT COUNTS. Prove the row's statement (the work); the ties are given (YtheojajaefjecaaGreatDoorTie.lean); close each card by the builder's one call (the guide's Derived/Test/ToyasCard.lean, 'card_holds'). Laid BY PROGRAM, IN A SANDBOX (cutbox-door.mjs). By AI agents, Wed Nov 11 2026. No macro, syntax, notation, axiom, sorry.
-/
import Derived.Test.YtheojajaefjecaaGreatDoorRows
import GoSem.ClaimSeven
namespace Go.Proofs.YtheojajaefjecaaGreatDoor
namespace Rows

/-- THE TIED CARD OF 'inequalitylaw03.IntervalMiddles'. -/
def intervalMiddlesCard : Claim7 := { stood := { row := intervalMiddlesRow, standIns := [], harness := (true, "96e7bf227b1be52768916e458001047a9390d271799e61546d431d2dfd7f156c"), looks := true }, kinds := [], alts := [], laidByText := true, laidKinds := [.data], laidTests := true, laidLooks := .later }
def IntervalMiddlesCardSaid : Prop := Claim7.holds Tryz.pinned (.plain (OpenSpec.ofChange intervalMiddlesSpec)) intervalMiddlesCard

/-- THE TIED CARD OF 'inequalitylaw03.IntervalMuls'. -/
def intervalMulsCard : Claim7 := { stood := { row := intervalMulsRow, standIns := [], harness := (true, "96e7bf227b1be52768916e458001047a9390d271799e61546d431d2dfd7f156c"), looks := true }, kinds := [], alts := [], laidByText := true, laidKinds := [.data], laidTests := true, laidLooks := .later }
def IntervalMulsCardSaid : Prop := Claim7.holds Tryz.pinned (.plain (OpenSpec.ofChange intervalMulsSpec)) intervalMulsCard

/-- THE TIED CARD OF 'inequalitylaw03.IntervalPows'. -/
def intervalPowsCard : Claim7 := { stood := { row := intervalPowsRow, standIns := [], harness := (true, "96e7bf227b1be52768916e458001047a9390d271799e61546d431d2dfd7f156c"), looks := true }, kinds := [], alts := [], laidByText := true, laidKinds := [.data], laidTests := true, laidLooks := .later }
def IntervalPowsCardSaid : Prop := Claim7.holds Tryz.pinned (.plain (OpenSpec.ofChange intervalPowsSpec)) intervalPowsCard

/-- THE TIED CARD OF 'inequalitylaw03.IntervalRoots'. -/
def intervalRootsCard : Claim7 := { stood := { row := intervalRootsRow, standIns := [], harness := (true, "96e7bf227b1be52768916e458001047a9390d271799e61546d431d2dfd7f156c"), looks := true }, kinds := [], alts := [], laidByText := true, laidKinds := [.data], laidTests := true, laidLooks := .later }
def IntervalRootsCardSaid : Prop := Claim7.holds Tryz.pinned (.plain (OpenSpec.ofChange intervalRootsSpec)) intervalRootsCard

/-- THE TIED CARD OF 'inequalitylaw03.IntervalOpposite'. -/
def intervalOppositeCard : Claim7 := { stood := { row := intervalOppositeRow, standIns := [], harness := (true, "96e7bf227b1be52768916e458001047a9390d271799e61546d431d2dfd7f156c"), looks := true }, kinds := [], alts := [], laidByText := true, laidKinds := [.data], laidTests := true, laidLooks := .later }
def IntervalOppositeCardSaid : Prop := Claim7.holds Tryz.pinned (.plain (OpenSpec.ofChange intervalOppositeSpec)) intervalOppositeCard

/-- THE TIED CARD OF 'inequalitylaw03.IntervalSquares'. -/
def intervalSquaresCard : Claim7 := { stood := { row := intervalSquaresRow, standIns := [], harness := (true, "96e7bf227b1be52768916e458001047a9390d271799e61546d431d2dfd7f156c"), looks := true }, kinds := [], alts := [], laidByText := true, laidKinds := [.data], laidTests := true, laidLooks := .later }
def IntervalSquaresCardSaid : Prop := Claim7.holds Tryz.pinned (.plain (OpenSpec.ofChange intervalSquaresSpec)) intervalSquaresCard

/-- THE TIED CARD OF 'inequalitylaw03.IntervalInverse'. -/
def intervalInverseCard : Claim7 := { stood := { row := intervalInverseRow, standIns := [], harness := (true, "96e7bf227b1be52768916e458001047a9390d271799e61546d431d2dfd7f156c"), looks := true }, kinds := [], alts := [], laidByText := true, laidKinds := [.data], laidTests := true, laidLooks := .later }
def IntervalInverseCardSaid : Prop := Claim7.holds Tryz.pinned (.plain (OpenSpec.ofChange intervalInverseSpec)) intervalInverseCard

/-- THE SECOND FORM's CARD OF 'inequalitylaw03.IntervalMiddles'. -/
def intervalMiddlesUptoCard : Claim7 := { stood := { row := intervalMiddlesUptoRow, standIns := [], harness := (true, "96e7bf227b1be52768916e458001047a9390d271799e61546d431d2dfd7f156c"), looks := true }, kinds := [], alts := [], laidByText := true, laidKinds := [.data], laidTests := true, laidLooks := .later }
def IntervalMiddlesUptoCardSaid : Prop := Claim7.holds Tryz.pinned (.plain (OpenSpec.upto intervalMiddlesSpec)) intervalMiddlesUptoCard

/-- THE SECOND FORM's CARD OF 'inequalitylaw03.IntervalMuls'. -/
def intervalMulsUptoCard : Claim7 := { stood := { row := intervalMulsUptoRow, standIns := [], harness := (true, "96e7bf227b1be52768916e458001047a9390d271799e61546d431d2dfd7f156c"), looks := true }, kinds := [], alts := [], laidByText := true, laidKinds := [.data], laidTests := true, laidLooks := .later }
def IntervalMulsUptoCardSaid : Prop := Claim7.holds Tryz.pinned (.plain (OpenSpec.upto intervalMulsSpec)) intervalMulsUptoCard

/-- THE SECOND FORM's CARD OF 'inequalitylaw03.IntervalPows'. -/
def intervalPowsUptoCard : Claim7 := { stood := { row := intervalPowsUptoRow, standIns := [], harness := (true, "96e7bf227b1be52768916e458001047a9390d271799e61546d431d2dfd7f156c"), looks := true }, kinds := [], alts := [], laidByText := true, laidKinds := [.data], laidTests := true, laidLooks := .later }
def IntervalPowsUptoCardSaid : Prop := Claim7.holds Tryz.pinned (.plain (OpenSpec.upto intervalPowsSpec)) intervalPowsUptoCard

/-- THE SECOND FORM's CARD OF 'inequalitylaw03.IntervalRoots'. -/
def intervalRootsUptoCard : Claim7 := { stood := { row := intervalRootsUptoRow, standIns := [], harness := (true, "96e7bf227b1be52768916e458001047a9390d271799e61546d431d2dfd7f156c"), looks := true }, kinds := [], alts := [], laidByText := true, laidKinds := [.data], laidTests := true, laidLooks := .later }
def IntervalRootsUptoCardSaid : Prop := Claim7.holds Tryz.pinned (.plain (OpenSpec.upto intervalRootsSpec)) intervalRootsUptoCard

/-- THE SECOND FORM's CARD OF 'inequalitylaw03.IntervalOpposite'. -/
def intervalOppositeUptoCard : Claim7 := { stood := { row := intervalOppositeUptoRow, standIns := [], harness := (true, "96e7bf227b1be52768916e458001047a9390d271799e61546d431d2dfd7f156c"), looks := true }, kinds := [], alts := [], laidByText := true, laidKinds := [.data], laidTests := true, laidLooks := .later }
def IntervalOppositeUptoCardSaid : Prop := Claim7.holds Tryz.pinned (.plain (OpenSpec.upto intervalOppositeSpec)) intervalOppositeUptoCard

/-- THE SECOND FORM's CARD OF 'inequalitylaw03.IntervalSquares'. -/
def intervalSquaresUptoCard : Claim7 := { stood := { row := intervalSquaresUptoRow, standIns := [], harness := (true, "96e7bf227b1be52768916e458001047a9390d271799e61546d431d2dfd7f156c"), looks := true }, kinds := [], alts := [], laidByText := true, laidKinds := [.data], laidTests := true, laidLooks := .later }
def IntervalSquaresUptoCardSaid : Prop := Claim7.holds Tryz.pinned (.plain (OpenSpec.upto intervalSquaresSpec)) intervalSquaresUptoCard

/-- THE SECOND FORM's CARD OF 'inequalitylaw03.IntervalInverse'. -/
def intervalInverseUptoCard : Claim7 := { stood := { row := intervalInverseUptoRow, standIns := [], harness := (true, "96e7bf227b1be52768916e458001047a9390d271799e61546d431d2dfd7f156c"), looks := true }, kinds := [], alts := [], laidByText := true, laidKinds := [.data], laidTests := true, laidLooks := .later }
def IntervalInverseUptoCardSaid : Prop := Claim7.holds Tryz.pinned (.plain (OpenSpec.upto intervalInverseSpec)) intervalInverseUptoCard
end Rows
end Go.Proofs.YtheojajaefjecaaGreatDoor
