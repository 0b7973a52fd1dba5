/-
  DERIVED. GIVEN WITH THE SEED: THE CARDS: each row of YtimjoejkjgklaaaGreatDoorRows.lean that lists a variable, with what it lists TIED to the program's text (the seventh form; the later family's looks); each row that meets fmt, with fmt's text TOLD by the authors' own Lean function (tested against real Go, not proved from fmt's source: count such statements apart). THE CARD IS WHAT COUNTS. Prove the row's statement (the work); the ties are given (YtimjoejkjgklaaaGreatDoorTie.lean); close each card by the builder's one call (the guide's Derived/Test/ToyasCard.lean, 'card_holds'). Laid BY PROGRAM, IN A SANDBOX (cutbox-door.mjs). By AI agents, Wed Nov 11 2026. No macro, syntax, notation, axiom, sorry.
-/
import Derived.Test.YtimjoejkjgklaaaGreatDoorRows
import GoSem.ClaimSeven
namespace Go.Proofs.YtimjoejkjgklaaaGreatDoor
namespace Rows

/-- THE TIED CARD OF 'inequalitylaw03.IntervalCanons'. -/
def intervalCanonsCard : Claim7 := { stood := { row := intervalCanonsRow, standIns := [], harness := (true, "97791d9c94c8a1cbf108d80db08c5d5713dcf1ccf18347b4bf5a1aefeea2cd93"), looks := true }, kinds := [], alts := [], laidByText := true, laidKinds := [.data], laidTests := true, laidLooks := .later }
def IntervalCanonsCardSaid : Prop := Claim7.holds Tryz.pinned (.plain (OpenSpec.ofChange intervalCanonsSpec)) intervalCanonsCard

/-- THE TIED CARD OF 'inequalitylaw03.IntervalLimits'. -/
def intervalLimitsCard : Claim7 := { stood := { row := intervalLimitsRow, standIns := [], harness := (true, "97791d9c94c8a1cbf108d80db08c5d5713dcf1ccf18347b4bf5a1aefeea2cd93"), looks := true }, kinds := [], alts := [], laidByText := true, laidKinds := [.data], laidTests := true, laidLooks := .later }
def IntervalLimitsCardSaid : Prop := Claim7.holds Tryz.pinned (.plain (OpenSpec.ofChange intervalLimitsSpec)) intervalLimitsCard

/-- THE TIED CARD OF 'inequalitylaw03.IntervalMeets'. -/
def intervalMeetsCard : Claim7 := { stood := { row := intervalMeetsRow, standIns := [], harness := (true, "97791d9c94c8a1cbf108d80db08c5d5713dcf1ccf18347b4bf5a1aefeea2cd93"), looks := true }, kinds := [], alts := [], laidByText := true, laidKinds := [.data], laidTests := true, laidLooks := .later }
def IntervalMeetsCardSaid : Prop := Claim7.holds Tryz.pinned (.plain (OpenSpec.ofChange intervalMeetsSpec)) intervalMeetsCard

/-- THE TIED CARD OF 'inequalitylaw03.IntervalMiddles'. -/
def intervalMiddlesCard : Claim7 := { stood := { row := intervalMiddlesRow, standIns := [], harness := (true, "97791d9c94c8a1cbf108d80db08c5d5713dcf1ccf18347b4bf5a1aefeea2cd93"), looks := true }, kinds := [], alts := [], laidByText := true, laidKinds := [.data], laidTests := true, laidLooks := .later }
def IntervalMiddlesCardSaid : Prop := Claim7.holds Tryz.pinned (.plain (OpenSpec.ofChange intervalMiddlesSpec)) intervalMiddlesCard

/-- THE TIED CARD OF 'inequalitylaw03.IntervalLattice'. -/
def intervalLatticeCard : Claim7 := { stood := { row := intervalLatticeRow, standIns := [], harness := (true, "97791d9c94c8a1cbf108d80db08c5d5713dcf1ccf18347b4bf5a1aefeea2cd93"), looks := true }, kinds := [], alts := [], laidByText := true, laidKinds := [.data], laidTests := true, laidLooks := .later }
def IntervalLatticeCardSaid : Prop := Claim7.holds Tryz.pinned (.plain (OpenSpec.ofChange intervalLatticeSpec)) intervalLatticeCard

/-- THE TIED CARD OF 'inequalitylaw03.IntervalGuess'. -/
def intervalGuessCard : Claim7 := { stood := { row := intervalGuessRow, standIns := [], harness := (true, "97791d9c94c8a1cbf108d80db08c5d5713dcf1ccf18347b4bf5a1aefeea2cd93"), looks := true }, kinds := [], alts := [], laidByText := true, laidKinds := [.data], laidTests := true, laidLooks := .later }
def IntervalGuessCardSaid : Prop := Claim7.holds Tryz.pinned (.plain (OpenSpec.ofChange intervalGuessSpec)) intervalGuessCard

/-- THE TIED CARD OF 'inequalitylaw03.IntervalLeast'. -/
def intervalLeastCard : Claim7 := { stood := { row := intervalLeastRow, standIns := [], harness := (true, "97791d9c94c8a1cbf108d80db08c5d5713dcf1ccf18347b4bf5a1aefeea2cd93"), looks := true }, kinds := [], alts := [], laidByText := true, laidKinds := [.data], laidTests := true, laidLooks := .later }
def IntervalLeastCardSaid : Prop := Claim7.holds Tryz.pinned (.plain (OpenSpec.ofChange intervalLeastSpec)) intervalLeastCard

/-- THE SECOND FORM's CARD OF 'inequalitylaw03.IntervalCanons'. -/
def intervalCanonsUptoCard : Claim7 := { stood := { row := intervalCanonsUptoRow, standIns := [], harness := (true, "97791d9c94c8a1cbf108d80db08c5d5713dcf1ccf18347b4bf5a1aefeea2cd93"), looks := true }, kinds := [], alts := [], laidByText := true, laidKinds := [.data], laidTests := true, laidLooks := .later }
def IntervalCanonsUptoCardSaid : Prop := Claim7.holds Tryz.pinned (.plain (OpenSpec.upto intervalCanonsSpec)) intervalCanonsUptoCard

/-- THE SECOND FORM's CARD OF 'inequalitylaw03.IntervalLimits'. -/
def intervalLimitsUptoCard : Claim7 := { stood := { row := intervalLimitsUptoRow, standIns := [], harness := (true, "97791d9c94c8a1cbf108d80db08c5d5713dcf1ccf18347b4bf5a1aefeea2cd93"), looks := true }, kinds := [], alts := [], laidByText := true, laidKinds := [.data], laidTests := true, laidLooks := .later }
def IntervalLimitsUptoCardSaid : Prop := Claim7.holds Tryz.pinned (.plain (OpenSpec.upto intervalLimitsSpec)) intervalLimitsUptoCard

/-- THE SECOND FORM's CARD OF 'inequalitylaw03.IntervalMeets'. -/
def intervalMeetsUptoCard : Claim7 := { stood := { row := intervalMeetsUptoRow, standIns := [], harness := (true, "97791d9c94c8a1cbf108d80db08c5d5713dcf1ccf18347b4bf5a1aefeea2cd93"), looks := true }, kinds := [], alts := [], laidByText := true, laidKinds := [.data], laidTests := true, laidLooks := .later }
def IntervalMeetsUptoCardSaid : Prop := Claim7.holds Tryz.pinned (.plain (OpenSpec.upto intervalMeetsSpec)) intervalMeetsUptoCard

/-- THE SECOND FORM's CARD OF 'inequalitylaw03.IntervalMiddles'. -/
def intervalMiddlesUptoCard : Claim7 := { stood := { row := intervalMiddlesUptoRow, standIns := [], harness := (true, "97791d9c94c8a1cbf108d80db08c5d5713dcf1ccf18347b4bf5a1aefeea2cd93"), looks := true }, kinds := [], alts := [], laidByText := true, laidKinds := [.data], laidTests := true, laidLooks := .later }
def IntervalMiddlesUptoCardSaid : Prop := Claim7.holds Tryz.pinned (.plain (OpenSpec.upto intervalMiddlesSpec)) intervalMiddlesUptoCard

/-- THE SECOND FORM's CARD OF 'inequalitylaw03.IntervalLattice'. -/
def intervalLatticeUptoCard : Claim7 := { stood := { row := intervalLatticeUptoRow, standIns := [], harness := (true, "97791d9c94c8a1cbf108d80db08c5d5713dcf1ccf18347b4bf5a1aefeea2cd93"), looks := true }, kinds := [], alts := [], laidByText := true, laidKinds := [.data], laidTests := true, laidLooks := .later }
def IntervalLatticeUptoCardSaid : Prop := Claim7.holds Tryz.pinned (.plain (OpenSpec.upto intervalLatticeSpec)) intervalLatticeUptoCard

/-- THE SECOND FORM's CARD OF 'inequalitylaw03.IntervalGuess'. -/
def intervalGuessUptoCard : Claim7 := { stood := { row := intervalGuessUptoRow, standIns := [], harness := (true, "97791d9c94c8a1cbf108d80db08c5d5713dcf1ccf18347b4bf5a1aefeea2cd93"), looks := true }, kinds := [], alts := [], laidByText := true, laidKinds := [.data], laidTests := true, laidLooks := .later }
def IntervalGuessUptoCardSaid : Prop := Claim7.holds Tryz.pinned (.plain (OpenSpec.upto intervalGuessSpec)) intervalGuessUptoCard

/-- THE SECOND FORM's CARD OF 'inequalitylaw03.IntervalLeast'. -/
def intervalLeastUptoCard : Claim7 := { stood := { row := intervalLeastUptoRow, standIns := [], harness := (true, "97791d9c94c8a1cbf108d80db08c5d5713dcf1ccf18347b4bf5a1aefeea2cd93"), looks := true }, kinds := [], alts := [], laidByText := true, laidKinds := [.data], laidTests := true, laidLooks := .later }
def IntervalLeastUptoCardSaid : Prop := Claim7.holds Tryz.pinned (.plain (OpenSpec.upto intervalLeastSpec)) intervalLeastUptoCard
end Rows
end Go.Proofs.YtimjoejkjgklaaaGreatDoor
