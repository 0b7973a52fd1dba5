/- Whether a number is in an interval: the program. -/
import Derived.Test.YtimjoejkjgklaaaGreatDoorSets
import Derived.Test.YtimjoejkjgklaaaGreatDoorIvC
namespace Go.Proofs.YtimjoejkjgklaaaGreatDoor
open Go.RowKit Dg
/-- Whether a number is in a set. -/
def shas (S : (Int × Bool × Nat × Nat) × (Int × Bool × Nat × Nat) × Bool) (x : Int × Bool × Nat × Nat) : Bool := decide (ecmp S.1 x ≤ 0) && decide (ecmp x S.2.1 ≤ 0)
end Go.Proofs.YtimjoejkjgklaaaGreatDoor
