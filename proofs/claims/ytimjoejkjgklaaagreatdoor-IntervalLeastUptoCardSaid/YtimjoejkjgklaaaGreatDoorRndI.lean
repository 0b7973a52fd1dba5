/- Operations whose result has a large number; Round of the program. -/
import Derived.Test.YtimjoejkjgklaaaGreatDoorMkI
import Derived.Test.YtimjoejkjgklaaaGreatDoorBothI
import Derived.WalkSmall
namespace Go.Proofs.YtimjoejkjgklaaaGreatDoor
open Go.RowKit Dg
def sbig (x : (Int × Bool × Nat × Nat) × (Int × Bool × Nat × Nat) × Bool) : Bool := ebig x.1 || ebig x.2.1
end Go.Proofs.YtimjoejkjgklaaaGreatDoor
