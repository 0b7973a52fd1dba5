/- Numbers of the program: Canon, Neg, Abs; results with their errors, as fractions. -/
import Derived.Test.YtjnfnngobkjneaaGreatDoorNumY
namespace Go.Proofs.YtjnfnngobkjneaaGreatDoor
open Go.RowKit Dg
/-- The absolute value. -/
def fabs (a : Bool × Nat × Nat) : Bool × Nat × Nat := (false, a.2.1, a.2.2)

end Go.Proofs.YtjnfnngobkjneaaGreatDoor
