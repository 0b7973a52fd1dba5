/- Numbers of the program: Canon, Neg, Abs; results with their errors, as fractions. -/
import Derived.Test.YtgjjcmclikiojaaGreatDoorNumY
namespace Go.Proofs.YtgjjcmclikiojaaGreatDoor
open Go.RowKit Dg
theorem enterNeg (args : Array Value) (w : World) : (callFunc 182 args).run Tryz.prog w = .ok (.enter 182 args) w := call_enter Tryz.func182 (by kernel_rfl) rfl args w
/-- The absolute value. -/
def fabs (a : Bool × Nat × Nat) : Bool × Nat × Nat := (false, a.2.1, a.2.2)

end Go.Proofs.YtgjjcmclikiojaaGreatDoor
