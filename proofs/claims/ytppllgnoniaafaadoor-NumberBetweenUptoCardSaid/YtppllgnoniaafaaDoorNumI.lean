/- Numbers of the program: Canon, Neg, Abs; results with their errors, as fractions. -/
import Derived.Test.YtppllgnoniaafaaDoorNumY
namespace Go.Proofs.YtppllgnoniaafaaDoor
open Go.RowKit Dg
theorem enterNeg (args : Array Value) (w : World) : (callFunc 76 args).run Tryd.prog w = .ok (.enter 76 args) w := call_enter Tryd.func76 (by kernel_rfl) rfl args w
/-- The absolute value. -/
def fabs (a : Bool × Nat × Nat) : Bool × Nat × Nat := (false, a.2.1, a.2.2)

end Go.Proofs.YtppllgnoniaafaaDoor
