/- The law IntervalHas. -/
import Derived.Test.YtimjoejkjgklaaaGreatDoorHasT
import Derived.Test.YtimjoejkjgklaaaGreatDoorHasQ
import Derived.Test.YtimjoejkjgklaaaGreatDoorAwake
namespace Go.Proofs.YtimjoejkjgklaaaGreatDoor
open Go.RowKit Dg
theorem yes_same (b : Bool) (c : Int) (w : World) : Calls Tryz.prog 19 #[.bool b, .int .i64 c, .bool b, .int .i64 c] w fun e w' => e = .returned (.bool true) ∧ w = w' := by
  have hb : (b == b) = true := by cases b <;> rfl
  go_enter Tryz.func19, Tryz.ntmps19
  go_wp2_with fail
  go_ret
  exact ⟨rfl, rfl⟩
end Go.Proofs.YtimjoejkjgklaaaGreatDoor
