/- Intervals of the program: Canon, Between, Point, Whole. -/
import Derived.Test.YtimjoejkjgklaaaGreatDoorIvC
import Derived.Test.YtimjoejkjgklaaaGreatDoorFin
import Derived.Test.YtimjoejkjgklaaaGreatDoorSets
namespace Go.Proofs.YtimjoejkjgklaaaGreatDoor
open Go.RowKit Dg
theorem w64_not_big {n d : Nat} (hn : n < W32 ^ 64) (hd : d < W32 ^ 64) : big n d = false := by
  unfold big
  rw [decide_eq_false]
  intro h
  omega
/-- The error of an operation whose numbers must not be large. -/
def icode (a : (Bool × Nat × Nat) × (Bool × Nat × Nat) × Bool × Bool) : Int := if ilarge a then 1 else 0
end Go.Proofs.YtimjoejkjgklaaaGreatDoor
