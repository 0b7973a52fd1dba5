/- Sets of the reference: Same. -/
import Derived.Test.YtheojajaefjecaaGreatDoorCan3
import Derived.Test.YtheojajaefjecaaGreatDoorRefZ
namespace Go.Proofs.YtheojajaefjecaaGreatDoor
open Go.RowKit Dg
theorem cmp_same (t : Bool × Nat × Nat) : fcmp t t = 0 := by unfold fcmp cmpI; simp
theorem rCmp_self (v1 v2 : Value) (x : Bool × Nat × Nat) (w : World) (q1 : QNorm w v1 x) (q2 : QNorm w v2 x) (hx : QOk x ∨ x = (false, 0, 0)) :
  Calls Tryz.prog 119 #[v1, v2] w fun e w' => e = .returned (.int .i64 0) ∧ Below w.heap.size w w' := by
 rcases hx with hx | hx
 ·have h := rcmp_ok v1 v2 x x w q1 q2 hx hx
  rw [cmp_same] at h
  exact h
 ·rw [hx] at q1 q2
  exact rCmp_zero v1 v2 w q1 q2
end Go.Proofs.YtheojajaefjecaaGreatDoor
