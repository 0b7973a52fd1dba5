/- Whether a number is in an interval: the program. Whether a number is in an interval: ask, Has. Whether a number is in an interval: both sides agree. -/
import Derived.Test.YtimjoejkjgklaaaGreatDoorSets
import Derived.Test.YtimjoejkjgklaaaGreatDoorIvC
import Derived.Test.YtimjoejkjgklaaaGreatDoorFin
import Derived.Test.YtimjoejkjgklaaaGreatDoorHasT
namespace Go.Proofs.YtimjoejkjgklaaaGreatDoor
open Go.RowKit Dg
def shas (S : (Int × Bool × Nat × Nat) × (Int × Bool × Nat × Nat) × Bool) (x : Int × Bool × Nat × Nat) : Bool := decide (ecmp S.1 x ≤ 0) && decide (ecmp x S.2.1 ≤ 0)
end Go.Proofs.YtimjoejkjgklaaaGreatDoor
namespace Go.Proofs.YtimjoejkjgklaaaGreatDoor
open Go.RowKit Dg
def hval (a : (Bool × Nat × Nat) × (Bool × Nat × Nat) × Bool × Bool) (t : Bool × Nat × Nat) : Bool := if ilarge a || large t.2.1 t.2.2 then false else shas (srd a) (0, fr t)
end Go.Proofs.YtimjoejkjgklaaaGreatDoor
namespace Go.Proofs.YtimjoejkjgklaaaGreatDoor
open Go.RowKit Dg
theorem fcmp_trans {a b c : Bool × Nat × Nat} (ha : 0 < a.2.2) (hb : 0 < b.2.2) (hc : 0 < c.2.2) (h1 : fcmp a b ≤ 0) (h2 : fcmp b c ≤ 0) : fcmp a c ≤ 0 := by
 rw [fcmp_nonpos] at *
 generalize sv a.1 a.2.1 = x at *
 generalize sv b.1 b.2.1 = y at *
 generalize sv c.1 c.2.1 = z at *
 have ha' : (0 : Int) < a.2.2 := by omega
 have hb' : (0 : Int) < b.2.2 := by omega
 have hc' : (0 : Int) < c.2.2 := by omega
 generalize (a.2.2 : Int) = p at *
 generalize (b.2.2 : Int) = q at *
 generalize (c.2.2 : Int) = r at *
 refine Int.le_of_mul_le_mul_left (a := q) ?_ hb'
 have e1 := Int.mul_le_mul_of_nonneg_right h1 (Int.le_of_lt hc')
 have e2 := Int.mul_le_mul_of_nonneg_right h2 (Int.le_of_lt ha')
 calc q * (x * r) = x * q * r := by rw [Int.mul_comm q, Int.mul_right_comm]
  _ ≤ y * p * r := e1
  _ = y * r * p := by rw [Int.mul_right_comm]
  _ ≤ z * q * p := e2
  _ = q * (z * p) := by rw [Int.mul_comm q, Int.mul_right_comm]
end Go.Proofs.YtimjoejkjgklaaaGreatDoor
