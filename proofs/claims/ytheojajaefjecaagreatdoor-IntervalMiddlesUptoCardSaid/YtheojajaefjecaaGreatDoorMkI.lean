/- Intervals of the program: Canon, Between, Point, Whole. -/
import Derived.Test.YtheojajaefjecaaGreatDoorIvC
import Derived.Test.YtheojajaefjecaaGreatDoorFin
import Derived.Test.YtheojajaefjecaaGreatDoorSets
namespace Go.Proofs.YtheojajaefjecaaGreatDoor
open Go.RowKit Dg
theorem w64_not_big {n d : Nat} (hn : n < W32 ^ 64) (hd : d < W32 ^ 64) : big n d = false := by
 unfold big
 rw [decide_eq_false]
 intro h
 omega
theorem ebig_rd {inf : Bool} {g : Int} {t : Bool × Nat × Nat} (hl : large t.2.1 t.2.2 = false) : ebig (rdE inf g t) = false := by
 cases inf
 ·show (decide ((0 : Int) = 0) && big (fr t).2.1 (fr t).2.2) = false
  rw [w64_not_big (fr_bd hl).1 (fr_bd hl).2]; rfl
 ·show (decide (g = 0) && big 0 0) = false
  rw [w64_not_big (Nat.pow_pos W32_pos) (Nat.pow_pos W32_pos), Bool.and_false]
end Go.Proofs.YtheojajaefjecaaGreatDoor
