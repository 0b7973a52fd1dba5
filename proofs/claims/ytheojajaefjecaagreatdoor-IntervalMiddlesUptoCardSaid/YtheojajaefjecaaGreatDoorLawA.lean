/- The check that every law makes: 1/2 + 1/3 is 5/6. -/
import Derived.Test.YtheojajaefjecaaGreatDoorNumX
namespace Go.Proofs.YtheojajaefjecaaGreatDoor
open Go.RowKit Dg
theorem Raw.alloc {w : World} {v : Value} {x : Nat} (h : Raw w v x) (o : Obj) : Raw (w.alloc o) v x := h.below ((Below.refl _ _).alloc (Nat.le_refl _) o)
end Go.Proofs.YtheojajaefjecaaGreatDoor
