/- Abs of both sides. -/
import Derived.Test.YtimjoejkjgklaaaGreatDoorIsJ
import Derived.Test.YtimjoejkjgklaaaGreatDoorMkI
import Derived.Test.YtimjoejkjgklaaaGreatDoorRoadC
import Derived.WalkSmall
import Derived.Test.YtimjoejkjgklaaaGreatDoorHasT
import Derived.Test.YtimjoejkjgklaaaGreatDoorLawD
import Derived.Test.YtimjoejkjgklaaaGreatDoorAbsI
namespace Go.Proofs.YtimjoejkjgklaaaGreatDoor
open Go.RowKit Dg
theorem isFr_zero : IsFr (false, 0, 1) := ⟨false, 0, 1, Nat.one_pos, by decide⟩
theorem EOk.zero {A : Nat} (hA : 0 < A) : EOk A (0, false, 0, 1) := ⟨fun _ => isFr_zero, fun h => absurd rfl h, Nat.pow_pos W32_pos, Nat.one_lt_pow (by omega) (by decide)⟩
theorem QFit.zero : QFit (false, 0, 1) := ⟨isFr_zero, Nat.pow_pos W32_pos, Nat.one_lt_pow (by omega) (by decide)⟩
end Go.Proofs.YtimjoejkjgklaaaGreatDoor
