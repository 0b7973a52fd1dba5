/- Roots of fractions and numbers, in the program. -/
import Derived.Test.YtjnfnngobkjneaaGreatDoorPowP
import Derived.Test.YtjnfnngobkjneaaGreatDoorRootN
namespace Go.Proofs.YtjnfnngobkjneaaGreatDoor
open Go.RowKit Dg Rt

/-- The root of a fraction comes back, and whether there is one. -/
def RootRes (w : World) (e : Ending) (t : Bool × Nat × Nat) (n : Nat) : Prop :=
  ∃ sg pa ka ca pb kb cb, e = .returned (.tuple #[.agg #[.bool sg, .slice pa ka ca, .slice pb kb cb], .bool (rootOk t n)]) ∧ FNorm w (.agg #[.bool sg, .slice pa ka ca, .slice pb kb cb]) (rootr t n)
theorem RootRes.no {w : World} {t : Bool × Nat × Nat} {n : Nat} (h : rootOk t n = false) : RootRes w (.returned (.tuple #[.agg #[.bool false, .slice none 0 0, .slice none 0 0], .bool false])) t n := by
  refine ⟨false, none, 0, 0, none, 0, 0, by rw [h], ?_⟩
  unfold rootr
  rw [h]
  exact ⟨_, _, rfl, Rep.nil, Rep.nil⟩
theorem RootRes.yes {w : World} {t r : Bool × Nat × Nat} {n : Nat} {sg : Bool} {pa pb : Option Addr} {ka ca kb cb : Nat} (h : rootOk t n = true) (hr : rootr t n = r) (hF : FNorm w (.agg #[.bool sg, .slice pa ka ca, .slice pb kb cb]) r) :
    RootRes w (.returned (.tuple #[.agg #[.bool sg, .slice pa ka ca, .slice pb kb cb], .bool true])) t n := ⟨_, _, _, _, _, _, _, by rw [h], by rw [hr]; exact hF⟩
theorem cmp3_zero {a b : Nat} (h : cmp3 a b = 0) : a = b := by
  rcases Nat.lt_trichotomy a b with h1 | h1 | h1
  · rw [cmp3_lt h1] at h; exact absurd h (by decide)
  · exact h1
  · rw [cmp3_gt h1] at h; exact absurd h (by decide)
end Go.Proofs.YtjnfnngobkjneaaGreatDoor
