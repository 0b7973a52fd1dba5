/- Powers of fractions and numbers, in the program. -/
import Derived.Test.YtjnfnngobkjneaaGreatDoorPowA
import Derived.Test.YtjnfnngobkjneaaGreatDoorPowM
namespace Go.Proofs.YtjnfnngobkjneaaGreatDoor
open Go.RowKit Dg

theorem lt_1000 {x a : Nat} (h : x < W32 ^ a) (ha : a ≤ 1000) : x < W32 ^ 1000 := by
  generalize 1000 = b at *
  exact lt_pow h ha
theorem FRes.any {w : World} {e : Ending} {c : Int} {t : Bool × Nat × Nat} (h : FRes w e c t) : ∃ sg pa ka ca pb kb cb, e = .returned (.tuple #[.agg #[.bool sg, .slice pa ka ca, .slice pb kb cb], .int .i64 c]) ∧ Hid (c = 0 → FNorm w (.agg #[.bool sg, .slice pa ka ca, .slice pb kb cb]) t) := by
  rcases h with ⟨h0, rfl⟩ | ⟨rfl, sg, pa, ka, ca, pb, kb, cb, rfl, hF⟩
  · exact ⟨false, none, 0, 0, none, 0, 0, rfl, hid fun h => absurd h h0⟩
  · exact ⟨sg, pa, ka, ca, pb, kb, cb, rfl, hid fun _ => hF.out⟩

theorem powr_bd {t : Bool × Nat × Nat} {n : Int} (h1 : t.2.1 < W32 ^ 64) (h2 : t.2.2 < W32 ^ 64) (hc : powc t n = 0) : (powr t n).2.1 < W32 ^ 1000000000 ∧ (powr t n).2.2 < W32 ^ 1000000000 := by
  have hr : n.natAbs ≤ 256 := by
    unfold powc at hc
    split at hc
    · exact absurd hc (by decide)
    · omega
  have hi := frinv_bd h1 h2
  unfold powr
  split
  · exact ⟨lt_big (pow_Wb hi.1 (by omega) hr) (by omega), lt_big (pow_Wb hi.2 (by omega) hr) (by omega)⟩
  · exact ⟨lt_big (pow_Wb h1 (by omega) hr) (by omega), lt_big (pow_Wb h2 (by omega) hr) (by omega)⟩
end Go.Proofs.YtjnfnngobkjneaaGreatDoor
