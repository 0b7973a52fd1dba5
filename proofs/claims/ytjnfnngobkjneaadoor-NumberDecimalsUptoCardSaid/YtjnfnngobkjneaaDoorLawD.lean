/- The law NumberSigns: Sgn, Opp, Mag of the answers. -/
import Derived.Test.YtjnfnngobkjneaaDoorLawC
import Derived.Test.YtjnfnngobkjneaaDoorOrderA
namespace Go.Proofs.YtjnfnngobkjneaaDoor
open Go.RowKit Dg

theorem QNorm.alloc {w : World} {v : Value} {t : Bool × Nat × Nat} (h : QNorm w v t) (o : Obj) : QNorm (w.alloc o) v t := h.below ((Below.refl _ _).alloc (Nat.le_refl _) o)
theorem fneg_frac {s : Bool} {n d : Nat} (hd : 0 < d) : fneg (frac s n d) = frac (!s) n d := by
  have hz : n / Nat.gcd n d = 0 ↔ n = 0 := by
    constructor
    · intro h
      have := Nat.div_mul_cancel (Nat.gcd_dvd_left n d)
      rw [h, Nat.zero_mul] at this
      exact this.symm
    · intro h; rw [h, Nat.zero_div]
  have _ := hd
  unfold fneg frac
  by_cases h : n = 0
  · have h2 := hz.2 h
    simp [h]
  · have h2 : ¬ n / Nat.gcd n d = 0 := fun h3 => h (hz.1 h3)
    simp [h, h2]
theorem fabs_frac {s : Bool} {n d : Nat} : fabs (frac s n d) = frac false n d := by unfold fabs frac; simp
end Go.Proofs.YtjnfnngobkjneaaDoor
