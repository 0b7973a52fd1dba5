/- IsEmpty, Bounded, Sign of both sides are the same. -/
import Derived.Test.YtimjoejkjgklaaaGreatDoorCanI
import Derived.Test.YtimjoejkjgklaaaGreatDoorAbsK
namespace Go.Proofs.YtimjoejkjgklaaaGreatDoor
open Go.RowKit Dg
theorem sgn_three (s : Bool) (n : Nat) : sgn s n = -1 ∨ sgn s n = 0 ∨ sgn s n = 1 := by
  unfold sgn
  repeat' split
  all_goals simp
theorem sgn_sv {s : Bool} {n : Nat} (h : n = 0 → s = false) : (sgn s n = -1 ↔ sv s n < 0) ∧ (sgn s n = 0 ↔ sv s n = 0) ∧ (sgn s n = 1 ↔ 0 < sv s n) := by
  unfold sgn sv
  cases s
  · by_cases h0 : n = 0
    · subst h0; simp
    · have hp : (0 : Int) < n := by omega
      rw [if_neg h0]
      simp only [Bool.false_eq_true, if_false]
      refine ⟨⟨fun h => ?_, fun h => ?_⟩, ⟨fun h => ?_, fun h => ?_⟩, ⟨fun h => ?_, fun h => ?_⟩⟩ <;> first | exact trivial | omega
  · have h0 : n ≠ 0 := fun e => absurd (h e) (by decide)
    have hp : (0 : Int) < n := by omega
    simp only [if_true]
    refine ⟨⟨fun h => ?_, fun h => ?_⟩, ⟨fun h => ?_, fun h => ?_⟩, ⟨fun h => ?_, fun h => ?_⟩⟩ <;> first | exact trivial | omega
theorem sgn_mono {a b : Bool × Nat × Nat} (ha : IsFr a) (hb : IsFr b) (h : fcmp a b ≤ 0) : sgn a.1 a.2.1 ≤ sgn b.1 b.2.1 := by
  rw [fcmp_nonpos] at h
  have h1 := sgn_sv ha.zs
  have h2 := sgn_sv hb.zs
  have hp : (0 : Int) < a.2.2 := by have := ha.pos; omega
  have hq : (0 : Int) < b.2.2 := by have := hb.pos; omega
  have t1 := sgn_three a.1 a.2.1
  have t2 := sgn_three b.1 b.2.1
  generalize sgn a.1 a.2.1 = A at *
  generalize sgn b.1 b.2.1 = B at *
  generalize sv a.1 a.2.1 = x at *
  generalize sv b.1 b.2.1 = y at *
  generalize (a.2.2 : Int) = p at *
  generalize (b.2.2 : Int) = q at *
  have k1 : y < 0 → x < 0 := by
    intro hy
    have e1 := Int.mul_neg_of_neg_of_pos hy hp
    by_cases hx : x < 0
    · exact hx
    · have e2 := Int.mul_nonneg (a := x) (b := q) (by omega) (by omega)
      omega
  have k2 : y ≤ 0 → x ≤ 0 := by
    intro hy
    have e1 := Int.mul_le_mul_of_nonneg_right hy (Int.le_of_lt hp)
    rw [Int.zero_mul] at e1
    by_cases hx : x ≤ 0
    · exact hx
    · have e2 := Int.mul_pos (a := x) (b := q) (by omega) hq
      omega
  omega
end Go.Proofs.YtimjoejkjgklaaaGreatDoor
