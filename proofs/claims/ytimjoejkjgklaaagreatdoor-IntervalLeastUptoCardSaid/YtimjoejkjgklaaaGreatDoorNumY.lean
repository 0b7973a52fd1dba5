/- What triples denote: rational numbers as pairs of integers. The operations on numbers in one form: an error code and a value, whatever the arguments are. Numbers of the program: Sign, Compare. -/
import Derived.Test.YtimjoejkjgklaaaGreatDoorNumX
import Derived.Test.YtimjoejkjgklaaaGreatDoorRefX
namespace Go.Proofs.YtimjoejkjgklaaaGreatDoor
open Go.RowKit Dg
def IsQ (a : Bool × Nat × Nat) (p q : Int) : Prop := q ≠ 0 ∧ sv a.1 a.2.1 * q = p * (den1 a.2.2 : Int)
theorem sv_mul (s : Bool) (n m : Nat) : sv s (n * m) = sv s n * m := by
 unfold sv; cases s <;> simp [Int.neg_mul]
theorem IsQ.same {a b : Bool × Nat × Nat} {p q p' q' : Int} (h : IsQ a p q) (h' : IsQ b p' q') (e : p * q' = p' * q) : SameQ a.1 a.2.1 a.2.2 b.1 b.2.1 b.2.2 := by
 have ha := den1_pos a.2.2
 have hb := den1_pos b.2.2
 have h1 := h.2
 have h2 := h'.2
 have key : sv a.1 a.2.1 * (den1 b.2.2 : Int) = sv b.1 b.2.1 * (den1 a.2.2 : Int) := by
  have h3 : (q * q') * (sv a.1 a.2.1 * (den1 b.2.2 : Int)) = (q * q') * (sv b.1 b.2.1 * (den1 a.2.2 : Int)) := by
   calc (q * q') * (sv a.1 a.2.1 * (den1 b.2.2 : Int)) = (sv a.1 a.2.1 * q) * q' * (den1 b.2.2 : Int) := by grind
    _ = (p * (den1 a.2.2 : Int)) * q' * (den1 b.2.2 : Int) := by rw [h1]
    _ = (p * q') * (den1 a.2.2 : Int) * (den1 b.2.2 : Int) := by grind
    _ = (p' * q) * (den1 a.2.2 : Int) * (den1 b.2.2 : Int) := by rw [e]
    _ = (p' * (den1 b.2.2 : Int)) * q * (den1 a.2.2 : Int) := by grind
    _ = (sv b.1 b.2.1 * q') * q * (den1 a.2.2 : Int) := by rw [h2]
    _ = (q * q') * (sv b.1 b.2.1 * (den1 a.2.2 : Int)) := by grind
  exact Int.eq_of_mul_eq_mul_left (Int.mul_ne_zero h.1 h'.1) h3
 rw [← sv_mul, ← sv_mul] at key
 unfold SameQ
 have z1 : a.2.1 * den1 b.2.2 = 0 ↔ a.2.1 = 0 := by rw [Nat.mul_eq_zero]; omega
 have z2 : b.2.1 * den1 a.2.2 = 0 ↔ b.2.1 = 0 := by rw [Nat.mul_eq_zero]; omega
 generalize a.2.1 * den1 b.2.2 = X at *
 generalize b.2.1 * den1 a.2.2 = Y at *
 unfold sv at key
 by_cases c1 : a.2.1 = 0
 ·have x0 := z1.2 c1
  subst x0
  have : Y = 0 := by cases a.1 <;> cases b.1 <;> simp at key <;> omega
  exact .inl ⟨c1, z2.1 this⟩
 ·have x0 : X ≠ 0 := fun h => c1 (z1.1 h)
  have y0 : Y ≠ 0 := by intro h; subst h; cases a.1 <;> cases b.1 <;> simp at key <;> omega
  refine .inr ⟨c1, fun h => y0 (z2.2 h), ?_⟩
  cases ha1 : a.1 <;> cases hb1 : b.1 <;> simp [ha1, hb1] at key ⊢ <;> omega
end Go.Proofs.YtimjoejkjgklaaaGreatDoor
namespace Go.Proofs.YtimjoejkjgklaaaGreatDoor
open Go.RowKit Dg
def NRep (w : World) (v : Value) (a : Bool × Nat × Nat) : Prop := ARep w v a.1 a.2.1 a.2.2
theorem NRep.below {w w' : World} {v : Value} {a : Bool × Nat × Nat} (h : NRep w v a) (hb : Below w.heap.size w w') : NRep w' v a := ARep.below h hb
def fr (a : Bool × Nat × Nat) : Bool × Nat × Nat := frac a.1 a.2.1 (den1 a.2.2)
def Few (a : Bool × Nat × Nat) : Prop := a.2.1 < W32 ^ 256 ∧ a.2.2 < W32 ^ 256
theorem few_large {a : Bool × Nat × Nat} (h : large a.2.1 a.2.2 = false) : Few a := by
 unfold large at h
 rw [Bool.or_eq_false_iff] at h
 have := of_decide_eq_false h.1
 exact ⟨by omega, by omega⟩
end Go.Proofs.YtimjoejkjgklaaaGreatDoor
namespace Go.Proofs.YtimjoejkjgklaaaGreatDoor
open Go.RowKit Dg
end Go.Proofs.YtimjoejkjgklaaaGreatDoor
