/- The middle of an interval: the number itself, and that it lies in the interval. -/
import Derived.Test.YtheojajaefjecaaGreatDoorIsJ
import Derived.Test.YtheojajaefjecaaGreatDoorHasT
import Derived.Test.YtheojajaefjecaaGreatDoorHasQ
import Derived.Test.YtheojajaefjecaaGreatDoorMidQ
namespace Go.Proofs.YtheojajaefjecaaGreatDoor
open Go.RowKit Dg
def mid (a b : Bool × Nat × Nat) (x y : Bool) : Bool × Nat × Nat :=
 if x then (if y then (false, 0, 1) else fsub (fr b) (false, 1, 1)) else if y then fadd (fr a) (false, 1, 1) else fhalf (fr a) (fr b)
def midc (i : (Bool × Nat × Nat) × (Bool × Nat × Nat) × Bool × Bool) : Int :=
 if ilarge i then 1 else if (srd i).2.2 then 2 else if big (mid i.1 i.2.1 i.2.2.1 i.2.2.2).2.1 (mid i.1 i.2.1 i.2.2.1 i.2.2.2).2.2 then 1 else 0
def midt (i : (Bool × Nat × Nat) × (Bool × Nat × Nat) × Bool × Bool) : Bool × Nat × Nat := resT (midc i) (mid i.1 i.2.1 i.2.2.1 i.2.2.2)
theorem FQ.self {a : Bool × Nat × Nat} (h : 0 < a.2.2) : FQ a (sv a.1 a.2.1) (a.2.2 : Int) := ⟨by omega, h, rfl⟩
theorem FQ.one : FQ (false, 1, 1) 1 1 := ⟨by decide, by decide, rfl⟩
theorem FQ.hlf : FQ (finv (false, 2, 1)) 1 2 := ⟨by decide, by decide, rfl⟩
theorem IsFr.one : IsFr (false, 1, 1) := ⟨false, 1, 1, by decide, rfl⟩
theorem IsFr.nul : IsFr (false, 0, 1) := ⟨false, 0, 1, by decide, rfl⟩
theorem half_lo {a b : Bool × Nat × Nat} (ha : 0 < a.2.2) (hb : 0 < b.2.2) (h : fcmp a b ≤ 0) : fcmp a (fhalf a b) ≤ 0 ∧ fcmp (fhalf a b) b ≤ 0 := by
 have F1 := FQ.self ha
 have F2 := FQ.self hb
 have F3 : FQ (fhalf a b) _ _ := fmul_FQ (fadd_FQ F1 F2) FQ.hlf
 have q1 : (0 : Int) < a.2.2 := by omega
 have q2 : (0 : Int) < b.2.2 := by omega
 have q3 : (0 : Int) < (a.2.2 : Int) * (b.2.2 : Int) * 2 := by have := Int.mul_pos q1 q2; omega
 rw [fcmp_Q F1 F2 q1 q2, cmpI_nonpos] at h
 rw [fcmp_Q F1 F3 q1 q3, fcmp_Q F3 F2 q3 q2, cmpI_nonpos, cmpI_nonpos]
 generalize sv a.1 a.2.1 = p at *
 generalize sv b.1 b.2.1 = r at *
 generalize (a.2.2 : Int) = q at *
 generalize (b.2.2 : Int) = s at *
 constructor
 ·have k := Int.mul_le_mul_of_nonneg_left h (Int.le_of_lt q1)
  have e1 : p * (q * s * 2) = q * (p * s) + q * (p * s) := by grind
  have e2 : (p * s + r * q) * 1 * q = q * (p * s) + q * (r * q) := by grind
  rw [e1, e2]
  omega
 ·have k := Int.mul_le_mul_of_nonneg_left h (Int.le_of_lt q2)
  have e1 : (p * s + r * q) * 1 * s = s * (p * s) + s * (r * q) := by grind
  have e2 : r * (q * s * 2) = s * (r * q) + s * (r * q) := by grind
  rw [e1, e2]
  omega
theorem more_lo {a : Bool × Nat × Nat} (ha : 0 < a.2.2) : fcmp a (fadd a (false, 1, 1)) ≤ 0 := by
 have F1 := FQ.self ha
 have F3 := fadd_FQ F1 FQ.one
 have q1 : (0 : Int) < a.2.2 := by omega
 rw [fcmp_Q F1 F3 q1 (by omega), cmpI_nonpos]
 generalize sv a.1 a.2.1 = p at *
 generalize (a.2.2 : Int) = q at *
 have k := Int.mul_nonneg (Int.le_of_lt q1) (Int.le_of_lt q1)
 have e2 : (p * 1 + 1 * q) * q = p * (q * 1) + q * q := by grind
 rw [e2]
 omega
theorem less_hi {a : Bool × Nat × Nat} (ha : 0 < a.2.2) : fcmp (fsub a (false, 1, 1)) a ≤ 0 := by
 have F1 := FQ.self ha
 have F3 : FQ (fsub a (false, 1, 1)) _ _ := fadd_FQ F1 (fneg_FQ FQ.one)
 have q1 : (0 : Int) < a.2.2 := by omega
 rw [fcmp_Q F3 F1 (by omega) q1, cmpI_nonpos]
 generalize sv a.1 a.2.1 = p at *
 generalize (a.2.2 : Int) = q at *
 have k := Int.mul_nonneg (Int.le_of_lt q1) (Int.le_of_lt q1)
 have e2 : (p * 1 + -1 * q) * q = p * (q * 1) - q * q := by grind
 rw [e2]
 omega
theorem IsFr.mid {a b : Bool × Nat × Nat} {x y : Bool} : IsFr (mid a b x y) := by
 unfold Go.Proofs.YtheojajaefjecaaGreatDoor.mid
 cases x <;> cases y
 ·exact IsFr.half (IsFr.fr a).pos (IsFr.fr b).pos
 ·exact IsFr.add (IsFr.fr a).pos (by decide)
 ·exact IsFr.add (IsFr.fr b).pos (by decide)
 ·exact IsFr.nul
theorem srd_le {a b : Bool × Nat × Nat} (h : (srd (a, b, false, false)).2.2 = false) : fcmp (fr a) (fr b) ≤ 0 := by
 have e : (srd (a, b, false, false)).2.2 = decide (0 < fcmp (fr a) (fr b)) := by
  show decide (0 < ecmp (0, fr a) (0, fr b)) = _
  rw [show ecmp (0, fr a) (0, fr b) = fcmp (fr a) (fr b) by unfold ecmp; simp]
 rw [e] at h
 have := of_decide_eq_false h
 omega
theorem ecmp_finM (s t : Bool × Nat × Nat) : ecmp (0, s) (0, t) = fcmp s t := by unfold ecmp; simp
theorem mid_in {a b : Bool × Nat × Nat} {x y : Bool} (h : (srd (a, b, x, y)).2.2 = false) : shas (srd (a, b, x, y)) (0, mid a b x y) = true := by
 have pa := (IsFr.fr a).pos
 have pb := (IsFr.fr b).pos
 unfold shas
 rw [Bool.and_eq_true, decide_eq_true_eq, decide_eq_true_eq]
 cases x <;> cases y
 ·have k := half_lo pa pb (srd_le h)
  show ecmp (0, fr a) (0, fhalf (fr a) (fr b)) ≤ 0 ∧ ecmp (0, fhalf (fr a) (fr b)) (0, fr b) ≤ 0
  rw [ecmp_finM, ecmp_finM]
  exact k
 ·show ecmp (0, fr a) (0, fadd (fr a) (false, 1, 1)) ≤ 0 ∧ ecmp (0, fadd (fr a) (false, 1, 1)) (1, (false, 0, 0)) ≤ 0
  rw [ecmp_finM]
  exact ⟨more_lo pa, by unfold ecmp; simp [cmpI]⟩
 ·show ecmp (-1, (false, 0, 0)) (0, fsub (fr b) (false, 1, 1)) ≤ 0 ∧ ecmp (0, fsub (fr b) (false, 1, 1)) (0, fr b) ≤ 0
  rw [ecmp_finM]
  exact ⟨by unfold ecmp; simp [cmpI], less_hi pb⟩
 ·show ecmp (-1, (false, 0, 0)) (0, (false, 0, 1)) ≤ 0 ∧ ecmp (0, (false, 0, 1)) (1, (false, 0, 0)) ≤ 0
  exact ⟨by unfold ecmp; simp [cmpI], by unfold ecmp; simp [cmpI]⟩
theorem mid_has {i : (Bool × Nat × Nat) × (Bool × Nat × Nat) × Bool × Bool} (h : midc i = 0) : hval i (midt i) = true ∧ hcode i (midt i) = 0 := by
 unfold midt hval hcode
 rw [h]
 unfold midc at h
 cases hl : ilarge i
 ·rw [hl] at h
  cases he : (srd i).2.2
  ·rw [he] at h
   cases hb : big (mid i.1 i.2.1 i.2.2.1 i.2.2.2).2.1 (mid i.1 i.2.1 i.2.2.1 i.2.2.2).2.2
   ·have hq : QFit (mid i.1 i.2.1 i.2.2.1 i.2.2.2) := ⟨IsFr.mid, (big_lt hb).1, (big_lt hb).2⟩
    have e1 : resT 0 (mid i.1 i.2.1 i.2.2.1 i.2.2.2) = outF (mid i.1 i.2.1 i.2.2.1 i.2.2.2) := rfl
    rw [e1, hq.out.1, hq.fr]
    exact ⟨mid_in he, rfl⟩
   ·rw [hb] at h
    exact absurd h (by decide)
  ·rw [he] at h
   exact absurd h (by simp)
 ·rw [hl] at h
  exact absurd h (by simp)
end Go.Proofs.YtheojajaefjecaaGreatDoor
