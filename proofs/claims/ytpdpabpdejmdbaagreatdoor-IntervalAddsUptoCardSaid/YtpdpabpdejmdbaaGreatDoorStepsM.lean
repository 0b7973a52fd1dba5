/- Down and Up are neighbours on the grid: what the comparisons of NumberSteps are. -/
import Derived.Test.YtpdpabpdejmdbaaGreatDoorGrd
namespace Go.Proofs.YtpdpabpdejmdbaaGreatDoor
open Go.RowKit Dg
theorem sv_botn (s : Bool) (n : Nat) {D P : Nat} (hD : 0 < D) : sv s (botn (s, n * P, D)) * (D : Int) ≤ sv s n * (P : Int) ∧ sv s n * (P : Int) < (sv s (botn (s, n * P, D)) + 1) * (D : Int) := by
 have h1 := Nat.div_add_mod (n * P) D
 have h2 := Nat.mod_lt (n * P) hD
 have e0 : ((n * P : Nat) : Int) = (n : Int) * (P : Int) := Int.natCast_mul n P
 generalize n * P = X at *
 generalize hr : X % D = r at *
 generalize hq : X / D = q at *
 have e1 : (X : Int) = (D : Int) * q + r := by rw [← h1]; push_cast; rfl
 cases s
 ·have hb : botn (false, X, D) = q := by unfold botn; rw [if_neg (by simp)]; exact hq
  rw [hb]
  show (q : Int) * D ≤ (n : Int) * P ∧ (n : Int) * P < ((q : Int) + 1) * D
  rw [← e0, e1, Int.add_mul, Int.one_mul, Int.mul_comm (q : Int)]
  omega
 ·by_cases h0 : r = 0
  ·have hb : botn (true, X, D) = q := by unfold botn; rw [if_neg (by simp only; rw [hr]; simp [h0])]; exact hq
   rw [hb]
   show -(q : Int) * D ≤ -(n : Int) * P ∧ -(n : Int) * P < (-(q : Int) + 1) * D
   rw [Int.neg_mul, Int.neg_mul, ← e0, e1, Int.add_mul, Int.one_mul, Int.neg_mul, Int.mul_comm (q : Int)]
   omega
  ·have hb : botn (true, X, D) = q + 1 := by unfold botn; rw [if_pos ⟨rfl, by simp only; rw [hr]; exact h0⟩]; exact congrArg (· + 1) hq
   rw [hb]
   show -((q + 1 : Nat) : Int) * D ≤ -(n : Int) * P ∧ -(n : Int) * P < (-((q + 1 : Nat) : Int) + 1) * D
   have e2 : ((q + 1 : Nat) : Int) = (q : Int) + 1 := by omega
   rw [e2, Int.neg_mul, Int.neg_mul, ← e0, e1, Int.add_mul, Int.one_mul, show -((q : Int) + 1) + 1 = -(q : Int) by omega, Int.neg_mul, Int.mul_comm (q : Int)]
   omega
theorem two_ne (p : Nat) : ((2 ^ p : Nat) : Int) ≠ 0 := by have : 0 < 2 ^ p := Nat.pow_pos (by decide); omega
theorem gdn_FQ (t : Bool × Nat × Nat) (p : Nat) : FQ (gdn t p) (sv t.1 (botn (t.1, t.2.1 * 2 ^ p, t.2.2))) ((2 ^ p : Nat) : Int) :=
 frac_FQ (Nat.pow_pos (by decide)) (two_ne p) rfl
theorem steps_math {t : Bool × Nat × Nat} {P p : Nat} (hP : P = 2 ^ p) (hD : 0 < t.2.2) : ∃ A U : Int, FQ (gdn t p) A (P : Int) ∧ FQ (gup t p) U (P : Int) ∧
  A * (t.2.2 : Int) ≤ sv t.1 t.2.1 * (P : Int) ∧ sv t.1 t.2.1 * (P : Int) < (A + 1) * (t.2.2 : Int) ∧ (U - 1) * (t.2.2 : Int) < sv t.1 t.2.1 * (P : Int) ∧ sv t.1 t.2.1 * (P : Int) ≤ U * (t.2.2 : Int) := by
 have h1 := sv_botn t.1 t.2.1 (P := P) hD
 have h2 := sv_botn (fneg t).1 t.2.1 (P := P) hD
 have e : sv (fneg t).1 t.2.1 = -sv t.1 t.2.1 := by
  show sv (!t.1 && decide (t.2.1 ≠ 0)) t.2.1 = _
  rw [sv_sign _ _ _ (fun h => h)]
  cases t.1 <;> simp [sv]
 rw [e] at h2
 refine ⟨_, _, hP ▸ gdn_FQ t p, hP ▸ fneg_FQ (gdn_FQ (fneg t) p), h1.1, h1.2, ?_, ?_⟩
 ·have h3 := h2.2
  rw [show (fneg t).2.1 = t.2.1 from rfl, show (fneg t).2.2 = t.2.2 from rfl]
  generalize sv (fneg t).1 (botn ((fneg t).1, t.2.1 * P, t.2.2)) = B at *
  rw [Int.neg_mul] at h3
  have e3 : (-B - 1) * (t.2.2 : Int) = -((B + 1) * (t.2.2 : Int)) := by rw [← Int.neg_mul]; congr 1; omega
  rw [e3]
  omega
 ·have h3 := h2.1
  rw [show (fneg t).2.1 = t.2.1 from rfl, show (fneg t).2.2 = t.2.2 from rfl]
  generalize sv (fneg t).1 (botn ((fneg t).1, t.2.1 * P, t.2.2)) = B at *
  rw [Int.neg_mul] at h3
  rw [Int.neg_mul]
  omega
end Go.Proofs.YtpdpabpdejmdbaaGreatDoor
