/- The order of the numbers, in integers. -/
import Derived.Test.YtpdpabpdejmdbaaGreatDoorNumY
namespace Go.Proofs.YtpdpabpdejmdbaaGreatDoor
open Go.RowKit Dg
theorem cmpI_scale {a b k : Int} (hk : 0 < k) : cmpI (k * a) (k * b) = cmpI a b := by
  unfold cmpI
  rcases Int.lt_trichotomy a b with h | h | h
  · rw [if_pos (Int.mul_lt_mul_of_pos_left h hk), if_pos h]
  · subst h; simp
  · have h2 := Int.mul_lt_mul_of_pos_left h hk
    rw [if_neg (show ¬ k * a < k * b by omega), if_pos h2, if_neg (show ¬ a < b by omega), if_pos h]
theorem fcmp_Q {a b : Bool × Nat × Nat} {p q p' q' : Int} (h : FQ a p q) (h' : FQ b p' q') (hq : 0 < q) (hq' : 0 < q') : fcmp a b = cmpI (p * q') (p' * q) := by
  unfold fcmp
  have h1 := h.2.2
  have h2 := h'.2.2
  have hd := h.2.1
  have hd' := h'.2.1
  rw [← cmpI_scale (Int.mul_pos hq hq'), ← cmpI_scale (a := p * q') (Int.mul_pos (show (0 : Int) < a.2.2 by omega) (show (0 : Int) < b.2.2 by omega))]
  have e1 : q * q' * (sv a.1 a.2.1 * (b.2.2 : Int)) = (a.2.2 : Int) * (b.2.2 : Int) * (p * q') := by
    calc q * q' * (sv a.1 a.2.1 * (b.2.2 : Int)) = (sv a.1 a.2.1 * q) * q' * (b.2.2 : Int) := by grind
      _ = (p * (a.2.2 : Int)) * q' * (b.2.2 : Int) := by rw [h1]
      _ = (a.2.2 : Int) * (b.2.2 : Int) * (p * q') := by grind
  have e2 : q * q' * (sv b.1 b.2.1 * (a.2.2 : Int)) = (a.2.2 : Int) * (b.2.2 : Int) * (p' * q) := by
    calc q * q' * (sv b.1 b.2.1 * (a.2.2 : Int)) = (sv b.1 b.2.1 * q') * q * (a.2.2 : Int) := by grind
      _ = (p' * (b.2.2 : Int)) * q * (a.2.2 : Int) := by rw [h2]
      _ = (a.2.2 : Int) * (b.2.2 : Int) * (p' * q) := by grind
  rw [e1, e2]
end Go.Proofs.YtpdpabpdejmdbaaGreatDoor
