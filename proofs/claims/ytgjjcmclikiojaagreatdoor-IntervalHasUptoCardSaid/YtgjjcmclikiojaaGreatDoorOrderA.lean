/- The order of the numbers, in integers. -/
import Derived.Test.YtgjjcmclikiojaaGreatDoorNumY
namespace Go.Proofs.YtgjjcmclikiojaaGreatDoor
open Go.RowKit Dg

theorem cmpI_sub (a b : Int) : cmpI a b = cmpI (a - b) 0 := by unfold cmpI; repeat (first | split | rfl | omega)
theorem cmpI_range (a b : Int) : cmpI a b = -1 ∨ cmpI a b = 0 ∨ cmpI a b = 1 := by unfold cmpI; repeat (first | split | simp)
theorem cmpI_scale {a b k : Int} (hk : 0 < k) : cmpI (k * a) (k * b) = cmpI a b := by
  unfold cmpI
  rcases Int.lt_trichotomy a b with h | h | h
  · rw [if_pos (Int.mul_lt_mul_of_pos_left h hk), if_pos h]
  · subst h; simp
  · have h2 := Int.mul_lt_mul_of_pos_left h hk
    rw [if_neg (show ¬ k * a < k * b by omega), if_pos h2, if_neg (show ¬ a < b by omega), if_pos h]
theorem cmpI_swap (a b : Int) : cmpI b a = - cmpI a b := by unfold cmpI; repeat (first | split | rfl | omega)
theorem fcmp_Q {a b : Bool × Nat × Nat} {p q p' q' : Int} (h : FQ a p q) (h' : FQ b p' q') (hq : 0 < q) (hq' : 0 < q') : fcmp a b = cmpI (p * q') (p' * q) := by
  unfold fcmp
  have h1 := h.2.2
  have h2 := h'.2.2
  have hd := h.2.1
  have hd' := h'.2.1
  rw [← cmpI_scale (Int.mul_pos hq hq'), ← cmpI_scale (a := p * q') (Int.mul_pos (show (0 : Int) < a.2.2 by omega) (show (0 : Int) < b.2.2 by omega))]
  have e1 : q * q' * (sv a.1 a.2.1 * (b.2.2 : Int)) = (a.2.2 : Int) * (b.2.2 : Int) * (p * q') := by
    calc q * q' * (sv a.1 a.2.1 * (b.2.2 : Int)) = (sv a.1 a.2.1 * q) * q' * (b.2.2 : Int) := by grind
      _ = (p * (a.2.2 : Int)) * q' * (b.2.2 : Int) := by rw [h1]
      _ = (a.2.2 : Int) * (b.2.2 : Int) * (p * q') := by grind
  have e2 : q * q' * (sv b.1 b.2.1 * (a.2.2 : Int)) = (a.2.2 : Int) * (b.2.2 : Int) * (p' * q) := by
    calc q * q' * (sv b.1 b.2.1 * (a.2.2 : Int)) = (sv b.1 b.2.1 * q') * q * (a.2.2 : Int) := by grind
      _ = (p' * (b.2.2 : Int)) * q * (a.2.2 : Int) := by rw [h2]
      _ = (a.2.2 : Int) * (b.2.2 : Int) * (p' * q) := by grind
  rw [e1, e2]
theorem sgn_Q {a : Bool × Nat × Nat} {p q : Int} (h : FQ a p q) (hq : 0 < q) (hz : a.2.1 = 0 → a.1 = false) : sgn a.1 a.2.1 = cmpI p 0 := by
  have h1 := h.2.2
  have hd : (0 : Int) < a.2.2 := by have := h.2.1; omega
  have e1 : cmpI (sv a.1 a.2.1) 0 = cmpI p 0 := by
    rw [← cmpI_scale (a := sv a.1 a.2.1) hq, ← cmpI_scale (a := p) hd, Int.mul_comm q, h1, Int.mul_comm p, Int.mul_zero, Int.mul_zero]
  rw [← e1]
  unfold sgn sv cmpI
  cases hs : a.1
  · by_cases h0 : a.2.1 = 0 <;> simp [h0] <;> omega
  · have : a.2.1 ≠ 0 := fun h => by rw [hz h] at hs; exact absurd hs (by decide)
    simp; omega

theorem den1_posI (d : Nat) : (0 : Int) < den1 d := by have := den1_pos d; omega
/-- x compared with y, over their own denominators. -/
theorem cmt_Q {x y : Bool × Nat × Nat} (h : cmc x y = 0) {p q p' q' : Int} (hx : IsQ x p q) (hy : IsQ y p' q') (hq : 0 < q) (hq' : 0 < q') : cmt x y = cmpI (p * q') (p' * q) := by
  unfold cmc at h
  unfold cmt
  cases hb : (large x.2.1 x.2.2 || large y.2.1 y.2.2)
  · rw [if_neg (by decide)]
    exact fcmp_Q (fq_FQ hx) (fq_FQ hy) hq hq'
  · rw [hb, if_pos rfl] at h
    exact absurd h (by decide)
theorem cmc_range (x y : Bool × Nat × Nat) : cmc x y = 0 ∨ cmc x y = 1 := by unfold cmc; split <;> simp
theorem cmc_zero {x y : Bool × Nat × Nat} : cmc x y = 0 ↔ large x.2.1 x.2.2 = false ∧ large y.2.1 y.2.2 = false := by
  unfold cmc
  cases large x.2.1 x.2.2 <;> cases large y.2.1 y.2.2 <;> simp
theorem res_small {c : Int} {t : Bool × Nat × Nat} (h0 : c = 0) (h : big t.2.1 t.2.2 = false) : large (resT c t).2.1 (resT c t).2.2 = false := by
  unfold resT
  rw [if_pos h0]
  have h2 := big_lt h
  have hw : W32 ^ 64 ≤ W32 ^ 256 := Nat.pow_le_pow_right W32_pos (by omega)
  have hd : den0 t.2.2 < W32 ^ 64 := by unfold den0; split; exact Nat.lt_of_le_of_lt (Nat.zero_le _) h2.2; exact h2.2
  have hn : t.2.1 < W32 ^ 64 := h2.1
  show large t.2.1 (den0 t.2.2) = false
  have hd1 : den1 (den0 t.2.2) < W32 ^ 64 := by
    unfold den1; split
    · exact Nat.lt_of_lt_of_le (by decide) (Nat.pow_le_pow_right W32_pos (show 1 ≤ 64 by omega))
    · exact hd
  rw [large_short (decide_eq_false (by omega))]
  unfold big
  exact decide_eq_false (by
    have a1 := Nat.lt_of_le_of_lt (Nat.div_le_self t.2.1 (Nat.gcd t.2.1 (den1 (den0 t.2.2)))) hn
    have a2 := Nat.lt_of_le_of_lt (Nat.div_le_self (den1 (den0 t.2.2)) (Nat.gcd t.2.1 (den1 (den0 t.2.2)))) hd1
    omega)

theorem order_err {x y z : Bool × Nat × Nat} (h : ¬(cmc x y = 0 ∧ cmc y z = 0 ∧ cmc x z = 0)) : cmc x y = 1 ∨ (cmc x y = 0 ∧ cmc y z = 1) := by
  have h1 := cmc_range x y
  have h2 := cmc_range y z
  rcases h1 with h1 | h1
  · right
    refine ⟨h1, ?_⟩
    rcases h2 with h2 | h2
    · exact absurd ⟨h1, h2, cmc_zero.2 ⟨(cmc_zero.1 h1).1, (cmc_zero.1 h2).2⟩⟩ h
    · exact h2
  · exact .inl h1
theorem order_tri {x y z : Bool × Nat × Nat} (h1 : cmc x y = 0) (h2 : cmc y z = 0) (h3 : cmc x z = 0) :
    (cmt x y = -1 ∨ cmt x y = 0 ∨ cmt x y = 1) ∧ (cmt y z = -1 ∨ cmt y z = 0 ∨ cmt y z = 1) ∧ (cmt x z = -1 ∨ cmt x z = 0 ∨ cmt x z = 1) ∧
    (cmt x y = cmt y z → cmt x z = cmt x y) ∧ (cmt x y = 0 → cmt x z = cmt y z) ∧ (cmt y z = 0 → cmt x z = cmt x y) := by
  have hx := den1_posI x.2.2
  have hy := den1_posI y.2.2
  have hz := den1_posI z.2.2
  rw [cmt_Q h1 (IsQ.self x) (IsQ.self y) hx hy, cmt_Q h2 (IsQ.self y) (IsQ.self z) hy hz, cmt_Q h3 (IsQ.self x) (IsQ.self z) hx hz]
  generalize (den1 x.2.2 : Int) = X' at *
  generalize (den1 y.2.2 : Int) = Y' at *
  generalize (den1 z.2.2 : Int) = Z' at *
  generalize sv x.1 x.2.1 = X at *
  generalize sv y.1 y.2.1 = Y at *
  generalize sv z.1 z.2.1 = Z at *
  refine ⟨cmpI_range _ _, cmpI_range _ _, cmpI_range _ _, ?_⟩
  rw [cmpI_sub (X * Y'), cmpI_sub (Y * Z'), cmpI_sub (X * Z')]
  rw [← cmpI_scale (a := X * Y' - Y * X') (b := 0) hz, ← cmpI_scale (a := Y * Z' - Z * Y') (b := 0) hx, ← cmpI_scale (a := X * Z' - Z * X') (b := 0) hy]
  have e : Y' * (X * Z' - Z * X') = Z' * (X * Y' - Y * X') + X' * (Y * Z' - Z * Y') := by grind
  rw [e, Int.mul_zero, Int.mul_zero, Int.mul_zero]
  generalize Z' * (X * Y' - Y * X') = E1
  generalize X' * (Y * Z' - Z * Y') = E2
  unfold cmpI
  refine ⟨?_, ?_, ?_⟩ <;> (repeat split) <;> omega
theorem order_back {x y : Bool × Nat × Nat} (h1 : cmc x y = 0) : cmt y x = - cmt x y := by
  have h2 : cmc y x = 0 := cmc_zero.2 ⟨(cmc_zero.1 h1).2, (cmc_zero.1 h1).1⟩
  rw [cmt_Q h1 (IsQ.self x) (IsQ.self y) (den1_posI _) (den1_posI _), cmt_Q h2 (IsQ.self y) (IsQ.self x) (den1_posI _) (den1_posI _)]
  exact cmpI_swap _ _
theorem order_sub {x y : Bool × Nat × Nat} (h1 : cmc x y = 0) (h4 : subc x y = 0) : sgc (subt x y) = 0 ∧ sgt (subt x y) = cmt x y := by
  have hs : large (subt x y).2.1 (subt x y).2.2 = false := res_small h4 (ncode_zero h4).2.2.2
  refine ⟨by unfold sgc; rw [hs]; rfl, ?_⟩
  unfold sgt
  rw [hs, if_neg (by decide), cmt_Q h1 (IsQ.self x) (IsQ.self y) (den1_posI _) (den1_posI _), cmpI_sub]
  have hq := subt_Q h4 (IsQ.self x) (IsQ.self y)
  show sgn (frac _ _ _).1 (frac _ _ _).2.1 = _
  rw [sgn_Q (fq_FQ hq) (Int.mul_pos (den1_posI _) (den1_posI _)) (fun h => frac_zero_sign (den1_pos _) h)]
  rw [Int.neg_mul, Int.sub_eq_add_neg]
theorem order_add {x y z : Bool × Nat × Nat} (h1 : cmc x y = 0) (h6 : addc x z = 0) (h7 : addc y z = 0) : cmc (addt x z) (addt y z) = 0 ∧ cmt (addt x z) (addt y z) = cmt x y := by
  have hs : large (addt x z).2.1 (addt x z).2.2 = false := res_small h6 (ncode_zero h6).2.2.2
  have hs' : large (addt y z).2.1 (addt y z).2.2 = false := res_small h7 (ncode_zero h7).2.2.2
  have hc := cmc_zero.2 ⟨hs, hs'⟩
  refine ⟨hc, ?_⟩
  have hx := den1_posI x.2.2
  have hy := den1_posI y.2.2
  have hz := den1_posI z.2.2
  rw [cmt_Q hc (addt_Q h6 (IsQ.self x) (IsQ.self z)) (addt_Q h7 (IsQ.self y) (IsQ.self z)) (Int.mul_pos hx hz) (Int.mul_pos hy hz), cmt_Q h1 (IsQ.self x) (IsQ.self y) hx hy]
  generalize (den1 x.2.2 : Int) = X' at *
  generalize (den1 y.2.2 : Int) = Y' at *
  generalize (den1 z.2.2 : Int) = Z' at *
  generalize sv x.1 x.2.1 = X at *
  generalize sv y.1 y.2.1 = Y at *
  generalize sv z.1 z.2.1 = Z at *
  rw [cmpI_sub, cmpI_sub (X * Y'), ← cmpI_scale (a := X * Y' - Y * X') (b := 0) (Int.mul_pos hz hz), Int.mul_zero]
  congr 1
  grind

end Go.Proofs.YtgjjcmclikiojaaGreatDoor
