import Derived.Test.YtdinpeglclkjhaaDoorPure
/- Plain facts on shifts of rows of digits. No program is named here. -/
namespace Dg

/-- A digit of x / B^k is a digit of x. -/
theorem dg_div_pow (B x k j : Nat) : dg B (x / B ^ k) j = dg B x (k + j) := by
  unfold dg; rw [Nat.div_div_eq_div_mul, ← Nat.pow_add]
/-- A digit of x * B^k. -/
theorem dg_mul_pow_lt {B x k j : Nat} (h0 : 0 < B) (h : j < k) : dg B (B ^ k * x) j = 0 := by
  unfold dg
  obtain ⟨m, rfl⟩ : ∃ m, k = j + (m + 1) := ⟨k - j - 1, by omega⟩
  rw [Nat.pow_add, Nat.mul_assoc, Nat.mul_div_cancel_left _ (Nat.pow_pos h0), Nat.pow_succ, Nat.mul_comm (B ^ m) B, Nat.mul_assoc, Nat.mul_mod_right]
theorem dg_mul_pow_ge {B x k j : Nat} (hB : 0 < B) : dg B (B ^ k * x) (k + j) = dg B x j := by
  unfold dg; rw [Nat.pow_add, Nat.mul_div_mul_left _ _ (Nat.pow_pos hB)]

/-- The word that a shift to the right by less than a word makes of two words. -/
theorem dg_shr {B Y s m : Nat} (hm : B = 2 ^ s * m) : (Y / 2 ^ s) % B = ((Y % B + B * (Y / B % B)) / 2 ^ s) % B := by
  have e : Y % B + B * (Y / B % B) = Y % (B * B) := by rw [Nat.mod_mul]
  rw [e]
  rcases Nat.eq_zero_or_pos B with h0 | h0
  · subst h0; simp
  have hm0 : 0 < m := by rcases Nat.eq_zero_or_pos m with h | h
                         · subst h; simp at hm; omega
                         · exact h
  have h1 := Nat.mod_add_div Y (B * B)
  have e2 : Y / 2 ^ s = Y % (B * B) / 2 ^ s + B * m * (Y / (B * B)) := by
    conv => lhs; rw [← h1]
    have : Y % (B * B) + B * B * (Y / (B * B)) = Y % (B * B) + 2 ^ s * (B * m * (Y / (B * B))) := by
      congr 1
      conv => lhs; rw [hm]
      conv => rhs; rw [hm]
      grind
    rw [this, Nat.add_mul_div_left _ _ (Nat.pow_pos (by omega))]
  rw [e2, Nat.mul_assoc, Nat.add_mul_mod_self_left]
end Dg
