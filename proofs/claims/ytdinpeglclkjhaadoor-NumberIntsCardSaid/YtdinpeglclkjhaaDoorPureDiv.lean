import Derived.Test.YtdinpeglclkjhaaDoorPure
/- Plain facts on long division, shifts and the like. No program is named here. -/
namespace Dg

/-! ### Division by a word, from the top -/
theorem divw_q {B U d g : Nat} (hd : 0 < d) : (g + B * U) / d = B * (U / d) + ((U % d) * B + g) / d := by
  have h := Nat.mod_add_div U d
  have e : g + B * U = d * (B * (U / d)) + (U % d * B + g) := by
    conv => lhs; rw [← h]
    rw [Nat.mul_add, Nat.mul_comm B (U % d), Nat.mul_left_comm B d]; omega
  rw [e, Nat.mul_add_div hd]
theorem divw_r {B U d g : Nat} : (g + B * U) % d = ((U % d) * B + g) % d := by
  have h := Nat.mod_add_div U d
  have e : g + B * U = (U % d * B + g) + d * (B * (U / d)) := by
    conv => lhs; rw [← h]
    rw [Nat.mul_add, Nat.mul_comm B (U % d), Nat.mul_left_comm B d]; omega
  rw [e, Nat.add_mul_mod_self_left]
theorem divw_lt {B U d g : Nat} (hd : 0 < d) (hg : g < B) : ((U % d) * B + g) / d < B := by
  have h := Nat.mod_lt U hd
  refine Nat.div_lt_of_lt_mul ?_
  have : (U % d + 1) * B ≤ d * B := Nat.mul_le_mul_right _ h
  rw [Nat.add_mul, Nat.one_mul] at this; omega

/-! ### Knuth's estimate -/
/-- The estimate is not too small. -/
theorem est_ge {B f s P V R top q r p2 : Nat} (hP : P = (top * B + p2) * R + (P % R)) (hR : 0 < R) (hV : (f * B + s) * R ≤ V)
    (hqr : q * f + r = top) (hc : B ≤ q → P / V < q) (h : q < B → r * B + p2 < q * s) : P / V < q := by
  rcases Nat.lt_or_ge q B with hq | hq
  · have h1 := h hq
    have hm : P % R < R := Nat.mod_lt _ hR
    have e : q * (f * B + s) = q * f * B + q * s := by rw [Nat.mul_add, Nat.mul_assoc]
    have e2 : top * B = q * f * B + r * B := by rw [← hqr, Nat.add_mul]
    have h2 : top * B + p2 + 1 ≤ q * (f * B + s) := by omega
    have h3 : (top * B + p2 + 1) * R ≤ q * (f * B + s) * R := Nat.mul_le_mul_right _ h2
    rw [Nat.add_mul (top * B + p2) 1 R, Nat.one_mul] at h3
    have h4 : q * (f * B + s) * R ≤ q * V := by rw [Nat.mul_assoc]; exact Nat.mul_le_mul_left _ hV
    refine Nat.div_lt_of_lt_mul ?_
    rw [Nat.mul_comm]; omega
  · exact hc hq
/-- .. and at most 1 too great. -/
theorem est_le {B f s P V R top q r p2 : Nat} (hP : P = (top * B + p2) * R + (P % R)) (hV : V < (f * B + s + 1) * R) (hV0 : 0 < V)
    (hqr : q * f + r = top) (hqB : q < B) (hf : B ≤ f * B + s) (hs : s < B)
    (h : B ≤ r ∨ q * s ≤ r * B + p2) : q ≤ P / V + 1 := by
  have h' : q * s ≤ r * B + p2 := by
    rcases h with h | h
    · have h1 : q * s ≤ B * B := Nat.mul_le_mul (Nat.le_of_lt hqB) (Nat.le_of_lt hs)
      have h2 : B * B ≤ r * B := Nat.mul_le_mul_right _ h
      omega
    · exact h
  have e : q * (f * B + s) = q * f * B + q * s := by rw [Nat.mul_add, Nat.mul_assoc]
  have e2 : top * B = q * f * B + r * B := by rw [← hqr, Nat.add_mul]
  rcases Nat.eq_zero_or_pos q with h0 | h0
  · rw [h0]; exact Nat.zero_le _
  obtain ⟨t, rfl⟩ : ∃ t, q = t + 1 := ⟨q - 1, by omega⟩
  have h3 : t * (f * B + s + 1) ≤ top * B + p2 := by
    have e3 : (t + 1) * (f * B + s) = t * (f * B + s) + (f * B + s) := Nat.succ_mul _ _
    have e4 : t * (f * B + s + 1) = t * (f * B + s) + t := Nat.mul_succ _ _
    omega
  have h4 : t * V ≤ P := by
    have h5 : t * V ≤ t * ((f * B + s + 1) * R) := Nat.mul_le_mul_left _ (Nat.le_of_lt hV)
    have h6 : t * (f * B + s + 1) * R ≤ (top * B + p2) * R := Nat.mul_le_mul_right _ h3
    rw [Nat.mul_assoc] at h6
    omega
  exact Nat.add_le_add_right ((Nat.le_div_iff_mul_le hV0).2 h4) 1

/-- A round of 'take q times the divisor away'. -/
theorem take_round {B X P V q c b s c' b' i : Nat} (hX : X + q * (V % B ^ i) = P % B ^ i + B ^ i * (c + b))
    (h : s + q * dg B V i + c + b = dg B P i + B * (c' + b')) :
    X + B ^ i * s + q * (V % B ^ (i + 1)) = P % B ^ (i + 1) + B ^ (i + 1) * (c' + b') := by
  rw [mod_succ, mod_succ, Nat.pow_succ, Nat.mul_assoc (B ^ i) B]
  have e : B ^ i * (s + q * dg B V i + c + b) = B ^ i * (dg B P i + B * (c' + b')) := by rw [h]
  have e2 : q * (V % B ^ i + B ^ i * dg B V i) = q * (V % B ^ i) + B ^ i * (q * dg B V i) := by rw [Nat.mul_add]; congr 1; rw [Nat.mul_left_comm]
  rw [e2]
  simp only [Nat.mul_add] at e hX ⊢
  omega
end Dg
