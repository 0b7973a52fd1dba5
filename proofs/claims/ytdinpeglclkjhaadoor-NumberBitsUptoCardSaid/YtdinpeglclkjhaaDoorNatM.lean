/- The natural numbers of the program: the estimate of a quotient's word. -/
import Derived.Test.YtdinpeglclkjhaaDoorNatL
namespace Go.Proofs.YtdinpeglclkjhaaDoor
open Go.RowKit Dg

theorem two_top {V k : Nat} (hV : V < W32 ^ (k + 2)) : V = (dg W32 V (k + 1) * W32 + dg W32 V k) * W32 ^ k + V % W32 ^ k := by
  have h1 := Nat.mod_add_div V (W32 ^ k)
  rw [div_succ W32 V k, ← dg_top hV, Nat.mul_comm] at h1
  have : (dg W32 V (k + 1) * W32 + dg W32 V k) * W32 ^ k = (dg W32 V k + W32 * dg W32 V (k + 1)) * W32 ^ k := by congr 1; rw [Nat.mul_comm, Nat.add_comm]
  omega

theorem three_top {P k : Nat} (hP : P < W32 ^ (k + 3)) : P = ((dg W32 P (k + 2) * W32 + dg W32 P (k + 1)) * W32 + dg W32 P k) * W32 ^ k + P % W32 ^ k := by
  have h1 := Nat.mod_add_div P (W32 ^ k)
  rw [div_succ W32 P k, div_succ W32 P (k + 1), ← dg_top hP] at h1
  generalize dg W32 P (k + 2) = a at *
  generalize dg W32 P (k + 1) = b at *
  generalize dg W32 P k = c at *
  have : ((a * W32 + b) * W32 + c) * W32 ^ k = W32 ^ k * (c + W32 * (b + W32 * a)) := by grind
  omega

theorem top_le {P V k : Nat} (hP : P < W32 ^ (k + 3)) (hV : V < W32 ^ (k + 2)) (hPV : P < W32 * V) : dg W32 P (k + 2) ≤ dg W32 V (k + 1) := by
  rw [dg_top hP, dg_top hV]
  refine Nat.le_of_lt_succ (Nat.div_lt_of_lt_mul ?_)
  have h1 := Nat.lt_mul_div_succ V (Nat.pow_pos W32_pos : 0 < W32 ^ (k + 1))
  have h2 : W32 * V ≤ W32 * (W32 ^ (k + 1) * (V / W32 ^ (k + 1) + 1)) := Nat.mul_le_mul_left _ (Nat.le_of_lt h1)
  have e : W32 * (W32 ^ (k + 1) * (V / W32 ^ (k + 1) + 1)) = W32 ^ (k + 2) * (V / W32 ^ (k + 1) + 1) := by rw [Nat.pow_succ W32 (k + 1)]; grind
  rw [e] at h2
  exact Nat.lt_of_lt_of_le hPV h2

/-- What holds of the estimate q with the remainder r. -/
def Est (P V k q r : Nat) : Prop := q * dg W32 V (k + 1) + r = dg W32 P (k + 2) * W32 + dg W32 P (k + 1) ∧ P / V ≤ q

theorem Est.start {P V k : Nat} (hP : P < W32 ^ (k + 3)) (hV : V < W32 ^ (k + 2)) (hf : 0 < dg W32 V (k + 1)) :
    Est P V k ((dg W32 P (k + 2) * W32 + dg W32 P (k + 1)) / dg W32 V (k + 1)) ((dg W32 P (k + 2) * W32 + dg W32 P (k + 1)) % dg W32 V (k + 1)) := by
  refine ⟨by rw [Nat.mul_comm]; exact Nat.div_add_mod _ _, ?_⟩
  have eP := three_top hP
  have eV := two_top hV
  generalize dg W32 P (k + 2) * W32 + dg W32 P (k + 1) = top at *
  generalize dg W32 V (k + 1) = f at *
  have hR : 0 < W32 ^ k := Nat.pow_pos W32_pos
  have hc : dg W32 P k < W32 := dg_lt W32_pos
  have hm : P % W32 ^ k < W32 ^ k := Nat.mod_lt _ hR
  -- P < (top + 1) * W32 * R, f * W32 * R <= V
  have h1 : P < (top + 1) * (W32 * W32 ^ k) := by
    have h2 : (top * W32 + dg W32 P k + 1) * W32 ^ k ≤ ((top + 1) * W32) * W32 ^ k := Nat.mul_le_mul_right _ (by rw [Nat.add_mul]; omega)
    rw [Nat.add_mul _ 1] at h2
    rw [Nat.mul_assoc (top + 1)] at h2
    omega
  have h3 : f * (W32 * W32 ^ k) ≤ V := by
    have : f * W32 * W32 ^ k ≤ (f * W32 + dg W32 V k) * W32 ^ k := Nat.mul_le_mul_right _ (by omega)
    rw [Nat.mul_assoc] at this
    exact Nat.le_trans this (Nat.le.intro eV.symm)
  have hpos : 0 < W32 * W32 ^ k := Nat.mul_pos W32_pos hR
  have h4 : P / V ≤ P / (f * (W32 * W32 ^ k)) := Nat.div_le_div_left h3 (Nat.mul_pos hf hpos)
  have h5 : P / (f * (W32 * W32 ^ k)) ≤ top / f := by
    rw [Nat.mul_comm f, ← Nat.div_div_eq_div_mul]
    refine Nat.div_le_div_right (Nat.le_of_lt_succ (Nat.div_lt_of_lt_mul ?_))
    rw [Nat.mul_comm]; exact h1
  omega

theorem Est.next {P V k q r : Nat} (h : Est P V k q r) (hP : P < W32 ^ (k + 3)) (hV : V < W32 ^ (k + 2)) (hPV : P < W32 * V)
    (hc : W32 ≤ q ∨ r * W32 + dg W32 P k < q * dg W32 V k) : 1 ≤ q ∧ Est P V k (q - 1) (r + dg W32 V (k + 1)) := by
  have hV0 : 0 < V := by rcases Nat.eq_zero_or_pos V with h0 | h0
                         · subst h0; simp at hPV
                         · exact h0
  have hlt : P / V < W32 := Nat.div_lt_of_lt_mul (by rw [Nat.mul_comm]; exact hPV)
  have hq : P / V < q := by
    rcases Nat.lt_or_ge q W32 with h1 | h1
    · exact est_ge (three_top hP) (Nat.pow_pos W32_pos) (Nat.le.intro (two_top hV).symm) h.1 (fun h2 => by omega) (fun _ => by rcases hc with h3 | h3 <;> omega)
    · omega
  have hq1 : 0 < q := Nat.lt_of_le_of_lt (Nat.zero_le _) hq
  obtain ⟨t, rfl⟩ : ∃ t, q = t + 1 := ⟨q - 1, by omega⟩
  refine ⟨by omega, ?_, by simp only [Nat.add_sub_cancel]; omega⟩
  have := h.1
  rw [Nat.succ_mul] at this
  simp only [Nat.add_sub_cancel]
  omega

theorem Est.stop {P V k q r : Nat} (h : Est P V k q r) (hP : P < W32 ^ (k + 3)) (hV : V < W32 ^ (k + 2)) (hPV : P < W32 * V) (hf : 2147483648 ≤ dg W32 V (k + 1))
    (hc : W32 ≤ r ∨ (q < W32 ∧ q * dg W32 V k ≤ r * W32 + dg W32 P k)) : q < W32 ∧ P / V ≤ q ∧ q ≤ P / V + 1 := by
  have hV0 : 0 < V := by rcases Nat.eq_zero_or_pos V with h0 | h0
                         · subst h0; simp at hPV
                         · exact h0
  have htop := top_le hP hV hPV
  have hd1 : dg W32 P (k + 1) < W32 := dg_lt W32_pos
  have hs : dg W32 V k < W32 := dg_lt W32_pos
  have hqB : q < W32 := by
    rcases hc with h1 | h1
    · rcases Nat.lt_or_ge q W32 with h2 | h2
      · exact h2
      · exfalso
        have h3 : W32 * dg W32 V (k + 1) ≤ q * dg W32 V (k + 1) := Nat.mul_le_mul_right _ h2
        have h4 : dg W32 P (k + 2) * W32 ≤ dg W32 V (k + 1) * W32 := Nat.mul_le_mul_right _ htop
        rw [Nat.mul_comm W32] at h3
        have := h.1
        omega
    · exact h1.1
  refine ⟨hqB, h.2, ?_⟩
  refine est_le (three_top hP) ?_ hV0 h.1 hqB ?_ hs ?_
  · have := two_top hV
    have hm : V % W32 ^ k < W32 ^ k := Nat.mod_lt _ (Nat.pow_pos W32_pos)
    rw [Nat.add_mul _ 1]; omega
  · have : 2147483648 * W32 ≤ dg W32 V (k + 1) * W32 := Nat.mul_le_mul_right _ hf
    omega
  · rcases hc with h1 | h1
    · exact .inl h1
    · exact .inr h1.2
end Go.Proofs.YtdinpeglclkjhaaDoor
