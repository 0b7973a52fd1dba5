/- The number with the least denominator between two fractions: what it is, and that it is so. No program is named here. -/
import Derived.WalkKit
namespace Dg

/-- The simplest number between n / d and m / e: its numerator and denominator. -/
def spl (n d m e : Nat) : Nat × Nat :=
  if n % d = 0 ∨ d = 0 then (n / d, 1)
  else if (n / d + 1) * e ≤ m then (n / d + 1, 1)
  else (n / d * (spl e (m - n / d * e) d (n % d)).1 + (spl e (m - n / d * e) d (n % d)).2, (spl e (m - n / d * e) d (n % d)).1)
termination_by d + e
decreasing_by
  all_goals
    rename_i h1 h2
    have hd : 0 < d := by omega
    have h3 := Nat.mod_lt n hd
    rw [Nat.add_mul, Nat.one_mul] at h2
    omega

theorem spl_zero {n d m e : Nat} (h : n % d = 0) : spl n d m e = (n / d, 1) := by
  rw [spl, if_pos (.inl h)]
theorem spl_next {n d m e : Nat} (hd : 0 < d) (h : n % d ≠ 0) (h2 : (n / d + 1) * e ≤ m) : spl n d m e = (n / d + 1, 1) := by
  rw [spl, if_neg (by omega), if_pos h2]
theorem spl_step {n d m e : Nat} (hd : 0 < d) (h : n % d ≠ 0) (h2 : ¬ (n / d + 1) * e ≤ m) :
    spl n d m e = (n / d * (spl e (m - n / d * e) d (n % d)).1 + (spl e (m - n / d * e) d (n % d)).2, (spl e (m - n / d * e) d (n % d)).1) := by
  rw [spl, if_neg (by omega), if_neg h2]

/-- What holds of the next ends, where the ends do not part: n / d ≤ m / e. -/
theorem spl_ends {n d m e : Nat} (hd : 0 < d) (he : 0 < e) (hle : n * e ≤ m * d) (h : n % d ≠ 0) (h2 : ¬ (n / d + 1) * e ≤ m) :
    n / d * e ≤ m ∧ 0 < m - n / d * e ∧ m - n / d * e < e ∧ 0 < n % d ∧ n % d < d ∧ e * (n % d) ≤ d * (m - n / d * e) := by
  have h3 := Nat.mod_lt n hd
  have h4 := Nat.div_add_mod n d
  generalize n / d = f at *
  generalize n % d = r at *
  subst h4
  rw [Nat.add_mul, Nat.one_mul] at h2
  have e1 : (d * f + r) * e = d * (f * e) + r * e := by rw [Nat.add_mul, Nat.mul_assoc]
  rw [e1, Nat.mul_comm m d] at hle
  have h5 : 0 < r * e := Nat.mul_pos (by omega) he
  have h6 : f * e < m := by
    have : d * (f * e) < d * m := by omega
    exact Nat.lt_of_mul_lt_mul_left this
  refine ⟨Nat.le_of_lt h6, by omega, by omega, by omega, h3, ?_⟩
  rw [Nat.mul_sub, Nat.mul_comm e r]
  omega

/-- The simplest number is positive, in lowest terms, and between the ends. -/
theorem spl_facts : ∀ N n d m e : Nat, d + e ≤ N → 0 < n → 0 < d → 0 < e → n * e ≤ m * d →
    0 < (spl n d m e).1 ∧ 0 < (spl n d m e).2 ∧ Nat.gcd (spl n d m e).1 (spl n d m e).2 = 1 ∧
    n * (spl n d m e).2 ≤ (spl n d m e).1 * d ∧ (spl n d m e).1 * e ≤ m * (spl n d m e).2 := by
  intro N
  induction N with
  | zero => intro n d m e h _ hd; omega
  | succ N ih =>
    intro n d m e hN hn hd he hle
    by_cases h : n % d = 0
    · rw [spl_zero h]
      have h4 := Nat.div_add_mod n d
      rw [h, Nat.add_zero] at h4
      have hf : 0 < n / d := by
        rcases Nat.eq_zero_or_pos (n / d) with h0 | h0
        · rw [h0] at h4; omega
        · exact h0
      refine ⟨hf, Nat.one_pos, Nat.gcd_one_right _, ?_, ?_⟩
      · show n * 1 ≤ n / d * d
        rw [Nat.mul_comm (n / d)]; omega
      · show n / d * e ≤ m * 1
        generalize n / d = f at *
        subst h4
        rw [Nat.mul_assoc, Nat.mul_comm m d] at hle
        have := Nat.le_of_mul_le_mul_left hle hd
        omega
    · by_cases h2 : (n / d + 1) * e ≤ m
      · rw [spl_next hd h h2]
        refine ⟨Nat.succ_pos _, Nat.one_pos, Nat.gcd_one_right _, ?_, by show (n / d + 1) * e ≤ m * 1; rw [Nat.mul_one]; exact h2⟩
        show n * 1 ≤ (n / d + 1) * d
        have h4 := Nat.div_add_mod n d
        have h3 := Nat.mod_lt n hd
        rw [Nat.add_mul, Nat.one_mul, Nat.mul_comm (n / d)]; omega
      · obtain ⟨k1, k2, k3, k4, k5, k6⟩ := spl_ends hd he hle h h2
        obtain ⟨i1, i2, i3, i4, i5⟩ := ih e (m - n / d * e) d (n % d) (by omega) he k2 k4 k6
        rw [spl_step hd h h2]
        generalize spl e (m - n / d * e) d (n % d) = ab at *
        obtain ⟨a, b⟩ := ab
        simp only at i1 i2 i3 i4 i5 ⊢
        refine ⟨by omega, i1, ?_, ?_, ?_⟩
        · show Nat.gcd (n / d * a + b) a = 1
          rw [← i3, Nat.gcd_comm a b]
          simp
        · have h4 := Nat.div_add_mod n d
          generalize n / d = f at *
          generalize n % d = r at *
          subst h4
          rw [Nat.add_mul, Nat.add_mul]
          have e1 : d * f * a = f * a * d := by rw [Nat.mul_comm d f, Nat.mul_assoc, Nat.mul_comm d a, Nat.mul_assoc]
          rw [e1, Nat.mul_comm r a, Nat.mul_comm b d]
          omega
        · generalize n / d = f at *
          rw [Nat.add_mul]
          obtain ⟨g, hg⟩ : ∃ g, m = f * e + g := ⟨m - f * e, by omega⟩
          subst hg
          rw [Nat.add_sub_cancel_left] at i4
          rw [Nat.add_mul]
          have e1 : f * a * e = f * e * a := by rw [Nat.mul_assoc, Nat.mul_comm a e, Nat.mul_assoc]
          rw [e1, Nat.mul_comm b e, Nat.mul_comm g a]
          omega

/-- No number between the ends has a smaller denominator, nor, of that denominator, a smaller numerator. -/
theorem spl_least : ∀ N n d m e c g : Nat, d + e ≤ N → 0 < n → 0 < d → 0 < e → n * e ≤ m * d → 0 < g → n * g ≤ c * d → c * e ≤ m * g →
    (spl n d m e).1 ≤ c ∧ (spl n d m e).2 ≤ g := by
  intro N
  induction N with
  | zero => intro n d m e c g h _ hd; omega
  | succ N ih =>
    intro n d m e c g hN hn hd he hle hg hlo hhi
    have h4 := Nat.div_add_mod n d
    by_cases h : n % d = 0
    · rw [spl_zero h]
      refine ⟨?_, hg⟩
      show n / d ≤ c
      rw [h, Nat.add_zero] at h4
      generalize n / d = f at *
      subst h4
      rw [Nat.mul_assoc, Nat.mul_comm c d] at hlo
      have h5 := Nat.le_of_mul_le_mul_left hlo hd
      exact Nat.le_trans (Nat.le_mul_of_pos_right f hg) h5
    · by_cases h2 : (n / d + 1) * e ≤ m
      · rw [spl_next hd h h2]
        refine ⟨?_, hg⟩
        show n / d + 1 ≤ c
        have h3 : 0 < n % d := by omega
        generalize n / d = f at *
        generalize n % d = r at *
        subst h4
        rw [Nat.add_mul, Nat.mul_assoc, Nat.mul_comm c d] at hlo
        have h5 : 0 < r * g := Nat.mul_pos h3 hg
        have h6 : f * g < c := Nat.lt_of_mul_lt_mul_left (show d * (f * g) < d * c by omega)
        have := Nat.le_mul_of_pos_right f hg
        omega
      · obtain ⟨k1, k2, k3, k4, k5, k6⟩ := spl_ends hd he hle h h2
        rw [spl_step hd h h2]
        have h7 : n / d * g ≤ c := by
          generalize n / d = f at *
          generalize n % d = r at *
          subst h4
          rw [Nat.add_mul, Nat.mul_assoc, Nat.mul_comm c d] at hlo
          exact Nat.le_of_mul_le_mul_left (show d * (f * g) ≤ d * c by omega) hd
        have h8 : 0 < c - n / d * g := by
          have h3 : 0 < n % d := by omega
          generalize n / d = f at *
          generalize n % d = r at *
          subst h4
          rw [Nat.add_mul, Nat.mul_assoc, Nat.mul_comm c d] at hlo
          have h5 : 0 < r * g := Nat.mul_pos h3 hg
          have h6 : f * g < c := Nat.lt_of_mul_lt_mul_left (show d * (f * g) < d * c by omega)
          omega
        have i := ih e (m - n / d * e) d (n % d) g (c - n / d * g) (by omega) he k2 k4 k6 h8
          (by
            generalize n / d = f at *
            obtain ⟨q, hq⟩ : ∃ q, m = f * e + q := ⟨m - f * e, by omega⟩
            obtain ⟨y, hy⟩ : ∃ y, c = f * g + y := ⟨c - f * g, by omega⟩
            subst hq hy
            rw [Nat.add_sub_cancel_left, Nat.add_sub_cancel_left]
            rw [Nat.add_mul, Nat.add_mul] at hhi
            have e1 : f * g * e = f * e * g := by rw [Nat.mul_assoc, Nat.mul_comm g e, Nat.mul_assoc]
            rw [e1] at hhi
            rw [Nat.mul_comm e y, Nat.mul_comm g q]
            omega)
          (by
            generalize n / d = f at *
            generalize n % d = r at *
            obtain ⟨y, hy⟩ : ∃ y, c = f * g + y := ⟨c - f * g, by omega⟩
            subst hy h4
            rw [Nat.add_sub_cancel_left]
            rw [Nat.add_mul, Nat.add_mul] at hlo
            have e1 : d * f * g = f * g * d := by rw [Nat.mul_comm d f, Nat.mul_assoc, Nat.mul_comm d g, Nat.mul_assoc]
            rw [e1] at hlo
            rw [Nat.mul_comm g r, Nat.mul_comm d y]
            omega)
        generalize spl e (m - n / d * e) d (n % d) = ab at *
        obtain ⟨a, b⟩ := ab
        simp only at i ⊢
        refine ⟨?_, i.1⟩
        have := Nat.mul_le_mul_left (n / d) i.1
        omega
/-- The simplest number is not greater, in either part, than any number between the ends: than the ends themselves. -/
theorem spl_le {n d m e : Nat} (hn : 0 < n) (hd : 0 < d) (he : 0 < e) (hle : n * e ≤ m * d) : (spl n d m e).1 ≤ n ∧ (spl n d m e).2 ≤ d :=
  spl_least (d + e) n d m e n d (Nat.le_refl _) hn hd he hle hd (Nat.le_refl _) hle
end Dg
