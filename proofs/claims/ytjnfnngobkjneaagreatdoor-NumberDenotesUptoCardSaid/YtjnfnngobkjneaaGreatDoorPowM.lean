/- Powers of fractions: what they are, and that they are in lowest terms. -/
import Derived.Test.YtjnfnngobkjneaaGreatDoorGrd
namespace Go.Proofs.YtjnfnngobkjneaaGreatDoor
open Go.RowKit Dg

/-- The power k of a fraction. -/
def fpow (t : Bool × Nat × Nat) (k : Nat) : Bool × Nat × Nat := (t.1 && decide (k % 2 = 1), t.2.1 ^ k, t.2.2 ^ k)
/-- The inverse of a fraction, in lowest terms. -/
def frinv (t : Bool × Nat × Nat) : Bool × Nat × Nat := frac t.1 t.2.2 t.2.1
def powr (t : Bool × Nat × Nat) (n : Int) : Bool × Nat × Nat := if n < 0 then fpow (frinv t) n.natAbs else fpow t n.natAbs
/-- The error of a power. -/
def powc (t : Bool × Nat × Nat) (n : Int) : Int := if n < -32 ∨ 32 < n then 2 else if n < 0 ∧ t.2.1 = 0 then 10 else 0
theorem IsFr.pow {t : Bool × Nat × Nat} (h : IsFr t) (k : Nat) : IsFr (fpow t k) := by
  obtain ⟨s, n, d, hd, rfl⟩ := h
  have hg := frac_gcd (s := s) (n := n) hd
  have hz := frac_zero_sign (s := s) (n := n) hd
  have hp := frac_pos (s := s) (n := n) hd
  generalize frac s n d = t at *
  refine ⟨t.1 && decide (k % 2 = 1), t.2.1 ^ k, t.2.2 ^ k, Nat.pow_pos hp, ?_⟩
  have hc : Nat.gcd (t.2.1 ^ k) (t.2.2 ^ k) = 1 := Nat.Coprime.pow k k hg
  unfold fpow frac
  rw [hc, Nat.div_one, Nat.div_one]
  by_cases h0 : t.2.1 ^ k = 0
  · have h1 : t.2.1 = 0 := by
      rcases Nat.eq_zero_or_pos t.2.1 with h | h
      · exact h
      · have := Nat.pow_pos (n := k) h; omega
    rw [hz h1]
    simp
  · rw [decide_eq_true (show t.2.1 ^ k ≠ 0 from h0), Bool.and_true]
theorem IsFr.inv {t : Bool × Nat × Nat} (h : t.2.1 ≠ 0) : IsFr (frinv t) := ⟨_, _, _, Nat.pos_of_ne_zero h, rfl⟩
theorem powr_fr {t : Bool × Nat × Nat} (h : IsFr t) {n : Int} (hc : powc t n = 0) : IsFr (powr t n) := by
  unfold powr
  by_cases h0 : n < 0
  · rw [if_pos h0]
    refine IsFr.pow (IsFr.inv fun h1 => ?_) _
    unfold powc at hc
    split at hc
    · exact absurd hc (by decide)
    · rw [if_pos ⟨h0, h1⟩] at hc
      exact absurd hc (by decide)
  · rw [if_neg h0]
    exact IsFr.pow h _
theorem resT_ok2 {c : Int} {t : Bool × Nat × Nat} (h : c = 0 → IsFr t ∧ big t.2.1 t.2.2 = false) : c = 0 → Canon (resT c t).1 (resT c t).2.1 (resT c t).2.2 ∧ Few (resT c t) := by
  intro h0
  rw [resT, if_pos h0]
  exact res_ok (h h0).1 (h h0).2
theorem frinv_bd {t : Bool × Nat × Nat} {A : Nat} (h1 : t.2.1 < W32 ^ A) (h2 : t.2.2 < W32 ^ A) : (frinv t).2.1 < W32 ^ A ∧ (frinv t).2.2 < W32 ^ A :=
  ⟨Nat.lt_of_le_of_lt (Nat.div_le_self _ _) h2, Nat.lt_of_le_of_lt (Nat.div_le_self _ _) h1⟩
theorem fmul_one_inv (t : Bool × Nat × Nat) : fmul (false, 1, 1) (t.1, t.2.2, t.2.1) = frinv t := by
  unfold fmul frinv
  simp
end Go.Proofs.YtjnfnngobkjneaaGreatDoor
