/- Roots of natural numbers and of fractions: what they are. -/
import Derived.Test.YtjnfnngobkjneaaGreatDoorPowM
namespace Go.Proofs.YtjnfnngobkjneaaGreatDoor
open Go.RowKit Dg Rt

theorem root_exists (a n : Nat) (hn : 0 < n) : ∃ r, IsRoot a n r := by
  have key : ∀ k : Nat, (∃ r, r ≤ k ∧ IsRoot a n r) ∨ k ^ n ≤ a := by
    intro k
    induction k with
    | zero => right; rw [Nat.zero_pow hn]; exact Nat.zero_le _
    | succ k ih =>
      rcases ih with ⟨r, h, hr⟩ | h
      · exact .inl ⟨r, by omega, hr⟩
      · rcases Nat.lt_or_ge a ((k + 1) ^ n) with hl | hl
        · exact .inl ⟨k, by omega, h, hl⟩
        · exact .inr hl
  rcases key (a + 1) with ⟨r, _, hr⟩ | h
  · exact ⟨r, hr⟩
  · exfalso
    have : a + 1 ≤ (a + 1) ^ n := Nat.le_self_pow (by omega) _
    omega
/-- The root of a natural number, rounded down. -/
noncomputable def nroot (a n : Nat) : Nat := if h : 0 < n then Classical.choose (root_exists a n h) else 0
theorem nroot_spec {a n : Nat} (hn : 0 < n) : IsRoot a n (nroot a n) := by
  unfold nroot
  rw [dif_pos hn]
  exact Classical.choose_spec (root_exists a n hn)
theorem nroot_eq {a n r : Nat} (hn : 0 < n) (h : IsRoot a n r) : nroot a n = r := (nroot_spec hn).unique h
theorem nroot_zero {n : Nat} (hn : 0 < n) : nroot 0 n = 0 := nroot_eq hn ⟨by rw [Nat.zero_pow hn]; exact Nat.le_refl _, by rw [Nat.one_pow]; exact Nat.one_pos⟩
theorem nroot_pow {r n : Nat} (hn : 0 < n) : nroot (r ^ n) n = r := nroot_eq hn ⟨Nat.le_refl _, Nat.pow_lt_pow_left (by omega) (by omega)⟩
theorem nroot_le {a n : Nat} (hn : 0 < n) : nroot a n ≤ a := by
  have h := (nroot_spec (a := a) hn).1
  exact Nat.le_trans (Nat.le_self_pow (by omega) _) h
theorem nroot_pos {a n : Nat} (hn : 0 < n) (ha : 0 < a) : 0 < nroot a n := by
  have h := (nroot_spec (a := a) hn).2
  rcases Nat.eq_zero_or_pos (nroot a n) with h0 | h0
  · rw [h0, Nat.one_pow] at h; omega
  · exact h0

/-- Whether a fraction in lowest terms has a root. -/
noncomputable def rootOk (t : Bool × Nat × Nat) (n : Nat) : Bool := decide (nroot t.2.1 n ^ n = t.2.1 ∧ nroot t.2.2 n ^ n = t.2.2 ∧ ¬ (t.1 = true ∧ n % 2 = 0))
/-- The root of a fraction, 0 / 0 if there is none. -/
noncomputable def rootr (t : Bool × Nat × Nat) (n : Nat) : Bool × Nat × Nat := if rootOk t n then (t.1, nroot t.2.1 n, nroot t.2.2 n) else (false, 0, 0)
/-- The index of a root is one. -/
def rtc (n : Int) : Int := if n < 2 ∨ 8 < n then 2 else 0
/-- The reference's candidate for the root. -/
noncomputable def rootc (t : Bool × Nat × Nat) (n : Nat) : Bool × Nat × Nat := frac t.1 (nroot t.2.1 n) (nroot t.2.2 n)

theorem isFr_lowest {t : Bool × Nat × Nat} (h : IsFr t) : Nat.gcd t.2.1 t.2.2 = 1 ∧ 0 < t.2.2 ∧ (t.2.1 = 0 → t.1 = false) := by
  obtain ⟨s, n, d, hd, rfl⟩ := h
  exact ⟨frac_gcd hd, frac_pos hd, frac_zero_sign hd⟩
theorem lowest_frac {s : Bool} {n d : Nat} (hg : Nat.gcd n d = 1) (hz : n = 0 → s = false) : frac s n d = (s, n, d) := by
  unfold frac
  rw [hg, Nat.div_one, Nat.div_one]
  by_cases h : n = 0
  · rw [hz h]; simp
  · rw [decide_eq_true (show n ≠ 0 from h), Bool.and_true]
theorem pow_gcd_one {a b n : Nat} (hn : 0 < n) (h : Nat.gcd (a ^ n) (b ^ n) = 1) : Nat.gcd a b = 1 := by
  have h1 : Nat.gcd a b ∣ a ^ n := Nat.dvd_trans (Nat.gcd_dvd_left _ _) (Nat.dvd_trans (by rw [Nat.pow_one]; exact Nat.dvd_refl _) (Nat.pow_dvd_pow a hn))
  have h2 : Nat.gcd a b ∣ b ^ n := Nat.dvd_trans (Nat.gcd_dvd_right _ _) (Nat.dvd_trans (by rw [Nat.pow_one]; exact Nat.dvd_refl _) (Nat.pow_dvd_pow b hn))
  have := Nat.dvd_gcd h1 h2
  rw [h] at this
  exact Nat.eq_one_of_dvd_one this
/-- Where both parts have roots, the candidate is their fraction. -/
theorem rootc_ok {t : Bool × Nat × Nat} {n : Nat} (h : IsFr t) (hn : 0 < n) (h1 : nroot t.2.1 n ^ n = t.2.1) (h2 : nroot t.2.2 n ^ n = t.2.2) :
    rootc t n = (t.1, nroot t.2.1 n, nroot t.2.2 n) := by
  obtain ⟨hg, _, hz⟩ := isFr_lowest h
  refine lowest_frac (pow_gcd_one hn (by rw [h1, h2]; exact hg)) fun h0 => hz ?_
  rw [h0, Nat.zero_pow hn] at h1
  exact h1.symm
/-- The candidate's power is the number exactly if there is a root. -/
theorem rootc_pow {t : Bool × Nat × Nat} {n : Nat} (h : IsFr t) (hn : 0 < n) (hs : ¬ (t.1 = true ∧ n % 2 = 0)) :
    fpow (rootc t n) n = t ↔ rootOk t n = true := by
  obtain ⟨hg, hp, hz⟩ := isFr_lowest h
  constructor
  · intro he
    have e1 : (rootc t n).2.1 ^ n = t.2.1 := congrArg (·.2.1) he
    have e2 : (rootc t n).2.2 ^ n = t.2.2 := congrArg (·.2.2) he
    unfold rootOk
    refine decide_eq_true ⟨?_, ?_, hs⟩
    · conv => lhs; rw [← e1, nroot_pow hn]
      exact e1
    · conv => lhs; rw [← e2, nroot_pow hn]
      exact e2
  · intro he
    obtain ⟨h1, h2, _⟩ := of_decide_eq_true he
    rw [rootc_ok h hn h1 h2]
    unfold fpow
    simp only [h1, h2]
    have : (t.1 && decide (n % 2 = 1)) = t.1 := by
      cases hb : t.1
      · rfl
      · have : n % 2 = 1 := by
          rcases Nat.mod_two_eq_zero_or_one n with h0 | h0
          · exact absurd ⟨hb, h0⟩ hs
          · exact h0
        simp [this]
    rw [this]
theorem rootr_fr {t : Bool × Nat × Nat} {n : Nat} (h : IsFr t) (hn : 0 < n) (hk : rootOk t n = true) : IsFr (rootr t n) := by
  obtain ⟨h1, h2, _⟩ := of_decide_eq_true hk
  unfold rootr
  rw [if_pos hk, ← rootc_ok h hn h1 h2]
  exact ⟨_, _, _, nroot_pos hn (isFr_lowest h).2.1, rfl⟩
theorem sv_abs (s : Bool) (n : Nat) : (sv s n).natAbs = n := by
  unfold sv; cases s <;> simp
theorem fcmp_zero_iff {x y : Bool × Nat × Nat} (hx : IsFr x) (hy : IsFr y) : fcmp x y = 0 ↔ x = y := by
  obtain ⟨gx, px, zx⟩ := isFr_lowest hx
  obtain ⟨gy, py, zy⟩ := isFr_lowest hy
  constructor
  · intro h
    have he : sv x.1 x.2.1 * (y.2.2 : Int) = sv y.1 y.2.1 * (x.2.2 : Int) := by
      unfold fcmp cmpI at h
      split at h
      · exact absurd h (by decide)
      · split at h
        · exact absurd h (by decide)
        · omega
    have hn : x.2.1 * y.2.2 = y.2.1 * x.2.2 := by
      have := congrArg Int.natAbs he
      rwa [Int.natAbs_mul, Int.natAbs_mul, sv_abs, sv_abs, Int.natAbs_natCast, Int.natAbs_natCast] at this
    have d1 : x.2.2 ∣ y.2.2 := (Nat.Coprime.symm gx).dvd_of_dvd_mul_left ⟨y.2.1, by rw [hn, Nat.mul_comm]⟩
    have d2 : y.2.2 ∣ x.2.2 := (Nat.Coprime.symm gy).dvd_of_dvd_mul_left ⟨x.2.1, by rw [← hn, Nat.mul_comm]⟩
    have hd : x.2.2 = y.2.2 := Nat.dvd_antisymm d1 d2
    rw [hd] at hn he
    have hnn : x.2.1 = y.2.1 := Nat.eq_of_mul_eq_mul_right py hn
    have hs : x.1 = y.1 := by
      have he2 : sv x.1 x.2.1 = sv y.1 y.2.1 := Int.eq_of_mul_eq_mul_right (by omega) he
      rw [hnn] at he2
      rcases Nat.eq_zero_or_pos y.2.1 with h0 | h0
      · rw [zx (hnn.trans h0), zy h0]
      · unfold sv at he2
        cases h1 : x.1 <;> cases h2 : y.1 <;> simp [h1, h2] at he2 ⊢ <;> omega
    obtain ⟨a, b, c⟩ := x
    obtain ⟨a', b', c'⟩ := y
    simp only at hs hnn hd
    rw [hs, hnn, hd]
  · rintro rfl
    unfold fcmp cmpI
    rw [if_neg (Int.lt_irrefl _), if_neg (Int.lt_irrefl _)]
end Go.Proofs.YtjnfnngobkjneaaGreatDoor
