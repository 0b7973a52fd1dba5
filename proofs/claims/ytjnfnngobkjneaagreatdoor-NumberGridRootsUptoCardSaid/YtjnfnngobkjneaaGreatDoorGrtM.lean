/- Roots on a grid: what they are. -/
import Derived.Test.YtjnfnngobkjneaaGreatDoorRootM
import Derived.Test.YtjnfnngobkjneaaGreatDoorOrderA
import Derived.Test.YtjnfnngobkjneaaGreatDoorGrd
namespace Go.Proofs.YtjnfnngobkjneaaGreatDoor
open Go.RowKit Dg Rt

/-- The scaled number whose root is taken. -/
def gsc (t : Bool × Nat × Nat) (n p : Nat) : Nat := t.2.1 * 2 ^ (n * p) / t.2.2
noncomputable def gsz (t : Bool × Nat × Nat) (n p : Nat) : Nat := nroot (gsc t n p) n
/-- Whether the root lies on the grid. -/
noncomputable def gex (t : Bool × Nat × Nat) (n p : Nat) : Bool := decide (t.2.1 * 2 ^ (n * p) % t.2.2 = 0) && decide (gsz t n p ^ n = gsc t n p)
noncomputable def grdn (t : Bool × Nat × Nat) (n p : Nat) : Bool × Nat × Nat := frac t.1 (gsz t n p + if (t.1 && !gex t n p) = true then 1 else 0) (2 ^ p)
noncomputable def grup (t : Bool × Nat × Nat) (n p : Nat) : Bool × Nat × Nat := frac t.1 (gsz t n p + if (!t.1 && !gex t n p) = true then 1 else 0) (2 ^ p)
theorem grdn_fr (t : Bool × Nat × Nat) (n p : Nat) : IsFr (grdn t n p) := ⟨_, _, _, Nat.pow_pos (by decide), rfl⟩
theorem grup_fr (t : Bool × Nat × Nat) (n p : Nat) : IsFr (grup t n p) := ⟨_, _, _, Nat.pow_pos (by decide), rfl⟩
theorem gsz_le (t : Bool × Nat × Nat) {n : Nat} (hn : 0 < n) (p : Nat) : gsz t n p ≤ gsc t n p := nroot_le hn
theorem gsc_le (t : Bool × Nat × Nat) (n p : Nat) : gsc t n p ≤ t.2.1 * 2 ^ (n * p) := Nat.div_le_self _ _
theorem gsz_pow (t : Bool × Nat × Nat) {n : Nat} (hn : 0 < n) (p : Nat) : gsz t n p ^ n ≤ gsc t n p := (nroot_spec hn).1
theorem gsz_lt (t : Bool × Nat × Nat) {n : Nat} (hn : 0 < n) (p : Nat) : gsc t n p < (gsz t n p + 1) ^ n := (nroot_spec hn).2
theorem gsc_div {t : Bool × Nat × Nat} {n p : Nat} (hD : 0 < t.2.2) : gsc t n p * t.2.2 ≤ t.2.1 * 2 ^ (n * p) ∧ t.2.1 * 2 ^ (n * p) < (gsc t n p + 1) * t.2.2 := by
  have h1 := Nat.div_add_mod (t.2.1 * 2 ^ (n * p)) t.2.2
  have h2 := Nat.mod_lt (t.2.1 * 2 ^ (n * p)) hD
  rw [Nat.add_mul, Nat.one_mul, Nat.mul_comm (gsc t n p)]
  unfold gsc
  omega
theorem gsz_lo (t : Bool × Nat × Nat) {n p : Nat} (hn : 0 < n) (hD : 0 < t.2.2) : gsz t n p ^ n * t.2.2 ≤ t.2.1 * 2 ^ (n * p) :=
  Nat.le_trans (Nat.mul_le_mul_right _ (gsz_pow t hn p)) (gsc_div hD).1
theorem gsz_hi (t : Bool × Nat × Nat) {n p : Nat} (hn : 0 < n) (hD : 0 < t.2.2) : t.2.1 * 2 ^ (n * p) < (gsz t n p + 1) ^ n * t.2.2 :=
  Nat.lt_of_lt_of_le (gsc_div hD).2 (Nat.mul_le_mul_right _ (gsz_lt t hn p))
theorem gex_iff {t : Bool × Nat × Nat} {n p : Nat} (hn : 0 < n) (hD : 0 < t.2.2) : gex t n p = true ↔ gsz t n p ^ n * t.2.2 = t.2.1 * 2 ^ (n * p) := by
  have h1 := Nat.div_add_mod (t.2.1 * 2 ^ (n * p)) t.2.2
  have h3 := gsz_pow t hn p
  unfold gex
  rw [Bool.and_eq_true, decide_eq_true_eq, decide_eq_true_eq]
  constructor
  · rintro ⟨ha, hb⟩
    rw [hb, Nat.mul_comm]
    unfold gsc
    omega
  · intro h
    have he : gsz t n p ^ n = gsc t n p := by
      rcases Nat.lt_or_ge (gsz t n p ^ n) (gsc t n p) with hl | hl
      · exfalso
        have h4 : (gsz t n p ^ n + 1) * t.2.2 ≤ gsc t n p * t.2.2 := Nat.mul_le_mul_right _ hl
        rw [Nat.add_mul, Nat.one_mul, h] at h4
        have := (gsc_div (n := n) (p := p) hD).1
        omega
      · omega
    refine ⟨?_, he⟩
    rw [he, Nat.mul_comm] at h
    unfold gsc at h
    omega
theorem frac_svQ (n P : Nat) (hP : 0 < P) : FQ (frac false n P) (n : Int) (P : Int) := frac_FQ hP (by omega) rfl
theorem fr_unique {a b : Bool × Nat × Nat} {p q : Int} (ha : IsFr a) (hb : IsFr b) (h1 : FQ a p q) (h2 : FQ b p q) (hq : 0 < q) : a = b := by
  have h := fcmp_Q h1 h2 hq hq
  rw [show cmpI (p * q) (p * q) = 0 by unfold cmpI; rw [if_neg (Int.lt_irrefl _), if_neg (Int.lt_irrefl _)]] at h
  exact (fcmp_zero_iff ha hb).1 h
theorem sdn_one (m p : Nat) : sdn (frac false m 1) p = frac false m (2 ^ p) := by
  rw [fracOne]
  show frac _ m (1 * 2 ^ p) = _
  rw [Nat.one_mul]
  exact frac_sgn0 fun h => by simp
theorem fadd_grid (m P : Nat) (hP : 0 < P) : fadd (frac false m P) (frac false 1 P) = frac false (m + 1) P := by
  have hPi : (0 : Int) < (P : Int) := by omega
  refine fr_unique (p := (m : Int) * P + 1 * P) (q := (P : Int) * P) (IsFr.add (frac_pos hP) (frac_pos hP)) ⟨_, _, _, hP, rfl⟩ (fadd_FQ (frac_svQ m P hP) (frac_svQ 1 P hP)) (frac_FQ hP (by have := Int.mul_pos hPi hPi; omega) ?_) (Int.mul_pos hPi hPi)
  show (((m + 1 : Nat)) : Int) * ((P : Int) * P) = ((m : Int) * P + 1 * P) * (P : Int)
  rw [show ((m + 1 : Nat) : Int) = (m : Int) + 1 by omega]
  grind
theorem gsz_tail {t u : Bool × Nat × Nat} (h : t.2 = u.2) (n p : Nat) : gsz t n p = gsz u n p ∧ gex t n p = gex u n p := by
  obtain ⟨a, b, c⟩ := t
  obtain ⟨a', b', c'⟩ := u
  obtain ⟨rfl, rfl⟩ : b = b' ∧ c = c' := by simpa using h
  exact ⟨rfl, rfl⟩
theorem grdn_neg {t : Bool × Nat × Nat} (h : t.1 = true) (n p : Nat) : grdn t n p = fneg (grup (fneg t) n p) := by
  have hf : (fneg t).1 = false := by unfold fneg; rw [h]; rfl
  obtain ⟨e1, e2⟩ := gsz_tail (t := fneg t) (u := t) rfl n p
  unfold grdn grup
  rw [hf, h, e1, e2, fneg_frac (Nat.pow_pos (by decide))]
  rfl
theorem grup_neg {t : Bool × Nat × Nat} (h : t.1 = true) (n p : Nat) : grup t n p = fneg (grdn (fneg t) n p) := by
  have hf : (fneg t).1 = false := by unfold fneg; rw [h]; rfl
  obtain ⟨e1, e2⟩ := gsz_tail (t := fneg t) (u := t) rfl n p
  unfold grdn grup
  rw [hf, h, e1, e2, fneg_frac (Nat.pow_pos (by decide))]
  rfl
theorem grdn_pos {t : Bool × Nat × Nat} (h : t.1 = false) (n p : Nat) : grdn t n p = frac false (gsz t n p) (2 ^ p) := by
  unfold grdn; rw [h]; rfl
theorem grup_pos {t : Bool × Nat × Nat} (h : t.1 = false) (n p : Nat) : grup t n p = if gex t n p then grdn t n p else fadd (grdn t n p) (frac false 1 (2 ^ p)) := by
  rw [grdn_pos h, fadd_grid _ _ (Nat.pow_pos (by decide))]
  unfold grup
  rw [h]
  cases gex t n p <;> rfl
theorem fpow_FQ {x : Bool × Nat × Nat} {a P : Nat} (h0 : x.1 = false) (h : FQ x (a : Int) (P : Int)) (k : Nat) : FQ (fpow x k) ((a ^ k : Nat) : Int) ((P ^ k : Nat) : Int) := by
  obtain ⟨hq, hp, he⟩ := h
  have hP : 0 < P := by omega
  refine ⟨by have := Nat.pow_pos (n := k) hP; omega, Nat.pow_pos hp, ?_⟩
  rw [h0] at he
  have hn : x.2.1 * P = a * x.2.2 := by
    have h2 : ((x.2.1 * P : Nat) : Int) = ((a * x.2.2 : Nat) : Int) := by rw [Int.natCast_mul, Int.natCast_mul]; exact he
    omega
  have hk : x.2.1 ^ k * P ^ k = a ^ k * x.2.2 ^ k := by rw [← Nat.mul_pow, ← Nat.mul_pow, hn]
  unfold fpow
  rw [h0]
  show ((x.2.1 ^ k : Nat) : Int) * ((P ^ k : Nat) : Int) = ((a ^ k : Nat) : Int) * ((x.2.2 ^ k : Nat) : Int)
  rw [← Int.natCast_mul, ← Int.natCast_mul, hk]
/-- The power of the lower root is the number exactly if the root lies on the grid. -/
theorem grdn_pow {t : Bool × Nat × Nat} {n p : Nat} (h : t.1 = false) (hn : 0 < n) (hD : 0 < t.2.2) : fcmp (fpow (grdn t n p) n) t = 0 ↔ gex t n p = true := by
  have hP : 0 < 2 ^ p := Nat.pow_pos (by decide)
  have hPn : 0 < (2 ^ p) ^ n := Nat.pow_pos hP
  have h1 := fpow_FQ (x := frac false (gsz t n p) (2 ^ p)) (show (frac false (gsz t n p) (2 ^ p)).1 = false from rfl) (frac_svQ (gsz t n p) (2 ^ p) hP) n
  have h2 : FQ t (t.2.1 : Int) (t.2.2 : Int) := ⟨by omega, hD, by rw [h]; rfl⟩
  rw [grdn_pos h, fcmp_Q h1 h2 (by omega) (by omega), gex_iff hn hD, show (2 ^ p) ^ n = 2 ^ (n * p) by rw [← Nat.pow_mul, Nat.mul_comm]]
  rw [← Int.natCast_mul, ← Int.natCast_mul]
  unfold cmpI
  generalize gsz t n p ^ n * t.2.2 = u
  generalize t.2.1 * 2 ^ (n * p) = v
  constructor
  · intro h
    split at h
    · exact absurd h (by decide)
    · split at h
      · exact absurd h (by decide)
      · omega
  · rintro rfl
    rw [if_neg (Int.lt_irrefl _), if_neg (Int.lt_irrefl _)]
end Go.Proofs.YtjnfnngobkjneaaGreatDoor
