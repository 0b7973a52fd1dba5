/- Powers of fractions: what they are, and that they are in lowest terms. Roots of natural numbers and of fractions: what they are. Roots on a grid: what they are. -/
import Derived.Test.YtheojajaefjecaaGreatDoorGrd
import Derived.Test.YtheojajaefjecaaGreatDoorOrderA
namespace Go.Proofs.YtheojajaefjecaaGreatDoor
open Go.RowKit Dg
def fpow (t : Bool × Nat × Nat) (k : Nat) : Bool × Nat × Nat := (t.1 && decide (k % 2 = 1), t.2.1 ^ k, t.2.2 ^ k)
theorem IsFr.pow {t : Bool × Nat × Nat} (h : IsFr t) (k : Nat) : IsFr (fpow t k) := by
 obtain ⟨s, n, d, hd, rfl⟩ := h
 have hg := frac_gcd (s := s) (n := n) hd
 have hz := frac_zero_sign (s := s) (n := n) hd
 have hp := frac_pos (s := s) (n := n) hd
 generalize frac s n d = t at *
 refine ⟨t.1 && decide (k % 2 = 1), t.2.1 ^ k, t.2.2 ^ k, Nat.pow_pos hp, ?_⟩
 have hc : Nat.gcd (t.2.1 ^ k) (t.2.2 ^ k) = 1 := Nat.Coprime.pow k k hg
 unfold fpow frac
 rw [hc, Nat.div_one, Nat.div_one]
 by_cases h0 : t.2.1 ^ k = 0
 ·have h1 : t.2.1 = 0 := by
   rcases Nat.eq_zero_or_pos t.2.1 with h | h
   ·exact h
   ·have := Nat.pow_pos (n := k) h; omega
  rw [hz h1]
  simp
 ·rw [decide_eq_true (show t.2.1 ^ k ≠ 0 from h0), Bool.and_true]
end Go.Proofs.YtheojajaefjecaaGreatDoor

namespace Go.Proofs.YtheojajaefjecaaGreatDoor
open Go.RowKit Dg Rt
theorem root_exists (a n : Nat) (hn : 0 < n) : ∃ r, IsRoot a n r := by
 have key : ∀ k : Nat, (∃ r, r ≤ k ∧ IsRoot a n r) ∨ k ^ n ≤ a := by
  intro k
  induction k with
  | zero => right; rw [Nat.zero_pow hn]; exact Nat.zero_le _
  | succ k ih =>
   rcases ih with ⟨r, h, hr⟩ | h
   ·exact .inl ⟨r, by omega, hr⟩
   ·rcases Nat.lt_or_ge a ((k + 1) ^ n) with hl | hl
    ·exact .inl ⟨k, by omega, h, hl⟩
    ·exact .inr hl
 rcases key (a + 1) with ⟨r, _, hr⟩ | h
 ·exact ⟨r, hr⟩
 ·exfalso
  have : a + 1 ≤ (a + 1) ^ n := Nat.le_self_pow (by omega) _
  omega
noncomputable def nroot (a n : Nat) : Nat := if h : 0 < n then Classical.choose (root_exists a n h) else 0
theorem nroot_spec {a n : Nat} (hn : 0 < n) : IsRoot a n (nroot a n) := by
 unfold nroot
 rw [dif_pos hn]
 exact Classical.choose_spec (root_exists a n hn)
theorem nroot_eq {a n r : Nat} (hn : 0 < n) (h : IsRoot a n r) : nroot a n = r := (nroot_spec hn).unique h
theorem nroot_zero {n : Nat} (hn : 0 < n) : nroot 0 n = 0 := nroot_eq hn ⟨by rw [Nat.zero_pow hn]; exact Nat.le_refl _, by rw [Nat.one_pow]; exact Nat.one_pos⟩
theorem nroot_le {a n : Nat} (hn : 0 < n) : nroot a n ≤ a := by
 have h := (nroot_spec (a := a) hn).1
 exact Nat.le_trans (Nat.le_self_pow (by omega) _) h
theorem isFr_lowest {t : Bool × Nat × Nat} (h : IsFr t) : Nat.gcd t.2.1 t.2.2 = 1 ∧ 0 < t.2.2 ∧ (t.2.1 = 0 → t.1 = false) := by
 obtain ⟨s, n, d, hd, rfl⟩ := h
 exact ⟨frac_gcd hd, frac_pos hd, frac_zero_sign hd⟩
theorem sv_abs (s : Bool) (n : Nat) : (sv s n).natAbs = n := by
 unfold sv; cases s <;> simp
theorem fcmp_zero_iff {x y : Bool × Nat × Nat} (hx : IsFr x) (hy : IsFr y) : fcmp x y = 0 ↔ x = y := by
 obtain ⟨gx, px, zx⟩ := isFr_lowest hx
 obtain ⟨gy, py, zy⟩ := isFr_lowest hy
 constructor
 ·intro h
  have he : sv x.1 x.2.1 * (y.2.2 : Int) = sv y.1 y.2.1 * (x.2.2 : Int) := by
   unfold fcmp cmpI at h
   split at h
   ·exact absurd h (by decide)
   ·split at h
    ·exact absurd h (by decide)
    ·omega
  have hn : x.2.1 * y.2.2 = y.2.1 * x.2.2 := by
   have := congrArg Int.natAbs he
   rwa [Int.natAbs_mul, Int.natAbs_mul, sv_abs, sv_abs, Int.natAbs_natCast, Int.natAbs_natCast] at this
  have d1 : x.2.2 ∣ y.2.2 := (Nat.Coprime.symm gx).dvd_of_dvd_mul_left ⟨y.2.1, by rw [hn, Nat.mul_comm]⟩
  have d2 : y.2.2 ∣ x.2.2 := (Nat.Coprime.symm gy).dvd_of_dvd_mul_left ⟨x.2.1, by rw [← hn, Nat.mul_comm]⟩
  have hd : x.2.2 = y.2.2 := Nat.dvd_antisymm d1 d2
  rw [hd] at hn he
  have hnn : x.2.1 = y.2.1 := Nat.eq_of_mul_eq_mul_right py hn
  have hs : x.1 = y.1 := by
   have he2 : sv x.1 x.2.1 = sv y.1 y.2.1 := Int.eq_of_mul_eq_mul_right (by omega) he
   rw [hnn] at he2
   rcases Nat.eq_zero_or_pos y.2.1 with h0 | h0
   ·rw [zx (hnn.trans h0), zy h0]
   ·unfold sv at he2
    cases h1 : x.1 <;> cases h2 : y.1 <;> simp [h1, h2] at he2 ⊢ <;> omega
  obtain ⟨a, b, c⟩ := x
  obtain ⟨a', b', c'⟩ := y
  simp only at hs hnn hd
  rw [hs, hnn, hd]
 ·rintro rfl
  unfold fcmp cmpI
  rw [if_neg (Int.lt_irrefl _), if_neg (Int.lt_irrefl _)]
end Go.Proofs.YtheojajaefjecaaGreatDoor

namespace Go.Proofs.YtheojajaefjecaaGreatDoor
open Go.RowKit Dg Rt
def gsc (t : Bool × Nat × Nat) (n p : Nat) : Nat := t.2.1 * 2 ^ (n * p) / t.2.2
noncomputable def gsz (t : Bool × Nat × Nat) (n p : Nat) : Nat := nroot (gsc t n p) n
noncomputable def gex (t : Bool × Nat × Nat) (n p : Nat) : Bool := decide (t.2.1 * 2 ^ (n * p) % t.2.2 = 0) && decide (gsz t n p ^ n = gsc t n p)
noncomputable def grdn (t : Bool × Nat × Nat) (n p : Nat) : Bool × Nat × Nat := frac t.1 (gsz t n p + if (t.1 && !gex t n p) = true then 1 else 0) (2 ^ p)
noncomputable def grup (t : Bool × Nat × Nat) (n p : Nat) : Bool × Nat × Nat := frac t.1 (gsz t n p + if (!t.1 && !gex t n p) = true then 1 else 0) (2 ^ p)
theorem grdn_fr (t : Bool × Nat × Nat) (n p : Nat) : IsFr (grdn t n p) := ⟨_, _, _, Nat.pow_pos (by decide), rfl⟩
theorem grup_fr (t : Bool × Nat × Nat) (n p : Nat) : IsFr (grup t n p) := ⟨_, _, _, Nat.pow_pos (by decide), rfl⟩
theorem gsz_le (t : Bool × Nat × Nat) {n : Nat} (hn : 0 < n) (p : Nat) : gsz t n p ≤ gsc t n p := nroot_le hn
theorem gsc_le (t : Bool × Nat × Nat) (n p : Nat) : gsc t n p ≤ t.2.1 * 2 ^ (n * p) := Nat.div_le_self _ _
theorem gsz_pow (t : Bool × Nat × Nat) {n : Nat} (hn : 0 < n) (p : Nat) : gsz t n p ^ n ≤ gsc t n p := (nroot_spec hn).1
theorem gsz_lt (t : Bool × Nat × Nat) {n : Nat} (hn : 0 < n) (p : Nat) : gsc t n p < (gsz t n p + 1) ^ n := (nroot_spec hn).2
theorem gsc_div {t : Bool × Nat × Nat} {n p : Nat} (hD : 0 < t.2.2) : gsc t n p * t.2.2 ≤ t.2.1 * 2 ^ (n * p) ∧ t.2.1 * 2 ^ (n * p) < (gsc t n p + 1) * t.2.2 := by
 have h1 := Nat.div_add_mod (t.2.1 * 2 ^ (n * p)) t.2.2
 have h2 := Nat.mod_lt (t.2.1 * 2 ^ (n * p)) hD
 rw [Nat.add_mul, Nat.one_mul, Nat.mul_comm (gsc t n p)]
 unfold gsc
 omega
theorem gsz_lo (t : Bool × Nat × Nat) {n p : Nat} (hn : 0 < n) (hD : 0 < t.2.2) : gsz t n p ^ n * t.2.2 ≤ t.2.1 * 2 ^ (n * p) :=
 Nat.le_trans (Nat.mul_le_mul_right _ (gsz_pow t hn p)) (gsc_div hD).1
theorem gsz_hi (t : Bool × Nat × Nat) {n p : Nat} (hn : 0 < n) (hD : 0 < t.2.2) : t.2.1 * 2 ^ (n * p) < (gsz t n p + 1) ^ n * t.2.2 :=
 Nat.lt_of_lt_of_le (gsc_div hD).2 (Nat.mul_le_mul_right _ (gsz_lt t hn p))
theorem gex_iff {t : Bool × Nat × Nat} {n p : Nat} (hn : 0 < n) (hD : 0 < t.2.2) : gex t n p = true ↔ gsz t n p ^ n * t.2.2 = t.2.1 * 2 ^ (n * p) := by
 have h1 := Nat.div_add_mod (t.2.1 * 2 ^ (n * p)) t.2.2
 have h3 := gsz_pow t hn p
 unfold gex
 rw [Bool.and_eq_true, decide_eq_true_eq, decide_eq_true_eq]
 constructor
 ·rintro ⟨ha, hb⟩
  rw [hb, Nat.mul_comm]
  unfold gsc
  omega
 ·intro h
  have he : gsz t n p ^ n = gsc t n p := by
   rcases Nat.lt_or_ge (gsz t n p ^ n) (gsc t n p) with hl | hl
   ·exfalso
    have h4 : (gsz t n p ^ n + 1) * t.2.2 ≤ gsc t n p * t.2.2 := Nat.mul_le_mul_right _ hl
    rw [Nat.add_mul, Nat.one_mul, h] at h4
    have := (gsc_div (n := n) (p := p) hD).1
    omega
   ·omega
  refine ⟨?_, he⟩
  rw [he, Nat.mul_comm] at h
  unfold gsc at h
  omega
theorem frac_svQ (n P : Nat) (hP : 0 < P) : FQ (frac false n P) (n : Int) (P : Int) := frac_FQ hP (by omega) rfl
theorem fr_unique {a b : Bool × Nat × Nat} {p q : Int} (ha : IsFr a) (hb : IsFr b) (h1 : FQ a p q) (h2 : FQ b p q) (hq : 0 < q) : a = b := by
 have h := fcmp_Q h1 h2 hq hq
 rw [show cmpI (p * q) (p * q) = 0 by unfold cmpI; rw [if_neg (Int.lt_irrefl _), if_neg (Int.lt_irrefl _)]] at h
 exact (fcmp_zero_iff ha hb).1 h
theorem sdn_one (m p : Nat) : sdn (frac false m 1) p = frac false m (2 ^ p) := by
 rw [fracOne]
 show frac _ m (1 * 2 ^ p) = _
 rw [Nat.one_mul]
 exact frac_sgn0 fun h => by simp
theorem fadd_grid (m P : Nat) (hP : 0 < P) : fadd (frac false m P) (frac false 1 P) = frac false (m + 1) P := by
 have hPi : (0 : Int) < (P : Int) := by omega
 refine fr_unique (p := (m : Int) * P + 1 * P) (q := (P : Int) * P) (IsFr.add (frac_pos hP) (frac_pos hP)) ⟨_, _, _, hP, rfl⟩ (fadd_FQ (frac_svQ m P hP) (frac_svQ 1 P hP)) (frac_FQ hP (by have := Int.mul_pos hPi hPi; omega) ?_) (Int.mul_pos hPi hPi)
 show (((m + 1 : Nat)) : Int) * ((P : Int) * P) = ((m : Int) * P + 1 * P) * (P : Int)
 rw [show ((m + 1 : Nat) : Int) = (m : Int) + 1 by omega]
 grind
theorem gsz_tail {t u : Bool × Nat × Nat} (h : t.2 = u.2) (n p : Nat) : gsz t n p = gsz u n p ∧ gex t n p = gex u n p := by
 obtain ⟨a, b, c⟩ := t
 obtain ⟨a', b', c'⟩ := u
 obtain ⟨rfl, rfl⟩ : b = b' ∧ c = c' := by simpa using h
 exact ⟨rfl, rfl⟩
theorem grdn_neg {t : Bool × Nat × Nat} (h : t.1 = true) (n p : Nat) : grdn t n p = fneg (grup (fneg t) n p) := by
 have hf : (fneg t).1 = false := by unfold fneg; rw [h]; rfl
 obtain ⟨e1, e2⟩ := gsz_tail (t := fneg t) (u := t) rfl n p
 unfold grdn grup
 rw [hf, h, e1, e2, fneg_frac (Nat.pow_pos (by decide))]
 rfl
theorem grup_neg {t : Bool × Nat × Nat} (h : t.1 = true) (n p : Nat) : grup t n p = fneg (grdn (fneg t) n p) := by
 have hf : (fneg t).1 = false := by unfold fneg; rw [h]; rfl
 obtain ⟨e1, e2⟩ := gsz_tail (t := fneg t) (u := t) rfl n p
 unfold grdn grup
 rw [hf, h, e1, e2, fneg_frac (Nat.pow_pos (by decide))]
 rfl
theorem grdn_pos {t : Bool × Nat × Nat} (h : t.1 = false) (n p : Nat) : grdn t n p = frac false (gsz t n p) (2 ^ p) := by
 unfold grdn; rw [h]; rfl
theorem grup_pos {t : Bool × Nat × Nat} (h : t.1 = false) (n p : Nat) : grup t n p = if gex t n p then grdn t n p else fadd (grdn t n p) (frac false 1 (2 ^ p)) := by
 rw [grdn_pos h, fadd_grid _ _ (Nat.pow_pos (by decide))]
 unfold grup
 rw [h]
 cases gex t n p <;> rfl
theorem fpow_FQ {x : Bool × Nat × Nat} {a P : Nat} (h0 : x.1 = false) (h : FQ x (a : Int) (P : Int)) (k : Nat) : FQ (fpow x k) ((a ^ k : Nat) : Int) ((P ^ k : Nat) : Int) := by
 obtain ⟨hq, hp, he⟩ := h
 have hP : 0 < P := by omega
 refine ⟨by have := Nat.pow_pos (n := k) hP; omega, Nat.pow_pos hp, ?_⟩
 rw [h0] at he
 have hn : x.2.1 * P = a * x.2.2 := by
  have h2 : ((x.2.1 * P : Nat) : Int) = ((a * x.2.2 : Nat) : Int) := by rw [Int.natCast_mul, Int.natCast_mul]; exact he
  omega
 have hk : x.2.1 ^ k * P ^ k = a ^ k * x.2.2 ^ k := by rw [← Nat.mul_pow, ← Nat.mul_pow, hn]
 unfold fpow
 rw [h0]
 show ((x.2.1 ^ k : Nat) : Int) * ((P ^ k : Nat) : Int) = ((a ^ k : Nat) : Int) * ((x.2.2 ^ k : Nat) : Int)
 rw [← Int.natCast_mul, ← Int.natCast_mul, hk]
theorem grdn_pow {t : Bool × Nat × Nat} {n p : Nat} (h : t.1 = false) (hn : 0 < n) (hD : 0 < t.2.2) : fcmp (fpow (grdn t n p) n) t = 0 ↔ gex t n p = true := by
 have hP : 0 < 2 ^ p := Nat.pow_pos (by decide)
 have hPn : 0 < (2 ^ p) ^ n := Nat.pow_pos hP
 have h1 := fpow_FQ (x := frac false (gsz t n p) (2 ^ p)) (show (frac false (gsz t n p) (2 ^ p)).1 = false from rfl) (frac_svQ (gsz t n p) (2 ^ p) hP) n
 have h2 : FQ t (t.2.1 : Int) (t.2.2 : Int) := ⟨by omega, hD, by rw [h]; rfl⟩
 rw [grdn_pos h, fcmp_Q h1 h2 (by omega) (by omega), gex_iff hn hD, show (2 ^ p) ^ n = 2 ^ (n * p) by rw [← Nat.pow_mul, Nat.mul_comm]]
 rw [← Int.natCast_mul, ← Int.natCast_mul]
 unfold cmpI
 generalize gsz t n p ^ n * t.2.2 = u
 generalize t.2.1 * 2 ^ (n * p) = v
 constructor
 ·intro h
  split at h
  ·exact absurd h (by decide)
  ·split at h
   ·exact absurd h (by decide)
   ·omega
 ·rintro rfl
  rw [if_neg (Int.lt_irrefl _), if_neg (Int.lt_irrefl _)]
end Go.Proofs.YtheojajaefjecaaGreatDoor
