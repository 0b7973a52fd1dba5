/- Roots and powers: the mathematics of the law NumberPowers. -/
import Derived.Test.YtnoonhomjnpbjaaDoorGrtS
namespace Go.Proofs.YtnoonhomjnpbjaaDoor
open Go.RowKit Dg Rt

theorem fr_outF {t : Bool × Nat × Nat} (h : IsFr t) : fr (outF t) = t := by
  obtain ⟨hg, hp, hz⟩ := isFr_lowest h
  have e : den1 (den0 t.2.2) = t.2.2 := by unfold den1 den0; by_cases h : t.2.2 = 1 <;> simp [h] <;> omega
  show frac t.1 t.2.1 (den1 (den0 t.2.2)) = t
  rw [e, lowest_frac hg hz]
theorem neg_pow (n k : Nat) : (-(n : Int)) ^ k = sv (decide (k % 2 = 1)) (n ^ k) := by
  induction k with
  | zero => simp [sv]
  | succ k ih =>
    rw [Int.pow_succ, ih, Nat.pow_succ]
    rcases Nat.mod_two_eq_zero_or_one k with h | h
    · rw [decide_eq_false (by omega), decide_eq_true (by omega)]
      unfold sv
      simp [Int.natCast_mul, Int.mul_neg]
    · rw [decide_eq_true h, decide_eq_false (by omega)]
      unfold sv
      simp [Int.natCast_mul, Int.mul_neg, Int.neg_mul]
theorem sv_pow (s : Bool) (n k : Nat) : sv (s && decide (k % 2 = 1)) (n ^ k) = sv s n ^ k := by
  cases s
  · show ((n ^ k : Nat) : Int) = (n : Int) ^ k
    rw [Int.natCast_pow]
  · rw [Bool.true_and]
    exact (neg_pow n k).symm
theorem fpow_FQi {x : Bool × Nat × Nat} {a q : Int} (h : FQ x a q) (k : Nat) : FQ (fpow x k) (a ^ k) (q ^ k) := by
  obtain ⟨hq, hp, he⟩ := h
  refine ⟨Int.pow_ne_zero hq, Nat.pow_pos hp, ?_⟩
  show sv (x.1 && decide (k % 2 = 1)) (x.2.1 ^ k) * q ^ k = a ^ k * ((x.2.2 ^ k : Nat) : Int)
  rw [sv_pow, ← Int.mul_pow, he, Int.mul_pow, Int.natCast_pow]
theorem fcmp_pow_eq {s : Bool} {m P k : Nat} {X : Bool × Nat × Nat} (hP : 0 < P) (hD : 0 < X.2.2) (hs : s = X.1) (ho : X.1 = true → k % 2 = 1) :
    fcmp (fpow (frac s m P) k) X = cmpI (sv X.1 (m ^ k * X.2.2)) (sv X.1 (X.2.1 * P ^ k)) ∧ fcmp X (fpow (frac s m P) k) = cmpI (sv X.1 (X.2.1 * P ^ k)) (sv X.1 (m ^ k * X.2.2)) := by
  have h1 := fpow_FQi (frac_FQ (s := s) (n := m) (d := P) (p := sv s m) (q := (P : Int)) hP (by omega) rfl) k
  have hX : FQ X (sv X.1 X.2.1) (X.2.2 : Int) := ⟨by omega, hD, rfl⟩
  have hPk : (0 : Int) < (P : Int) ^ k := Int.pow_pos (by omega)
  rw [fcmp_Q h1 hX hPk (by omega), fcmp_Q hX h1 (by omega) hPk, ← sv_pow, hs]
  have e : (X.1 && decide (k % 2 = 1)) = X.1 := by
    cases h : X.1
    · rfl
    · rw [decide_eq_true (ho h)]; rfl
  rw [e, sv_mul, sv_mul, ← Int.natCast_pow]
  exact ⟨rfl, rfl⟩
theorem cmpI_le {a b : Int} (h : a ≤ b) : cmpI a b ≤ 0 := by
  unfold cmpI
  split
  · decide
  · rw [if_neg (by omega)]; decide
theorem sv_le_false {a b : Nat} (h : a ≤ b) : sv false a ≤ sv false b := by unfold sv; simpa using h
theorem sv_le_true {a b : Nat} (h : b ≤ a) : sv true a ≤ sv true b := by unfold sv; simp; omega
theorem two_pp (n p : Nat) : (2 ^ p) ^ n = 2 ^ (n * p) := by rw [← Nat.pow_mul, Nat.mul_comm]
theorem gr_lo {X : Bool × Nat × Nat} {n p : Nat} (hn : 0 < n) (hD : 0 < X.2.2) (ho : X.1 = true → n % 2 = 1) : fcmp (fpow (grdn X n p) n) X ≤ 0 := by
  unfold grdn
  rw [(fcmp_pow_eq (s := X.1) (m := gsz X n p + if (X.1 && !gex X n p) = true then 1 else 0) (P := 2 ^ p) (k := n) (Nat.pow_pos (by decide)) hD rfl ho).1, two_pp]
  refine cmpI_le ?_
  have h1 := gsz_lo X (p := p) hn hD
  have h2 := gsz_hi X (p := p) hn hD
  have h3 := gex_iff (t := X) (p := p) hn hD
  cases hs : X.1
  · exact sv_le_false h1
  · cases he : gex X n p
    · exact sv_le_true (Nat.le_of_lt h2)
    · exact sv_le_true (Nat.le_of_eq (h3.1 he).symm)
theorem gr_hi {X : Bool × Nat × Nat} {n p : Nat} (hn : 0 < n) (hD : 0 < X.2.2) (ho : X.1 = true → n % 2 = 1) : fcmp X (fpow (grup X n p) n) ≤ 0 := by
  unfold grup
  rw [(fcmp_pow_eq (s := X.1) (m := gsz X n p + if (!X.1 && !gex X n p) = true then 1 else 0) (P := 2 ^ p) (k := n) (Nat.pow_pos (by decide)) hD rfl ho).2, two_pp]
  refine cmpI_le ?_
  have h1 := gsz_lo X (p := p) hn hD
  have h2 := gsz_hi X (p := p) hn hD
  have h3 := gex_iff (t := X) (p := p) hn hD
  cases hs : X.1
  · cases he : gex X n p
    · exact sv_le_false (Nat.le_of_lt h2)
    · exact sv_le_false (Nat.le_of_eq (h3.1 he).symm)
  · exact sv_le_true h1
theorem powc_small (t : Bool × Nat × Nat) {k : Nat} (h8 : k ≤ 8) : powc t (k : Int) = 0 ∧ powr t (k : Int) = fpow t k := by
  unfold powc powr
  rw [if_neg (by omega), if_neg (by omega), if_neg (by omega)]
  exact ⟨rfl, rfl⟩
theorem big_eq_false {n d : Nat} (h1 : n < W32 ^ 64) (h2 : d < W32 ^ 64) : big n d = false := decide_eq_false (by omega)
/-- Root undoes Pow. -/
theorem powers_root {x r : Bool × Nat × Nat} {k : Nat} (h2 : 2 ≤ k) (h8 : k ≤ 8) (hu : ucode x.2.1 x.2.2 (powc (fr x) k) (powr (fr x) k) = 0) (hr : r = outF (powr (fr x) k)) :
    ucode r.2.1 r.2.2 (rtc k) (rootr (fr r) k) = 0 ∧ rfound r.2.1 r.2.2 (fr r) k = true ∧ outF (rootr (fr r) k) = (if k % 2 = 1 then outF (fr x) else outF (fabs (fr x))) ∧ ucode x.2.1 x.2.2 0 (fabs (fr x)) = 0 ∧ ucode x.2.1 x.2.2 0 (fr x) = 0 := by
  obtain ⟨hl, _, hb⟩ := ucode_big hu
  have hbx := fr_bd hl
  have hF := IsFr.fr x
  obtain ⟨_, ep⟩ := powc_small (fr x) h8
  rw [ep] at hr hb
  have hfr : fr r = fpow (fr x) k := by rw [hr]; exact fr_outF (hF.pow k)
  have hrl : large r.2.1 r.2.2 = false := by rw [hr]; exact res_small (c := 0) rfl hb
  have hrt : rtc (k : Int) = 0 := if_neg (by omega)
  have hok : rootOk (fpow (fr x) k) k = true := by
    unfold rootOk fpow
    refine decide_eq_true ⟨?_, ?_, ?_⟩
    · show nroot ((fr x).2.1 ^ k) k ^ k = (fr x).2.1 ^ k
      rw [nroot_pow (by omega)]
    · show nroot ((fr x).2.2 ^ k) k ^ k = (fr x).2.2 ^ k
      rw [nroot_pow (by omega)]
    · rintro ⟨h, h0⟩
      rw [decide_eq_false (show ¬ k % 2 = 1 by omega), Bool.and_false] at h
      exact absurd (show false = true from h) (by decide)
  have hrr : rootr (fpow (fr x) k) k = ((fr x).1 && decide (k % 2 = 1), (fr x).2.1, (fr x).2.2) := by
    unfold rootr
    rw [if_pos hok]
    unfold fpow
    show (_, nroot ((fr x).2.1 ^ k) k, nroot ((fr x).2.2 ^ k) k) = _
    rw [nroot_pow (by omega), nroot_pow (by omega)]
  have hbig : big (fr x).2.1 (fr x).2.2 = false := big_eq_false hbx.1 hbx.2
  refine ⟨?_, ?_, ?_, ?_, ?_⟩
  · rw [hfr, ucode_ok hrl, hrt, if_neg (by decide), hrr, if_neg]
    show ¬ big (fr x).2.1 (fr x).2.2 = true
    rw [hbig]; decide
  · unfold rfound
    rw [hrl, hrt, hfr]
    show (decide ((0 : Int) = 0) && rootOk (fpow (fr x) k) k) = true
    rw [hok]; rfl
  · rw [hfr, hrr]
    rcases Nat.mod_two_eq_zero_or_one k with h | h
    · rw [decide_eq_false (by omega), if_neg (by omega), Bool.and_false]; rfl
    · rw [decide_eq_true h, if_pos h, Bool.and_true]
  · rw [ucode_ok hl, if_neg (by decide), if_neg]
    show ¬ big (fr x).2.1 (fr x).2.2 = true
    rw [hbig]; decide
  · rw [ucode_ok hl, if_neg (by decide), if_neg]
    show ¬ big (fr x).2.1 (fr x).2.2 = true
    rw [hbig]; decide
theorem gcode_odd {t : Bool × Nat × Nat} {k p : Nat} (h : gcode t (k : Int) (p : Int) = 0) : t.1 = true → k % 2 = 1 := by
  intro ht
  unfold gcode at h
  split at h
  · split at h
    · exact absurd h (by decide)
    · rename_i h2
      rcases Nat.mod_two_eq_zero_or_one k with h3 | h3
      · exact absurd ⟨by omega, ht⟩ h2
      · exact h3
  · exact absurd h (by decide)
/-- A number lies between the powers of its roots on a grid. -/
theorem powers_lo {x a c : Bool × Nat × Nat} {k p : Nat} (h2 : 2 ≤ k) (h8 : k ≤ 8) (hu : ucode x.2.1 x.2.2 (gcode (fr x) k p) (grdn (fr x) k p) = 0) (ha : a = outF (grdn (fr x) k p)) (hv : ucode a.2.1 a.2.2 (powc (fr a) k) (powr (fr a) k) = 0) (hc : c = outF (powr (fr a) k)) :
    cmc c x = 0 ∧ cmt c x ≤ 0 := by
  obtain ⟨hl, hg, hb⟩ := ucode_big hu
  obtain ⟨_, _, hb2⟩ := ucode_big hv
  obtain ⟨_, ep⟩ := powc_small (fr a) h8
  have hfa : fr a = grdn (fr x) k p := by rw [ha]; exact fr_outF (grdn_fr _ _ _)
  rw [ep, hfa] at hc hb2
  have hcl : large c.2.1 c.2.2 = false := by rw [hc]; exact res_small (c := 0) rfl hb2
  have hfc : fr c = fpow (grdn (fr x) k p) k := by rw [hc]; exact fr_outF ((grdn_fr _ _ _).pow k)
  refine ⟨cmc_zero.2 ⟨hcl, hl⟩, ?_⟩
  unfold cmt
  rw [hcl, hl, hfc]
  exact gr_lo (by omega) (IsFr.fr x).pos (gcode_odd hg)
theorem powers_hi {x a c : Bool × Nat × Nat} {k p : Nat} (h2 : 2 ≤ k) (h8 : k ≤ 8) (hu : ucode x.2.1 x.2.2 (gcode (fr x) k p) (grup (fr x) k p) = 0) (ha : a = outF (grup (fr x) k p)) (hv : ucode a.2.1 a.2.2 (powc (fr a) k) (powr (fr a) k) = 0) (hc : c = outF (powr (fr a) k)) :
    cmc x c = 0 ∧ cmt x c ≤ 0 := by
  obtain ⟨hl, hg, hb⟩ := ucode_big hu
  obtain ⟨_, _, hb2⟩ := ucode_big hv
  obtain ⟨_, ep⟩ := powc_small (fr a) h8
  have hfa : fr a = grup (fr x) k p := by rw [ha]; exact fr_outF (grup_fr _ _ _)
  rw [ep, hfa] at hc hb2
  have hcl : large c.2.1 c.2.2 = false := by rw [hc]; exact res_small (c := 0) rfl hb2
  have hfc : fr c = fpow (grup (fr x) k p) k := by rw [hc]; exact fr_outF ((grup_fr _ _ _).pow k)
  refine ⟨cmc_zero.2 ⟨hl, hcl⟩, ?_⟩
  unfold cmt
  rw [hcl, hl, hfc]
  exact gr_hi (by omega) (IsFr.fr x).pos (gcode_odd hg)
end Go.Proofs.YtnoonhomjnpbjaaDoor
