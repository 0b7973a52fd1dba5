/- The simplest number lies between the ends, and no number between them is simpler. -/
import Derived.Test.YtppllgnoniaafaaDoorSplF
namespace Go.Proofs.YtppllgnoniaafaaDoor
open Go.RowKit Dg

theorem fr_out {t : Bool × Nat × Nat} (h : IsFr t) : fr (outF t) = t := by
  obtain ⟨s, n, d, hd, rfl⟩ := h
  have hg := frac_gcd (s := s) (n := n) hd
  have hz := frac_zero_sign (s := s) (n := n) hd
  have hp := frac_pos (s := s) (n := n) hd
  generalize frac s n d = t at *
  have e : den1 (den0 t.2.2) = t.2.2 := by unfold den1 den0; by_cases h : t.2.2 = 1 <;> simp [h] <;> omega
  show frac t.1 t.2.1 (den1 (den0 t.2.2)) = t
  rw [e]
  unfold frac
  rw [hg, Nat.div_one, Nat.div_one]
  have e2 : (t.1 && decide (t.2.1 ≠ 0)) = t.1 := by
    by_cases h : t.2.1 = 0
    · rw [hz h]; rfl
    · simp [h]
  rw [e2]
theorem sgn_negI {s : Bool} {n : Nat} (h : (!s && decide (n ≠ 0)) = false) (hn : 0 < n) : sgn s n < 0 := by
  cases s
  · rw [decide_eq_true (show n ≠ 0 by omega)] at h
    exact absurd h (by decide)
  · unfold sgn; rw [if_pos rfl]; decide
theorem sgn_posI {s : Bool} {n : Nat} (h : s = false) (hn : 0 < n) : 0 < sgn s n := by
  subst h
  unfold sgn
  rw [if_neg (by decide), if_neg (by omega)]
  decide
theorem between_least {X Y Z : Bool × Nat × Nat} (h : fle X Y) (h1 : fle X Z) (h2 : fle Z Y) (hx : 0 < X.2.2) (hy : 0 < Y.2.2) (hz : 0 < Z.2.2) (zy : Y.2.1 = 0 → Y.1 = false) :
    (fpl X Y).2.2 ≤ Z.2.2 ∧ (fpl X Y).2.1 ≤ Z.2.1 := by
  unfold fpl
  split
  · rename_i h0
    obtain ⟨_, k2, _, _, k5⟩ := fpl_pos h hy h0
    obtain ⟨_, _, m3, m4, m5⟩ := fpl_pos h1 hz h0
    obtain ⟨_, _, _, _, q5⟩ := fpl_pos h2 hy (sgn_posI m3 m4)
    have hl := spl_least _ X.2.1 X.2.2 Y.2.1 Y.2.2 Z.2.1 Z.2.2 (Nat.le_refl _) k2 hx hy k5 hz m5 q5
    exact ⟨hl.2, hl.1⟩
  · split
    · rename_i h0
      obtain ⟨_, k2, _, _, k5⟩ := fpl_neg h hx zy h0
      obtain ⟨_, _, m3, m4, m5⟩ := fpl_neg h2 hz zy h0
      obtain ⟨_, _, _, _, q5⟩ := fpl_neg h1 hx (fun h => by omega) (sgn_negI m3 m4)
      have hl := spl_least _ Y.2.1 Y.2.2 X.2.1 X.2.2 Z.2.1 Z.2.2 (Nat.le_refl _) k2 hy hx k5 hz m5 q5
      exact ⟨hl.2, hl.1⟩
    · exact ⟨hz, Nat.zero_le _⟩
theorem cmpI_nle {a b : Int} (h : a ≤ b) : ¬ 0 < cmpI a b := by
  unfold cmpI
  split
  · decide
  · rw [if_neg (by omega)]; decide
theorem sv_nat (n d : Nat) : sv false n * (d : Int) = ((n * d : Nat) : Int) := by rw [Int.natCast_mul]; rfl
theorem sv_neg (n d : Nat) : sv true n * (d : Int) = -((n * d : Nat) : Int) := by rw [Int.natCast_mul, ← Int.neg_mul]; rfl
theorem between_ends {X Y : Bool × Nat × Nat} (h : fle X Y) (hx : 0 < X.2.2) (hy : 0 < Y.2.2) (zy : Y.2.1 = 0 → Y.1 = false) :
    fle X (fpl X Y) ∧ fle (fpl X Y) Y := by
  unfold fpl
  split
  · rename_i h0
    obtain ⟨k1, k2, k3, k4, k5⟩ := fpl_pos h hy h0
    have hf := spl_facts _ X.2.1 X.2.2 Y.2.1 Y.2.2 (Nat.le_refl _) k2 hx hy k5
    unfold fle fspl
    rw [k1, k3, sv_nat, sv_nat, sv_nat, sv_nat]
    exact ⟨Int.ofNat_le.2 hf.2.2.2.1, Int.ofNat_le.2 hf.2.2.2.2⟩
  · split
    · rename_i h0
      obtain ⟨k1, k2, k3, k4, k5⟩ := fpl_neg h hx zy h0
      have hf := spl_facts _ Y.2.1 Y.2.2 X.2.1 X.2.2 (Nat.le_refl _) k2 hy hx k5
      have e : (fneg (fspl (fneg Y) (fneg X))) = (true, (spl Y.2.1 Y.2.2 X.2.1 X.2.2).1, (spl Y.2.1 Y.2.2 X.2.1 X.2.2).2) := by
        unfold fneg fspl
        have := hf.1
        simp only [ne_eq, Bool.not_false, Bool.true_and, Prod.mk.injEq, decide_eq_true_eq, and_true]
        omega
      have s1 : X.1 = true := by
        have : (!X.1 && decide (X.2.1 ≠ 0)) = false := k3
        rw [decide_eq_true (show X.2.1 ≠ 0 by omega)] at this
        cases hX : X.1
        · rw [hX] at this; exact absurd this (by decide)
        · rfl
      have s2 := sgn_negE h0
      unfold fle
      rw [e, s1, s2, sv_neg, sv_neg, sv_neg, sv_neg]
      exact ⟨Int.neg_le_neg (Int.ofNat_le.2 hf.2.2.2.2), Int.neg_le_neg (Int.ofNat_le.2 hf.2.2.2.1)⟩
    · rename_i h1 h2
      unfold fle
      refine ⟨?_, ?_⟩
      · show sv X.1 X.2.1 * ((1 : Nat) : Int) ≤ sv false 0 * (X.2.2 : Int)
        rw [sv_nat, Nat.zero_mul]
        cases hs : X.1
        · have h3 : X.2.1 = 0 := by
            rcases Nat.eq_zero_or_pos X.2.1 with hz | hz
            · exact hz
            · exact absurd (sgn_posI hs hz) h1
          rw [h3, sv_nat]
          omega
        · rw [sv_neg]
          omega
      · show sv false 0 * (Y.2.2 : Int) ≤ sv Y.1 Y.2.1 * ((1 : Nat) : Int)
        rw [sv_nat, Nat.zero_mul]
        cases hs : Y.1
        · rw [sv_nat]
          omega
        · have h3 : Y.2.1 ≠ 0 := fun h => by rw [zy h] at hs; exact absurd hs (by decide)
          exact absurd (by unfold sgn; rw [hs, if_pos rfl]; decide) h2
/-- What the comparisons of NumberBetween are. -/
theorem between_law {x y : Bool × Nat × Nat} {r : Bool × Nat × Nat} (h : slc x y = 0) (hr : r = outF (fpl (fr x) (fr y))) :
    cmc x r = 0 ∧ cmc r y = 0 ∧ cmt x r ≤ 0 ∧ cmt r y ≤ 0 ∧ large r.2.1 r.2.2 = false ∧ fr r = fpl (fr x) (fr y) ∧
    ∀ z, cmc x z = 0 → cmc z y = 0 → cmt x z ≤ 0 → cmt z y ≤ 0 → large z.2.1 z.2.2 = false ∧ (fpl (fr x) (fr y)).2.2 ≤ (fr z).2.2 ∧ (fpl (fr x) (fr y)).2.1 ≤ (fr z).2.1 := by
  obtain ⟨l1, l2, hc, hb⟩ := ncode_zero h
  have hf := (slc_fr h).1
  have hle : fle (fr x) (fr y) := fle_of fun h0 => by unfold splc at hc; rw [if_pos h0] at hc; exact absurd hc (by decide)
  have hs : large r.2.1 r.2.2 = false := by rw [hr]; exact res_small (c := 0) rfl hb
  have e : fr r = fpl (fr x) (fr y) := by rw [hr]; exact fr_out hf
  have he := between_ends hle (IsFr.fr x).pos (IsFr.fr y).pos (IsFr.fr y).zs
  have ct : ∀ a b : Bool × Nat × Nat, large a.2.1 a.2.2 = false → large b.2.1 b.2.2 = false → cmt a b = fcmp (fr a) (fr b) := fun a b h1 h2 => by unfold cmt; rw [h1, h2]; rfl
  have nf : ∀ a b : Bool × Nat × Nat, fle a b → fcmp a b ≤ 0 := fun a b h1 => by
    unfold fle at h1
    unfold fcmp
    have := cmpI_nle h1
    omega
  refine ⟨cmc_zero.2 ⟨l1, hs⟩, cmc_zero.2 ⟨hs, l2⟩, ?_, ?_, hs, e, fun z k1 k2 k3 k4 => ?_⟩
  · rw [ct x r l1 hs, e]; exact nf _ _ he.1
  · rw [ct r y hs l2, e]; exact nf _ _ he.2
  · have hz := (cmc_zero.1 k1).2
    rw [ct x z l1 hz] at k3
    rw [ct z y hz l2] at k4
    have := between_least hle (fle_of (by omega)) (fle_of (by omega)) (IsFr.fr x).pos (IsFr.fr y).pos (IsFr.fr z).pos (IsFr.fr y).zs
    exact ⟨hz, this.1, this.2⟩
end Go.Proofs.YtppllgnoniaafaaDoor
