/- Down and Up are neighbours on the grid: what the comparisons of NumberSteps are. -/
import Derived.Test.YtppllgnoniaafaaDoorGrd
namespace Go.Proofs.YtppllgnoniaafaaDoor
open Go.RowKit Dg

theorem sv_botn (s : Bool) (n : Nat) {D P : Nat} (hD : 0 < D) : sv s (botn (s, n * P, D)) * (D : Int) ≤ sv s n * (P : Int) ∧ sv s n * (P : Int) < (sv s (botn (s, n * P, D)) + 1) * (D : Int) := by
  have h1 := Nat.div_add_mod (n * P) D
  have h2 := Nat.mod_lt (n * P) hD
  have e0 : ((n * P : Nat) : Int) = (n : Int) * (P : Int) := Int.natCast_mul n P
  generalize n * P = X at *
  generalize hr : X % D = r at *
  generalize hq : X / D = q at *
  have e1 : (X : Int) = (D : Int) * q + r := by rw [← h1]; push_cast; rfl
  cases s
  · have hb : botn (false, X, D) = q := by unfold botn; rw [if_neg (by simp)]; exact hq
    rw [hb]
    show (q : Int) * D ≤ (n : Int) * P ∧ (n : Int) * P < ((q : Int) + 1) * D
    rw [← e0, e1, Int.add_mul, Int.one_mul, Int.mul_comm (q : Int)]
    omega
  · by_cases h0 : r = 0
    · have hb : botn (true, X, D) = q := by unfold botn; rw [if_neg (by simp only; rw [hr]; simp [h0])]; exact hq
      rw [hb]
      show -(q : Int) * D ≤ -(n : Int) * P ∧ -(n : Int) * P < (-(q : Int) + 1) * D
      rw [Int.neg_mul, Int.neg_mul, ← e0, e1, Int.add_mul, Int.one_mul, Int.neg_mul, Int.mul_comm (q : Int)]
      omega
    · have hb : botn (true, X, D) = q + 1 := by unfold botn; rw [if_pos ⟨rfl, by simp only; rw [hr]; exact h0⟩]; exact congrArg (· + 1) hq
      rw [hb]
      show -((q + 1 : Nat) : Int) * D ≤ -(n : Int) * P ∧ -(n : Int) * P < (-((q + 1 : Nat) : Int) + 1) * D
      have e2 : ((q + 1 : Nat) : Int) = (q : Int) + 1 := by omega
      rw [e2, Int.neg_mul, Int.neg_mul, ← e0, e1, Int.add_mul, Int.one_mul, show -((q : Int) + 1) + 1 = -(q : Int) by omega, Int.neg_mul, Int.mul_comm (q : Int)]
      omega
theorem two_ne (p : Nat) : ((2 ^ p : Nat) : Int) ≠ 0 := by have : 0 < 2 ^ p := Nat.pow_pos (by decide); omega
theorem gdn_FQ (t : Bool × Nat × Nat) (p : Nat) : FQ (gdn t p) (sv t.1 (botn (t.1, t.2.1 * 2 ^ p, t.2.2))) ((2 ^ p : Nat) : Int) :=
  frac_FQ (Nat.pow_pos (by decide)) (two_ne p) rfl
theorem steps_math {t : Bool × Nat × Nat} {P p : Nat} (hP : P = 2 ^ p) (hD : 0 < t.2.2) : ∃ A U : Int, FQ (gdn t p) A (P : Int) ∧ FQ (gup t p) U (P : Int) ∧
    A * (t.2.2 : Int) ≤ sv t.1 t.2.1 * (P : Int) ∧ sv t.1 t.2.1 * (P : Int) < (A + 1) * (t.2.2 : Int) ∧ (U - 1) * (t.2.2 : Int) < sv t.1 t.2.1 * (P : Int) ∧ sv t.1 t.2.1 * (P : Int) ≤ U * (t.2.2 : Int) := by
  have h1 := sv_botn t.1 t.2.1 (P := P) hD
  have h2 := sv_botn (fneg t).1 t.2.1 (P := P) hD
  have e : sv (fneg t).1 t.2.1 = -sv t.1 t.2.1 := by
    show sv (!t.1 && decide (t.2.1 ≠ 0)) t.2.1 = _
    rw [sv_sign _ _ _ (fun h => h)]
    cases t.1 <;> simp [sv]
  rw [e] at h2
  refine ⟨_, _, hP ▸ gdn_FQ t p, hP ▸ fneg_FQ (gdn_FQ (fneg t) p), h1.1, h1.2, ?_, ?_⟩
  · have h3 := h2.2
    rw [show (fneg t).2.1 = t.2.1 from rfl, show (fneg t).2.2 = t.2.2 from rfl]
    generalize sv (fneg t).1 (botn ((fneg t).1, t.2.1 * P, t.2.2)) = B at *
    rw [Int.neg_mul] at h3
    have e3 : (-B - 1) * (t.2.2 : Int) = -((B + 1) * (t.2.2 : Int)) := by rw [← Int.neg_mul]; congr 1; omega
    rw [e3]
    omega
  · have h3 := h2.1
    rw [show (fneg t).2.1 = t.2.1 from rfl, show (fneg t).2.2 = t.2.2 from rfl]
    generalize sv (fneg t).1 (botn ((fneg t).1, t.2.1 * P, t.2.2)) = B at *
    rw [Int.neg_mul] at h3
    rw [Int.neg_mul]
    omega
theorem fr_IsQ (x : Bool × Nat × Nat) : IsQ x (sv (fr x).1 (fr x).2.1) ((fr x).2.2 : Int) := by
  have h := fq_FQ (IsQ.self x)
  refine ⟨by have := h.2.1; show ((fr x).2.2 : Int) ≠ 0; have h3 : 0 < (fr x).2.2 := this; omega, ?_⟩
  exact h.2.2.symm
theorem cmpI_le {a b : Int} (h : a ≤ b) : cmpI a b = if a = b then 0 else -1 := by
  unfold cmpI
  by_cases e : a = b
  · subst e; simp
  · rw [if_pos (by omega), if_neg e]
theorem one_frac {t : Bool × Nat × Nat} {P : Nat} (_hP : 0 < P) (hf : IsFr t) (h : FQ t 1 (P : Int)) : t = (false, 1, P) := by
  obtain ⟨s, n, d, hd, rfl⟩ := hf
  have hg := frac_gcd (s := s) (n := n) hd
  have hz := frac_zero_sign (s := s) (n := n) hd
  have h2 := h.2.2
  generalize frac s n d = t at *
  obtain ⟨s, n, d⟩ := t
  simp only at hg hz h2
  rw [Int.one_mul] at h2
  have hd0 : 0 < d := h.2.1
  cases s
  · have e : n * P = d := by
      have : ((n * P : Nat) : Int) = (d : Int) := by rw [Int.natCast_mul]; exact h2
      omega
    rw [← e, Nat.gcd_mul_right_right] at hg
    subst hg
    rw [Nat.one_mul] at e
    rw [e]
  · exfalso
    have h3 : -(n : Int) * (P : Int) = (d : Int) := h2
    rw [Int.neg_mul, ← Int.natCast_mul] at h3
    omega
theorem one_sdn (p : Nat) : sdn (false, 1, 1) p = (false, 1, 2 ^ p) := by
  unfold sdn frac
  simp
theorem steps_law {x : Bool × Nat × Nat} {p : Nat} (hp : p ≤ 256) {r1 r2 : Bool × Nat × Nat} (h1 : ucode x.2.1 x.2.2 0 (gdn (fr x) p) = 0) (h2 : ucode x.2.1 x.2.2 0 (gup (fr x) p) = 0) (hr1 : r1 = outF (gdn (fr x) p)) (hr2 : r2 = outF (gup (fr x) p)) :
    cmc r1 x = 0 ∧ cmc x r2 = 0 ∧ cmc r1 r2 = 0 ∧ ((cmt r1 x = 0 ∧ cmt x r2 = 0 ∧ cmt r1 r2 = 0) ∨
      (cmt r1 x = -1 ∧ cmt x r2 = -1 ∧ cmt r1 r2 = -1 ∧ subc r2 r1 = 0 ∧ large (subt r2 r1).2.1 (subt r2 r1).2.2 = false ∧ fr (subt r2 r1) = sdn (false, 1, 1) p)) := by
  obtain ⟨hl, _, hb1⟩ := ucode_big h1
  obtain ⟨_, _, hb2⟩ := ucode_big h2
  have hs1 : large r1.2.1 r1.2.2 = false := by rw [hr1]; exact res_small (c := 0) rfl hb1
  have hs2 : large r2.2.1 r2.2.2 = false := by rw [hr2]; exact res_small (c := 0) rfl hb2
  have c1 : cmc r1 x = 0 := cmc_zero.2 ⟨hs1, hl⟩
  have c2 : cmc x r2 = 0 := cmc_zero.2 ⟨hl, hs2⟩
  have c3 : cmc r1 r2 = 0 := cmc_zero.2 ⟨hs1, hs2⟩
  refine ⟨c1, c2, c3, ?_⟩
  obtain ⟨P, hP⟩ : ∃ P : Nat, P = 2 ^ p := ⟨_, rfl⟩
  have hP0 : 0 < P := by rw [hP]; exact Nat.pow_pos (by decide)
  obtain ⟨A, U, q1, q2, m1, m2, m3, m4⟩ := steps_math hP (IsFr.fr x).pos
  have hD : (0 : Int) < ((fr x).2.2 : Int) := by have := (IsFr.fr x).pos; omega
  have hPI : (0 : Int) < (P : Int) := by omega
  have k1 : IsQ r1 A P := by rw [hr1]; exact out_IsQ q1
  have k2 : IsQ r2 U P := by rw [hr2]; exact out_IsQ q2
  have kx := fr_IsQ x
  have e1 := cmt_Q c1 k1 kx hPI hD
  have e2 := cmt_Q c2 kx k2 hD hPI
  have e3 := cmt_Q c3 k1 k2 hPI hPI
  rw [cmpI_le m1] at e1
  rw [cmpI_le m4] at e2
  rw [Int.mul_comm A, Int.mul_comm U, cmpI_scale hPI] at e3
  have hAU : A ≤ U := by
    have h : A * ((fr x).2.2 : Int) ≤ U * ((fr x).2.2 : Int) := Int.le_trans m1 m4
    exact Int.le_of_mul_le_mul_right h hD
  have hUA : U - 1 < A + 1 := by
    have h : (U - 1) * ((fr x).2.2 : Int) < (A + 1) * ((fr x).2.2 : Int) := Int.lt_trans m3 m2
    exact Int.lt_of_mul_lt_mul_right h (Int.le_of_lt hD)
  rw [cmpI_le hAU] at e3
  by_cases hE : A = U
  · left
    subst hE
    have e : A * ((fr x).2.2 : Int) = sv (fr x).1 (fr x).2.1 * (P : Int) := Int.le_antisymm m1 m4
    exact ⟨by rw [e1, if_pos e], by rw [e2, if_pos e.symm], by rw [e3, if_pos rfl]⟩
  · right
    have hU : U = A + 1 := by omega
    subst hU
    have n1 : A * ((fr x).2.2 : Int) ≠ sv (fr x).1 (fr x).2.1 * (P : Int) := fun e => by
      rw [← e, show A + 1 - 1 = A by omega] at m3
      exact absurd m3 (Int.lt_irrefl _)
    have n2 : sv (fr x).1 (fr x).2.1 * (P : Int) ≠ (A + 1) * ((fr x).2.2 : Int) := fun e => by
      rw [e] at m2
      exact absurd m2 (Int.lt_irrefl _)
    have hq := fadd_FQ (fq_FQ k2) (fneg_FQ (fq_FQ k1))
    have hq1 : FQ (fsub (fr r2) (fr r1)) 1 (P : Int) := by
      refine ⟨by omega, hq.2.1, ?_⟩
      have h3 := hq.2.2
      have e : (A + 1) * (P : Int) + -A * (P : Int) = (P : Int) := by rw [Int.add_mul, Int.neg_mul, Int.one_mul]; omega
      rw [e] at h3
      have h4 : (P : Int) * (sv (fadd (frac r2.1 r2.2.1 (den1 r2.2.2)) (fneg (frac r1.1 r1.2.1 (den1 r1.2.2)))).1 (fadd (frac r2.1 r2.2.1 (den1 r2.2.2)) (fneg (frac r1.1 r1.2.1 (den1 r1.2.2)))).2.1 * (P : Int)) = (P : Int) * (1 * ((fadd (frac r2.1 r2.2.1 (den1 r2.2.2)) (fneg (frac r1.1 r1.2.1 (den1 r1.2.2)))).2.2 : Int)) := by
        rw [Int.one_mul, ← h3]
        grind
      exact Int.eq_of_mul_eq_mul_left (by omega) h4
    have ht := one_frac hP0 (IsFr.sub (IsFr.fr r2).pos (IsFr.fr r1).pos) hq1
    have hPb : P < W32 ^ 64 := by rw [hP]; exact two_Wk (by omega)
    have hbg : big 1 P = false := by
      unfold big
      have h1w : 1 < W32 ^ 64 := Nat.lt_of_lt_of_le (show 1 < W32 ^ 1 by decide) (Nat.pow_le_pow_right W32_pos (by omega))
      exact decide_eq_false (by omega)
    have hsc : subc r2 r1 = 0 := by
      unfold subc
      rw [ncode_ok (by rw [hs1, hs2]; rfl), if_neg (by decide), ht, hbg]
      rfl
    have hst : subt r2 r1 = outF (false, 1, P) := by
      unfold subt
      rw [hsc, ht]
      rfl
    refine ⟨by rw [e1, if_neg n1], by rw [e2, if_neg n2], by rw [e3, if_neg hE], hsc, ?_, ?_⟩
    · rw [hst]
      exact res_small (c := 0) (t := (false, 1, P)) rfl hbg
    · rw [hst, one_sdn, ← hP]
      have hd : den1 (den0 P) = P := by unfold den1 den0; by_cases h : P = 1 <;> simp [h] <;> omega
      show frac false 1 (den1 (den0 P)) = _
      rw [hd]
      unfold frac
      simp
end Go.Proofs.YtppllgnoniaafaaDoor
