/- RestQ: own parts. -/
import Derived.Test.YtimjoejkjgklaaaGreatDoorGapQ
set_option maxHeartbeats 8000000
set_option maxRecDepth 100000
namespace Go.Proofs.YtimjoejkjgklaaaGreatDoor
open Go.RowKit Dg
open List (setIfInBounds_toArray set_cons_zero set_cons_succ)
def jwithin (r t : (Bool × Nat × Nat) × (Bool × Nat × Nat) × Bool × Bool × Bool) : Bool := if r.2.2.2.2 || t.2.2.2.2 then r.2.2.2.2 else (t.2.2.1 || (!r.2.2.1 && decide (fcmp t.1 r.1 ≤ 0))) && (t.2.2.2.1 || (!r.2.2.2.1 && decide (fcmp r.2.1 t.2.1 ≤ 0)))
def jin2 (a a' : (Bool × Nat × Nat) × (Bool × Nat × Nat) × Bool × Bool) : Bool := if ilarge a || ilarge a' then false else jwithin (jof a) (jof a')
theorem SimQ.inside {S T : (Int × Bool × Nat × Nat) × (Int × Bool × Nat × Nat) × Bool} {J K : (Bool × Nat × Nat) × (Bool × Nat × Nat) × Bool × Bool × Bool} (h : SimQ S J) (h' : SimQ T K) : sinside S T = jwithin J K := by
 obtain ⟨A, B, x, y, hA, hB, rfl, rfl⟩ := h
 obtain ⟨A', B', x', y', hA', hB', rfl, rfl⟩ := h'
 unfold sinside jwithin
 cases x <;> cases x' <;> cases y <;> cases y'
 all_goals
  simp only [if_true, if_false, Bool.false_eq_true, ecmp_fin2, Bool.or_false, Bool.false_or, Bool.not_false, Bool.true_and, Bool.not_true, Bool.false_and, Bool.true_or]
  try rfl
theorem inside_empty {a b a' b' : Bool × Nat × Nat} {x y x' y' : Bool} (h1 : large a.2.1 a.2.2 = false) (h2 : large b.2.1 b.2.2 = false) (h3 : large a'.2.1 a'.2.2 = false) (h4 : large b'.2.1 b'.2.2 = false) (he : (srd (a, b, x, y)).2.2 = false) (he' : (srd (a', b', x', y')).2.2 = true) : sinside (srd (a, b, x, y)) (srd (a', b', x', y')) = false := by
 have qa := QFit.of h1
 have qb := QFit.of h2
 have qa' := QFit.of h3
 have qb' := QFit.of h4
 have e0 : decide (0 < ecmp (rdE x (-1) a) (rdE y 1 b)) = false := he
 have e1 : decide (0 < ecmp (rdE x' (-1) a') (rdE y' 1 b')) = true := he'
 rw [decide_eq_false_iff_not] at e0
 rw [decide_eq_true_eq] at e1
 have c1 : x' = false ∧ y' = false := by
  cases x' <;> cases y'
  ·exact ⟨rfl, rfl⟩
  ·have : ecmp (rdE false (-1) a') (rdE true 1 b') = -1 := rfl
   omega
  ·have : ecmp (rdE true (-1) a') (rdE false 1 b') = -1 := rfl
   omega
  ·have : ecmp (rdE true (-1) a') (rdE true 1 b') = -1 := rfl
   omega
 obtain ⟨rfl, rfl⟩ := c1
 have e2 : 0 < fcmp (fr a') (fr b') := by
  have : ecmp (rdE false (-1) a') (rdE false 1 b') = fcmp (fr a') (fr b') := ecmp_fin2 _ _
  omega
 unfold sinside
 rw [he, Bool.false_or]
 rw [Bool.and_eq_false_iff, decide_eq_false_iff_not, decide_eq_false_iff_not]
 show ¬ ecmp (rdE false (-1) a') (rdE x (-1) a) ≤ 0 ∨ ¬ ecmp (rdE y 1 b) (rdE false 1 b') ≤ 0
 cases x
 ·cases y
  ·have k1 : ecmp (rdE false (-1) a') (rdE false (-1) a) = fcmp (fr a') (fr a) := ecmp_fin2 _ _
   have k2 : ecmp (rdE false 1 b) (rdE false 1 b') = fcmp (fr b) (fr b') := ecmp_fin2 _ _
   have k3 : ecmp (rdE false (-1) a) (rdE false 1 b) = fcmp (fr a) (fr b) := ecmp_fin2 _ _
   rw [k1, k2]
   rw [k3] at e0
   apply Decidable.byContradiction
   intro hn
   rw [not_or, Decidable.not_not, Decidable.not_not] at hn
   have := fle3 qa' qa qb' hn.1 (fle3 qa qb qb' (by omega) hn.2)
   omega
  ·right
   have : ecmp (rdE true 1 b) (rdE false 1 b') = 1 := rfl
   omega
 ·left
  have : ecmp (rdE false (-1) a') (rdE true (-1) a) = 1 := rfl
  omega
theorem sv_absL (s : Bool) (n : Nat) : (sv s n).natAbs = n := by
 unfold sv; cases s <;> simp
theorem isFr_lowestL {t : Bool × Nat × Nat} (h : IsFr t) : Nat.gcd t.2.1 t.2.2 = 1 ∧ 0 < t.2.2 ∧ (t.2.1 = 0 → t.1 = false) := by
 obtain ⟨s, n, d, hd, rfl⟩ := h
 exact ⟨frac_gcd hd, frac_pos hd, frac_zero_sign hd⟩
theorem fr_same {x y : Bool × Nat × Nat} (hx : IsFr x) (hy : IsFr y) (h : fcmp x y = 0) : x = y := by
 obtain ⟨gx, px, zx⟩ := isFr_lowestL hx
 obtain ⟨gy, py, zy⟩ := isFr_lowestL hy
 have he : sv x.1 x.2.1 * (y.2.2 : Int) = sv y.1 y.2.1 * (x.2.2 : Int) := by
  unfold fcmp cmpI at h
  split at h
  ·exact absurd h (by decide)
  ·split at h
   ·exact absurd h (by decide)
   ·omega
 have hn : x.2.1 * y.2.2 = y.2.1 * x.2.2 := by
  have := congrArg Int.natAbs he
  rwa [Int.natAbs_mul, Int.natAbs_mul, sv_absL, sv_absL, Int.natAbs_natCast, Int.natAbs_natCast] at this
 have d1 : x.2.2 ∣ y.2.2 := (Nat.Coprime.symm gx).dvd_of_dvd_mul_left ⟨y.2.1, by rw [hn, Nat.mul_comm]⟩
 have d2 : y.2.2 ∣ x.2.2 := (Nat.Coprime.symm gy).dvd_of_dvd_mul_left ⟨x.2.1, by rw [← hn, Nat.mul_comm]⟩
 have hd : x.2.2 = y.2.2 := Nat.dvd_antisymm d1 d2
 rw [hd] at hn he
 have hnn : x.2.1 = y.2.1 := Nat.eq_of_mul_eq_mul_right py hn
 have hs : x.1 = y.1 := by
  have he2 : sv x.1 x.2.1 = sv y.1 y.2.1 := Int.eq_of_mul_eq_mul_right (by omega) he
  rw [hnn] at he2
  rcases Nat.eq_zero_or_pos y.2.1 with h0 | h0
  ·rw [zx (hnn.trans h0), zy h0]
  ·unfold sv at he2
   cases h1 : x.1 <;> cases h2 : y.1 <;> simp [h1, h2] at he2 ⊢ <;> omega
 obtain ⟨a, b, c⟩ := x
 obtain ⟨a', b', c'⟩ := y
 simp only at hs hnn hd
 rw [hs, hnn, hd]
def PQ (D M : Nat) (q : Bool × Nat × Nat) : Prop := QFit q ∧ ∃ c, D = q.2.2 * c ∧ 0 < c ∧ -(M : Int) < sv q.1 q.2.1 * c ∧ sv q.1 q.2.1 * c < (M : Int)
def kq (D : Nat) (q : Bool × Nat × Nat) : Int := sv q.1 q.2.1 * (D / q.2.2 : Nat)
theorem PQ.key {D M : Nat} {q : Bool × Nat × Nat} (h : PQ D M q) : ∃ c, D = q.2.2 * c ∧ 0 < c ∧ kq D q = sv q.1 q.2.1 * c ∧ -(M : Int) < kq D q ∧ kq D q < (M : Int) := by
 obtain ⟨hq, c, hc, h0, h1, h2⟩ := h
 have hd : 0 < q.2.2 := hq.1.pos
 have e : D / q.2.2 = c := by rw [hc]; exact Nat.mul_div_cancel_left c hd
 have ek : kq D q = sv q.1 q.2.1 * c := by unfold kq; rw [e]
 exact ⟨c, hc, h0, ek, by rw [ek]; exact h1, by rw [ek]; exact h2⟩
theorem PQ.le {D M : Nat} {p q : Bool × Nat × Nat} (hp : PQ D M p) (hq : PQ D M q) : fcmp p q ≤ 0 ↔ kq D p ≤ kq D q := by
 obtain ⟨c, hc, h0, ek, _⟩ := hp.key
 obtain ⟨d, hd, g0, el, _⟩ := hq.key
 rw [fcmp_nonpos, ek, el]
 have hD : (p.2.2 : Int) * c = (q.2.2 : Int) * d := by rw [← Int.natCast_mul, ← Int.natCast_mul, ← hc, ← hd]
 have pp : (0 : Int) < p.2.2 := by have := hp.1.1.pos; omega
 have pq : (0 : Int) < q.2.2 := by have := hq.1.1.pos; omega
 have pc : (0 : Int) < c := by omega
 have pd : (0 : Int) < d := by omega
 generalize sv p.1 p.2.1 = s at *
 generalize sv q.1 q.2.1 = t at *
 generalize (p.2.2 : Int) = P at *
 generalize (q.2.2 : Int) = Q at *
 generalize (c : Int) = C at *
 generalize (d : Int) = E at *
 -- s * Q ≤ t * P  ↔  s * C ≤ t * E, as P * C = Q * E
 constructor
 ·intro h
  have h2 : s * Q * C ≤ t * P * C := Int.mul_le_mul_of_nonneg_right h (Int.le_of_lt pc)
  have e1 : s * Q * C = s * C * Q := by rw [Int.mul_assoc, Int.mul_comm Q C, ← Int.mul_assoc]
  have e2 : t * P * C = t * E * Q := by rw [Int.mul_assoc, hD, Int.mul_comm Q E, ← Int.mul_assoc]
  rw [e1, e2] at h2
  exact Int.le_of_mul_le_mul_right h2 pq
 ·intro h
  have h2 : s * C * Q ≤ t * E * Q := Int.mul_le_mul_of_nonneg_right h (Int.le_of_lt pq)
  have e1 : s * C * Q = s * Q * C := by rw [Int.mul_assoc, Int.mul_comm C Q, ← Int.mul_assoc]
  have e2 : t * E * Q = t * P * C := by rw [Int.mul_assoc, Int.mul_comm E Q, ← hD, ← Int.mul_assoc]
  rw [e1, e2] at h2
  exact Int.le_of_mul_le_mul_right h2 pc
theorem PQ.eq {D M : Nat} {p q : Bool × Nat × Nat} (hp : PQ D M p) (hq : PQ D M q) (h : kq D p = kq D q) : p = q := by
 have h1 := (hp.le hq).2 (by omega)
 have h2 := (hq.le hp).2 (by omega)
 have h3 : fcmp p q = 0 := by
  have := fcmp_swap_pos q p
  omega
 exact fr_same hp.1.1 hq.1.1 h3
def kl (D M : Nat) (r : (Bool × Nat × Nat) × (Bool × Nat × Nat) × Bool × Bool × Bool) : Int := if r.2.2.1 then -(M : Int) else kq D r.1
def ku (D M : Nat) (r : (Bool × Nat × Nat) × (Bool × Nat × Nat) × Bool × Bool × Bool) : Int := if r.2.2.2.1 then (M : Int) else kq D r.2.1
def PJ (D M : Nat) (r : (Bool × Nat × Nat) × (Bool × Nat × Nat) × Bool × Bool × Bool) : Prop := ∃ A B x y, (x = false → PQ D M A) ∧ (y = false → PQ D M B) ∧ r = (if x then (false, 0, 0) else A, if y then (false, 0, 0) else B, x, y, false)
theorem PJ.ext {D M : Nat} {r t : (Bool × Nat × Nat) × (Bool × Nat × Nat) × Bool × Bool × Bool} (h : PJ D M r) (h' : PJ D M t) (hl : kl D M r = kl D M t) (hu : ku D M r = ku D M t) : r = t := by
 obtain ⟨A, B, x, y, hA, hB, rfl⟩ := h
 obtain ⟨A', B', x', y', hA', hB', rfl⟩ := h'
 have c1 : x = x' ∧ (if x then (false, 0, 0) else A) = (if x' then (false, 0, 0) else A') := by
  cases x <;> cases x'
  ·exact ⟨rfl, (hA rfl).eq (hA' rfl) hl⟩
  ·have hl' : kq D A = -(M : Int) := hl
   have := (hA rfl).key
   obtain ⟨_, _, _, _, _, _⟩ := this
   omega
  ·have hl' : -(M : Int) = kq D A' := hl
   have := (hA' rfl).key
   obtain ⟨_, _, _, _, _, _⟩ := this
   omega
  ·exact ⟨rfl, rfl⟩
 have c2 : y = y' ∧ (if y then (false, 0, 0) else B) = (if y' then (false, 0, 0) else B') := by
  cases y <;> cases y'
  ·exact ⟨rfl, (hB rfl).eq (hB' rfl) hu⟩
  ·have hl' : kq D B = (M : Int) := hu
   have := (hB rfl).key
   obtain ⟨_, _, _, _, _, _⟩ := this
   omega
  ·have hl' : (M : Int) = kq D B' := hu
   have := (hB' rfl).key
   obtain ⟨_, _, _, _, _, _⟩ := this
   omega
  ·exact ⟨rfl, rfl⟩
 rw [c1.2, c2.2, c1.1, c2.1]
theorem PJ.some {D M : Nat} {r : (Bool × Nat × Nat) × (Bool × Nat × Nat) × Bool × Bool × Bool} (h : PJ D M r) : r.2.2.2.2 = false := by
 obtain ⟨A, B, x, y, _, _, rfl⟩ := h
 rfl
theorem scale : ∀ l : List (Bool × Nat × Nat), (∀ q, q ∈ l → QFit q) → ∃ D M, 0 < D ∧ 0 < M ∧ ∀ q, q ∈ l → PQ D M q := by
 intro l
 induction l with
 | nil => intro _; exact ⟨1, 1, Nat.one_pos, Nat.one_pos, fun q h => absurd h (List.not_mem_nil)⟩
 | cons p l ih =>
  intro h
  obtain ⟨D, M, hD, hM, hl⟩ := ih (fun q hq => h q (List.mem_cons_of_mem _ hq))
  have hp := h p List.mem_cons_self
  have pd : 0 < p.2.2 := hp.1.pos
  refine ⟨p.2.2 * D, M * p.2.2 + p.2.1 * D + 1, Nat.mul_pos pd hD, Nat.succ_pos _, ?_⟩
  intro q hq
  rcases List.mem_cons.1 hq with rfl | hq
  ·refine ⟨hp, D, rfl, hD, ?_⟩
   have ha := sv_absL q.1 q.2.1
   have hb : (sv q.1 q.2.1 * (D : Int)).natAbs = q.2.1 * D := by rw [Int.natAbs_mul, ha, Int.natAbs_natCast]
   generalize sv q.1 q.2.1 * (D : Int) = z at *
   generalize q.2.1 * D = n at *
   generalize M * q.2.2 = m at *
   omega
  ·obtain ⟨g, c, e, c0, b1, b2⟩ := hl q hq
   refine ⟨g, c * p.2.2, by rw [e, Nat.mul_comm p.2.2, Nat.mul_assoc], Nat.mul_pos c0 pd, ?_⟩
   have e2 : sv q.1 q.2.1 * ((c * p.2.2 : Nat) : Int) = sv q.1 q.2.1 * (c : Int) * (p.2.2 : Int) := by rw [Int.natCast_mul, Int.mul_assoc]
   rw [e2]
   generalize sv q.1 q.2.1 * (c : Int) = z at *
   have p1 : (0 : Int) < p.2.2 := by omega
   have b1' : -(M : Int) * p.2.2 < z * p.2.2 := Int.mul_lt_mul_of_pos_right b1 p1
   have b2' : z * p.2.2 < (M : Int) * p.2.2 := Int.mul_lt_mul_of_pos_right b2 p1
   have e3 : ((M * p.2.2 + p.2.1 * D + 1 : Nat) : Int) = (M : Int) * p.2.2 + ((p.2.1 * D : Nat) : Int) + 1 := by rw [Int.natCast_add, Int.natCast_add, Int.natCast_mul]; rfl
   rw [e3]
   rw [Int.neg_mul] at b1'
   generalize (M : Int) * (p.2.2 : Int) = m at *
   generalize z * (p.2.2 : Int) = n at *
   generalize p.2.1 * D = k at *
   omega
theorem fq_self {t : Bool × Nat × Nat} (h : 0 < t.2.2) : FQ t (sv t.1 t.2.1) (t.2.2 : Int) := ⟨by omega, h, rfl⟩
theorem two_pow_pos (p : Nat) : (0 : Int) < ((2 ^ p : Nat) : Int) := by have : 0 < 2 ^ p := Nat.pow_pos (by decide); omega
theorem fq_le {a b : Bool × Nat × Nat} {p q p' q' : Int} (h : FQ a p q) (h' : FQ b p' q') (hq : 0 < q) (hq' : 0 < q') : fcmp a b ≤ 0 ↔ p * q' ≤ p' * q := by
 rw [fcmp_Q h h' hq hq']
 exact cmpI_nonpos
theorem gdn_le {t : Bool × Nat × Nat} (p : Nat) (h : 0 < t.2.2) : fcmp (gdn t p) t ≤ 0 := by
 obtain ⟨A, U, f1, _, h1, _⟩ := steps_math (p := p) rfl h
 rw [fq_le f1 (fq_self h) (two_pow_pos p) (by omega)]
 exact h1
theorem gup_ge {t : Bool × Nat × Nat} (p : Nat) (h : 0 < t.2.2) : fcmp t (gup t p) ≤ 0 := by
 obtain ⟨A, U, _, f1, _, _, _, h1⟩ := steps_math (p := p) rfl h
 rw [fq_le (fq_self h) f1 (by omega) (two_pow_pos p)]
 exact h1
theorem gdn_on {x : Bool × Nat × Nat} {a : Int} {p : Nat} (hx : IsFr x) (h : FQ x a ((2 ^ p : Nat) : Int)) : gdn x p = x ∧ gup x p = x := by
 have hd : 0 < x.2.2 := hx.pos
 obtain ⟨A, U, f1, f2, h1, h2, h3, h4⟩ := steps_math (p := p) rfl hd
 have e := h.2.2
 have dp : (0 : Int) < x.2.2 := by omega
 rw [e] at h1 h2 h3 h4
 have hA : A = a := by
  have k1 := Int.le_of_mul_le_mul_right h1 dp
  have k2 := Int.lt_of_mul_lt_mul_right h2 (Int.le_of_lt dp)
  omega
 have hU : U = a := by
  have k1 := Int.lt_of_mul_lt_mul_right h3 (Int.le_of_lt dp)
  have k2 := Int.le_of_mul_le_mul_right h4 dp
  omega
 subst hA
 subst hU
 have z : ∀ y, IsFr y → FQ y U ((2 ^ p : Nat) : Int) → y = x := by
  intro y hy fy
  refine fr_same hy hx ?_
  rw [fcmp_Q fy h (two_pow_pos p) (two_pow_pos p)]
  unfold cmpI
  rw [if_neg (Int.lt_irrefl _), if_neg (Int.lt_irrefl _)]
 exact ⟨z _ (gdn_fr p) f1, z _ (gup_fr p) f2⟩
theorem gdn_twice {t : Bool × Nat × Nat} (p : Nat) (h : 0 < t.2.2) : gdn (gdn t p) p = gdn t p := by
 obtain ⟨A, U, f1, _⟩ := steps_math (p := p) rfl h
 exact (gdn_on (gdn_fr p) f1).1
theorem gup_twice {t : Bool × Nat × Nat} (p : Nat) (h : 0 < t.2.2) : gup (gup t p) p = gup t p := by
 obtain ⟨A, U, _, f1, _⟩ := steps_math (p := p) rfl h
 exact (gdn_on (gup_fr p) f1).2
theorem gdn_least {s t : Bool × Nat × Nat} (p : Nat) (hs : 0 < s.2.2) (ht : 0 < t.2.2) (h : fcmp (gdn s p) t ≤ 0) : fcmp (gdn s p) (gdn t p) ≤ 0 := by
 obtain ⟨A, _, f1, _⟩ := steps_math (p := p) rfl hs
 obtain ⟨B, _, g1, _, _, k2, _⟩ := steps_math (p := p) rfl ht
 rw [fq_le f1 (fq_self ht) (two_pow_pos p) (by omega)] at h
 rw [fq_le f1 g1 (two_pow_pos p) (two_pow_pos p)]
 have dp : (0 : Int) < t.2.2 := by omega
 have k3 : A * (t.2.2 : Int) < (B + 1) * (t.2.2 : Int) := by omega
 have k4 := Int.lt_of_mul_lt_mul_right k3 (Int.le_of_lt dp)
 exact Int.mul_le_mul_of_nonneg_right (by omega) (Int.le_of_lt (two_pow_pos p))
theorem gup_least {s t : Bool × Nat × Nat} (p : Nat) (hs : 0 < s.2.2) (ht : 0 < t.2.2) (h : fcmp t (gup s p) ≤ 0) : fcmp (gup t p) (gup s p) ≤ 0 := by
 obtain ⟨_, A, _, f1, _⟩ := steps_math (p := p) rfl hs
 obtain ⟨_, B, _, g1, _, _, k2, _⟩ := steps_math (p := p) rfl ht
 rw [fq_le (fq_self ht) f1 (by omega) (two_pow_pos p)] at h
 rw [fq_le g1 f1 (two_pow_pos p) (two_pow_pos p)]
 have dp : (0 : Int) < t.2.2 := by omega
 have k3 : (B - 1) * (t.2.2 : Int) < A * (t.2.2 : Int) := by omega
 have k4 := Int.lt_of_mul_lt_mul_right k3 (Int.le_of_lt dp)
 exact Int.mul_le_mul_of_nonneg_right (by omega) (Int.le_of_lt (two_pow_pos p))
theorem jround_twice {r : (Bool × Nat × Nat) × (Bool × Nat × Nat) × Bool × Bool × Bool} (h : JGood r) (p : Nat) : jround (jround r p) p = jround r p := by
 rcases h.shape with rfl | ⟨A, B, x, y, hA, hB, _, rfl⟩
 ·rfl
 ·unfold jround
  cases x <;> cases y
  ·show (gdn (gdn A p) p, gup (gup B p) p, false, false, false) = (gdn A p, gup B p, false, false, false)
   rw [gdn_twice p (hA rfl).1.pos, gup_twice p (hB rfl).1.pos]
  ·show (gdn (gdn A p) p, (false, 0, 0), false, true, false) = (gdn A p, (false, 0, 0), false, true, false)
   rw [gdn_twice p (hA rfl).1.pos]
  ·show ((false, 0, 0), gup (gup B p) p, true, false, false) = ((false, 0, 0), gup B p, true, false, false)
   rw [gup_twice p (hB rfl).1.pos]
  ·rfl
theorem jround_in {r : (Bool × Nat × Nat) × (Bool × Nat × Nat) × Bool × Bool × Bool} (h : JGood r) (p : Nat) : jwithin r (jround r p) = true := by
 rcases h.shape with rfl | ⟨A, B, x, y, hA, hB, _, rfl⟩
 ·rfl
 ·unfold jround jwithin
  cases x <;> cases y
  ·show (decide (fcmp (gdn A p) A ≤ 0) && decide (fcmp B (gup B p) ≤ 0)) = true
   rw [decide_eq_true (gdn_le p (hA rfl).1.pos), decide_eq_true (gup_ge p (hB rfl).1.pos)]; rfl
  ·show (decide (fcmp (gdn A p) A ≤ 0) && true) = true
   rw [decide_eq_true (gdn_le p (hA rfl).1.pos)]; rfl
  ·show decide (fcmp B (gup B p) ≤ 0) = true
   rw [decide_eq_true (gup_ge p (hB rfl).1.pos)]
  ·rfl
theorem jround_least {r t : (Bool × Nat × Nat) × (Bool × Nat × Nat) × Bool × Bool × Bool} (h : JGood r) (h' : JGood t) (p : Nat) (hw : jwithin r (jround t p) = true) : jwithin (jround r p) (jround t p) = true := by
 rcases h.shape with rfl | ⟨A, B, x, y, hA, hB, _, rfl⟩
 ·rfl
 ·rcases h'.shape with rfl | ⟨A', B', x', y', hA', hB', _, rfl⟩
  ·exact Bool.noConfusion (show false = true from hw)
  ·have lo : x' = false → x = false → fcmp (gdn A' p) A ≤ 0 → fcmp (gdn A' p) (gdn A p) ≤ 0 := fun u v k => gdn_least p (hA' u).1.pos (hA v).1.pos k
   have hi : y' = false → y = false → fcmp B (gup B' p) ≤ 0 → fcmp (gup B p) (gup B' p) ≤ 0 := fun u v k => gup_least p (hB' u).1.pos (hB v).1.pos k
   have e : ∀ (a b c d : Bool × Nat × Nat) (u v u' v' : Bool), jwithin (a, b, u, v, false) (c, d, u', v', false) = ((u' || (!u && decide (fcmp c a ≤ 0))) && (v' || (!v && decide (fcmp b d ≤ 0)))) := fun _ _ _ _ _ _ _ _ => rfl
   have r1 : ∀ (a b : Bool × Nat × Nat) (u v : Bool), jround (a, b, u, v, false) p = (if u then a else gdn a p, if v then b else gup b p, u, v, false) := fun _ _ _ _ => rfl
   rw [r1, e] at hw
   rw [r1, r1, e]
   rw [Bool.and_eq_true] at hw ⊢
   refine ⟨?_, ?_⟩
   ·have k := hw.1
    cases x' <;> cases x
    ·have k' : decide (fcmp (gdn A' p) A ≤ 0) = true := k
     exact decide_eq_true (lo rfl rfl (of_decide_eq_true k'))
    ·exact Bool.noConfusion (show false = true from k)
    ·rfl
    ·rfl
   ·have k := hw.2
    cases y' <;> cases y
    ·have k' : decide (fcmp B (gup B' p) ≤ 0) = true := k
     exact decide_eq_true (hi rfl rfl (of_decide_eq_true k'))
    ·exact Bool.noConfusion (show false = true from k)
    ·rfl
    ·rfl
set_option maxHeartbeats 2000000 in
set_option maxRecDepth 100000 in
def JArg (w : World) (v : Value) (r : (Bool × Nat × Nat) × (Bool × Nat × Nat) × Bool × Bool × Bool) : Prop := ∃ s1 p1 k1 c1 q1 l1 d1 sz1 pz1 kz1 cz1 qz1 lz1 dz1 x1 y1, v = .agg #[.bool s1, .slice p1 k1 c1, .slice q1 l1 d1, .bool sz1, .slice pz1 kz1 cz1, .slice qz1 lz1 dz1, .bool x1, .bool y1] ∧ ∃ a b, NRep w (.agg #[.bool s1, .slice p1 k1 c1, .slice q1 l1 d1]) a ∧ NRep w (.agg #[.bool sz1, .slice pz1 kz1 cz1, .slice qz1 lz1 dz1]) b ∧ large a.2.1 a.2.2 = false ∧ large b.2.1 b.2.2 = false ∧ jof (a, b, x1, y1) = r
theorem JArg.below {w w' : World} {v : Value} {r : (Bool × Nat × Nat) × (Bool × Nat × Nat) × Bool × Bool × Bool} (h : JArg w v r) (hb : Below w.heap.size w w') : JArg w' v r := by
 obtain ⟨s1, p1, k1, c1, q1, l1, d1, sz1, pz1, kz1, cz1, qz1, lz1, dz1, x1, y1, rfl, a, b, h1, h2, h3, h4, h5⟩ := h
 exact ⟨s1, p1, k1, c1, q1, l1, d1, sz1, pz1, kz1, cz1, qz1, lz1, dz1, x1, y1, rfl, a, b, h1.below hb, h2.below hb, h3, h4, h5⟩
theorem JArg.good {w : World} {v : Value} {r : (Bool × Nat × Nat) × (Bool × Nat × Nat) × Bool × Bool × Bool} (h : JArg w v r) : JGood r := by
 obtain ⟨s1, p1, k1, c1, q1, l1, d1, sz1, pz1, kz1, cz1, qz1, lz1, dz1, x1, y1, rfl, a, b, h1, h2, h3, h4, rfl⟩ := h
 exact JGood.of h3 h4
theorem JArg.res {w : World} (s1 : Bool) (p1 : Option Addr) (k1 c1 : Nat) (q1 : Option Addr) (l1 d1 : Nat) (sz1 : Bool) (pz1 : Option Addr) (kz1 cz1 : Nat) (qz1 : Option Addr) (lz1 dz1 : Nat) (x1 : Bool) (y1 : Bool) {r : (Bool × Nat × Nat) × (Bool × Nat × Nat) × Bool × Bool × Bool} (hr : JGood r) (h : GRep w (.agg #[.bool s1, .slice p1 k1 c1, .slice q1 l1 d1, .bool sz1, .slice pz1 kz1 cz1, .slice qz1 lz1 dz1, .bool x1, .bool y1]) (japi r)) : JArg w (.agg #[.bool s1, .slice p1 k1 c1, .slice q1 l1 d1, .bool sz1, .slice pz1 kz1 cz1, .slice qz1 lz1 dz1, .bool x1, .bool y1]) r := by
 obtain ⟨h1, h2, hx, hy⟩ := GRep.parts s1 p1 k1 c1 q1 l1 d1 sz1 pz1 kz1 cz1 qz1 lz1 dz1 x1 y1 h
 refine ⟨s1, p1, k1, c1, q1, l1, d1, sz1, pz1, kz1, cz1, qz1, lz1, dz1, x1, y1, rfl, (japi r).1, (japi r).2.1, hr.ends.1.nrep h1, hr.ends.2.nrep h2, hr.ends.1.1, hr.ends.2.1, ?_⟩
 rw [hx, hy, show ((japi r).1, (japi r).2.1, (japi r).2.2.1, (japi r).2.2.2) = japi r from rfl, hr.back]
theorem small2 {a b a' b' : Bool × Nat × Nat} {x y x' y' : Bool} (h1 : large a.2.1 a.2.2 = false) (h2 : large b.2.1 b.2.2 = false) (h3 : large a'.2.1 a'.2.2 = false) (h4 : large b'.2.1 b'.2.2 = false) : (ilarge (a, b, x, y) || ilarge (a', b', x', y')) = false := by
 show ((large a.2.1 a.2.2 || large b.2.1 b.2.2) || (large a'.2.1 a'.2.2 || large b'.2.1 b'.2.2)) = false
 rw [h1, h2, h3, h4]; rfl
theorem faddI_le (a b : Bool × Nat × Nat) : (fadd a b).2.1 ≤ a.2.1 * b.2.2 + b.2.1 * a.2.2 ∧ (fadd a b).2.2 ≤ a.2.2 * b.2.2 := by
 by_cases h : a.1 = b.1
 ·have e : fadd a b = _ := if_pos h
  rw [e]
  exact ⟨Nat.div_le_self _ _, Nat.div_le_self _ _⟩
 ·by_cases h2 : a.2.1 * b.2.2 < b.2.1 * a.2.2
  ·have e : fadd a b = _ := (if_neg h).trans (if_pos h2)
   rw [e]
   exact ⟨Nat.le_trans (Nat.div_le_self _ _) (Nat.le_trans (Nat.sub_le _ _) (Nat.le_add_left _ _)), Nat.div_le_self _ _⟩
  ·have e : fadd a b = _ := (if_neg h).trans (if_neg h2)
   rw [e]
   exact ⟨Nat.le_trans (Nat.div_le_self _ _) (Nat.le_trans (Nat.sub_le _ _) (Nat.le_add_right _ _)), Nat.div_le_self _ _⟩
theorem faddI_b {a b : Bool × Nat × Nat} (h1 : a.2.1 < W32 ^ 64) (h2 : a.2.2 < W32 ^ 64) (h3 : b.2.1 < W32 ^ 64) (h4 : b.2.2 < W32 ^ 64) : (fadd a b).2.1 < W32 ^ 130 ∧ (fadd a b).2.2 < W32 ^ 130 :=
 ⟨Nat.lt_of_le_of_lt (faddI_le a b).1 (lt_add (lt_mul (c := 128) h1 h4 (by omega)) (lt_mul (c := 128) h3 h2 (by omega)) (by omega)), Nat.lt_of_le_of_lt (faddI_le a b).2 (lt_mul h2 h4 (by omega))⟩
theorem EOk.plus {x y : Int × Bool × Nat × Nat} (hx : EOk 64 x) (hy : EOk 64 y) : EOk 1000 (eplus x y) := by
 unfold eplus
 split
 ·exact hx.le (by omega)
 ·split
  ·exact hy.le (by omega)
  case isFalse h1 h2 =>
   have h1' : x.1 = 0 := Decidable.not_not.1 h1
   have h2' : y.1 = 0 := Decidable.not_not.1 h2
   have hb := faddI_b hx.bn hx.bd hy.bn hy.bd
   have h3 : EOk 130 (0, fadd x.2 y.2) := ⟨fun _ => IsFr.add (hx.fin h1').pos (hy.fin h2').pos, fun h => absurd rfl h, hb.1, hb.2⟩
   exact h3.le (by omega)
theorem enter_splus (args : Array Value) (w : World) : (callFunc 93 args).run Tryz.prog w = .ok (.enter 93 args) w := call_enter Tryz.func93 (by kernel_rfl) rfl args w
theorem iAdd_ret {W : World} {B : Nat} {a0 a1 a2 a3 a4 a5 a6 a7 ev : Value} {tm : Array Value} {R : Ending → World → Prop} (h2 : tm[6]?.getD undef = .pointer (some ⟨B, 0, none⟩)) (h3 : tm[7]?.getD undef = ev) (hV : Box W B #[a0, a1, a2, a3, a4, a5, a6, a7]) (hR : R (.returned (.tuple #[.agg #[a0, a1, a2, a3, a4, a5, a6, a7], ev])) W) :
  bodyPost Tryz.prog Tryz.f42 R .ret { tmps := tm, defers := [] } W := by
 obtain ⟨g0, g1, g2, g3, g4, g5, g6, g7, _⟩ := hV.cells8
 exact bodyPost_ret (v := .tuple #[.agg #[a0, a1, a2, a3, a4, a5, a6, a7], ev]) (by simp [results, Tryz.results42, go_sem, h2, h3, g0, g1, g2, g3, g4, g5, g6, g7]) rfl hR
def rcode (p : Int) (f : (Int × Bool × Nat × Nat) × (Int × Bool × Nat × Nat) × Bool → (Int × Bool × Nat × Nat) × (Int × Bool × Nat × Nat) × Bool → (Int × Bool × Nat × Nat) × (Int × Bool × Nat × Nat) × Bool) := b2code (prec p) (fun x y => srnd p (f x y))
def rval (p : Int) (f : (Int × Bool × Nat × Nat) × (Int × Bool × Nat × Nat) × Bool → (Int × Bool × Nat × Nat) × (Int × Bool × Nat × Nat) × Bool → (Int × Bool × Nat × Nat) × (Int × Bool × Nat × Nat) × Bool) := b2val (prec p) (fun x y => srnd p (f x y))
theorem rounded_gen (s1 : Bool) (p1 : Option Addr) (k1 c1 : Nat) (q1 : Option Addr) (l1 d1 : Nat) (sz1 : Bool) (pz1 : Option Addr) (kz1 cz1 : Nat) (qz1 : Option Addr) (lz1 dz1 : Nat) (x1 : Bool) (y1 : Bool) (s2 : Bool) (p2 : Option Addr) (k2 c2 : Nat) (q2 : Option Addr) (l2 d2 : Nat) (sz2 : Bool) (pz2 : Option Addr) (kz2 cz2 : Nat) (qz2 : Option Addr) (lz2 dz2 : Nat) (x2 : Bool) (y2 : Bool) (p : Int) (g : FuncId) (cap : Array Value) (f : (Int × Bool × Nat × Nat) × (Int × Bool × Nat × Nat) × Bool → (Int × Bool × Nat × Nat) × (Int × Bool × Nat × Nat) × Bool → (Int × Bool × Nat × Nat) × (Int × Bool × Nat × Nat) × Bool) (a b a' b' : Bool × Nat × Nat) (w : World) (ha : NRep w (.agg #[.bool s1, .slice p1 k1 c1, .slice q1 l1 d1]) a) (hb : NRep w (.agg #[.bool sz1, .slice pz1 kz1 cz1, .slice qz1 lz1 dz1]) b) (ha' : NRep w (.agg #[.bool s2, .slice p2 k2 c2, .slice q2 l2 d2]) a') (hb' : NRep w (.agg #[.bool sz2, .slice pz2 kz2 cz2, .slice qz2 lz2 dz2]) b') (ht : TabOk w)
  (hfn : ∀ args W, (callFunc g args).run Tryz.prog W = .ok (.enter g args) W)
  (hr : large a.2.1 a.2.2 = false → large b.2.1 b.2.2 = false → large a'.2.1 a'.2.2 = false → large b'.2.1 b'.2.2 = false → (srd (a, b, x1, y1)).2.2 = false → (srd (a', b', x2, y2)).2.2 = false → EOk 1000 (f (srd (a, b, x1, y1)) (srd (a', b', x2, y2))).1 ∧ EOk 1000 (f (srd (a, b, x1, y1)) (srd (a', b', x2, y2))).2.1)
  (hop : large a.2.1 a.2.2 = false → large b.2.1 b.2.2 = false → large a'.2.1 a'.2.2 = false → large b'.2.1 b'.2.2 = false → (srd (a, b, x1, y1)).2.2 = false → (srd (a', b', x2, y2)).2.2 = false → ∀ W (i1 : Int) (s1 : Bool) (p1 : Option Addr) (k1 c1 : Nat) (q1 : Option Addr) (l1 d1 : Nat) (j1 : Int) (sz1 : Bool) (pz1 : Option Addr) (kz1 cz1 : Nat) (qz1 : Option Addr) (lz1 dz1 : Nat) (e1 : Bool) (i2 : Int) (s2 : Bool) (p2 : Option Addr) (k2 c2 : Nat) (q2 : Option Addr) (l2 d2 : Nat) (j2 : Int) (sz2 : Bool) (pz2 : Option Addr) (kz2 cz2 : Nat) (qz2 : Option Addr) (lz2 dz2 : Nat) (e2 : Bool), Below w.heap.size w W → SRep W (.agg #[.int .i64 i1, .bool s1, .slice p1 k1 c1, .slice q1 l1 d1, .int .i64 j1, .bool sz1, .slice pz1 kz1 cz1, .slice qz1 lz1 dz1, .bool e1]) (srd (a, b, x1, y1)) → SRep W (.agg #[.int .i64 i2, .bool s2, .slice p2 k2 c2, .slice q2 l2 d2, .int .i64 j2, .bool sz2, .slice pz2 kz2 cz2, .slice qz2 lz2 dz2, .bool e2]) (srd (a', b', x2, y2)) → Calls Tryz.prog g (#[.agg #[.int .i64 i1, .bool s1, .slice p1 k1 c1, .slice q1 l1 d1, .int .i64 j1, .bool sz1, .slice pz1 kz1 cz1, .slice qz1 lz1 dz1, .bool e1], .agg #[.int .i64 i2, .bool s2, .slice p2 k2 c2, .slice q2 l2 d2, .int .i64 j2, .bool sz2, .slice pz2 kz2 cz2, .slice qz2 lz2 dz2, .bool e2]] ++ cap) W fun e w' => ∃ i3 s3 p3 k3 c3 q3 l3 d3 j3 sz3 pz3 kz3 cz3 qz3 lz3 dz3 e3, e = .returned (.agg #[.int .i64 i3, .bool s3, .slice p3 k3 c3, .slice q3 l3 d3, .int .i64 j3, .bool sz3, .slice pz3 kz3 cz3, .slice qz3 lz3 dz3, .bool e3]) ∧ Hid (SRep w' (.agg #[.int .i64 i3, .bool s3, .slice p3 k3 c3, .slice q3 l3 d3, .int .i64 j3, .bool sz3, .slice pz3 kz3 cz3, .slice qz3 lz3 dz3, .bool e3]) (f (srd (a, b, x1, y1)) (srd (a', b', x2, y2)))) ∧ Below W.heap.size W w') :
  Calls Tryz.prog 92 #[.agg #[.bool s1, .slice p1 k1 c1, .slice q1 l1 d1, .bool sz1, .slice pz1 kz1 cz1, .slice qz1 lz1 dz1, .bool x1, .bool y1], .agg #[.bool s2, .slice p2 k2 c2, .slice q2 l2 d2, .bool sz2, .slice pz2 kz2 cz2, .slice qz2 lz2 dz2, .bool x2, .bool y2], .int .i64 p, .func (.func g) #[] cap] w fun e w' => ∃ s5 p5 k5 c5 q5 l5 d5 sz5 pz5 kz5 cz5 qz5 lz5 dz5 x5 y5, e = .returned (.tuple #[.agg #[.bool s5, .slice p5 k5 c5, .slice q5 l5 d5, .bool sz5, .slice pz5 kz5 cz5, .slice qz5 lz5 dz5, .bool x5, .bool y5], .int .i64 (rcode p f (a, b, x1, y1) (a', b', x2, y2))]) ∧ Hid (GRep w' (.agg #[.bool s5, .slice p5 k5 c5, .slice q5 l5 d5, .bool sz5, .slice pz5 kz5 cz5, .slice qz5 lz5 dz5, .bool x5, .bool y5]) (rval p f (a, b, x1, y1) (a', b', x2, y2))) ∧ Below w.heap.size w w' := by
 unfold rcode rval
 have hmf := makeFunc_run
 have HC := hid (fun (W : World) (hW : Below w.heap.size w W) (b3 : Box W (w.heap.size + 1 + 1) #[.int .i64 p]) (b4 : Box W (w.heap.size + 1 + 1 + 1) #[.func (.func g) #[] cap]) =>
  both_gen s1 p1 k1 c1 q1 l1 d1 sz1 pz1 kz1 cz1 qz1 lz1 dz1 x1 y1 s2 p2 k2 c2 q2 l2 d2 sz2 pz2 kz2 cz2 qz2 lz2 dz2 x2 y2 (prec p) 148 #[.pointer (some ⟨w.heap.size + 1 + 1 + 1, 0, none⟩), .pointer (some ⟨w.heap.size + 1 + 1, 0, none⟩)] (fun x y => srnd p (f x y)) a b a' b' W
   (ha.below hW) (hb.below hW) (ha'.below hW) (hb'.below hW) (ht.below hW) enter_rounded1
   (fun hv h1 h2 h3 h4 h5 h6 => by
    unfold prec at hv
    rw [Bool.and_eq_true, decide_eq_true_eq, decide_eq_true_eq] at hv
    have hh := hr h1 h2 h3 h4 h5 h6
    exact ⟨⟨hh.1.dn (by omega), hh.2.up (by omega)⟩, rfl⟩)
   (fun hv h1 h2 h3 h4 h5 h6 W' i3 s3 p3 k3 c3 q3 l3 d3 j3 sz3 pz3 kz3 cz3 qz3 lz3 dz3 e3 i4 s4 p4 k4 c4 q4 l4 d4 j4 sz4 pz4 kz4 cz4 qz4 lz4 dz4 e4 hW' hS1 hS2 => by
    unfold prec at hv
    rw [Bool.and_eq_true, decide_eq_true_eq, decide_eq_true_eq] at hv
    obtain ⟨pr, rfl⟩ := Int.eq_ofNat_of_zero_le hv.1
    exact rounded1_ok i3 s3 p3 k3 c3 q3 l3 d3 j3 sz3 pz3 kz3 cz3 qz3 lz3 dz3 e3 i4 s4 p4 k4 c4 q4 l4 d4 j4 sz4 pz4 kz4 cz4 qz4 lz4 dz4 e4 (w.heap.size + 1 + 1 + 1) (w.heap.size + 1 + 1) g cap pr (srd (a, b, x1, y1)) (srd (a', b', x2, y2)) _ W' (b4.below hW') (b3.below hW') hS1 hS2 (hr h1 h2 h3 h4 h5 h6) (by omega) ((ht.below hW).below hW') hfn
     (fun W2 h7 hS5 hS6 => hop h1 h2 h3 h4 h5 h6 W2 i3 s3 p3 k3 c3 q3 l3 d3 j3 sz3 pz3 kz3 cz3 qz3 lz3 dz3 e3 i4 s4 p4 k4 c4 q4 l4 d4 j4 sz4 pz4 kz4 cz4 qz4 lz4 dz4 e4 (hW.trans ((hW'.trans (h7.mono hW'.size)).mono hW.size)) hS5 hS6)))
 have HPr := hid (isPrecision_any p)
 obtain ⟨v, hv⟩ : ∃ r, r = prec p := ⟨_, rfl⟩
 rw [← hv] at HC HPr ⊢
 obtain ⟨D, hD⟩ : ∃ D, D = b2val v (fun x y => srnd p (f x y)) (a, b, x1, y1) (a', b', x2, y2) := ⟨_, rfl⟩
 obtain ⟨c, hc⟩ : ∃ D, D = b2code v (fun x y => srnd p (f x y)) (a, b, x1, y1) (a', b', x2, y2) := ⟨_, rfl⟩
 rw [← hD, ← hc] at HC ⊢
 clear ha hb ha' hb' ht hr hop hfn hD hc hv
 obtain ⟨pi, hpi⟩ : ∃ pi : Int, pi = p := ⟨_, rfl⟩
 rw [← hpi] at HC HPr ⊢
 clear hpi
 go_enter Tryz.func92, Tryz.ntmps92
 go_wp2_with fail
 have HV := hid (pre5 w [.bool s1, .slice p1 k1 c1, .slice q1 l1 d1, .bool sz1, .slice pz1 kz1 cz1, .slice qz1 lz1 dz1, .bool x1, .bool y1] [.bool s2, .slice p2 k2 c2, .slice q2 l2 d2, .bool sz2, .slice pz2 kz2 cz2, .slice qz2 lz2 dz2, .bool x2, .bool y2] [.int .i64 pi] [.func (.func g) #[] cap] [.bool false, .slice none 0 0, .slice none 0 0, .bool false, .slice none 0 0, .slice none 0 0, .bool false, .bool false] 26 26 3 81 26 nd8 nd8 nd1 nd1 nd8)
 generalize ((((w.alloc (.cells #[.bool s1, .slice p1 k1 c1, .slice q1 l1 d1, .bool sz1, .slice pz1 kz1 cz1, .slice qz1 lz1 dz1, .bool x1, .bool y1] 26)).alloc (.cells #[.bool s2, .slice p2 k2 c2, .slice q2 l2 d2, .bool sz2, .slice pz2 kz2 cz2, .slice qz2 lz2 dz2, .bool x2, .bool y2] 26)).alloc (.cells #[.int .i64 pi] 3)).alloc (.cells #[.func (.func g) #[] cap] 81)).alloc (.cells #[.bool false, .slice none 0 0, .slice none 0 0, .bool false, .slice none 0 0, .slice none 0 0, .bool false, .bool false] 26) = W0 at *
 have HQ := hid (QQ.i3 (cs := [.bool s1, .slice p1 k1 c1, .slice q1 l1 d1, .bool sz1, .slice pz1 kz1 cz1, .slice qz1 lz1 dz1, .bool x1, .bool y1]) (cs' := [.bool s2, .slice p2 k2 c2, .slice q2 l2 d2, .bool sz2, .slice pz2 kz2 cz2, .slice qz2 lz2 dz2, .bool x2, .bool y2]) (c2 := [.int .i64 pi]) HV.out.1 HV.out.2.1 HV.out.2.2.1 HV.out.2.2.2.2.2)
 have HS := hid (fun (w' : World) (hb : QQ w [(w.heap.size, [.bool s1, .slice p1 k1 c1, .slice q1 l1 d1, .bool sz1, .slice pz1 kz1 cz1, .slice qz1 lz1 dz1, .bool x1, .bool y1]), (w.heap.size + 1, [.bool s2, .slice p2 k2 c2, .slice q2 l2 d2, .bool sz2, .slice pz2 kz2 cz2, .slice qz2 lz2 dz2, .bool x2, .bool y2]), (w.heap.size + 1 + 1, [.int .i64 pi])] w') => hb.s_8_8_1)
 have HN : Hid (Apart [(w.heap.size, [.bool s1, .slice p1 k1 c1, .slice q1 l1 d1, .bool sz1, .slice pz1 kz1 cz1, .slice qz1 lz1 dz1, .bool x1, .bool y1]), (w.heap.size + 1, [.bool s2, .slice p2 k2 c2, .slice q2 l2 d2, .bool sz2, .slice pz2 kz2 cz2, .slice qz2 lz2 dz2, .bool x2, .bool y2]), (w.heap.size + 1 + 1, [.int .i64 pi])] (w.heap.size + 1 + 1 + 1 + 1)) := hid (ne3 (by omega) (by omega) (by omega))
 have HI : Hid (w.heap.size ≤ w.heap.size + 1 + 1 + 1 + 1) := hid (by omega)
 go_region_held3 (fun w' => w'.cell? ⟨w.heap.size, 0, none⟩ = some (.bool s1) ∧ w'.cell? ⟨w.heap.size, 1, none⟩ = some (.slice p1 k1 c1) ∧ w'.cell? ⟨w.heap.size, 2, none⟩ = some (.slice q1 l1 d1) ∧ w'.cell? ⟨w.heap.size, 3, none⟩ = some (.bool sz1) ∧ w'.cell? ⟨w.heap.size, 4, none⟩ = some (.slice pz1 kz1 cz1) ∧ w'.cell? ⟨w.heap.size, 5, none⟩ = some (.slice qz1 lz1 dz1) ∧ w'.cell? ⟨w.heap.size, 6, none⟩ = some (.bool x1) ∧ w'.cell? ⟨w.heap.size, 7, none⟩ = some (.bool y1) ∧ w'.cell? ⟨w.heap.size + 1, 0, none⟩ = some (.bool s2) ∧ w'.cell? ⟨w.heap.size + 1, 1, none⟩ = some (.slice p2 k2 c2) ∧ w'.cell? ⟨w.heap.size + 1, 2, none⟩ = some (.slice q2 l2 d2) ∧ w'.cell? ⟨w.heap.size + 1, 3, none⟩ = some (.bool sz2) ∧ w'.cell? ⟨w.heap.size + 1, 4, none⟩ = some (.slice pz2 kz2 cz2) ∧ w'.cell? ⟨w.heap.size + 1, 5, none⟩ = some (.slice qz2 lz2 dz2) ∧ w'.cell? ⟨w.heap.size + 1, 6, none⟩ = some (.bool x2) ∧ w'.cell? ⟨w.heap.size + 1, 7, none⟩ = some (.bool y2) ∧ w'.cell? ⟨w.heap.size + 1 + 1, 0, none⟩ = some (.int .i64 pi) ∧ Hid (QQ w [(w.heap.size, [.bool s1, .slice p1 k1 c1, .slice q1 l1 d1, .bool sz1, .slice pz1 kz1 cz1, .slice qz1 lz1 dz1, .bool x1, .bool y1]), (w.heap.size + 1, [.bool s2, .slice p2 k2 c2, .slice q2 l2 d2, .bool sz2, .slice pz2 kz2 cz2, .slice qz2 lz2 dz2, .bool x2, .bool y2]), (w.heap.size + 1 + 1, [.int .i64 pi])] w'))
  (first | (refine HS.out _ ?_; first | (with_reducible exact HQ.out.drew) | (with_reducible assumption) | (with_reducible refine QQ.st8 ?_ HN.out HI.out; assumption)))
  (first
   | (go_at_call 89; refine (HPr.out _).mono ?_; rintro e wa ⟨rfl, rfl⟩)
   | (go_at_call 58; refine (HC.out _ HQ.out.drew.bel (HV.out.2.2.1.drew) (HV.out.2.2.2.1.drew)).mono ?_; rintro e wb ⟨s5, p5, k5, c5, q5, l5, d5, sz5, pz5, kz5, cz5, qz5, lz5, dz5, x5, y5, rfl, hG, hB2⟩; have hQ2 := HQ.out.drew.call hB2; have hV2 := (HV.out.2.2.2.2.1.drew).below hB2; obtain ⟨g0, g1, g2, g3, g4, g5, g6, g7, f0, f1, f2, f3, f4, f5, f6, f7⟩ := hV2.cells8))
 all_goals
  have HE := hid (And.intro hV2 (And.intro hG.out hQ2.bel))
  clear hQ2 hV2 hB2 hG
  go_wp2_with fail
  exact rounded_ret rfl rfl (HE.out.1.stores [.bool s5, .slice p5 k5 c5, .slice q5 l5 d5, .bool sz5, .slice pz5 kz5 cz5, .slice qz5 lz5 dz5, .bool x5, .bool y5] rfl nd8) ⟨s5, p5, k5, c5, q5, l5, d5, sz5, pz5, kz5, cz5, qz5, lz5, dz5, x5, y5, rfl, hid (GRep.stores (k := 0) (l := [.bool s5, .slice p5 k5 c5, .slice q5 l5 d5, .bool sz5, .slice pz5 kz5 cz5, .slice qz5 lz5 dz5, .bool x5, .bool y5]) HE.out.2.1 HE.out.1 nd8), Below.stores (k := 0) (l := [.bool s5, .slice p5 k5 c5, .slice q5 l5 d5, .bool sz5, .slice pz5 kz5 cz5, .slice qz5 lz5 dz5, .bool x5, .bool y5]) HE.out.2.2 HI.out⟩
theorem iAdd_any (s1 : Bool) (p1 : Option Addr) (k1 c1 : Nat) (q1 : Option Addr) (l1 d1 : Nat) (sz1 : Bool) (pz1 : Option Addr) (kz1 cz1 : Nat) (qz1 : Option Addr) (lz1 dz1 : Nat) (x1 : Bool) (y1 : Bool) (s2 : Bool) (p2 : Option Addr) (k2 c2 : Nat) (q2 : Option Addr) (l2 d2 : Nat) (sz2 : Bool) (pz2 : Option Addr) (kz2 cz2 : Nat) (qz2 : Option Addr) (lz2 dz2 : Nat) (x2 : Bool) (y2 : Bool) (p : Int) (a b a' b' : Bool × Nat × Nat) (w : World) (ha : NRep w (.agg #[.bool s1, .slice p1 k1 c1, .slice q1 l1 d1]) a) (hb : NRep w (.agg #[.bool sz1, .slice pz1 kz1 cz1, .slice qz1 lz1 dz1]) b) (ha' : NRep w (.agg #[.bool s2, .slice p2 k2 c2, .slice q2 l2 d2]) a') (hb' : NRep w (.agg #[.bool sz2, .slice pz2 kz2 cz2, .slice qz2 lz2 dz2]) b') (ht : TabOk w) :
  Calls Tryz.prog 42 #[.agg #[.bool s1, .slice p1 k1 c1, .slice q1 l1 d1, .bool sz1, .slice pz1 kz1 cz1, .slice qz1 lz1 dz1, .bool x1, .bool y1], .agg #[.bool s2, .slice p2 k2 c2, .slice q2 l2 d2, .bool sz2, .slice pz2 kz2 cz2, .slice qz2 lz2 dz2, .bool x2, .bool y2], .int .i64 p] w fun e w' => ∃ s5 p5 k5 c5 q5 l5 d5 sz5 pz5 kz5 cz5 qz5 lz5 dz5 x5 y5, e = .returned (.tuple #[.agg #[.bool s5, .slice p5 k5 c5, .slice q5 l5 d5, .bool sz5, .slice pz5 kz5 cz5, .slice qz5 lz5 dz5, .bool x5, .bool y5], .int .i64 (rcode p splus (a, b, x1, y1) (a', b', x2, y2))]) ∧ Hid (GRep w' (.agg #[.bool s5, .slice p5 k5 c5, .slice q5 l5 d5, .bool sz5, .slice pz5 kz5 cz5, .slice qz5 lz5 dz5, .bool x5, .bool y5]) (rval p splus (a, b, x1, y1) (a', b', x2, y2))) ∧ Below w.heap.size w w' := by
 have HC := hid (fun (W : World) (hW : Below w.heap.size w W) =>
  rounded_gen s1 p1 k1 c1 q1 l1 d1 sz1 pz1 kz1 cz1 qz1 lz1 dz1 x1 y1 s2 p2 k2 c2 q2 l2 d2 sz2 pz2 kz2 cz2 qz2 lz2 dz2 x2 y2 p 93 #[] splus a b a' b' W (ha.below hW) (hb.below hW) (ha'.below hW) (hb'.below hW) (ht.below hW) enter_splus
   (fun h1 h2 h3 h4 _ _ => ⟨(rdE_ok (.inr rfl) h1).plus (rdE_ok (.inr rfl) h3), (rdE_ok (.inl rfl) h2).plus (rdE_ok (.inl rfl) h4)⟩)
   (fun h1 h2 h3 h4 _ _ W' i3 s3 p3 k3 c3 q3 l3 d3 j3 sz3 pz3 kz3 cz3 qz3 lz3 dz3 e3 i4 s4 p4 k4 c4 q4 l4 d4 j4 sz4 pz4 kz4 cz4 qz4 lz4 dz4 e4 hW' hS1 hS2 => splus_any i3 s3 p3 k3 c3 q3 l3 d3 j3 sz3 pz3 kz3 cz3 qz3 lz3 dz3 e3 i4 s4 p4 k4 c4 q4 l4 d4 j4 sz4 pz4 kz4 cz4 qz4 lz4 dz4 e4 (srd (a, b, x1, y1)) (srd (a', b', x2, y2)) W' hS1 hS2
    ⟨(rdE_ok (.inr rfl) h1).le (by omega), (rdE_ok (.inl rfl) h2).le (by omega)⟩ ⟨(rdE_ok (.inr rfl) h3).le (by omega), (rdE_ok (.inl rfl) h4).le (by omega)⟩ ((ht.below hW).below hW')))
 obtain ⟨D, hD⟩ : ∃ D, D = rval p splus (a, b, x1, y1) (a', b', x2, y2) := ⟨_, rfl⟩
 obtain ⟨c, hc⟩ : ∃ D, D = rcode p splus (a, b, x1, y1) (a', b', x2, y2) := ⟨_, rfl⟩
 rw [← hD, ← hc] at HC ⊢
 clear ha hb ha' hb' ht hD hc
 obtain ⟨pi, hpi⟩ : ∃ pi : Int, pi = p := ⟨_, rfl⟩
 rw [← hpi] at HC ⊢
 clear hpi
 go_enter Tryz.func42, Tryz.ntmps42
 go_wp2_with fail
 generalize hA : World.alloc _ _ = W0
 have HV := hid (pre3_o hA nd8 nd8 nd8)
 clear hA
 refine (HC.out _ HV.out.2.2.2).mono ?_
 rintro e w1 ⟨s5, p5, k5, c5, q5, l5, d5, sz5, pz5, kz5, cz5, qz5, lz5, dz5, x5, y5, rfl, hG, hB1⟩
 have HE := hid (And.intro (HV.out.2.2.1.below hB1) (HV.out.2.2.2.trans (hB1.mono HV.out.2.2.2.size)))
 clear hB1
 obtain ⟨g0, g1, g2, g3, g4, g5, g6, g7, f0, f1, f2, f3, f4, f5, f6, f7⟩ := HE.out.1.cells8
 go_wp2_with fail
 exact iAdd_ret rfl rfl (HE.out.1.stores [.bool s5, .slice p5 k5 c5, .slice q5 l5 d5, .bool sz5, .slice pz5 kz5 cz5, .slice qz5 lz5 dz5, .bool x5, .bool y5] rfl nd8) ⟨s5, p5, k5, c5, q5, l5, d5, sz5, pz5, kz5, cz5, qz5, lz5, dz5, x5, y5, rfl, hid (GRep.stores (k := 0) (l := [.bool s5, .slice p5 k5 c5, .slice q5 l5 d5, .bool sz5, .slice pz5 kz5 cz5, .slice qz5 lz5 dz5, .bool x5, .bool y5]) hG.out HE.out.1 nd8), Below.stores (k := 0) (l := [.bool s5, .slice p5 k5 c5, .slice q5 l5 d5, .bool sz5, .slice pz5 kz5 cz5, .slice qz5 lz5 dz5, .bool x5, .bool y5]) HE.out.2 (by omega)⟩
def JFr (r : (Bool × Nat × Nat) × (Bool × Nat × Nat) × Bool × Bool × Bool) : Prop := r.2.2.2.2 = false ∧ ((r.2.2.1 = true ∧ r.1 = (false, 0, 0)) ∨ (r.2.2.1 = false ∧ IsFr r.1)) ∧ ((r.2.2.2.1 = true ∧ r.2.1 = (false, 0, 0)) ∨ (r.2.2.2.1 = false ∧ IsFr r.2.1)) ∧ (r.2.2.1 = false → r.2.2.2.1 = false → fcmp r.1 r.2.1 ≤ 0)
theorem JGood.fr {r : (Bool × Nat × Nat) × (Bool × Nat × Nat) × Bool × Bool × Bool} (h : JGood r) (he : r.2.2.2.2 = false) : JFr r := by
 rcases h with rfl | ⟨h1, h2, h3, h4⟩
 ·exact absurd he (by decide)
 ·exact ⟨h1, h2.imp id (fun h => ⟨h.1, h.2.1⟩), h3.imp id (fun h => ⟨h.1, h.2.1⟩), h4⟩
theorem grid_le {a b : Bool × Nat × Nat} (p : Nat) (ha : IsFr a) (hb : IsFr b) (h : fcmp a b ≤ 0) : fcmp (gdn a p) (gup b p) ≤ 0 := by
 obtain ⟨A, _, hA, _, h1, _, _, _⟩ := steps_math (t := a) (P := 2 ^ p) (p := p) rfl ha.pos
 obtain ⟨_, U, _, hU, _, _, _, h2⟩ := steps_math (t := b) (P := 2 ^ p) (p := p) rfl hb.pos
 have hP : (0 : Int) < ((2 ^ p : Nat) : Int) := by have : 0 < 2 ^ p := Nat.pow_pos (by decide); omega
 rw [fcmp_nonpos] at h
 rw [fcmp_Q hA hU hP hP]
 have da : (0 : Int) < (a.2.2 : Int) := by have := ha.pos; omega
 have db : (0 : Int) < (b.2.2 : Int) := by have := hb.pos; omega
 generalize (a.2.2 : Int) = Da at *
 generalize (b.2.2 : Int) = Db at *
 generalize sv a.1 a.2.1 = sa at *
 generalize sv b.1 b.2.1 = sb at *
 generalize ((2 ^ p : Nat) : Int) = P at *
 have e1 : A * Da * Db ≤ sa * P * Db := Int.mul_le_mul_of_nonneg_right h1 (Int.le_of_lt db)
 have e2 : sa * Db * P ≤ sb * Da * P := Int.mul_le_mul_of_nonneg_right h (Int.le_of_lt hP)
 have e3 : sb * P * Da ≤ U * Db * Da := Int.mul_le_mul_of_nonneg_right h2 (Int.le_of_lt da)
 have e4 : A * (Da * Db) ≤ U * (Da * Db) := by
  calc A * (Da * Db) = A * Da * Db := (Int.mul_assoc _ _ _).symm
   _ ≤ sa * P * Db := e1
   _ = sa * Db * P := by rw [Int.mul_assoc, Int.mul_comm P Db, ← Int.mul_assoc]
   _ ≤ sb * Da * P := e2
   _ = sb * P * Da := by rw [Int.mul_assoc, Int.mul_comm Da P, ← Int.mul_assoc]
   _ ≤ U * Db * Da := e3
   _ = U * (Da * Db) := by rw [Int.mul_assoc, Int.mul_comm Db Da]
 have e5 : A ≤ U := Int.le_of_mul_le_mul_right e4 (Int.mul_pos da db)
 have e6 : A * P ≤ U * P := Int.mul_le_mul_of_nonneg_right e5 (Int.le_of_lt hP)
 unfold cmpI
 split
 ·decide
 ·split
  ·omega
  ·decide
theorem QFit.of_small {t : Bool × Nat × Nat} (h : IsFr t) (hb : big t.2.1 t.2.2 = false) : QFit t := by
 unfold big at hb
 rw [decide_eq_false_iff_not] at hb
 exact ⟨h, by omega, by omega⟩
theorem JFr.round {r : (Bool × Nat × Nat) × (Bool × Nat × Nat) × Bool × Bool × Bool} (h : JFr r) (p : Nat) (hb : jbig (jround r p) = false) : JGood (jround r p) := by
 obtain ⟨he, hl, hh, hc⟩ := h
 unfold jround at hb ⊢
 rw [he] at hb ⊢
 unfold jbig at hb
 rw [Bool.or_eq_false_iff] at hb
 refine .inr ⟨rfl, ?_, ?_, ?_⟩
 ·rcases hl with ⟨h1, h2⟩ | ⟨h1, h2⟩
  ·exact .inl ⟨h1, by show (if r.2.2.1 then r.1 else gdn r.1 p) = _; rw [h1, h2]; rfl⟩
  ·refine .inr ⟨h1, ?_⟩
   have hb1 := hb.1
   show QFit (if r.2.2.1 then r.1 else gdn r.1 p)
   rw [h1] at hb1 ⊢
   exact QFit.of_small (gdn_fr p) hb1
 ·rcases hh with ⟨h1, h2⟩ | ⟨h1, h2⟩
  ·exact .inl ⟨h1, by show (if r.2.2.2.1 then r.2.1 else gup r.2.1 p) = _; rw [h1, h2]; rfl⟩
  ·refine .inr ⟨h1, ?_⟩
   have hb1 := hb.2
   show QFit (if r.2.2.2.1 then r.2.1 else gup r.2.1 p)
   rw [h1] at hb1 ⊢
   exact QFit.of_small (gup_fr p) hb1
 ·intro hx hy
  show fcmp (if r.2.2.1 then r.1 else gdn r.1 p) (if r.2.2.2.1 then r.2.1 else gup r.2.1 p) ≤ 0
  have hx' : r.2.2.1 = false := hx
  have hy' : r.2.2.2.1 = false := hy
  rw [hx', hy']
  rcases hl with ⟨h1, _⟩ | ⟨_, h1⟩
  ·rw [hx'] at h1; exact absurd h1 (by decide)
  ·rcases hh with ⟨h2, _⟩ | ⟨_, h2⟩
   ·rw [hy'] at h2; exact absurd h2 (by decide)
   ·exact grid_le p h1 h2 (hc hx' hy')
theorem gup_100a {t : Bool × Nat × Nat} {p A : Nat} (hn : t.2.1 < W32 ^ A) (hA : A ≤ 1000) (hp : p ≤ 128) : (gup t p).2.1 < W32 ^ 100000 ∧ (gup t p).2.2 < W32 ^ 100000 := gdn_100a (t := fneg t) hn hA hp
theorem b16_100k {x : Nat} (h : x < W32 ^ 100000) : x < B16 ^ 1000000000 := lt_W_B' h (by omega)
theorem big_zero : big 0 0 = false := by decide +kernel
theorem jbig_none (p : Nat) : jbig (jround jnone p) = false := by
 show (big 0 0 || big 0 0) = false
 rw [big_zero]
 rfl
theorem rnd_ends {A B : Bool × Nat × Nat} {x y : Bool} {p : Nat} : 
  jbig (jround (if x then (false, 0, 0) else A, if y then (false, 0, 0) else B, x, y, false) p) = sbig (sround (if x then (-1, false, 0, 0) else (0, A), if y then (1, false, 0, 0) else (0, B), false) p) ∧
  japi (jround (if x then (false, 0, 0) else A, if y then (false, 0, 0) else B, x, y, false) p) = giv (sround (if x then (-1, false, 0, 0) else (0, A), if y then (1, false, 0, 0) else (0, B), false) p) := by
 have ed : Go.Proofs.YtimjoejkjgklaaaGreatDoor.jrat (gdn A p) = outF (gdn A p) := rat_out (gdn_fr (t := A) p).pos (gdn_fr (t := A) p).zs
 have eu : Go.Proofs.YtimjoejkjgklaaaGreatDoor.jrat (gup B p) = outF (gup B p) := rat_out (gup_fr (t := B) p).pos (gup_fr (t := B) p).zs
 cases x <;> cases y
 ·refine ⟨?_, ?_⟩
  ·show (big (gdn A p).2.1 (gdn A p).2.2 || big (gup B p).2.1 (gup B p).2.2) = (decide ((0 : Int) = 0) && big (gdn A p).2.1 (gdn A p).2.2 || decide ((0 : Int) = 0) && big (gup B p).2.1 (gup B p).2.2)
   simp
  ·show (jrat (gdn A p), jrat (gup B p), false, false) = (outF (gdn A p), outF (gup B p), false, false)
   rw [ed, eu]
 ·refine ⟨?_, ?_⟩
  ·show (big (gdn A p).2.1 (gdn A p).2.2 || big 0 0) = (decide ((0 : Int) = 0) && big (gdn A p).2.1 (gdn A p).2.2 || decide ((1 : Int) = 0) && big 0 0)
   rw [big_zero]
   simp
  ·show (jrat (gdn A p), jrat (false, 0, 0), false, true) = (outF (gdn A p), (false, 0, 0), false, true)
   rw [ed, jrat_zero]
 ·refine ⟨?_, ?_⟩
  ·show (big 0 0 || big (gup B p).2.1 (gup B p).2.2) = (decide ((-1 : Int) = 0) && big 0 0 || decide ((0 : Int) = 0) && big (gup B p).2.1 (gup B p).2.2)
   rw [big_zero]
   simp
  ·show (jrat (false, 0, 0), jrat (gup B p), true, false) = ((false, 0, 0), outF (gup B p), true, false)
   rw [eu, jrat_zero]
 ·refine ⟨?_, ?_⟩
  ·show (big 0 0 || big 0 0) = (decide ((-1 : Int) = 0) && big 0 0 || decide ((1 : Int) = 0) && big 0 0)
   rw [big_zero]
   simp
  ·show (jrat (false, 0, 0), jrat (false, 0, 0), true, true) = ((false, 0, 0), (false, 0, 0), true, true)
   rw [jrat_zero]
theorem rnd_same {a b : Bool × Nat × Nat} {x y : Bool} (p : Nat) (he : (srd (a, b, x, y)).2.2 = false) :
  jbig (jround (jof (a, b, x, y)) p) = sbig (sround (srd (a, b, x, y)) p) ∧ japi (jround (jof (a, b, x, y)) p) = giv (sround (srd (a, b, x, y)) p) := by
 rw [jof_in he]
 exact rnd_ends
def JW (A : Nat) (r : (Bool × Nat × Nat) × (Bool × Nat × Nat) × Bool × Bool × Bool) : Prop := r = jnone ∨ (JFr r ∧ (r.1.2.1 < W32 ^ A ∧ r.1.2.2 < W32 ^ A) ∧ (r.2.1.2.1 < W32 ^ A ∧ r.2.1.2.2 < W32 ^ A))
theorem JGood.wide {r : (Bool × Nat × Nat) × (Bool × Nat × Nat) × Bool × Bool × Bool} (h : JGood r) : JW 64 r := by
 by_cases he : r.2.2.2.2 = true
 ·rcases h with h | ⟨h, _⟩
  ·exact .inl h
  ·rw [he] at h; exact absurd h (by decide)
 ·have hf := h.fr (by simpa using he)
  rcases h with h | ⟨_, hl, hh, _⟩
  ·exact .inl h
  ·refine .inr ⟨hf, ?_, ?_⟩
   ·rcases hl with ⟨_, hl⟩ | ⟨_, hl⟩
    ·rw [hl]; exact ⟨Nat.pow_pos W32_pos, Nat.pow_pos W32_pos⟩
    ·exact hl.2
   ·rcases hh with ⟨_, hl⟩ | ⟨_, hl⟩
    ·rw [hl]; exact ⟨Nat.pow_pos W32_pos, Nat.pow_pos W32_pos⟩
    ·exact hl.2
theorem JW.bd {r : (Bool × Nat × Nat) × (Bool × Nat × Nat) × Bool × Bool × Bool} (h : JW 400 r) {p : Nat} (hp : p ≤ 128) : JBd (jround r p) := by
 rcases h with rfl | ⟨⟨he, hl, hh, _⟩, h1, h2⟩
 ·exact ⟨⟨b16_0, b16_0⟩, b16_0, b16_0⟩
 ·unfold jround
  rw [he]
  refine ⟨?_, ?_⟩
  ·rcases hl with ⟨g1, g2⟩ | ⟨g1, g2⟩
   ·show (if r.2.2.1 then r.1 else gdn r.1 p).2.1 < _ ∧ (if r.2.2.1 then r.1 else gdn r.1 p).2.2 < _
    rw [g1, g2]; exact ⟨b16_0, b16_0⟩
   ·show (if r.2.2.1 then r.1 else gdn r.1 p).2.1 < _ ∧ (if r.2.2.1 then r.1 else gdn r.1 p).2.2 < _
    rw [g1]
    have := gdn_100a (A := 400) h1.1 (by omega) hp
    exact ⟨b16_100k this.1, b16_100k this.2⟩
  ·rcases hh with ⟨g1, g2⟩ | ⟨g1, g2⟩
   ·show (if r.2.2.2.1 then r.2.1 else gup r.2.1 p).2.1 < _ ∧ (if r.2.2.2.1 then r.2.1 else gup r.2.1 p).2.2 < _
    rw [g1, g2]; exact ⟨b16_0, b16_0⟩
   ·show (if r.2.2.2.1 then r.2.1 else gup r.2.1 p).2.1 < _ ∧ (if r.2.2.2.1 then r.2.1 else gup r.2.1 p).2.2 < _
    rw [g1]
    have := gup_100a (A := 400) h2.1 (by omega) hp
    exact ⟨b16_100k this.1, b16_100k this.2⟩
def jplus (r t : (Bool × Nat × Nat) × (Bool × Nat × Nat) × Bool × Bool × Bool) : (Bool × Nat × Nat) × (Bool × Nat × Nat) × Bool × Bool × Bool := if r.2.2.2.2 || t.2.2.2.2 then jnone else (if r.2.2.1 || t.2.2.1 then (false, 0, 0) else fadd r.1 t.1, if r.2.2.2.1 || t.2.2.2.1 then (false, 0, 0) else fadd r.2.1 t.2.1, r.2.2.1 || t.2.2.1, r.2.2.2.1 || t.2.2.2.1, false)
theorem self_FQ {t : Bool × Nat × Nat} (h : 0 < t.2.2) : FQ t (sv t.1 t.2.1) (t.2.2 : Int) := ⟨by omega, h, rfl⟩
theorem fadd_mono {a b a' b' : Bool × Nat × Nat} (ha : IsFr a) (hb : IsFr b) (ha' : IsFr a') (hb' : IsFr b') (h : fcmp a a' ≤ 0) (h' : fcmp b b' ≤ 0) : fcmp (fadd a b) (fadd a' b') ≤ 0 := by
 have p1 : (0 : Int) < (a.2.2 : Int) := by have := ha.pos; omega
 have p2 : (0 : Int) < (b.2.2 : Int) := by have := hb.pos; omega
 have p3 : (0 : Int) < (a'.2.2 : Int) := by have := ha'.pos; omega
 have p4 : (0 : Int) < (b'.2.2 : Int) := by have := hb'.pos; omega
 rw [fcmp_Q (fadd_FQ (self_FQ ha.pos) (self_FQ hb.pos)) (fadd_FQ (self_FQ ha'.pos) (self_FQ hb'.pos)) (Int.mul_pos p1 p2) (Int.mul_pos p3 p4)]
 rw [fcmp_nonpos] at h h'
 generalize (a.2.2 : Int) = da at *
 generalize (b.2.2 : Int) = db at *
 generalize (a'.2.2 : Int) = ea at *
 generalize (b'.2.2 : Int) = eb at *
 generalize sv a.1 a.2.1 = sa at *
 generalize sv b.1 b.2.1 = sb at *
 generalize sv a'.1 a'.2.1 = ta at *
 generalize sv b'.1 b'.2.1 = tb at *
 have k1 : sa * ea * (db * eb) ≤ ta * da * (db * eb) := Int.mul_le_mul_of_nonneg_right h (Int.le_of_lt (Int.mul_pos p2 p4))
 have k2 : sb * eb * (da * ea) ≤ tb * db * (da * ea) := Int.mul_le_mul_of_nonneg_right h' (Int.le_of_lt (Int.mul_pos p1 p3))
 have e1 : (sa * db + sb * da) * (ea * eb) = sa * ea * (db * eb) + sb * eb * (da * ea) := by
  simp only [Int.mul_add, Int.mul_comm, Int.mul_left_comm]
 have e2 : (ta * eb + tb * ea) * (da * db) = ta * da * (db * eb) + tb * db * (da * ea) := by
  simp only [Int.mul_add, Int.mul_comm, Int.mul_left_comm]
 rw [e1, e2]
 unfold cmpI
 split
 ·decide
 ·split
  ·omega
  ·decide
theorem JW.plus {A : Nat} (hA : 130 ≤ A) {r t : (Bool × Nat × Nat) × (Bool × Nat × Nat) × Bool × Bool × Bool} (hr : JGood r) (ht : JGood t) : JW A (jplus r t) := by
 unfold jplus
 cases hre : r.2.2.2.2
 ·cases hte : t.2.2.2.2
  ·have fr1 := hr.fr hre
   have fr2 := ht.fr hte
   rcases hr.wide with w1 | ⟨_, b1, b2⟩
   ·rw [w1] at hre; exact absurd hre (by decide)
   rcases ht.wide with w2 | ⟨_, b3, b4⟩
   ·rw [w2] at hte; exact absurd hte (by decide)
   have q1 : (r.2.2.1 || t.2.2.1) = false → IsFr r.1 ∧ IsFr t.1 := by
    intro hx
    rw [Bool.or_eq_false_iff] at hx
    rcases fr1.2.1 with ⟨hq, _⟩ | ⟨_, q1⟩
    ·rw [hx.1] at hq; exact absurd hq (by decide)
    rcases fr2.2.1 with ⟨hq, _⟩ | ⟨_, q2⟩
    ·rw [hx.2] at hq; exact absurd hq (by decide)
    exact ⟨q1, q2⟩
   have q2 : (r.2.2.2.1 || t.2.2.2.1) = false → IsFr r.2.1 ∧ IsFr t.2.1 := by
    intro hx
    rw [Bool.or_eq_false_iff] at hx
    rcases fr1.2.2.1 with ⟨hq, _⟩ | ⟨_, q1⟩
    ·rw [hx.1] at hq; exact absurd hq (by decide)
    rcases fr2.2.2.1 with ⟨hq, _⟩ | ⟨_, q2⟩
    ·rw [hx.2] at hq; exact absurd hq (by decide)
    exact ⟨q1, q2⟩
   have m1 := faddI_b b1.1 b1.2 b3.1 b3.2
   have m2 := faddI_b b2.1 b2.2 b4.1 b4.2
   refine .inr ⟨⟨rfl, ?_, ?_, ?_⟩, ?_, ?_⟩
   ·cases hx : (r.2.2.1 || t.2.2.1)
    ·exact .inr ⟨rfl, IsFr.add (q1 hx).1.pos (q1 hx).2.pos⟩
    ·exact .inl ⟨rfl, rfl⟩
   ·cases hx : (r.2.2.2.1 || t.2.2.2.1)
    ·exact .inr ⟨rfl, IsFr.add (q2 hx).1.pos (q2 hx).2.pos⟩
    ·exact .inl ⟨rfl, rfl⟩
   ·intro hx hy
    have hx' : (r.2.2.1 || t.2.2.1) = false := hx
    have hy' : (r.2.2.2.1 || t.2.2.2.1) = false := hy
    show fcmp (if r.2.2.1 || t.2.2.1 then (false, 0, 0) else fadd r.1 t.1) (if r.2.2.2.1 || t.2.2.2.1 then (false, 0, 0) else fadd r.2.1 t.2.1) ≤ 0
    rw [hx', hy']
    have hx2 := hx'
    have hy2 := hy'
    rw [Bool.or_eq_false_iff] at hx2 hy2
    exact fadd_mono (q1 hx').1 (q1 hx').2 (q2 hy').1 (q2 hy').2 (fr1.2.2.2 hx2.1 hy2.1) (fr2.2.2.2 hx2.2 hy2.2)
   ·show (if r.2.2.1 || t.2.2.1 then (false, 0, 0) else fadd r.1 t.1).2.1 < _ ∧ (if r.2.2.1 || t.2.2.1 then (false, 0, 0) else fadd r.1 t.1).2.2 < _
    split
    ·exact ⟨Nat.pow_pos W32_pos, Nat.pow_pos W32_pos⟩
    ·exact ⟨lt_pow m1.1 (by omega), lt_pow m1.2 (by omega)⟩
   ·show (if r.2.2.2.1 || t.2.2.2.1 then (false, 0, 0) else fadd r.2.1 t.2.1).2.1 < _ ∧ (if r.2.2.2.1 || t.2.2.2.1 then (false, 0, 0) else fadd r.2.1 t.2.1).2.2 < _
    split
    ·exact ⟨Nat.pow_pos W32_pos, Nat.pow_pos W32_pos⟩
    ·exact ⟨lt_pow m2.1 (by omega), lt_pow m2.2 (by omega)⟩
  ·exact .inl rfl
 ·exact .inl rfl
def Sim (S : (Int × Bool × Nat × Nat) × (Int × Bool × Nat × Nat) × Bool) (J : (Bool × Nat × Nat) × (Bool × Nat × Nat) × Bool × Bool × Bool) : Prop := ∃ A B x y, S = (if x then (-1, false, 0, 0) else (0, A), if y then (1, false, 0, 0) else (0, B), false) ∧ J = (if x then (false, 0, 0) else A, if y then (false, 0, 0) else B, x, y, false)
theorem Sim.of {a b : Bool × Nat × Nat} {x y : Bool} (he : (srd (a, b, x, y)).2.2 = false) : Sim (srd (a, b, x, y)) (jof (a, b, x, y)) := by
 refine ⟨fr a, fr b, x, y, ?_, jof_in he⟩
 have e : srd (a, b, x, y) = ((srd (a, b, x, y)).1, (srd (a, b, x, y)).2.1, (srd (a, b, x, y)).2.2) := rfl
 rw [e, he]
 rfl
theorem Sim.plus {S T : (Int × Bool × Nat × Nat) × (Int × Bool × Nat × Nat) × Bool} {J K : (Bool × Nat × Nat) × (Bool × Nat × Nat) × Bool × Bool × Bool} (h : Sim S J) (h' : Sim T K) : Sim (splus S T) (jplus J K) := by
 obtain ⟨A, B, x, y, rfl, rfl⟩ := h
 obtain ⟨A', B', x', y', rfl, rfl⟩ := h'
 refine ⟨fadd A A', fadd B B', x || x', y || y', ?_, ?_⟩ <;> cases x <;> cases y <;> cases x' <;> cases y' <;> rfl
theorem Sim.rnd {S : (Int × Bool × Nat × Nat) × (Int × Bool × Nat × Nat) × Bool} {J : (Bool × Nat × Nat) × (Bool × Nat × Nat) × Bool × Bool × Bool} (h : Sim S J) (p : Nat) : jbig (jround J p) = sbig (sround S p) ∧ japi (jround J p) = giv (sround S p) := by
 obtain ⟨A, B, x, y, rfl, rfl⟩ := h
 exact rnd_ends
structure ROp (f : (Int × Bool × Nat × Nat) × (Int × Bool × Nat × Nat) × Bool → (Int × Bool × Nat × Nat) × (Int × Bool × Nat × Nat) × Bool → (Int × Bool × Nat × Nat) × (Int × Bool × Nat × Nat) × Bool) (g : (Bool × Nat × Nat) × (Bool × Nat × Nat) × Bool × Bool × Bool → (Bool × Nat × Nat) × (Bool × Nat × Nat) × Bool × Bool × Bool → (Bool × Nat × Nat) × (Bool × Nat × Nat) × Bool × Bool × Bool) : Prop where
 sim : ∀ {S T : (Int × Bool × Nat × Nat) × (Int × Bool × Nat × Nat) × Bool} {J K : (Bool × Nat × Nat) × (Bool × Nat × Nat) × Bool × Bool × Bool}, Sim S J → Sim T K → Sim (f S T) (g J K)
 e1 : ∀ K : (Bool × Nat × Nat) × (Bool × Nat × Nat) × Bool × Bool × Bool, g jnone K = jnone
 e2 : ∀ J : (Bool × Nat × Nat) × (Bool × Nat × Nat) × Bool × Bool × Bool, g J jnone = jnone
 wide : ∀ {J K : (Bool × Nat × Nat) × (Bool × Nat × Nat) × Bool × Bool × Bool}, JGood J → JGood K → JW 400 (g J K)
theorem rop_plus : ROp splus jplus := ⟨Sim.plus, fun _ => rfl, fun J => by unfold jplus; rw [show (jnone : (Bool × Nat × Nat) × (Bool × Nat × Nat) × Bool × Bool × Bool).2.2.2.2 = true from rfl, Bool.or_true]; rfl, fun h h' => JW.plus (by omega) h h'⟩
theorem rop_code {f : (Int × Bool × Nat × Nat) × (Int × Bool × Nat × Nat) × Bool → (Int × Bool × Nat × Nat) × (Int × Bool × Nat × Nat) × Bool → (Int × Bool × Nat × Nat) × (Int × Bool × Nat × Nat) × Bool} {g : (Bool × Nat × Nat) × (Bool × Nat × Nat) × Bool × Bool × Bool → (Bool × Nat × Nat) × (Bool × Nat × Nat) × Bool × Bool × Bool → (Bool × Nat × Nat) × (Bool × Nat × Nat) × Bool × Bool × Bool} (hR : ROp f g) (p : Int) {a b a' b' : Bool × Nat × Nat} {x y x' y' : Bool} (h : (ilarge (a, b, x, y) || ilarge (a', b', x', y')) = false) (hv : prec p = true) :
  rcode p f (a, b, x, y) (a', b', x', y') = (if jbig (jround (g (jof (a, b, x, y)) (jof (a', b', x', y'))) p.toNat) then 1 else 0) ∧
  rval p f (a, b, x, y) (a', b', x', y') = (if jbig (jround (g (jof (a, b, x, y)) (jof (a', b', x', y'))) p.toNat) then gzero else japi (jround (g (jof (a, b, x, y)) (jof (a', b', x', y'))) p.toNat)) := by
 unfold rcode rval b2code b2val
 have hl := h
 rw [Bool.or_eq_false_iff] at hl
 have hl1 : (large a.2.1 a.2.2 || large b.2.1 b.2.2) = false := hl.1
 have hl2 : (large a'.2.1 a'.2.2 || large b'.2.1 b'.2.2) = false := hl.2
 rw [Bool.or_eq_false_iff] at hl1 hl2
 rw [h, hv]
 cases he : (srd (a, b, x, y)).2.2
 ·cases he' : (srd (a', b', x', y')).2.2
  ·have hs := (hR.sim (Sim.of he) (Sim.of he')).rnd p.toNat
   rw [hs.1, hs.2]
   exact ⟨rfl, rfl⟩
  ·rw [jof_out he', hR.e2, jbig_none]
   refine ⟨rfl, ?_⟩
   show giv (srd (a', b', x', y')) = _
   rw [giv_srd hl2.1 hl2.2, jof_out he']
   rfl
 ·rw [jof_out he, hR.e1, jbig_none]
  refine ⟨rfl, ?_⟩
  show giv (srd (a, b, x, y)) = _
  rw [giv_srd hl1.1 hl1.2, jof_out he]
  rfl
theorem prec_nat {k : Nat} (hk : k ≤ 128) : prec (k : Int) = true := by
 unfold prec
 rw [Bool.and_eq_true, decide_eq_true_eq, decide_eq_true_eq]
 omega
theorem JGood.small {r : (Bool × Nat × Nat) × (Bool × Nat × Nat) × Bool × Bool × Bool} (h : JGood r) : jbig r = false := by
 rcases h.shape with rfl | ⟨A, B, x, y, hA, hB, _, rfl⟩
 ·show (big 0 0 || big 0 0) = false
  rw [big_zero]; rfl
 ·cases x <;> cases y
  ·show (big A.2.1 A.2.2 || big B.2.1 B.2.2) = false
   rw [w64_not_big (hA rfl).2.1 (hA rfl).2.2, w64_not_big (hB rfl).2.1 (hB rfl).2.2]; rfl
  ·show (big A.2.1 A.2.2 || big 0 0) = false
   rw [w64_not_big (hA rfl).2.1 (hA rfl).2.2, big_zero]; rfl
  ·show (big 0 0 || big B.2.1 B.2.2) = false
   rw [w64_not_big (hB rfl).2.1 (hB rfl).2.2, big_zero]; rfl
  ·show (big 0 0 || big 0 0) = false
   rw [big_zero]; rfl
theorem round_cases (a b : Bool × Nat × Nat) (x y : Bool) {k : Nat} (hk : k ≤ 128) :
  ocode (prec (k : Int)) (srnd (k : Int)) (a, b, x, y) = 1 ∨ (large a.2.1 a.2.2 = false ∧ large b.2.1 b.2.2 = false ∧ ocode (prec (k : Int)) (srnd (k : Int)) (a, b, x, y) = 0 ∧ JGood (jround (jof (a, b, x, y)) k) ∧ oval (prec (k : Int)) (srnd (k : Int)) (a, b, x, y) = japi (jround (jof (a, b, x, y)) k)) := by
 have hp := prec_nat hk
 unfold ocode oval
 rw [hp]
 cases hL : (large a.2.1 a.2.2 || large b.2.1 b.2.2)
 ·have hla : ilarge (a, b, x, y) = false := hL
  rw [Bool.or_eq_false_iff] at hL
  rw [hla]
  cases he : (srd (a, b, x, y)).2.2
  ·cases hb : sbig (srnd (k : Int) (srd (a, b, x, y)))
   ·right
    have hs := rnd_same (x := x) (y := y) k he
    have hb' : jbig (jround (jof (a, b, x, y)) k) = false := hs.1.trans hb
    exact ⟨hL.1, hL.2, rfl, ((JGood.of (x := x) (y := y) hL.1 hL.2).fr (by rw [jof_in he])).round k hb', hs.2.symm⟩
   ·exact .inl rfl
  ·right
   have ej := jof_out he
   refine ⟨hL.1, hL.2, rfl, ?_, ?_⟩
   ·rw [ej]; exact .inl rfl
   ·show giv (srd (a, b, x, y)) = _
    rw [giv_srd hL.1 hL.2, ej]
    rfl
 ·have hla : ilarge (a, b, x, y) = true := hL
  rw [hla]
  exact .inl rfl
theorem iRound_on (s1 : Bool) (p1 : Option Addr) (k1 c1 : Nat) (q1 : Option Addr) (l1 d1 : Nat) (sz1 : Bool) (pz1 : Option Addr) (kz1 cz1 : Nat) (qz1 : Option Addr) (lz1 dz1 : Nat) (x1 : Bool) (y1 : Bool) (r : (Bool × Nat × Nat) × (Bool × Nat × Nat) × Bool × Bool × Bool) (k : Nat) (hk : k ≤ 128) (w : World) (h : JArg w (.agg #[.bool s1, .slice p1 k1 c1, .slice q1 l1 d1, .bool sz1, .slice pz1 kz1 cz1, .slice qz1 lz1 dz1, .bool x1, .bool y1]) r) (hr : jround r k = r) (ht : TabOk w) :
  Calls Tryz.prog 41 #[.agg #[.bool s1, .slice p1 k1 c1, .slice q1 l1 d1, .bool sz1, .slice pz1 kz1 cz1, .slice qz1 lz1 dz1, .bool x1, .bool y1], .int .i64 (k : Int)] w fun e w' => ∃ s5 p5 k5 c5 q5 l5 d5 sz5 pz5 kz5 cz5 qz5 lz5 dz5 x5 y5, e = .returned (.tuple #[.agg #[.bool s5, .slice p5 k5 c5, .slice q5 l5 d5, .bool sz5, .slice pz5 kz5 cz5, .slice qz5 lz5 dz5, .bool x5, .bool y5], .int .i64 0]) ∧ Hid (GRep w' (.agg #[.bool s5, .slice p5 k5 c5, .slice q5 l5 d5, .bool sz5, .slice pz5 kz5 cz5, .slice qz5 lz5 dz5, .bool x5, .bool y5]) (japi r)) ∧ Below w.heap.size w w' := by
 have hg := h.good
 obtain ⟨s4, p4, k4, c4, q4, l4, d4, sz4, pz4, kz4, cz4, qz4, lz4, dz4, x4, y4, hv, a, b, h1, h2, h3, h4, rfl⟩ := h
 rw [hv]
 have hc := iRound_any s4 p4 k4 c4 q4 l4 d4 sz4 pz4 kz4 cz4 qz4 lz4 dz4 x4 y4 a b (k : Int) w h1 h2 ht
 have key : ocode (prec (k : Int)) (srnd (k : Int)) (a, b, x4, y4) = 0 := by
  have hs := hg.small
  have hp := prec_nat hk
  unfold ocode
  rw [hp]
  have hla : ilarge (a, b, x4, y4) = false := by show (large a.2.1 a.2.2 || large b.2.1 b.2.2) = false; rw [h3, h4]; rfl
  rw [hla]
  cases he : (srd (a, b, x4, y4)).2.2
  ·have hs2 := (rnd_same (x := x4) (y := y4) k he).1
   rw [hr, hs] at hs2
   have : sbig (srnd (k : Int) (srd (a, b, x4, y4))) = false := hs2.symm
   rw [this]
   rfl
  ·rfl
 rcases round_cases a b x4 y4 hk with h5 | ⟨_, _, _, _, h6⟩
 ·rw [key] at h5; exact absurd h5 (by decide)
 ·rw [key, h6, hr] at hc
  exact hc
theorem iRound_J (s1 : Bool) (p1 : Option Addr) (k1 c1 : Nat) (q1 : Option Addr) (l1 d1 : Nat) (sz1 : Bool) (pz1 : Option Addr) (kz1 cz1 : Nat) (qz1 : Option Addr) (lz1 dz1 : Nat) (x1 : Bool) (y1 : Bool) (a b : Bool × Nat × Nat) (k : Nat) (R : (Bool × Nat × Nat) × (Bool × Nat × Nat) × Bool × Bool × Bool) (w : World) (ha : NRep w (.agg #[.bool s1, .slice p1 k1 c1, .slice q1 l1 d1]) a) (hb : NRep w (.agg #[.bool sz1, .slice pz1 kz1 cz1, .slice qz1 lz1 dz1]) b) (h0 : ocode (prec (k : Int)) (srnd (k : Int)) (a, b, x1, y1) = 0) (hv : oval (prec (k : Int)) (srnd (k : Int)) (a, b, x1, y1) = japi R) (ht : TabOk w) :
  Calls Tryz.prog 41 #[.agg #[.bool s1, .slice p1 k1 c1, .slice q1 l1 d1, .bool sz1, .slice pz1 kz1 cz1, .slice qz1 lz1 dz1, .bool x1, .bool y1], .int .i64 (k : Int)] w fun e w' => ∃ s5 p5 k5 c5 q5 l5 d5 sz5 pz5 kz5 cz5 qz5 lz5 dz5 x5 y5, e = .returned (.tuple #[.agg #[.bool s5, .slice p5 k5 c5, .slice q5 l5 d5, .bool sz5, .slice pz5 kz5 cz5, .slice qz5 lz5 dz5, .bool x5, .bool y5], .int .i64 0]) ∧ Hid (GRep w' (.agg #[.bool s5, .slice p5 k5 c5, .slice q5 l5 d5, .bool sz5, .slice pz5 kz5 cz5, .slice qz5 lz5 dz5, .bool x5, .bool y5]) (japi R)) ∧ Below w.heap.size w w' := by
 have hc := iRound_any s1 p1 k1 c1 q1 l1 d1 sz1 pz1 kz1 cz1 qz1 lz1 dz1 x1 y1 a b (k : Int) w ha hb ht
 rw [h0, hv] at hc
 exact hc
theorem add_cases (a b a' b' : Bool × Nat × Nat) (x y x' y' : Bool) {k : Nat} (hk : k ≤ 128) (h1 : large a.2.1 a.2.2 = false) (h2 : large b.2.1 b.2.2 = false) (h3 : large a'.2.1 a'.2.2 = false) (h4 : large b'.2.1 b'.2.2 = false) :
  rcode (k : Int) splus (a, b, x, y) (a', b', x', y') = 1 ∨ (rcode (k : Int) splus (a, b, x, y) (a', b', x', y') = 0 ∧ JGood (jround (jplus (jof (a, b, x, y)) (jof (a', b', x', y'))) k) ∧ rval (k : Int) splus (a, b, x, y) (a', b', x', y') = japi (jround (jplus (jof (a, b, x, y)) (jof (a', b', x', y'))) k)) := by
 have hc := rop_code rop_plus (k : Int) (small2 (x := x) (y := y) (x' := x') (y' := y') h1 h2 h3 h4) (prec_nat hk)
 have hw := rop_plus.wide (JGood.of (x := x) (y := y) h1 h2) (JGood.of (x := x') (y := y') h3 h4)
 rw [hc.1, hc.2, Int.toNat_natCast]
 cases hb : jbig (jround (jplus (jof (a, b, x, y)) (jof (a', b', x', y'))) k)
 ·right
  refine ⟨rfl, ?_, rfl⟩
  rcases hw with e | ⟨hf, _⟩
  ·rw [e]; exact .inl rfl
  ·exact hf.round k hb
 ·exact .inl rfl
theorem jround_twiceW {r : (Bool × Nat × Nat) × (Bool × Nat × Nat) × Bool × Bool × Bool} (h : JW 400 r) (p : Nat) : jround (jround r p) p = jround r p := by
 rcases h with rfl | ⟨⟨he, hl, hh, _⟩, _, _⟩
 ·rfl
 ·obtain ⟨A, B, x, y, e⟩ := r
  have he' : e = false := he
  subst he'
  have r1 : ∀ (a b : Bool × Nat × Nat) (u v : Bool), jround (a, b, u, v, false) p = (if u then a else gdn a p, if v then b else gup b p, u, v, false) := fun _ _ _ _ => rfl
  rw [r1, r1]
  have k1 : x = false → gdn (gdn A p) p = gdn A p := fun u => by
   rcases hl with ⟨g, _⟩ | ⟨_, g⟩
   ·exact absurd (u.symm.trans g) (by decide)
   ·exact gdn_twice p g.pos
  have k2 : y = false → gup (gup B p) p = gup B p := fun u => by
   rcases hh with ⟨g, _⟩ | ⟨_, g⟩
   ·exact absurd (u.symm.trans g) (by decide)
   ·exact gup_twice p g.pos
  cases x <;> cases y
  ·show (gdn (gdn A p) p, gup (gup B p) p, false, false, false) = (gdn A p, gup B p, false, false, false)
   rw [k1 rfl, k2 rfl]
  ·show (gdn (gdn A p) p, B, false, true, false) = (gdn A p, B, false, true, false)
   rw [k1 rfl]
  ·show (A, gup (gup B p) p, true, false, false) = (A, gup B p, true, false, false)
   rw [k2 rfl]
  ·rfl
end Go.Proofs.YtimjoejkjgklaaaGreatDoor
