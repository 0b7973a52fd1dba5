/- Rounding of both sides: the mathematics. Round of both sides. Roots of both sides: the mathematics. -/
import Derived.Test.YtheojajaefjecaaGreatDoorRndJ
import Derived.Test.YtheojajaefjecaaGreatDoorGrd
import Derived.Test.YtheojajaefjecaaGreatDoorRooI
namespace Go.Proofs.YtheojajaefjecaaGreatDoor
open Go.RowKit Dg
def JFr (r : (Bool × Nat × Nat) × (Bool × Nat × Nat) × Bool × Bool × Bool) : Prop := r.2.2.2.2 = false ∧ ((r.2.2.1 = true ∧ r.1 = (false, 0, 0)) ∨ (r.2.2.1 = false ∧ IsFr r.1)) ∧ ((r.2.2.2.1 = true ∧ r.2.1 = (false, 0, 0)) ∨ (r.2.2.2.1 = false ∧ IsFr r.2.1)) ∧ (r.2.2.1 = false → r.2.2.2.1 = false → fcmp r.1 r.2.1 ≤ 0)
theorem JGood.fr {r : (Bool × Nat × Nat) × (Bool × Nat × Nat) × Bool × Bool × Bool} (h : JGood r) (he : r.2.2.2.2 = false) : JFr r := by
 rcases h with rfl | ⟨h1, h2, h3, h4⟩
 ·exact absurd he (by decide)
 ·exact ⟨h1, h2.imp id (fun h => ⟨h.1, h.2.1⟩), h3.imp id (fun h => ⟨h.1, h.2.1⟩), h4⟩
theorem QFit.of_small {t : Bool × Nat × Nat} (h : IsFr t) (hb : big t.2.1 t.2.2 = false) : QFit t := by
 unfold big at hb
 rw [decide_eq_false_iff_not] at hb
 exact ⟨h, by omega, by omega⟩
end Go.Proofs.YtheojajaefjecaaGreatDoor
namespace Go.Proofs.YtheojajaefjecaaGreatDoor
open Go.RowKit Dg
theorem big_zero : big 0 0 = false := by decide +kernel
theorem oval_err (v : Bool) (f : (Int × Bool × Nat × Nat) × (Int × Bool × Nat × Nat) × Bool → (Int × Bool × Nat × Nat) × (Int × Bool × Nat × Nat) × Bool) (a b : Bool × Nat × Nat) (x y : Bool) (h : ocode v f (a, b, x, y) ≠ 0) : oval v f (a, b, x, y) = gzero := by
 unfold ocode at h
 unfold oval
 split
 ·rfl
 case isFalse h1 =>
  rw [if_neg h1] at h
  split
  case isTrue h2 =>
   rw [if_pos h2] at h
   split
   case isTrue h3 => rw [if_pos h3] at h; exact absurd rfl h
   case isFalse h3 =>
    rw [if_neg h3] at h
    split
    ·rfl
    case isFalse h4 => rw [if_neg h4] at h; exact absurd rfl h
  ·rfl
end Go.Proofs.YtheojajaefjecaaGreatDoor

namespace Go.Proofs.YtheojajaefjecaaGreatDoor
open Go.RowKit Dg
noncomputable def jroot (r : (Bool × Nat × Nat) × (Bool × Nat × Nat) × Bool × Bool × Bool) (n p : Nat) : (Bool × Nat × Nat) × (Bool × Nat × Nat) × Bool × Bool × Bool := if r.2.2.2.2 then r else (if r.2.2.1 then r.1 else grdn r.1 n p, if r.2.2.2.1 then r.2.1 else grup r.2.1 n p, r.2.2.1, r.2.2.2.1, false)
theorem gsz_mono {a b : Bool × Nat × Nat} {n p : Nat} (hn : 0 < n) (ha : 0 < a.2.2) (hb : 0 < b.2.2) (h : a.2.1 * b.2.2 ≤ b.2.1 * a.2.2) : gsz a n p ≤ gsz b n p := by
 have h1 := gsz_lo a (p := p) hn ha
 have h2 := gsz_hi b (p := p) hn hb
 generalize gsz a n p = x at *
 generalize gsz b n p = y at *
 generalize 2 ^ (n * p) = P at *
 have h3 : x ^ n * (a.2.2 * b.2.2) < (y + 1) ^ n * (a.2.2 * b.2.2) := by
  calc x ^ n * (a.2.2 * b.2.2) = x ^ n * a.2.2 * b.2.2 := (Nat.mul_assoc _ _ _).symm
   _ ≤ a.2.1 * P * b.2.2 := Nat.mul_le_mul_right _ h1
   _ = a.2.1 * b.2.2 * P := by rw [Nat.mul_assoc, Nat.mul_comm P, ← Nat.mul_assoc]
   _ ≤ b.2.1 * a.2.2 * P := Nat.mul_le_mul_right _ h
   _ = b.2.1 * P * a.2.2 := by rw [Nat.mul_assoc, Nat.mul_comm a.2.2, ← Nat.mul_assoc]
   _ < (y + 1) ^ n * b.2.2 * a.2.2 := Nat.mul_lt_mul_of_pos_right h2 ha
   _ = (y + 1) ^ n * (a.2.2 * b.2.2) := by rw [Nat.mul_assoc, Nat.mul_comm b.2.2]
 have h4 : x ^ n < (y + 1) ^ n := Nat.lt_of_mul_lt_mul_right h3
 rcases Nat.lt_or_ge x (y + 1) with h | h
 ·omega
 ·exact absurd (Nat.pow_le_pow_left h n) (by omega)
theorem fcmp_grid {s s' : Bool} {m m' P : Nat} (hP : 0 < P) (h : sv s m ≤ sv s' m') : fcmp (frac s m P) (frac s' m' P) ≤ 0 := by
 have hq : (0 : Int) < (P : Int) := by omega
 have F1 : FQ (frac s m P) (sv s m) (P : Int) := frac_FQ hP (by omega) rfl
 have F2 : FQ (frac s' m' P) (sv s' m') (P : Int) := frac_FQ hP (by omega) rfl
 rw [fcmp_Q F1 F2 hq hq, cmpI_nonpos]
 exact Int.mul_le_mul_of_nonneg_right h (Int.le_of_lt hq)
theorem root_le {a b : Bool × Nat × Nat} {n p : Nat} (hn : 0 < n) (ha : IsFr a) (hb : IsFr b) (h : fcmp a b ≤ 0) : fcmp (grdn a n p) (grup b n p) ≤ 0 := by
 rw [fcmp_nonpos] at h
 have pa := ha.pos
 have pb := hb.pos
 have zb := hb.zs
 unfold grdn grup
 refine fcmp_grid (Nat.pow_pos (by decide)) ?_
 have mab := gsz_mono (a := a) (b := b) (n := n) (p := p) hn pa pb
 have mba := gsz_mono (a := b) (b := a) (n := n) (p := p) hn pb pa
 generalize gsz a n p = x at *
 generalize gsz b n p = y at *
 generalize gex a n p = ea
 generalize gex b n p = eb
 have e1 : ((a.2.1 * b.2.2 : Nat) : Int) = (a.2.1 : Int) * (b.2.2 : Int) := Int.natCast_mul _ _
 have e2 : ((b.2.1 * a.2.2 : Nat) : Int) = (b.2.1 : Int) * (a.2.2 : Int) := Int.natCast_mul _ _
 cases hsa : a.1 <;> cases hsb : b.1 <;> rw [hsa, hsb] at h <;> unfold sv at h ⊢ <;> simp only [Bool.false_eq_true, if_false, if_true, Bool.false_and, Bool.true_and, Bool.not_true, Bool.not_false, Int.neg_mul] at h ⊢
 ·have := mab (by omega)
  split <;> omega
 ·exfalso
  have h0 : b.2.1 * a.2.2 = 0 := by omega
  rcases Nat.mul_eq_zero.1 h0 with h1 | h1
  ·exact absurd (hsb.symm.trans (zb h1)) (by decide)
  ·omega
 ·split <;> split <;> omega
 ·have := mba (by omega)
  split <;> omega
theorem root_ends {A B : Bool × Nat × Nat} {x y : Bool} {n p : Nat} : 
  jbig (jroot (if x then (false, 0, 0) else A, if y then (false, 0, 0) else B, x, y, false) n p) = sbig (sroot (if x then (-1, false, 0, 0) else (0, A), if y then (1, false, 0, 0) else (0, B), false) n p) ∧
  japi (jroot (if x then (false, 0, 0) else A, if y then (false, 0, 0) else B, x, y, false) n p) = giv (sroot (if x then (-1, false, 0, 0) else (0, A), if y then (1, false, 0, 0) else (0, B), false) n p) := by
 have ed : Go.Proofs.YtheojajaefjecaaGreatDoor.jrat (grdn A n p) = outF (grdn A n p) := rat_out (grdn_fr A n p).pos (grdn_fr A n p).zs
 have eu : Go.Proofs.YtheojajaefjecaaGreatDoor.jrat (grup B n p) = outF (grup B n p) := rat_out (grup_fr B n p).pos (grup_fr B n p).zs
 cases x <;> cases y
 ·refine ⟨?_, ?_⟩
  ·show (big (grdn A n p).2.1 (grdn A n p).2.2 || big (grup B n p).2.1 (grup B n p).2.2) = (decide ((0 : Int) = 0) && big (grdn A n p).2.1 (grdn A n p).2.2 || decide ((0 : Int) = 0) && big (grup B n p).2.1 (grup B n p).2.2)
   simp
  ·show (jrat (grdn A n p), jrat (grup B n p), false, false) = (outF (grdn A n p), outF (grup B n p), false, false)
   rw [ed, eu]
 ·refine ⟨?_, ?_⟩
  ·show (big (grdn A n p).2.1 (grdn A n p).2.2 || big 0 0) = (decide ((0 : Int) = 0) && big (grdn A n p).2.1 (grdn A n p).2.2 || decide ((1 : Int) = 0) && big 0 0)
   rw [big_zero]
   simp
  ·show (jrat (grdn A n p), jrat (false, 0, 0), false, true) = (outF (grdn A n p), (false, 0, 0), false, true)
   rw [ed, jrat_zero]
 ·refine ⟨?_, ?_⟩
  ·show (big 0 0 || big (grup B n p).2.1 (grup B n p).2.2) = (decide ((-1 : Int) = 0) && big 0 0 || decide ((0 : Int) = 0) && big (grup B n p).2.1 (grup B n p).2.2)
   rw [big_zero]
   simp
  ·show (jrat (false, 0, 0), jrat (grup B n p), true, false) = ((false, 0, 0), outF (grup B n p), true, false)
   rw [eu, jrat_zero]
 ·refine ⟨?_, ?_⟩
  ·show (big 0 0 || big 0 0) = (decide ((-1 : Int) = 0) && big 0 0 || decide ((1 : Int) = 0) && big 0 0)
   rw [big_zero]
   simp
  ·show (jrat (false, 0, 0), jrat (false, 0, 0), true, true) = ((false, 0, 0), (false, 0, 0), true, true)
   rw [jrat_zero]
theorem root_same {a b : Bool × Nat × Nat} {x y : Bool} (n p : Nat) (he : (srd (a, b, x, y)).2.2 = false) :
  jbig (jroot (jof (a, b, x, y)) n p) = sbig (sroot (srd (a, b, x, y)) n p) ∧ japi (jroot (jof (a, b, x, y)) n p) = giv (sroot (srd (a, b, x, y)) n p) := by
 rw [jof_in he]
 exact root_ends
theorem JFr.root {r : (Bool × Nat × Nat) × (Bool × Nat × Nat) × Bool × Bool × Bool} (h : JFr r) (n p : Nat) (hn : 0 < n) (hb : jbig (jroot r n p) = false) : JGood (jroot r n p) := by
 obtain ⟨he, hl, hh, hc⟩ := h
 unfold jroot at hb ⊢
 rw [he] at hb ⊢
 unfold jbig at hb
 rw [Bool.or_eq_false_iff] at hb
 refine .inr ⟨rfl, ?_, ?_, ?_⟩
 ·rcases hl with ⟨h1, h2⟩ | ⟨h1, h2⟩
  ·exact .inl ⟨h1, by show (if r.2.2.1 then r.1 else grdn r.1 n p) = _; rw [h1, h2]; rfl⟩
  ·refine .inr ⟨h1, ?_⟩
   have hb1 := hb.1
   show QFit (if r.2.2.1 then r.1 else grdn r.1 n p)
   rw [h1] at hb1 ⊢
   exact QFit.of_small (grdn_fr _ n p) hb1
 ·rcases hh with ⟨h1, h2⟩ | ⟨h1, h2⟩
  ·exact .inl ⟨h1, by show (if r.2.2.2.1 then r.2.1 else grup r.2.1 n p) = _; rw [h1, h2]; rfl⟩
  ·refine .inr ⟨h1, ?_⟩
   have hb1 := hb.2
   show QFit (if r.2.2.2.1 then r.2.1 else grup r.2.1 n p)
   rw [h1] at hb1 ⊢
   exact QFit.of_small (grup_fr _ n p) hb1
 ·intro hx hy
  show fcmp (if r.2.2.1 then r.1 else grdn r.1 n p) (if r.2.2.2.1 then r.2.1 else grup r.2.1 n p) ≤ 0
  have hx' : r.2.2.1 = false := hx
  have hy' : r.2.2.2.1 = false := hy
  rw [hx', hy']
  rcases hl with ⟨h1, _⟩ | ⟨_, h1⟩
  ·rw [hx'] at h1; exact absurd h1 (by decide)
  ·rcases hh with ⟨h2, _⟩ | ⟨_, h2⟩
   ·rw [hy'] at h2; exact absurd h2 (by decide)
   ·exact root_le hn h1 h2 (hc hx' hy')
theorem rt_ok (a b : Bool × Nat × Nat) (x y : Bool) (n p : Int) (h : kcode (rvalid n p) (fun x => rdom x n.toNat) 5 (srt n p) (a, b, x, y) = 0) : ∃ r, JGood r ∧ kval (rvalid n p) (fun x => rdom x n.toNat) (srt n p) (a, b, x, y) = japi r := by
 unfold kcode at h
 unfold kval
 cases hk : kon (rvalid n p) (fun x => rdom x n.toNat) (a, b, x, y)
 ·rw [hk] at h
  have h : ocode (rvalid n p) (srt n p) (a, b, x, y) = 0 := h
  show ∃ r, JGood r ∧ oval (rvalid n p) (srt n p) (a, b, x, y) = japi r
  unfold ocode at h
  unfold oval
  cases hL : (large a.2.1 a.2.2 || large b.2.1 b.2.2)
  ·have hla : ilarge (a, b, x, y) = false := hL
   rw [Bool.or_eq_false_iff] at hL
   rw [hla] at h ⊢
   cases hv : rvalid n p
   ·rw [hv] at h; simp at h
   ·rw [hv] at h
    obtain ⟨nn, pr, rfl, rfl, k2, _, _⟩ := rvalid_of hv
    cases he : (srd (a, b, x, y)).2.2
    ·rw [he] at h
     cases hb : sbig (srt (nn : Int) (pr : Int) (srd (a, b, x, y)))
     ·have hs := root_same (x := x) (y := y) nn pr he
      have hb' : jbig (jroot (jof (a, b, x, y)) nn pr) = false := hs.1.trans hb
      refine ⟨_, ((JGood.of (x := x) (y := y) hL.1 hL.2).fr (by rw [jof_in he])).root nn pr (by omega) hb', ?_⟩
      exact hs.2.symm
     ·rw [hb] at h; exact absurd h (by decide)
    ·exact ⟨_, JGood.of (x := x) (y := y) hL.1 hL.2, giv_srd hL.1 hL.2⟩
  ·have hla : ilarge (a, b, x, y) = true := hL
   rw [hla] at h
   simp at h
 ·rw [hk] at h
  exact absurd h (by simp)
theorem kval_err (v : Bool) (k : (Int × Bool × Nat × Nat) × (Int × Bool × Nat × Nat) × Bool → Bool) (c : Int) (f : (Int × Bool × Nat × Nat) × (Int × Bool × Nat × Nat) × Bool → (Int × Bool × Nat × Nat) × (Int × Bool × Nat × Nat) × Bool) (a b : Bool × Nat × Nat) (x y : Bool) (h : kcode v k c f (a, b, x, y) ≠ 0) : kval v k f (a, b, x, y) = gzero := by
 unfold kcode at h
 unfold kval
 cases hk : kon v k (a, b, x, y)
 ·rw [hk] at h
  exact oval_err v f a b x y h
 ·rfl
end Go.Proofs.YtheojajaefjecaaGreatDoor
