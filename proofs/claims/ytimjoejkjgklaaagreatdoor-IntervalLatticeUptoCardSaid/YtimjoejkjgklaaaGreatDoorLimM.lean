/- The lesser and the greater ones of two sets: the mathematics. -/
import Derived.Test.YtimjoejkjgklaaaGreatDoorOrd
import Derived.Test.YtimjoejkjgklaaaGreatDoorBthI
import Derived.Test.YtimjoejkjgklaaaGreatDoorIsJ
import Derived.Test.YtimjoejkjgklaaaGreatDoorMkI
import Derived.Test.YtimjoejkjgklaaaGreatDoorBothI
import Derived.WalkSmall
import Derived.Test.YtimjoejkjgklaaaGreatDoorHasU
namespace Go.Proofs.YtimjoejkjgklaaaGreatDoor
open Go.RowKit Dg
def jcode2 (a a' : (Bool × Nat × Nat) × (Bool × Nat × Nat) × Bool × Bool) : Int := if ilarge a || ilarge a' then 1 else 0
def jval2 (g : (Bool × Nat × Nat) × (Bool × Nat × Nat) × Bool × Bool × Bool → (Bool × Nat × Nat) × (Bool × Nat × Nat) × Bool × Bool × Bool → (Bool × Nat × Nat) × (Bool × Nat × Nat) × Bool × Bool × Bool) (a a' : (Bool × Nat × Nat) × (Bool × Nat × Nat) × Bool × Bool) : (Bool × Nat × Nat) × (Bool × Nat × Nat) × Bool × Bool := if ilarge a || ilarge a' then gzero else japi (g (jof a) (jof a'))
theorem QFit.qmin {s t : Bool × Nat × Nat} (hs : QFit s) (ht : QFit t) : QFit (qmin s t) := by unfold Go.Proofs.YtimjoejkjgklaaaGreatDoor.qmin; split <;> assumption
theorem QFit.qmax {s t : Bool × Nat × Nat} (hs : QFit s) (ht : QFit t) : QFit (qmax s t) := by unfold Go.Proofs.YtimjoejkjgklaaaGreatDoor.qmax; split <;> assumption
theorem ecmp_fin2 (a b : Bool × Nat × Nat) : ecmp (0, a) (0, b) = fcmp a b := by unfold ecmp; simp
theorem emin_fin2 (a b : Bool × Nat × Nat) : emin (0, a) (0, b) = (0, qmin a b) := by
 unfold emin Go.Proofs.YtimjoejkjgklaaaGreatDoor.qmin
 rw [ecmp_fin2]
 split <;> rfl
theorem emax_fin2 (a b : Bool × Nat × Nat) : emax (0, a) (0, b) = (0, qmax a b) := by
 unfold emax Go.Proofs.YtimjoejkjgklaaaGreatDoor.qmax
 rw [ecmp_fin2]
 split <;> rfl
def SimQ (S : (Int × Bool × Nat × Nat) × (Int × Bool × Nat × Nat) × Bool) (J : (Bool × Nat × Nat) × (Bool × Nat × Nat) × Bool × Bool × Bool) : Prop := ∃ A B x y, (x = false → QFit A) ∧ (y = false → QFit B) ∧ S = (if x then (-1, false, 0, 0) else (0, A), if y then (1, false, 0, 0) else (0, B), false) ∧ J = (if x then (false, 0, 0) else A, if y then (false, 0, 0) else B, x, y, false)
theorem SimQ.of {a b : Bool × Nat × Nat} {x y : Bool} (h1 : large a.2.1 a.2.2 = false) (h2 : large b.2.1 b.2.2 = false) (he : (srd (a, b, x, y)).2.2 = false) : SimQ (srd (a, b, x, y)) (jof (a, b, x, y)) := by
 refine ⟨fr a, fr b, x, y, fun _ => QFit.of h1, fun _ => QFit.of h2, ?_, jof_in he⟩
 have e : srd (a, b, x, y) = ((srd (a, b, x, y)).1, (srd (a, b, x, y)).2.1, (srd (a, b, x, y)).2.2) := rfl
 rw [e, he]
 rfl
theorem SimQ.api {S : (Int × Bool × Nat × Nat) × (Int × Bool × Nat × Nat) × Bool} {J : (Bool × Nat × Nat) × (Bool × Nat × Nat) × Bool × Bool × Bool} (h : SimQ S J) : giv S = japi J ∧ sbig S = false := by
 obtain ⟨A, B, x, y, hA, hB, rfl, rfl⟩ := h
 have ebA : x = false → ebig (0, A) = false := by
  intro hx
  show (true && big A.2.1 A.2.2) = false
  exact w64_not_big (hA hx).2.1 (hA hx).2.2
 have ebB : y = false → ebig (0, B) = false := by
  intro hy
  show (true && big B.2.1 B.2.2) = false
  exact w64_not_big (hB hy).2.1 (hB hy).2.2
 cases x <;> cases y
 ·refine ⟨?_, ?_⟩
  ·show (outF A, outF B, false, false) = (jrat A, jrat B, false, false)
   rw [(hA rfl).jrat, (hB rfl).jrat]
  ·show (ebig (0, A) || ebig (0, B)) = false
   rw [ebA rfl, ebB rfl]; rfl
 ·refine ⟨?_, ?_⟩
  ·show (outF A, (false, 0, 0), false, true) = (jrat A, jrat (false, 0, 0), false, true)
   rw [(hA rfl).jrat, jrat_zero]
  ·show (ebig (0, A) || false) = false
   rw [ebA rfl]; rfl
 ·refine ⟨?_, ?_⟩
  ·show ((false, 0, 0), outF B, true, false) = (jrat (false, 0, 0), jrat B, true, false)
   rw [(hB rfl).jrat, jrat_zero]
  ·show (false || ebig (0, B)) = false
   rw [ebB rfl]; rfl
 ·refine ⟨?_, rfl⟩
  show ((false, 0, 0), (false, 0, 0), true, true) = (jrat (false, 0, 0), jrat (false, 0, 0), true, true)
  rw [jrat_zero]
theorem fcmp_swap_pos (a b : Bool × Nat × Nat) : (0 < fcmp a b) ↔ (fcmp b a < 0) := by
 unfold fcmp cmpI
 generalize sv a.1 a.2.1 * (b.2.2 : Int) = u
 generalize sv b.1 b.2.1 * (a.2.2 : Int) = v
 by_cases h1 : u < v
 ·rw [if_pos h1]
  by_cases h2 : v < u
  ·omega
  ·rw [if_neg h2, if_pos h1]; omega
 ·rw [if_neg h1]
  by_cases h2 : v < u
  ·rw [if_pos h2]; omega
  ·rw [if_neg h2, if_neg h1]; omega
theorem JGood.shape {r : (Bool × Nat × Nat) × (Bool × Nat × Nat) × Bool × Bool × Bool} (h : JGood r) : r = jnone ∨ ∃ A B x y, (x = false → QFit A) ∧ (y = false → QFit B) ∧ (x = false → y = false → fcmp A B ≤ 0) ∧ r = (if x then (false, 0, 0) else A, if y then (false, 0, 0) else B, x, y, false) := by
 rcases h with h | ⟨he, hl, hh, ho⟩
 ·exact .inl h
 ·obtain ⟨A, B, x, y, e⟩ := r
  have he' : e = false := he
  subst he'
  refine .inr ⟨A, B, x, y, ?_, ?_, ?_, ?_⟩
  ·intro hx
   rcases hl with ⟨g, _⟩ | ⟨_, g⟩
   ·exact absurd (hx.symm.trans g) (by decide)
   ·exact g
  ·intro hx
   rcases hh with ⟨g, _⟩ | ⟨_, g⟩
   ·exact absurd (hx.symm.trans g) (by decide)
   ·exact g
  ·exact ho
  ·rcases hl with ⟨g, g'⟩ | ⟨g, _⟩ <;> rcases hh with ⟨k, k'⟩ | ⟨k, _⟩
   all_goals
    simp only at g k
    subst g k
    try simp only at g'
    try simp only at k'
    try subst g'
    try subst k'
    rfl
theorem fcmp_selfM (t : Bool × Nat × Nat) : fcmp t t = 0 := by unfold fcmp cmpI; simp
theorem qmin_l {a b : Bool × Nat × Nat} (_ha : QFit a) (_hb : QFit b) : fcmp (qmin a b) a ≤ 0 := by
 unfold Go.Proofs.YtimjoejkjgklaaaGreatDoor.qmin
 split
 case isTrue h => omega
 case isFalse h => rw [fcmp_selfM]; omega
theorem fle3 {a b c : Bool × Nat × Nat} (ha : QFit a) (hb : QFit b) (hc : QFit c) (h : fcmp a b ≤ 0) (h' : fcmp b c ≤ 0) : fcmp a c ≤ 0 := fcmp_trans ha.1.pos hb.1.pos hc.1.pos h h'
theorem jcode2_small {a b a' b' : Bool × Nat × Nat} {x y x' y' : Bool} (h : jcode2 (a, b, x, y) (a', b', x', y') = 0) : (ilarge (a, b, x, y) || ilarge (a', b', x', y')) = false := by
 unfold jcode2 at h
 cases hl : (ilarge (a, b, x, y) || ilarge (a', b', x', y'))
 ·rfl
 ·rw [hl] at h; exact absurd h (by decide)
theorem jop_ok {g : (Bool × Nat × Nat) × (Bool × Nat × Nat) × Bool × Bool × Bool → (Bool × Nat × Nat) × (Bool × Nat × Nat) × Bool × Bool × Bool → (Bool × Nat × Nat) × (Bool × Nat × Nat) × Bool × Bool × Bool} (hg : ∀ {J K : (Bool × Nat × Nat) × (Bool × Nat × Nat) × Bool × Bool × Bool}, JGood J → JGood K → JGood (g J K)) {a b a' b' : Bool × Nat × Nat} {x y x' y' : Bool} (h : jcode2 (a, b, x, y) (a', b', x', y') = 0) : ∃ r, JGood r ∧ jval2 g (a, b, x, y) (a', b', x', y') = japi r := by
 have hl := jcode2_small h
 have hv : jval2 g (a, b, x, y) (a', b', x', y') = japi (g (jof (a, b, x, y)) (jof (a', b', x', y'))) := by unfold jval2; rw [hl]; rfl
 rw [Bool.or_eq_false_iff] at hl
 have hl1 : (large a.2.1 a.2.2 || large b.2.1 b.2.2) = false := hl.1
 have hl2 : (large a'.2.1 a'.2.2 || large b'.2.1 b'.2.2) = false := hl.2
 rw [Bool.or_eq_false_iff] at hl1 hl2
 exact ⟨_, hg (JGood.of hl1.1 hl1.2) (JGood.of hl2.1 hl2.2), hv⟩
theorem jop_err {g : (Bool × Nat × Nat) × (Bool × Nat × Nat) × Bool × Bool × Bool → (Bool × Nat × Nat) × (Bool × Nat × Nat) × Bool × Bool × Bool → (Bool × Nat × Nat) × (Bool × Nat × Nat) × Bool × Bool × Bool} (a a' : (Bool × Nat × Nat) × (Bool × Nat × Nat) × Bool × Bool) (h : jcode2 a a' ≠ 0) : jval2 g a a' = gzero := by
 unfold jcode2 at h
 unfold jval2
 split
 ·rfl
 case isFalse h1 => rw [if_neg h1] at h; exact absurd rfl h
theorem jnone_or (J : (Bool × Nat × Nat) × (Bool × Nat × Nat) × Bool × Bool × Bool) : (J.2.2.2.2 || (jnone : (Bool × Nat × Nat) × (Bool × Nat × Nat) × Bool × Bool × Bool).2.2.2.2) = true := by rw [show (jnone : (Bool × Nat × Nat) × (Bool × Nat × Nat) × Bool × Bool × Bool).2.2.2.2 = true from rfl, Bool.or_true]
end Go.Proofs.YtimjoejkjgklaaaGreatDoor
