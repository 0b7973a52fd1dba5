/- Both, Either, Within, Inside of the reference by their values; the program's are the same. Meet, Hull, Inside of both sides are the same: the mathematics. Sets form a lattice: the mathematics, by whole numbers. Inside and a2 of the laws; arguments by what they denote. Same of the laws on what its arguments denote; the law's parts. The law IntervalLattice. -/
import Derived.Test.YtimjoejkjgklaaaGreatDoorRndI
import Derived.Test.YtimjoejkjgklaaaGreatDoorIsJ
import Derived.Test.YtimjoejkjgklaaaGreatDoorOrd
import Derived.Test.YtimjoejkjgklaaaGreatDoorLimM
import Derived.Test.YtimjoejkjgklaaaGreatDoorAbB
import Derived.Test.YtimjoejkjgklaaaGreatDoorSam
import Derived.Test.YtimjoejkjgklaaaGreatDoorAwake
set_option maxHeartbeats 16000000
set_option maxRecDepth 100000
namespace Go.Proofs.YtimjoejkjgklaaaGreatDoor
open Go.RowKit Dg
def jtl (r t : (Bool × Nat × Nat) × (Bool × Nat × Nat) × Bool × Bool × Bool) : Bool := r.2.2.1 || (!t.2.2.1 && decide (0 < fcmp t.1 r.1))
def jth (r t : (Bool × Nat × Nat) × (Bool × Nat × Nat) × Bool × Bool × Bool) : Bool := r.2.2.2.1 || (!t.2.2.2.1 && decide (fcmp t.2.1 r.2.1 < 0))
def jboth (r t : (Bool × Nat × Nat) × (Bool × Nat × Nat) × Bool × Bool × Bool) : (Bool × Nat × Nat) × (Bool × Nat × Nat) × Bool × Bool × Bool := if r.2.2.2.2 || t.2.2.2.2 then jnone else if !(if jtl r t then t.2.2.1 else r.2.2.1) && !(if jth r t then t.2.2.2.1 else r.2.2.2.1) && decide (0 < fcmp (if jtl r t then t.1 else r.1) (if jth r t then t.2.1 else r.2.1)) then jnone else (if jtl r t then t.1 else r.1, if jth r t then t.2.1 else r.2.1, if jtl r t then t.2.2.1 else r.2.2.1, if jth r t then t.2.2.2.1 else r.2.2.2.1, false)
def jhull (r t : (Bool × Nat × Nat) × (Bool × Nat × Nat) × Bool × Bool × Bool) : (Bool × Nat × Nat) × (Bool × Nat × Nat) × Bool × Bool × Bool := if r.2.2.2.2 then t else if t.2.2.2.2 then r else (if r.2.2.1 || t.2.2.1 then (false, 0, 0) else qmin r.1 t.1, if r.2.2.2.1 || t.2.2.2.1 then (false, 0, 0) else qmax r.2.1 t.2.1, r.2.2.1 || t.2.2.1, r.2.2.2.1 || t.2.2.2.1, false)
def jwithin (r t : (Bool × Nat × Nat) × (Bool × Nat × Nat) × Bool × Bool × Bool) : Bool := if r.2.2.2.2 || t.2.2.2.2 then r.2.2.2.2 else (t.2.2.1 || (!r.2.2.1 && decide (fcmp t.1 r.1 ≤ 0))) && (t.2.2.2.1 || (!r.2.2.2.1 && decide (fcmp r.2.1 t.2.1 ≤ 0)))
def jin2 (a a' : (Bool × Nat × Nat) × (Bool × Nat × Nat) × Bool × Bool) : Bool := if ilarge a || ilarge a' then false else jwithin (jof a) (jof a')
end Go.Proofs.YtimjoejkjgklaaaGreatDoor
namespace Go.Proofs.YtimjoejkjgklaaaGreatDoor
open Go.RowKit Dg
theorem qmax_l (a b : Bool × Nat × Nat) : fcmp a (qmax a b) ≤ 0 := by
 unfold Go.Proofs.YtimjoejkjgklaaaGreatDoor.qmax
 split
 case isTrue h =>
  have := fcmp_swap_pos b a
  omega
 case isFalse h => rw [fcmp_selfM]; omega
theorem jhull_good {J K : (Bool × Nat × Nat) × (Bool × Nat × Nat) × Bool × Bool × Bool} (h : JGood J) (h' : JGood K) : JGood (jhull J K) := by
 rcases h.shape with rfl | ⟨A, B, x, y, hA, hB, ho, rfl⟩
 ·exact h'
 ·rcases h'.shape with rfl | ⟨A', B', x', y', hA', hB', ho', rfl⟩
  ·exact h
  ·clear h h'
   have o3 : x = false → x' = false → y = false → y' = false → fcmp (qmin A A') (qmax B B') ≤ 0 := fun u v t t' =>
    fle3 ((hA u).qmin (hA' v)) (hA u) ((hB t).qmax (hB' t')) (qmin_l (hA u) (hA' v)) (fle3 (hA u) (hB t) ((hB t).qmax (hB' t')) (ho u t) (qmax_l _ _))
   refine .inr ⟨rfl, ?_, ?_, ?_⟩
   ·cases x <;> cases x'
    ·exact .inr ⟨rfl, (hA rfl).qmin (hA' rfl)⟩
    ·exact .inl ⟨rfl, rfl⟩
    ·exact .inl ⟨rfl, rfl⟩
    ·exact .inl ⟨rfl, rfl⟩
   ·cases y <;> cases y'
    ·exact .inr ⟨rfl, (hB rfl).qmax (hB' rfl)⟩
    ·exact .inl ⟨rfl, rfl⟩
    ·exact .inl ⟨rfl, rfl⟩
    ·exact .inl ⟨rfl, rfl⟩
   ·intro u v
    have u' : (x || x') = false := u
    have v' : (y || y') = false := v
    rw [Bool.or_eq_false_iff] at u' v'
    obtain ⟨rfl, rfl⟩ := u'
    obtain ⟨rfl, rfl⟩ := v'
    exact o3 rfl rfl rfl rfl
def jpart (r t : (Bool × Nat × Nat) × (Bool × Nat × Nat) × Bool × Bool × Bool) : (Bool × Nat × Nat) × (Bool × Nat × Nat) × Bool × Bool × Bool := (if jtl r t then t.1 else r.1, if jth r t then t.2.1 else r.2.1, if jtl r t then t.2.2.1 else r.2.2.1, if jth r t then t.2.2.2.1 else r.2.2.2.1, false)
def jbad (r : (Bool × Nat × Nat) × (Bool × Nat × Nat) × Bool × Bool × Bool) : Bool := !r.2.2.1 && !r.2.2.2.1 && decide (0 < fcmp r.1 r.2.1)
theorem jboth_eq {r t : (Bool × Nat × Nat) × (Bool × Nat × Nat) × Bool × Bool × Bool} (h : r.2.2.2.2 = false) (h' : t.2.2.2.2 = false) : jboth r t = if jbad (jpart r t) then jnone else jpart r t := by
 unfold jboth
 rw [h, h']
 rfl
theorem jbad_eq {L U : Bool × Nat × Nat} {u v : Bool} : jbad (if u then (false, 0, 0) else L, if v then (false, 0, 0) else U, u, v, false) = (!u && !v && decide (0 < fcmp L U)) := by
 cases u <;> cases v <;> rfl
theorem jpart_shape {A B A' B' : Bool × Nat × Nat} {x y x' y' : Bool} (hA : x = false → QFit A) (hB : y = false → QFit B) (hA' : x' = false → QFit A') (hB' : y' = false → QFit B') :
  ∃ L U u v, (u = false → QFit L) ∧ (v = false → QFit U) ∧
   jpart (if x then (false, 0, 0) else A, if y then (false, 0, 0) else B, x, y, false) (if x' then (false, 0, 0) else A', if y' then (false, 0, 0) else B', x', y', false) = (if u then (false, 0, 0) else L, if v then (false, 0, 0) else U, u, v, false) ∧
   emax (if x then (-1, false, 0, 0) else (0, A)) (if x' then (-1, false, 0, 0) else (0, A')) = (if u then (-1, false, 0, 0) else (0, L)) ∧
   emin (if y then (1, false, 0, 0) else (0, B)) (if y' then (1, false, 0, 0) else (0, B')) = (if v then (1, false, 0, 0) else (0, U)) := by
 have lo : ∃ L u, (u = false → QFit L) ∧ (if jtl (if x then (false, 0, 0) else A, if y then (false, 0, 0) else B, x, y, false) (if x' then (false, 0, 0) else A', if y' then (false, 0, 0) else B', x', y', false) then (if x' then (false, 0, 0) else A') else (if x then (false, 0, 0) else A)) = (if u then (false, 0, 0) else L) ∧ (if jtl (if x then (false, 0, 0) else A, if y then (false, 0, 0) else B, x, y, false) (if x' then (false, 0, 0) else A', if y' then (false, 0, 0) else B', x', y', false) then x' else x) = u ∧ emax (if x then (-1, false, 0, 0) else (0, A)) (if x' then (-1, false, 0, 0) else (0, A')) = (if u then (-1, false, 0, 0) else (0, L)) := by
  cases x <;> cases x'
  ·refine ⟨qmax A A', false, fun _ => (hA rfl).qmax (hA' rfl), ?_, ?_, emax_fin2 A A'⟩
   ·show (if decide (0 < fcmp A' A) then A' else A) = qmax A A'
    unfold Go.Proofs.YtimjoejkjgklaaaGreatDoor.qmax
    by_cases hp : 0 < fcmp A' A
    ·rw [decide_eq_true hp, if_pos hp]; rfl
    ·rw [decide_eq_false hp, if_neg hp]; rfl
   ·show (if decide (0 < fcmp A' A) then false else false) = false
    split <;> rfl
  ·exact ⟨A, false, fun _ => hA rfl, rfl, rfl, rfl⟩
  ·exact ⟨A', false, fun _ => hA' rfl, rfl, rfl, rfl⟩
  ·exact ⟨A, true, fun h => Bool.noConfusion h, rfl, rfl, rfl⟩
 have hi : ∃ U v, (v = false → QFit U) ∧ (if jth (if x then (false, 0, 0) else A, if y then (false, 0, 0) else B, x, y, false) (if x' then (false, 0, 0) else A', if y' then (false, 0, 0) else B', x', y', false) then (if y' then (false, 0, 0) else B') else (if y then (false, 0, 0) else B)) = (if v then (false, 0, 0) else U) ∧ (if jth (if x then (false, 0, 0) else A, if y then (false, 0, 0) else B, x, y, false) (if x' then (false, 0, 0) else A', if y' then (false, 0, 0) else B', x', y', false) then y' else y) = v ∧ emin (if y then (1, false, 0, 0) else (0, B)) (if y' then (1, false, 0, 0) else (0, B')) = (if v then (1, false, 0, 0) else (0, U)) := by
  cases y <;> cases y'
  ·refine ⟨qmin B B', false, fun _ => (hB rfl).qmin (hB' rfl), ?_, ?_, emin_fin2 B B'⟩
   ·show (if decide (fcmp B' B < 0) then B' else B) = qmin B B'
    unfold Go.Proofs.YtimjoejkjgklaaaGreatDoor.qmin
    by_cases hp : fcmp B' B < 0
    ·rw [decide_eq_true hp, if_pos hp]; rfl
    ·rw [decide_eq_false hp, if_neg hp]; rfl
   ·show (if decide (fcmp B' B < 0) then false else false) = false
    split <;> rfl
  ·exact ⟨B, false, fun _ => hB rfl, rfl, rfl, rfl⟩
  ·exact ⟨B', false, fun _ => hB' rfl, rfl, rfl, rfl⟩
  ·exact ⟨B, true, fun h => Bool.noConfusion h, rfl, rfl, rfl⟩
 obtain ⟨L, u, hL, e1, e2, e3⟩ := lo
 obtain ⟨U, v, hU, f1, f2, f3⟩ := hi
 refine ⟨L, U, u, v, hL, hU, ?_, e3, f3⟩
 rw [← e1, ← f1]
 unfold jpart
 rw [show ((if jtl (if x then (false, 0, 0) else A, if y then (false, 0, 0) else B, x, y, false) (if x' then (false, 0, 0) else A', if y' then (false, 0, 0) else B', x', y', false) then ((if x' then (false, 0, 0) else A', if y' then (false, 0, 0) else B', x', y', false) : (Bool × Nat × Nat) × (Bool × Nat × Nat) × Bool × Bool × Bool).2.2.1 else ((if x then (false, 0, 0) else A, if y then (false, 0, 0) else B, x, y, false) : (Bool × Nat × Nat) × (Bool × Nat × Nat) × Bool × Bool × Bool).2.2.1) = u) from e2,
  show ((if jth (if x then (false, 0, 0) else A, if y then (false, 0, 0) else B, x, y, false) (if x' then (false, 0, 0) else A', if y' then (false, 0, 0) else B', x', y', false) then ((if x' then (false, 0, 0) else A', if y' then (false, 0, 0) else B', x', y', false) : (Bool × Nat × Nat) × (Bool × Nat × Nat) × Bool × Bool × Bool).2.2.2.1 else ((if x then (false, 0, 0) else A, if y then (false, 0, 0) else B, x, y, false) : (Bool × Nat × Nat) × (Bool × Nat × Nat) × Bool × Bool × Bool).2.2.2.1) = v) from f2]
theorem jboth_good {J K : (Bool × Nat × Nat) × (Bool × Nat × Nat) × Bool × Bool × Bool} (h : JGood J) (h' : JGood K) : JGood (jboth J K) := by
 rcases h.shape with rfl | ⟨A, B, x, y, hA, hB, ho, rfl⟩
 ·exact .inl rfl
 ·rcases h'.shape with rfl | ⟨A', B', x', y', hA', hB', ho', rfl⟩
  ·exact .inl rfl
  ·clear h h' ho ho'
   obtain ⟨L, U, u, v, hL, hU, e, _, _⟩ := jpart_shape hA hB hA' hB'
   rw [jboth_eq rfl rfl, e, jbad_eq]
   clear e hA hB hA' hB'
   cases hb : (!u && !v && decide (0 < fcmp L U))
   ·refine .inr ⟨rfl, ?_, ?_, ?_⟩
    ·cases u
     ·exact .inr ⟨rfl, hL rfl⟩
     ·exact .inl ⟨rfl, rfl⟩
    ·cases v
     ·exact .inr ⟨rfl, hU rfl⟩
     ·exact .inl ⟨rfl, rfl⟩
    ·intro g1 g2
     have g1' : u = false := g1
     have g2' : v = false := g2
     subst g1' g2'
     have hn' : decide (0 < fcmp L U) = false := hb
     rw [decide_eq_false_iff_not] at hn'
     show fcmp L U ≤ 0
     omega
   ·exact .inl rfl
theorem SimQ.meet {S T : (Int × Bool × Nat × Nat) × (Int × Bool × Nat × Nat) × Bool} {J K : (Bool × Nat × Nat) × (Bool × Nat × Nat) × Bool × Bool × Bool} (h : SimQ S J) (h' : SimQ T K) : giv (smeet S T) = japi (jboth J K) := by
 obtain ⟨A, B, x, y, hA, hB, rfl, rfl⟩ := h
 obtain ⟨A', B', x', y', hA', hB', rfl, rfl⟩ := h'
 obtain ⟨L, U, u, v, hL, hU, e, e2, e3⟩ := jpart_shape hA hB hA' hB'
 rw [jboth_eq rfl rfl, e, jbad_eq]
 unfold smeet sfrom
 rw [show emax ((if x then ((-1, false, 0, 0) : Int × Bool × Nat × Nat) else (0, A), if y then ((1, false, 0, 0) : Int × Bool × Nat × Nat) else (0, B), false) : (Int × Bool × Nat × Nat) × (Int × Bool × Nat × Nat) × Bool).1 ((if x' then ((-1, false, 0, 0) : Int × Bool × Nat × Nat) else (0, A'), if y' then ((1, false, 0, 0) : Int × Bool × Nat × Nat) else (0, B'), false) : (Int × Bool × Nat × Nat) × (Int × Bool × Nat × Nat) × Bool).1 = (if u then (-1, false, 0, 0) else (0, L)) from e2,
  show emin ((if x then ((-1, false, 0, 0) : Int × Bool × Nat × Nat) else (0, A), if y then ((1, false, 0, 0) : Int × Bool × Nat × Nat) else (0, B), false) : (Int × Bool × Nat × Nat) × (Int × Bool × Nat × Nat) × Bool).2.1 ((if x' then ((-1, false, 0, 0) : Int × Bool × Nat × Nat) else (0, A'), if y' then ((1, false, 0, 0) : Int × Bool × Nat × Nat) else (0, B'), false) : (Int × Bool × Nat × Nat) × (Int × Bool × Nat × Nat) × Bool).2.1 = (if v then (1, false, 0, 0) else (0, U)) from e3]
 clear e e2 e3 hA hB hA' hB'
 have key : decide (0 < ecmp (if u then ((-1, false, 0, 0) : Int × Bool × Nat × Nat) else (0, L)) (if v then ((1, false, 0, 0) : Int × Bool × Nat × Nat) else (0, U))) = (!u && !v && decide (0 < fcmp L U)) := by
  cases u <;> cases v
  ·show decide (0 < ecmp (0, L) (0, U)) = decide (0 < fcmp L U)
   rw [ecmp_fin2]
  ·rfl
  ·rfl
  ·rfl
 rw [key]
 cases hb : (!u && !v && decide (0 < fcmp L U))
 ·have hs : SimQ (if u then ((-1, false, 0, 0) : Int × Bool × Nat × Nat) else (0, L), if v then ((1, false, 0, 0) : Int × Bool × Nat × Nat) else (0, U), false) (if u then (false, 0, 0) else L, if v then (false, 0, 0) else U, u, v, false) := ⟨L, U, u, v, hL, hU, rfl, rfl⟩
  exact hs.api.1
 ·rfl
theorem SimQ.hull {S T : (Int × Bool × Nat × Nat) × (Int × Bool × Nat × Nat) × Bool} {J K : (Bool × Nat × Nat) × (Bool × Nat × Nat) × Bool × Bool × Bool} (h : SimQ S J) (h' : SimQ T K) : giv (shull S T) = japi (jhull J K) := by
 obtain ⟨A, B, x, y, hA, hB, rfl, rfl⟩ := h
 obtain ⟨A', B', x', y', hA', hB', rfl, rfl⟩ := h'
 refine SimQ.api (S := shull _ _) (J := jhull _ _) ?_ |>.1
 refine ⟨qmin A A', qmax B B', x || x', y || y', ?_, ?_, ?_, ?_⟩
 ·intro hx
  rw [Bool.or_eq_false_iff] at hx
  exact (hA hx.1).qmin (hA' hx.2)
 ·intro hx
  rw [Bool.or_eq_false_iff] at hx
  exact (hB hx.1).qmax (hB' hx.2)
 ·unfold shull
  cases x <;> cases x' <;> cases y <;> cases y'
  all_goals
   simp only [if_true, if_false, Bool.false_eq_true, emax_fin2, emin_fin2, Bool.or_false, Bool.or_true]
   try rfl
 ·cases x <;> cases x' <;> cases y <;> cases y' <;> rfl
theorem SimQ.inside {S T : (Int × Bool × Nat × Nat) × (Int × Bool × Nat × Nat) × Bool} {J K : (Bool × Nat × Nat) × (Bool × Nat × Nat) × Bool × Bool × Bool} (h : SimQ S J) (h' : SimQ T K) : sinside S T = jwithin J K := by
 obtain ⟨A, B, x, y, hA, hB, rfl, rfl⟩ := h
 obtain ⟨A', B', x', y', hA', hB', rfl, rfl⟩ := h'
 unfold sinside jwithin
 cases x <;> cases x' <;> cases y <;> cases y'
 all_goals
  simp only [if_true, if_false, Bool.false_eq_true, ecmp_fin2, Bool.or_false, Bool.false_or, Bool.not_false, Bool.true_and, Bool.not_true, Bool.false_and, Bool.true_or]
  try rfl
theorem m2_meet (a b a' b' : Bool × Nat × Nat) (x y x' y' : Bool) : m2val smeet (a, b, x, y) (a', b', x', y') = jval2 jboth (a, b, x, y) (a', b', x', y') := by
 unfold m2val jval2
 cases h : (ilarge (a, b, x, y) || ilarge (a', b', x', y'))
 ·rw [Bool.or_eq_false_iff] at h
  have hl1 : (large a.2.1 a.2.2 || large b.2.1 b.2.2) = false := h.1
  have hl2 : (large a'.2.1 a'.2.2 || large b'.2.1 b'.2.2) = false := h.2
  rw [Bool.or_eq_false_iff] at hl1 hl2
  cases he : (srd (a, b, x, y)).2.2
  ·cases he' : (srd (a', b', x', y')).2.2
   ·exact (SimQ.of hl1.1 hl1.2 he).meet (SimQ.of hl2.1 hl2.2 he')
   ·rw [jof_out he', show jboth (jof (a, b, x, y)) jnone = jnone by unfold jboth; rw [jnone_or]; rfl]
    show giv (srd (a', b', x', y')) = _
    rw [giv_srd hl2.1 hl2.2, jof_out he']
    rfl
  ·rw [jof_out he]
   show giv (srd (a, b, x, y)) = _
   rw [giv_srd hl1.1 hl1.2, jof_out he]
   rfl
 ·rfl
theorem h2_hull (a b a' b' : Bool × Nat × Nat) (x y x' y' : Bool) : h2val (a, b, x, y) (a', b', x', y') = jval2 jhull (a, b, x, y) (a', b', x', y') := by
 unfold h2val jval2
 cases h : (ilarge (a, b, x, y) || ilarge (a', b', x', y'))
 ·rw [Bool.or_eq_false_iff] at h
  have hl1 : (large a.2.1 a.2.2 || large b.2.1 b.2.2) = false := h.1
  have hl2 : (large a'.2.1 a'.2.2 || large b'.2.1 b'.2.2) = false := h.2
  rw [Bool.or_eq_false_iff] at hl1 hl2
  cases he : (srd (a, b, x, y)).2.2
  ·cases he' : (srd (a', b', x', y')).2.2
   ·exact (SimQ.of hl1.1 hl1.2 he).hull (SimQ.of hl2.1 hl2.2 he')
   ·have e1 : shull (srd (a, b, x, y)) (srd (a', b', x', y')) = srd (a, b, x, y) := by unfold shull; rw [he, he']; rfl
    have e2 : jhull (jof (a, b, x, y)) (jof (a', b', x', y')) = jof (a, b, x, y) := by rw [jof_out he', jof_in he]; rfl
    rw [e1, e2]
    exact giv_srd hl1.1 hl1.2
  ·have e1 : shull (srd (a, b, x, y)) (srd (a', b', x', y')) = srd (a', b', x', y') := by unfold shull; rw [he]; rfl
   have e2 : jhull (jof (a, b, x, y)) (jof (a', b', x', y')) = jof (a', b', x', y') := by rw [jof_out he]; rfl
   rw [e1, e2]
   exact giv_srd hl2.1 hl2.2
 ·rfl
theorem inside_empty {a b a' b' : Bool × Nat × Nat} {x y x' y' : Bool} (h1 : large a.2.1 a.2.2 = false) (h2 : large b.2.1 b.2.2 = false) (h3 : large a'.2.1 a'.2.2 = false) (h4 : large b'.2.1 b'.2.2 = false) (he : (srd (a, b, x, y)).2.2 = false) (he' : (srd (a', b', x', y')).2.2 = true) : sinside (srd (a, b, x, y)) (srd (a', b', x', y')) = false := by
 have qa := QFit.of h1
 have qb := QFit.of h2
 have qa' := QFit.of h3
 have qb' := QFit.of h4
 have e0 : decide (0 < ecmp (rdE x (-1) a) (rdE y 1 b)) = false := he
 have e1 : decide (0 < ecmp (rdE x' (-1) a') (rdE y' 1 b')) = true := he'
 rw [decide_eq_false_iff_not] at e0
 rw [decide_eq_true_eq] at e1
 have c1 : x' = false ∧ y' = false := by
  cases x' <;> cases y'
  ·exact ⟨rfl, rfl⟩
  ·have : ecmp (rdE false (-1) a') (rdE true 1 b') = -1 := rfl
   omega
  ·have : ecmp (rdE true (-1) a') (rdE false 1 b') = -1 := rfl
   omega
  ·have : ecmp (rdE true (-1) a') (rdE true 1 b') = -1 := rfl
   omega
 obtain ⟨rfl, rfl⟩ := c1
 have e2 : 0 < fcmp (fr a') (fr b') := by
  have : ecmp (rdE false (-1) a') (rdE false 1 b') = fcmp (fr a') (fr b') := ecmp_fin2 _ _
  omega
 unfold sinside
 rw [he, Bool.false_or]
 rw [Bool.and_eq_false_iff, decide_eq_false_iff_not, decide_eq_false_iff_not]
 show ¬ ecmp (rdE false (-1) a') (rdE x (-1) a) ≤ 0 ∨ ¬ ecmp (rdE y 1 b) (rdE false 1 b') ≤ 0
 cases x
 ·cases y
  ·have k1 : ecmp (rdE false (-1) a') (rdE false (-1) a) = fcmp (fr a') (fr a) := ecmp_fin2 _ _
   have k2 : ecmp (rdE false 1 b) (rdE false 1 b') = fcmp (fr b) (fr b') := ecmp_fin2 _ _
   have k3 : ecmp (rdE false (-1) a) (rdE false 1 b) = fcmp (fr a) (fr b) := ecmp_fin2 _ _
   rw [k1, k2]
   rw [k3] at e0
   apply Decidable.byContradiction
   intro hn
   rw [not_or, Decidable.not_not, Decidable.not_not] at hn
   have := fle3 qa' qa qb' hn.1 (fle3 qa qb qb' (by omega) hn.2)
   omega
  ·right
   have : ecmp (rdE true 1 b) (rdE false 1 b') = 1 := rfl
   omega
 ·left
  have : ecmp (rdE false (-1) a') (rdE true (-1) a) = 1 := rfl
  omega
theorem i2_inside (a b a' b' : Bool × Nat × Nat) (x y x' y' : Bool) : i2val (a, b, x, y) (a', b', x', y') = jin2 (a, b, x, y) (a', b', x', y') := by
 unfold i2val jin2
 cases h : (ilarge (a, b, x, y) || ilarge (a', b', x', y'))
 ·rw [Bool.or_eq_false_iff] at h
  have hl1 : (large a.2.1 a.2.2 || large b.2.1 b.2.2) = false := h.1
  have hl2 : (large a'.2.1 a'.2.2 || large b'.2.1 b'.2.2) = false := h.2
  rw [Bool.or_eq_false_iff] at hl1 hl2
  show sinside (srd (a, b, x, y)) (srd (a', b', x', y')) = jwithin (jof (a, b, x, y)) (jof (a', b', x', y'))
  cases he : (srd (a, b, x, y)).2.2
  ·cases he' : (srd (a', b', x', y')).2.2
   ·exact (SimQ.of hl1.1 hl1.2 he).inside (SimQ.of hl2.1 hl2.2 he')
   ·rw [inside_empty hl1.1 hl1.2 hl2.1 hl2.2 he he', jof_out he', jof_in he]
    rfl
  ·rw [jof_out he]
   unfold sinside
   rw [he]
   rfl
 ·rfl
end Go.Proofs.YtimjoejkjgklaaaGreatDoor
namespace Go.Proofs.YtimjoejkjgklaaaGreatDoor
open Go.RowKit Dg
theorem sv_absL (s : Bool) (n : Nat) : (sv s n).natAbs = n := by
 unfold sv; cases s <;> simp
theorem isFr_lowestL {t : Bool × Nat × Nat} (h : IsFr t) : Nat.gcd t.2.1 t.2.2 = 1 ∧ 0 < t.2.2 ∧ (t.2.1 = 0 → t.1 = false) := by
 obtain ⟨s, n, d, hd, rfl⟩ := h
 exact ⟨frac_gcd hd, frac_pos hd, frac_zero_sign hd⟩
theorem fr_same {x y : Bool × Nat × Nat} (hx : IsFr x) (hy : IsFr y) (h : fcmp x y = 0) : x = y := by
 obtain ⟨gx, px, zx⟩ := isFr_lowestL hx
 obtain ⟨gy, py, zy⟩ := isFr_lowestL hy
 have he : sv x.1 x.2.1 * (y.2.2 : Int) = sv y.1 y.2.1 * (x.2.2 : Int) := by
  unfold fcmp cmpI at h
  split at h
  ·exact absurd h (by decide)
  ·split at h
   ·exact absurd h (by decide)
   ·omega
 have hn : x.2.1 * y.2.2 = y.2.1 * x.2.2 := by
  have := congrArg Int.natAbs he
  rwa [Int.natAbs_mul, Int.natAbs_mul, sv_absL, sv_absL, Int.natAbs_natCast, Int.natAbs_natCast] at this
 have d1 : x.2.2 ∣ y.2.2 := (Nat.Coprime.symm gx).dvd_of_dvd_mul_left ⟨y.2.1, by rw [hn, Nat.mul_comm]⟩
 have d2 : y.2.2 ∣ x.2.2 := (Nat.Coprime.symm gy).dvd_of_dvd_mul_left ⟨x.2.1, by rw [← hn, Nat.mul_comm]⟩
 have hd : x.2.2 = y.2.2 := Nat.dvd_antisymm d1 d2
 rw [hd] at hn he
 have hnn : x.2.1 = y.2.1 := Nat.eq_of_mul_eq_mul_right py hn
 have hs : x.1 = y.1 := by
  have he2 : sv x.1 x.2.1 = sv y.1 y.2.1 := Int.eq_of_mul_eq_mul_right (by omega) he
  rw [hnn] at he2
  rcases Nat.eq_zero_or_pos y.2.1 with h0 | h0
  ·rw [zx (hnn.trans h0), zy h0]
  ·unfold sv at he2
   cases h1 : x.1 <;> cases h2 : y.1 <;> simp [h1, h2] at he2 ⊢ <;> omega
 obtain ⟨a, b, c⟩ := x
 obtain ⟨a', b', c'⟩ := y
 simp only at hs hnn hd
 rw [hs, hnn, hd]
def PQ (D M : Nat) (q : Bool × Nat × Nat) : Prop := QFit q ∧ ∃ c, D = q.2.2 * c ∧ 0 < c ∧ -(M : Int) < sv q.1 q.2.1 * c ∧ sv q.1 q.2.1 * c < (M : Int)
def kq (D : Nat) (q : Bool × Nat × Nat) : Int := sv q.1 q.2.1 * (D / q.2.2 : Nat)
theorem PQ.key {D M : Nat} {q : Bool × Nat × Nat} (h : PQ D M q) : ∃ c, D = q.2.2 * c ∧ 0 < c ∧ kq D q = sv q.1 q.2.1 * c ∧ -(M : Int) < kq D q ∧ kq D q < (M : Int) := by
 obtain ⟨hq, c, hc, h0, h1, h2⟩ := h
 have hd : 0 < q.2.2 := hq.1.pos
 have e : D / q.2.2 = c := by rw [hc]; exact Nat.mul_div_cancel_left c hd
 have ek : kq D q = sv q.1 q.2.1 * c := by unfold kq; rw [e]
 exact ⟨c, hc, h0, ek, by rw [ek]; exact h1, by rw [ek]; exact h2⟩
theorem PQ.le {D M : Nat} {p q : Bool × Nat × Nat} (hp : PQ D M p) (hq : PQ D M q) : fcmp p q ≤ 0 ↔ kq D p ≤ kq D q := by
 obtain ⟨c, hc, h0, ek, _⟩ := hp.key
 obtain ⟨d, hd, g0, el, _⟩ := hq.key
 rw [fcmp_nonpos, ek, el]
 have hD : (p.2.2 : Int) * c = (q.2.2 : Int) * d := by rw [← Int.natCast_mul, ← Int.natCast_mul, ← hc, ← hd]
 have pp : (0 : Int) < p.2.2 := by have := hp.1.1.pos; omega
 have pq : (0 : Int) < q.2.2 := by have := hq.1.1.pos; omega
 have pc : (0 : Int) < c := by omega
 have pd : (0 : Int) < d := by omega
 generalize sv p.1 p.2.1 = s at *
 generalize sv q.1 q.2.1 = t at *
 generalize (p.2.2 : Int) = P at *
 generalize (q.2.2 : Int) = Q at *
 generalize (c : Int) = C at *
 generalize (d : Int) = E at *
 -- s * Q ≤ t * P  ↔  s * C ≤ t * E, as P * C = Q * E
 constructor
 ·intro h
  have h2 : s * Q * C ≤ t * P * C := Int.mul_le_mul_of_nonneg_right h (Int.le_of_lt pc)
  have e1 : s * Q * C = s * C * Q := by rw [Int.mul_assoc, Int.mul_comm Q C, ← Int.mul_assoc]
  have e2 : t * P * C = t * E * Q := by rw [Int.mul_assoc, hD, Int.mul_comm Q E, ← Int.mul_assoc]
  rw [e1, e2] at h2
  exact Int.le_of_mul_le_mul_right h2 pq
 ·intro h
  have h2 : s * C * Q ≤ t * E * Q := Int.mul_le_mul_of_nonneg_right h (Int.le_of_lt pq)
  have e1 : s * C * Q = s * Q * C := by rw [Int.mul_assoc, Int.mul_comm C Q, ← Int.mul_assoc]
  have e2 : t * E * Q = t * P * C := by rw [Int.mul_assoc, Int.mul_comm E Q, ← hD, ← Int.mul_assoc]
  rw [e1, e2] at h2
  exact Int.le_of_mul_le_mul_right h2 pc
theorem PQ.eq {D M : Nat} {p q : Bool × Nat × Nat} (hp : PQ D M p) (hq : PQ D M q) (h : kq D p = kq D q) : p = q := by
 have h1 := (hp.le hq).2 (by omega)
 have h2 := (hq.le hp).2 (by omega)
 have h3 : fcmp p q = 0 := by
  have := fcmp_swap_pos q p
  omega
 exact fr_same hp.1.1 hq.1.1 h3
def kl (D M : Nat) (r : (Bool × Nat × Nat) × (Bool × Nat × Nat) × Bool × Bool × Bool) : Int := if r.2.2.1 then -(M : Int) else kq D r.1
def ku (D M : Nat) (r : (Bool × Nat × Nat) × (Bool × Nat × Nat) × Bool × Bool × Bool) : Int := if r.2.2.2.1 then (M : Int) else kq D r.2.1
def PJ (D M : Nat) (r : (Bool × Nat × Nat) × (Bool × Nat × Nat) × Bool × Bool × Bool) : Prop := ∃ A B x y, (x = false → PQ D M A) ∧ (y = false → PQ D M B) ∧ r = (if x then (false, 0, 0) else A, if y then (false, 0, 0) else B, x, y, false)
theorem PJ.ext {D M : Nat} {r t : (Bool × Nat × Nat) × (Bool × Nat × Nat) × Bool × Bool × Bool} (h : PJ D M r) (h' : PJ D M t) (hl : kl D M r = kl D M t) (hu : ku D M r = ku D M t) : r = t := by
 obtain ⟨A, B, x, y, hA, hB, rfl⟩ := h
 obtain ⟨A', B', x', y', hA', hB', rfl⟩ := h'
 have c1 : x = x' ∧ (if x then (false, 0, 0) else A) = (if x' then (false, 0, 0) else A') := by
  cases x <;> cases x'
  ·exact ⟨rfl, (hA rfl).eq (hA' rfl) hl⟩
  ·have hl' : kq D A = -(M : Int) := hl
   have := (hA rfl).key
   obtain ⟨_, _, _, _, _, _⟩ := this
   omega
  ·have hl' : -(M : Int) = kq D A' := hl
   have := (hA' rfl).key
   obtain ⟨_, _, _, _, _, _⟩ := this
   omega
  ·exact ⟨rfl, rfl⟩
 have c2 : y = y' ∧ (if y then (false, 0, 0) else B) = (if y' then (false, 0, 0) else B') := by
  cases y <;> cases y'
  ·exact ⟨rfl, (hB rfl).eq (hB' rfl) hu⟩
  ·have hl' : kq D B = (M : Int) := hu
   have := (hB rfl).key
   obtain ⟨_, _, _, _, _, _⟩ := this
   omega
  ·have hl' : (M : Int) = kq D B' := hu
   have := (hB' rfl).key
   obtain ⟨_, _, _, _, _, _⟩ := this
   omega
  ·exact ⟨rfl, rfl⟩
 rw [c1.2, c2.2, c1.1, c2.1]
theorem jtl_key {D M : Nat} {r t : (Bool × Nat × Nat) × (Bool × Nat × Nat) × Bool × Bool × Bool} (h : PJ D M r) (h' : PJ D M t) : (jtl r t = true → kl D M r ≤ kl D M t) ∧ (jtl r t = false → kl D M t ≤ kl D M r) := by
 obtain ⟨A, B, x, y, hA, hB, rfl⟩ := h
 obtain ⟨A', B', x', y', hA', hB', rfl⟩ := h'
 clear hB hB'
 cases x <;> cases x'
 ·have e := (hA' rfl).le (hA rfl)
  constructor
  ·intro hq
   have hq' : decide (0 < fcmp A' A) = true := hq
   rw [decide_eq_true_eq] at hq'
   show kq D A ≤ kq D A'
   omega
  ·intro hq
   have hq' : decide (0 < fcmp A' A) = false := hq
   rw [decide_eq_false_iff_not] at hq'
   show kq D A' ≤ kq D A
   omega
 ·obtain ⟨_, _, _, _, g1, _⟩ := (hA rfl).key
  refine ⟨fun hq => Bool.noConfusion (show false = true from hq), fun _ => ?_⟩
  show -(M : Int) ≤ kq D A
  omega
 ·obtain ⟨_, _, _, _, g1, _⟩ := (hA' rfl).key
  refine ⟨fun _ => ?_, fun hq => Bool.noConfusion (show true = false from hq)⟩
  show -(M : Int) ≤ kq D A'
  omega
 ·exact ⟨fun _ => Int.le_refl _, fun _ => Int.le_refl _⟩
theorem jth_key {D M : Nat} {r t : (Bool × Nat × Nat) × (Bool × Nat × Nat) × Bool × Bool × Bool} (h : PJ D M r) (h' : PJ D M t) : (jth r t = true → ku D M t ≤ ku D M r) ∧ (jth r t = false → ku D M r ≤ ku D M t) := by
 obtain ⟨A, B, x, y, hA, hB, rfl⟩ := h
 obtain ⟨A', B', x', y', hA', hB', rfl⟩ := h'
 clear hA hA'
 cases y <;> cases y'
 ·have e := (hB rfl).le (hB' rfl)
  have e2 := fcmp_swap_pos B B'
  constructor
  ·intro hq
   have hq' : decide (fcmp B' B < 0) = true := hq
   rw [decide_eq_true_eq] at hq'
   show kq D B' ≤ kq D B
   omega
  ·intro hq
   have hq' : decide (fcmp B' B < 0) = false := hq
   rw [decide_eq_false_iff_not] at hq'
   show kq D B ≤ kq D B'
   omega
 ·obtain ⟨_, _, _, _, _, g1⟩ := (hB rfl).key
  refine ⟨fun hq => Bool.noConfusion (show false = true from hq), fun _ => ?_⟩
  show kq D B ≤ (M : Int)
  omega
 ·obtain ⟨_, _, _, _, _, g1⟩ := (hB' rfl).key
  refine ⟨fun _ => ?_, fun hq => Bool.noConfusion (show true = false from hq)⟩
  show kq D B' ≤ (M : Int)
  omega
 ·exact ⟨fun _ => Int.le_refl _, fun _ => Int.le_refl _⟩
theorem PJ.part {D M : Nat} {r t : (Bool × Nat × Nat) × (Bool × Nat × Nat) × Bool × Bool × Bool} (h : PJ D M r) (h' : PJ D M t) : PJ D M (jpart r t) ∧ kl D M (jpart r t) = (if jtl r t then kl D M t else kl D M r) ∧ ku D M (jpart r t) = (if jth r t then ku D M t else ku D M r) := by
 obtain ⟨A, B, x, y, hA, hB, rfl⟩ := h
 obtain ⟨A', B', x', y', hA', hB', rfl⟩ := h'
 unfold jpart
 generalize jtl _ _ = p
 generalize jth _ _ = q
 cases p <;> cases q
 ·exact ⟨⟨A, B, x, y, hA, hB, rfl⟩, rfl, rfl⟩
 ·exact ⟨⟨A, B', x, y', hA, hB', rfl⟩, rfl, rfl⟩
 ·exact ⟨⟨A', B, x', y, hA', hB, rfl⟩, rfl, rfl⟩
 ·exact ⟨⟨A', B', x', y', hA', hB', rfl⟩, rfl, rfl⟩
theorem PJ.bad {D M : Nat} {r : (Bool × Nat × Nat) × (Bool × Nat × Nat) × Bool × Bool × Bool} (h : PJ D M r) (hM : 0 < M) : (jbad r = true → ku D M r < kl D M r) ∧ (jbad r = false → kl D M r ≤ ku D M r) := by
 obtain ⟨A, B, x, y, hA, hB, rfl⟩ := h
 rw [jbad_eq]
 cases x <;> cases y
 ·have e := (hA rfl).le (hB rfl)
  constructor
  ·intro hq
   have hq' : decide (0 < fcmp A B) = true := hq
   rw [decide_eq_true_eq] at hq'
   show kq D B < kq D A
   omega
  ·intro hq
   have hq' : decide (0 < fcmp A B) = false := hq
   rw [decide_eq_false_iff_not] at hq'
   show kq D A ≤ kq D B
   omega
 ·obtain ⟨_, _, _, _, _, g1⟩ := (hA rfl).key
  refine ⟨fun hq => Bool.noConfusion (show false = true from hq), fun _ => ?_⟩
  show kq D A ≤ (M : Int)
  omega
 ·obtain ⟨_, _, _, _, g1, _⟩ := (hB rfl).key
  refine ⟨fun hq => Bool.noConfusion (show false = true from hq), fun _ => ?_⟩
  show -(M : Int) ≤ kq D B
  omega
 ·refine ⟨fun hq => Bool.noConfusion (show false = true from hq), fun _ => ?_⟩
  show -(M : Int) ≤ (M : Int)
  omega
theorem PJ.some {D M : Nat} {r : (Bool × Nat × Nat) × (Bool × Nat × Nat) × Bool × Bool × Bool} (h : PJ D M r) : r.2.2.2.2 = false := by
 obtain ⟨A, B, x, y, _, _, rfl⟩ := h
 rfl
theorem PJ.both {D M : Nat} {r t : (Bool × Nat × Nat) × (Bool × Nat × Nat) × Bool × Bool × Bool} (h : PJ D M r) (h' : PJ D M t) (hM : 0 < M) :
  ∃ l u, kl D M r ≤ l ∧ kl D M t ≤ l ∧ (l = kl D M r ∨ l = kl D M t) ∧ u ≤ ku D M r ∧ u ≤ ku D M t ∧ (u = ku D M r ∨ u = ku D M t) ∧
   ((u < l ∧ jboth r t = jnone) ∨ (l ≤ u ∧ PJ D M (jboth r t) ∧ kl D M (jboth r t) = l ∧ ku D M (jboth r t) = u)) := by
 obtain ⟨hp, e1, e2⟩ := h.part h'
 have k1 := jtl_key h h'
 have k2 := jth_key h h'
 have kb := hp.bad hM
 have ej := jboth_eq h.some h'.some
 refine ⟨kl D M (jpart r t), ku D M (jpart r t), ?_, ?_, ?_, ?_, ?_, ?_, ?_⟩
 ·rw [e1]; cases hq : jtl r t
  ·exact Int.le_refl _
  ·exact k1.1 hq
 ·rw [e1]; cases hq : jtl r t
  ·exact k1.2 hq
  ·exact Int.le_refl _
 ·rw [e1]; cases jtl r t
  ·exact .inl rfl
  ·exact .inr rfl
 ·rw [e2]; cases hq : jth r t
  ·exact Int.le_refl _
  ·exact k2.1 hq
 ·rw [e2]; cases hq : jth r t
  ·exact k2.2 hq
  ·exact Int.le_refl _
 ·rw [e2]; cases jth r t
  ·exact .inl rfl
  ·exact .inr rfl
 ·cases hq : jbad (jpart r t)
  ·rw [hq] at ej
   have ej' : jboth r t = jpart r t := ej
   rw [ej']
   exact .inr ⟨kb.2 hq, hp, rfl, rfl⟩
  ·rw [hq] at ej
   exact .inl ⟨kb.1 hq, ej⟩
theorem PJ.hull {D M : Nat} {r t : (Bool × Nat × Nat) × (Bool × Nat × Nat) × Bool × Bool × Bool} (h : PJ D M r) (h' : PJ D M t) :
  PJ D M (jhull r t) ∧ kl D M (jhull r t) ≤ kl D M r ∧ kl D M (jhull r t) ≤ kl D M t ∧ (kl D M (jhull r t) = kl D M r ∨ kl D M (jhull r t) = kl D M t) ∧
   ku D M r ≤ ku D M (jhull r t) ∧ ku D M t ≤ ku D M (jhull r t) ∧ (ku D M (jhull r t) = ku D M r ∨ ku D M (jhull r t) = ku D M t) := by
 obtain ⟨A, B, x, y, hA, hB, rfl⟩ := h
 obtain ⟨A', B', x', y', hA', hB', rfl⟩ := h'
 have lo : (x = false → x' = false → PQ D M (qmin A A') ∧ kq D (qmin A A') ≤ kq D A ∧ kq D (qmin A A') ≤ kq D A' ∧ (kq D (qmin A A') = kq D A ∨ kq D (qmin A A') = kq D A')) := by
  intro u v
  have e := (hA' v).le (hA u)
  have e' := (hA u).le (hA' v)
  have e2 := fcmp_swap_pos A A'
  unfold Go.Proofs.YtimjoejkjgklaaaGreatDoor.qmin
  split
  case isTrue hq => exact ⟨hA' v, by omega, by omega, .inr rfl⟩
  case isFalse hq => exact ⟨hA u, by omega, by omega, .inl rfl⟩
 have hi : (y = false → y' = false → PQ D M (qmax B B') ∧ kq D B ≤ kq D (qmax B B') ∧ kq D B' ≤ kq D (qmax B B') ∧ (kq D (qmax B B') = kq D B ∨ kq D (qmax B B') = kq D B')) := by
  intro u v
  have e := (hB' v).le (hB u)
  have e' := (hB u).le (hB' v)
  have e2 := fcmp_swap_pos B B'
  have e3 := fcmp_swap_pos B' B
  unfold Go.Proofs.YtimjoejkjgklaaaGreatDoor.qmax
  split
  case isTrue hq => exact ⟨hB' v, by omega, by omega, .inr rfl⟩
  case isFalse hq => exact ⟨hB u, by omega, by omega, .inl rfl⟩
 have bA : x = false → -(M : Int) ≤ kq D A := fun u => by obtain ⟨_, _, _, _, g1, _⟩ := (hA u).key; omega
 have bA' : x' = false → -(M : Int) ≤ kq D A' := fun u => by obtain ⟨_, _, _, _, g1, _⟩ := (hA' u).key; omega
 have bB : y = false → kq D B ≤ (M : Int) := fun u => by obtain ⟨_, _, _, _, _, g1⟩ := (hB u).key; omega
 have bB' : y' = false → kq D B' ≤ (M : Int) := fun u => by obtain ⟨_, _, _, _, _, g1⟩ := (hB' u).key; omega
 refine ⟨⟨qmin A A', qmax B B', x || x', y || y', ?_, ?_, ?_⟩, ?_⟩
 ·intro u
  rw [Bool.or_eq_false_iff] at u
  exact (lo u.1 u.2).1
 ·intro u
  rw [Bool.or_eq_false_iff] at u
  exact (hi u.1 u.2).1
 ·cases x <;> cases x' <;> cases y <;> cases y' <;> rfl
 ·have low : kl D M (jhull (if x then (false, 0, 0) else A, if y then (false, 0, 0) else B, x, y, false) (if x' then (false, 0, 0) else A', if y' then (false, 0, 0) else B', x', y', false)) ≤ kl D M (if x then (false, 0, 0) else A, if y then (false, 0, 0) else B, x, y, false) ∧ kl D M (jhull (if x then (false, 0, 0) else A, if y then (false, 0, 0) else B, x, y, false) (if x' then (false, 0, 0) else A', if y' then (false, 0, 0) else B', x', y', false)) ≤ kl D M (if x' then (false, 0, 0) else A', if y' then (false, 0, 0) else B', x', y', false) ∧ (kl D M (jhull (if x then (false, 0, 0) else A, if y then (false, 0, 0) else B, x, y, false) (if x' then (false, 0, 0) else A', if y' then (false, 0, 0) else B', x', y', false)) = kl D M (if x then (false, 0, 0) else A, if y then (false, 0, 0) else B, x, y, false) ∨ kl D M (jhull (if x then (false, 0, 0) else A, if y then (false, 0, 0) else B, x, y, false) (if x' then (false, 0, 0) else A', if y' then (false, 0, 0) else B', x', y', false)) = kl D M (if x' then (false, 0, 0) else A', if y' then (false, 0, 0) else B', x', y', false)) := by
   cases x <;> cases x'
   ·exact (lo rfl rfl).2
   ·exact ⟨bA rfl, Int.le_refl _, .inr rfl⟩
   ·exact ⟨Int.le_refl _, bA' rfl, .inl rfl⟩
   ·exact ⟨Int.le_refl _, Int.le_refl _, .inl rfl⟩
  have high : ku D M (if x then (false, 0, 0) else A, if y then (false, 0, 0) else B, x, y, false) ≤ ku D M (jhull (if x then (false, 0, 0) else A, if y then (false, 0, 0) else B, x, y, false) (if x' then (false, 0, 0) else A', if y' then (false, 0, 0) else B', x', y', false)) ∧ ku D M (if x' then (false, 0, 0) else A', if y' then (false, 0, 0) else B', x', y', false) ≤ ku D M (jhull (if x then (false, 0, 0) else A, if y then (false, 0, 0) else B, x, y, false) (if x' then (false, 0, 0) else A', if y' then (false, 0, 0) else B', x', y', false)) ∧ (ku D M (jhull (if x then (false, 0, 0) else A, if y then (false, 0, 0) else B, x, y, false) (if x' then (false, 0, 0) else A', if y' then (false, 0, 0) else B', x', y', false)) = ku D M (if x then (false, 0, 0) else A, if y then (false, 0, 0) else B, x, y, false) ∨ ku D M (jhull (if x then (false, 0, 0) else A, if y then (false, 0, 0) else B, x, y, false) (if x' then (false, 0, 0) else A', if y' then (false, 0, 0) else B', x', y', false)) = ku D M (if x' then (false, 0, 0) else A', if y' then (false, 0, 0) else B', x', y', false)) := by
   cases y <;> cases y'
   ·exact (hi rfl rfl).2
   ·exact ⟨bB rfl, Int.le_refl _, .inr rfl⟩
   ·exact ⟨Int.le_refl _, bB' rfl, .inl rfl⟩
   ·exact ⟨Int.le_refl _, Int.le_refl _, .inl rfl⟩
  exact ⟨low.1, low.2.1, low.2.2, high⟩
theorem PJ.within {D M : Nat} {r t : (Bool × Nat × Nat) × (Bool × Nat × Nat) × Bool × Bool × Bool} (h : PJ D M r) (h' : PJ D M t) : jwithin r t = decide (kl D M t ≤ kl D M r ∧ ku D M r ≤ ku D M t) := by
 obtain ⟨A, B, x, y, hA, hB, rfl⟩ := h
 obtain ⟨A', B', x', y', hA', hB', rfl⟩ := h'
 have lo : (x' || (!x && decide (fcmp (if x' then (false, 0, 0) else A') (if x then (false, 0, 0) else A) ≤ 0))) = decide (kl D M (if x' then (false, 0, 0) else A', if y' then (false, 0, 0) else B', x', y', false) ≤ kl D M (if x then (false, 0, 0) else A, if y then (false, 0, 0) else B, x, y, false)) := by
  cases x <;> cases x'
  ·exact decide_eq_decide.2 ((hA' rfl).le (hA rfl))
  ·obtain ⟨_, _, _, _, g1, _⟩ := (hA rfl).key
   exact (decide_eq_true (show -(M : Int) ≤ kq D A by omega)).symm
  ·obtain ⟨_, _, _, _, g1, _⟩ := (hA' rfl).key
   exact (decide_eq_false (show ¬ kq D A' ≤ -(M : Int) by omega)).symm
  ·exact (decide_eq_true (show -(M : Int) ≤ -(M : Int) by omega)).symm
 have hi : (y' || (!y && decide (fcmp (if y then (false, 0, 0) else B) (if y' then (false, 0, 0) else B') ≤ 0))) = decide (ku D M (if x then (false, 0, 0) else A, if y then (false, 0, 0) else B, x, y, false) ≤ ku D M (if x' then (false, 0, 0) else A', if y' then (false, 0, 0) else B', x', y', false)) := by
  cases y <;> cases y'
  ·exact decide_eq_decide.2 ((hB rfl).le (hB' rfl))
  ·obtain ⟨_, _, _, _, _, g1⟩ := (hB rfl).key
   exact (decide_eq_true (show kq D B ≤ (M : Int) by omega)).symm
  ·obtain ⟨_, _, _, _, _, g1⟩ := (hB' rfl).key
   exact (decide_eq_false (show ¬ (M : Int) ≤ kq D B' by omega)).symm
  ·exact (decide_eq_true (show (M : Int) ≤ (M : Int) by omega)).symm
 unfold jwithin
 show ((x' || (!x && decide (fcmp (if x' then (false, 0, 0) else A') (if x then (false, 0, 0) else A) ≤ 0))) && (y' || (!y && decide (fcmp (if y then (false, 0, 0) else B) (if y' then (false, 0, 0) else B') ≤ 0)))) = _
 rw [lo, hi, Bool.decide_and]
theorem scale : ∀ l : List (Bool × Nat × Nat), (∀ q, q ∈ l → QFit q) → ∃ D M, 0 < D ∧ 0 < M ∧ ∀ q, q ∈ l → PQ D M q := by
 intro l
 induction l with
 | nil => intro _; exact ⟨1, 1, Nat.one_pos, Nat.one_pos, fun q h => absurd h (List.not_mem_nil)⟩
 | cons p l ih =>
  intro h
  obtain ⟨D, M, hD, hM, hl⟩ := ih (fun q hq => h q (List.mem_cons_of_mem _ hq))
  have hp := h p List.mem_cons_self
  have pd : 0 < p.2.2 := hp.1.pos
  refine ⟨p.2.2 * D, M * p.2.2 + p.2.1 * D + 1, Nat.mul_pos pd hD, Nat.succ_pos _, ?_⟩
  intro q hq
  rcases List.mem_cons.1 hq with rfl | hq
  ·refine ⟨hp, D, rfl, hD, ?_⟩
   have ha := sv_absL q.1 q.2.1
   have hb : (sv q.1 q.2.1 * (D : Int)).natAbs = q.2.1 * D := by rw [Int.natAbs_mul, ha, Int.natAbs_natCast]
   generalize sv q.1 q.2.1 * (D : Int) = z at *
   generalize q.2.1 * D = n at *
   generalize M * q.2.2 = m at *
   omega
  ·obtain ⟨g, c, e, c0, b1, b2⟩ := hl q hq
   refine ⟨g, c * p.2.2, by rw [e, Nat.mul_comm p.2.2, Nat.mul_assoc], Nat.mul_pos c0 pd, ?_⟩
   have e2 : sv q.1 q.2.1 * ((c * p.2.2 : Nat) : Int) = sv q.1 q.2.1 * (c : Int) * (p.2.2 : Int) := by rw [Int.natCast_mul, Int.mul_assoc]
   rw [e2]
   generalize sv q.1 q.2.1 * (c : Int) = z at *
   have p1 : (0 : Int) < p.2.2 := by omega
   have b1' : -(M : Int) * p.2.2 < z * p.2.2 := Int.mul_lt_mul_of_pos_right b1 p1
   have b2' : z * p.2.2 < (M : Int) * p.2.2 := Int.mul_lt_mul_of_pos_right b2 p1
   have e3 : ((M * p.2.2 + p.2.1 * D + 1 : Nat) : Int) = (M : Int) * p.2.2 + ((p.2.1 * D : Nat) : Int) + 1 := by rw [Int.natCast_add, Int.natCast_add, Int.natCast_mul]; rfl
   rw [e3]
   rw [Int.neg_mul] at b1'
   generalize (M : Int) * (p.2.2 : Int) = m at *
   generalize z * (p.2.2 : Int) = n at *
   generalize p.2.1 * D = k at *
   omega
theorem qfit_zero : QFit (false, 0, 1) := ⟨⟨false, 0, 1, Nat.one_pos, by decide⟩, Nat.pow_pos W32_pos, Nat.one_lt_pow (by omega) (by decide)⟩
def SJ (D M : Nat) (r : (Bool × Nat × Nat) × (Bool × Nat × Nat) × Bool × Bool × Bool) : Prop := r = jnone ∨ (PJ D M r ∧ kl D M r ≤ ku D M r)
theorem JGood.ends2 {r : (Bool × Nat × Nat) × (Bool × Nat × Nat) × Bool × Bool × Bool} (h : JGood r) : ∃ P Q : Bool × Nat × Nat, QFit P ∧ QFit Q ∧ ∀ D M, PQ D M P → PQ D M Q → SJ D M r := by
 rcases h.shape with rfl | ⟨A, B, x, y, hA, hB, ho, rfl⟩
 ·exact ⟨_, _, qfit_zero, qfit_zero, fun _ _ _ _ => .inl rfl⟩
 ·refine ⟨if x then (false, 0, 1) else A, if y then (false, 0, 1) else B, ?_, ?_, ?_⟩
  ·cases x
   ·exact hA rfl
   ·exact qfit_zero
  ·cases y
   ·exact hB rfl
   ·exact qfit_zero
  ·intro D M h1 h2
   refine .inr ⟨⟨A, B, x, y, fun u => by subst u; exact h1, fun u => by subst u; exact h2, rfl⟩, ?_⟩
   cases x <;> cases y
   ·exact (h1.le h2).1 (ho rfl rfl)
   ·obtain ⟨_, _, _, _, _, g1⟩ := h1.key
    show kq D A ≤ (M : Int)
    have : kq D A < (M : Int) := g1
    omega
   ·obtain ⟨_, _, _, _, g1, _⟩ := h2.key
    show -(M : Int) ≤ kq D B
    have : -(M : Int) < kq D B := g1
    omega
   ·show -(M : Int) ≤ (M : Int)
    omega
theorem scale3 {r t c : (Bool × Nat × Nat) × (Bool × Nat × Nat) × Bool × Bool × Bool} (hr : JGood r) (ht : JGood t) (hc : JGood c) : ∃ D M, 0 < M ∧ SJ D M r ∧ SJ D M t ∧ SJ D M c := by
 obtain ⟨P, Q, p, q, f⟩ := hr.ends2
 obtain ⟨P', Q', p', q', f'⟩ := ht.ends2
 obtain ⟨P2, Q2, p2, q2, f2⟩ := hc.ends2
 obtain ⟨D, M, _, hM, h⟩ := scale [P, Q, P', Q', P2, Q2] (by
  intro z hz
  simp only [List.mem_cons, List.not_mem_nil, or_false] at hz
  rcases hz with rfl | rfl | rfl | rfl | rfl | rfl <;> assumption)
 exact ⟨D, M, hM, f D M (h _ (by simp)) (h _ (by simp)), f' D M (h _ (by simp)) (h _ (by simp)), f2 D M (h _ (by simp)) (h _ (by simp))⟩
theorem both_nr (r : (Bool × Nat × Nat) × (Bool × Nat × Nat) × Bool × Bool × Bool) : jboth r jnone = jnone := by unfold jboth; rw [jnone_or]; rfl
theorem both_nl (r : (Bool × Nat × Nat) × (Bool × Nat × Nat) × Bool × Bool × Bool) : jboth jnone r = jnone := rfl
theorem hull_nl (r : (Bool × Nat × Nat) × (Bool × Nat × Nat) × Bool × Bool × Bool) : jhull jnone r = r := rfl
theorem hull_nr {D M : Nat} {r : (Bool × Nat × Nat) × (Bool × Nat × Nat) × Bool × Bool × Bool} (h : SJ D M r) : jhull r jnone = r := by
 rcases h with rfl | ⟨h, _⟩
 ·rfl
 ·unfold jhull
  rw [h.some]
  rfl
theorem lat_both_comm {r t : (Bool × Nat × Nat) × (Bool × Nat × Nat) × Bool × Bool × Bool} (hr : JGood r) (ht : JGood t) : jboth r t = jboth t r := by
 obtain ⟨D, M, hM, s1, s2, _⟩ := scale3 hr ht hr
 rcases s1 with rfl | ⟨p1, o1⟩
 ·rw [both_nr, both_nl]
 rcases s2 with rfl | ⟨p2, o2⟩
 ·rw [both_nr, both_nl]
 obtain ⟨l, u, a1, a2, a3, a4, a5, a6, a7⟩ := p1.both p2 hM
 obtain ⟨l', u', b1, b2, b3, b4, b5, b6, b7⟩ := p2.both p1 hM
 rcases a7 with ⟨n, e⟩ | ⟨n, q, el, eu⟩ <;> rcases b7 with ⟨m, f⟩ | ⟨m, q', fl, fu⟩
 ·rw [e, f]
 ·exfalso; omega
 ·exfalso; omega
 ·exact q.ext q' (by omega) (by omega)
theorem lat_both_assoc {r t c : (Bool × Nat × Nat) × (Bool × Nat × Nat) × Bool × Bool × Bool} (hr : JGood r) (ht : JGood t) (hc : JGood c) : jboth (jboth r t) c = jboth r (jboth t c) := by
 obtain ⟨D, M, hM, s1, s2, s3⟩ := scale3 hr ht hc
 rcases s1 with rfl | ⟨p1, o1⟩
 ·rw [both_nl, both_nl, both_nl]
 rcases s2 with rfl | ⟨p2, o2⟩
 ·rw [both_nr, both_nl, both_nr]
 rcases s3 with rfl | ⟨p3, o3⟩
 ·rw [both_nr, both_nr, both_nr]
 obtain ⟨l, u, a1, a2, a3, a4, a5, a6, a7⟩ := p1.both p2 hM
 obtain ⟨l', u', b1, b2, b3, b4, b5, b6, b7⟩ := p2.both p3 hM
 rcases a7 with ⟨n, e⟩ | ⟨n, q, el, eu⟩ <;> rcases b7 with ⟨m, f⟩ | ⟨m, q', fl, fu⟩
 ·rw [e, f, both_nr, both_nl]
 ·rw [e, both_nl]
  obtain ⟨l2, u2, c1, c2, c3, c4, c5, c6, c7⟩ := p1.both q' hM
  rcases c7 with ⟨k, g⟩ | ⟨k, _⟩
  ·exact g.symm
  ·exfalso; omega
 ·rw [f, both_nr]
  obtain ⟨l2, u2, c1, c2, c3, c4, c5, c6, c7⟩ := q.both p3 hM
  rcases c7 with ⟨k, g⟩ | ⟨k, _⟩
  ·exact g
  ·exfalso; omega
 ·obtain ⟨l2, u2, c1, c2, c3, c4, c5, c6, c7⟩ := q.both p3 hM
  obtain ⟨l3, u3, d1, d2, d3, d4, d5, d6, d7⟩ := p1.both q' hM
  rcases c7 with ⟨k, g⟩ | ⟨k, x1, x2, x3⟩ <;> rcases d7 with ⟨k', g'⟩ | ⟨k', y1, y2, y3⟩
  ·rw [g, g']
  ·exfalso; omega
  ·exfalso; omega
  ·exact x1.ext y1 (by omega) (by omega)
theorem lat_hull_comm {r t : (Bool × Nat × Nat) × (Bool × Nat × Nat) × Bool × Bool × Bool} (hr : JGood r) (ht : JGood t) : jhull r t = jhull t r := by
 obtain ⟨D, M, hM, s1, s2, _⟩ := scale3 hr ht hr
 have s1' := s1
 have s2' := s2
 rcases s1 with rfl | ⟨p1, o1⟩
 ·rw [hull_nr s2', hull_nl]
 rcases s2 with rfl | ⟨p2, o2⟩
 ·rw [hull_nr s1', hull_nl]
 obtain ⟨q, a1, a2, a3, a4, a5, a6⟩ := p1.hull p2
 obtain ⟨q', b1, b2, b3, b4, b5, b6⟩ := p2.hull p1
 exact q.ext q' (by omega) (by omega)
theorem SJ.hull {D M : Nat} {r t : (Bool × Nat × Nat) × (Bool × Nat × Nat) × Bool × Bool × Bool} (h : SJ D M r) (h' : SJ D M t) : SJ D M (jhull r t) := by
 have g := h
 rcases h with rfl | ⟨p1, o1⟩
 ·exact h'
 rcases h' with rfl | ⟨p2, o2⟩
 ·rw [hull_nr g]; exact g
 obtain ⟨q, a1, a2, a3, a4, a5, a6⟩ := p1.hull p2
 exact .inr ⟨q, by omega⟩
theorem lat_hull_assoc {r t c : (Bool × Nat × Nat) × (Bool × Nat × Nat) × Bool × Bool × Bool} (hr : JGood r) (ht : JGood t) (hc : JGood c) : jhull (jhull r t) c = jhull r (jhull t c) := by
 obtain ⟨D, M, hM, s1, s2, s3⟩ := scale3 hr ht hc
 have s12 := s1.hull s2
 have s1' := s1
 have s2' := s2
 rcases s1 with rfl | ⟨p1, o1⟩
 ·rfl
 rcases s2 with rfl | ⟨p2, o2⟩
 ·rw [hull_nr s1']; rfl
 rcases s3 with rfl | ⟨p3, o3⟩
 ·rw [hull_nr s12, hull_nr s2']
 obtain ⟨q, a1, a2, a3, a4, a5, a6⟩ := p1.hull p2
 obtain ⟨q', b1, b2, b3, b4, b5, b6⟩ := p2.hull p3
 obtain ⟨x1, c1, c2, c3, c4, c5, c6⟩ := q.hull p3
 obtain ⟨y1, d1, d2, d3, d4, d5, d6⟩ := p1.hull q'
 exact x1.ext y1 (by omega) (by omega)
theorem lat_absorb_both {r t : (Bool × Nat × Nat) × (Bool × Nat × Nat) × Bool × Bool × Bool} (hr : JGood r) (ht : JGood t) : jboth r (jhull r t) = r := by
 obtain ⟨D, M, hM, s1, s2, _⟩ := scale3 hr ht hr
 have s1' := s1
 rcases s1 with rfl | ⟨p1, o1⟩
 ·rfl
 rcases s2 with rfl | ⟨p2, o2⟩
 ·rw [hull_nr s1']
  obtain ⟨l, u, a1, a2, a3, a4, a5, a6, a7⟩ := p1.both p1 hM
  rcases a7 with ⟨n, e⟩ | ⟨n, q, el, eu⟩
  ·exfalso; omega
  ·exact q.ext p1 (by omega) (by omega)
 obtain ⟨q, b1, b2, b3, b4, b5, b6⟩ := p1.hull p2
 obtain ⟨l, u, a1, a2, a3, a4, a5, a6, a7⟩ := p1.both q hM
 rcases a7 with ⟨n, e⟩ | ⟨n, x1, el, eu⟩
 ·exfalso; omega
 ·exact x1.ext p1 (by omega) (by omega)
theorem lat_absorb_hull {r t : (Bool × Nat × Nat) × (Bool × Nat × Nat) × Bool × Bool × Bool} (hr : JGood r) (ht : JGood t) : jhull r (jboth r t) = r := by
 obtain ⟨D, M, hM, s1, s2, _⟩ := scale3 hr ht hr
 have s1' := s1
 rcases s1 with rfl | ⟨p1, o1⟩
 ·rfl
 rcases s2 with rfl | ⟨p2, o2⟩
 ·rw [both_nr, hull_nr s1']
 obtain ⟨l, u, a1, a2, a3, a4, a5, a6, a7⟩ := p1.both p2 hM
 rcases a7 with ⟨n, e⟩ | ⟨n, x1, el, eu⟩
 ·rw [e, hull_nr s1']
 ·obtain ⟨q, b1, b2, b3, b4, b5, b6⟩ := p1.hull x1
  exact q.ext p1 (by omega) (by omega)
theorem lat_in_both {r t : (Bool × Nat × Nat) × (Bool × Nat × Nat) × Bool × Bool × Bool} (hr : JGood r) (ht : JGood t) : jwithin (jboth r t) r = true := by
 obtain ⟨D, M, hM, s1, s2, _⟩ := scale3 hr ht hr
 rcases s1 with rfl | ⟨p1, o1⟩
 ·rfl
 rcases s2 with rfl | ⟨p2, o2⟩
 ·rw [both_nr]; rfl
 obtain ⟨l, u, a1, a2, a3, a4, a5, a6, a7⟩ := p1.both p2 hM
 rcases a7 with ⟨n, e⟩ | ⟨n, x1, el, eu⟩
 ·rw [e]; rfl
 ·rw [x1.within p1]
  exact decide_eq_true ⟨by omega, by omega⟩
theorem lat_in_hull {r t : (Bool × Nat × Nat) × (Bool × Nat × Nat) × Bool × Bool × Bool} (hr : JGood r) (ht : JGood t) : jwithin r (jhull r t) = true := by
 obtain ⟨D, M, hM, s1, s2, _⟩ := scale3 hr ht hr
 have s1' := s1
 rcases s1 with rfl | ⟨p1, o1⟩
 ·rfl
 rcases s2 with rfl | ⟨p2, o2⟩
 ·rw [hull_nr s1', p1.within p1]
  exact decide_eq_true ⟨by omega, by omega⟩
 obtain ⟨q, b1, b2, b3, b4, b5, b6⟩ := p1.hull p2
 rw [p1.within q]
 exact decide_eq_true ⟨by omega, by omega⟩
theorem lat_within {r t : (Bool × Nat × Nat) × (Bool × Nat × Nat) × Bool × Bool × Bool} (hr : JGood r) (ht : JGood t) : jwithin r t = true ↔ jboth r t = r := by
 obtain ⟨D, M, hM, s1, s2, _⟩ := scale3 hr ht hr
 rcases s1 with rfl | ⟨p1, o1⟩
 ·exact ⟨fun _ => rfl, fun _ => rfl⟩
 rcases s2 with rfl | ⟨p2, o2⟩
 ·rw [both_nr]
  constructor
  ·intro h
   exfalso
   unfold jwithin at h
   rw [p1.some] at h
   exact Bool.noConfusion h
  ·intro h
   rw [← h]
   rfl
 obtain ⟨l, u, a1, a2, a3, a4, a5, a6, a7⟩ := p1.both p2 hM
 rw [p1.within p2, decide_eq_true_eq]
 constructor
 ·rintro ⟨h1, h2⟩
  rcases a7 with ⟨n, e⟩ | ⟨n, x1, el, eu⟩
  ·exfalso; omega
  ·exact x1.ext p1 (by omega) (by omega)
 ·intro h
  rcases a7 with ⟨n, e⟩ | ⟨n, x1, el, eu⟩
  ·exfalso
   have := p1.some
   rw [← h, e] at this
   exact Bool.noConfusion (show true = false from this)
  ·rw [h] at el eu
   omega
end Go.Proofs.YtimjoejkjgklaaaGreatDoor
namespace Go.Proofs.YtimjoejkjgklaaaGreatDoor
open Go.RowKit Dg
theorem lawInside_any (s1 : Bool) (p1 : Option Addr) (k1 c1 : Nat) (q1 : Option Addr) (l1 d1 : Nat) (sz1 : Bool) (pz1 : Option Addr) (kz1 cz1 : Nat) (qz1 : Option Addr) (lz1 dz1 : Nat) (x1 : Bool) (y1 : Bool) (s2 : Bool) (p2 : Option Addr) (k2 c2 : Nat) (q2 : Option Addr) (l2 d2 : Nat) (sz2 : Bool) (pz2 : Option Addr) (kz2 cz2 : Nat) (qz2 : Option Addr) (lz2 dz2 : Nat) (x2 : Bool) (y2 : Bool) (a b a' b' : Bool × Nat × Nat) (w : World) (ha : NRep w (.agg #[.bool s1, .slice p1 k1 c1, .slice q1 l1 d1]) a) (hb : NRep w (.agg #[.bool sz1, .slice pz1 kz1 cz1, .slice qz1 lz1 dz1]) b) (ha' : NRep w (.agg #[.bool s2, .slice p2 k2 c2, .slice q2 l2 d2]) a') (hb' : NRep w (.agg #[.bool sz2, .slice pz2 kz2 cz2, .slice qz2 lz2 dz2]) b') (ht : TabOk w) :
  Calls Tryz.prog 37 #[.agg #[.bool s1, .slice p1 k1 c1, .slice q1 l1 d1, .bool sz1, .slice pz1 kz1 cz1, .slice qz1 lz1 dz1, .bool x1, .bool y1], .agg #[.bool s2, .slice p2 k2 c2, .slice q2 l2 d2, .bool sz2, .slice pz2 kz2 cz2, .slice qz2 lz2 dz2, .bool x2, .bool y2]] w fun e w' => e = .returned (.bool (jin2 (a, b, x1, y1) (a', b', x2, y2))) ∧ Below w.heap.size w w' := by
 have HC := hid (fun (W : World) (hW : Below w.heap.size w W) => iInside_any s1 p1 k1 c1 q1 l1 d1 sz1 pz1 kz1 cz1 qz1 lz1 dz1 x1 y1 s2 p2 k2 c2 q2 l2 d2 sz2 pz2 kz2 cz2 qz2 lz2 dz2 x2 y2 a b a' b' W (ha.below hW) (hb.below hW) (ha'.below hW) (hb'.below hW) (ht.below hW))
 rw [i2_inside] at HC
 have hz : m2code (a, b, x1, y1) (a', b', x2, y2) = 0 ∨ (m2code (a, b, x1, y1) (a', b', x2, y2) = 1 ∧ jin2 (a, b, x1, y1) (a', b', x2, y2) = false) := by
  unfold m2code jin2
  cases ilarge (a, b, x1, y1) || ilarge (a', b', x2, y2)
  ·exact .inl rfl
  ·exact .inr ⟨rfl, rfl⟩
 obtain ⟨r, hr⟩ : ∃ r, r = jin2 (a, b, x1, y1) (a', b', x2, y2) := ⟨_, rfl⟩
 obtain ⟨c, hc⟩ : ∃ r, r = m2code (a, b, x1, y1) (a', b', x2, y2) := ⟨_, rfl⟩
 rw [← hr, ← hc] at HC hz
 rw [← hr]
 clear ha hb ha' hb' ht hr hc
 rcases hz with hz | ⟨hz, hv⟩
 ·subst hz
  cases r
  all_goals
   go_enter Tryz.func37, Tryz.ntmps37
   go_wp2_with fail
   generalize hA : World.alloc _ _ = W0
   have HV := hid (pre2_o hA nd8 nd8)
   clear hA
   refine (HC.out _ HV.out.2.2).mono ?_
   rintro e w1 ⟨rfl, hB1⟩
   have HE := hid (HV.out.2.2.trans (hB1.mono HV.out.2.2.size))
   clear hB1
   go_wp2_with fail
   go_ret
   exact ⟨rfl, HE.out⟩
 ·subst hz hv
  go_enter Tryz.func37, Tryz.ntmps37
  go_wp2_with fail
  generalize hA : World.alloc _ _ = W0
  have HV := hid (pre2_o hA nd8 nd8)
  clear hA
  refine (HC.out _ HV.out.2.2).mono ?_
  rintro e w1 ⟨rfl, hB1⟩
  have HE := hid (HV.out.2.2.trans (hB1.mono HV.out.2.2.size))
  clear hB1
  go_wp2_with fail
  go_ret
  exact ⟨rfl, HE.out⟩
def JArg (w : World) (v : Value) (r : (Bool × Nat × Nat) × (Bool × Nat × Nat) × Bool × Bool × Bool) : Prop := ∃ s1 p1 k1 c1 q1 l1 d1 sz1 pz1 kz1 cz1 qz1 lz1 dz1 x1 y1, v = .agg #[.bool s1, .slice p1 k1 c1, .slice q1 l1 d1, .bool sz1, .slice pz1 kz1 cz1, .slice qz1 lz1 dz1, .bool x1, .bool y1] ∧ ∃ a b, NRep w (.agg #[.bool s1, .slice p1 k1 c1, .slice q1 l1 d1]) a ∧ NRep w (.agg #[.bool sz1, .slice pz1 kz1 cz1, .slice qz1 lz1 dz1]) b ∧ large a.2.1 a.2.2 = false ∧ large b.2.1 b.2.2 = false ∧ jof (a, b, x1, y1) = r
theorem JArg.below {w w' : World} {v : Value} {r : (Bool × Nat × Nat) × (Bool × Nat × Nat) × Bool × Bool × Bool} (h : JArg w v r) (hb : Below w.heap.size w w') : JArg w' v r := by
 obtain ⟨s1, p1, k1, c1, q1, l1, d1, sz1, pz1, kz1, cz1, qz1, lz1, dz1, x1, y1, rfl, a, b, h1, h2, h3, h4, h5⟩ := h
 exact ⟨s1, p1, k1, c1, q1, l1, d1, sz1, pz1, kz1, cz1, qz1, lz1, dz1, x1, y1, rfl, a, b, h1.below hb, h2.below hb, h3, h4, h5⟩
theorem JArg.good {w : World} {v : Value} {r : (Bool × Nat × Nat) × (Bool × Nat × Nat) × Bool × Bool × Bool} (h : JArg w v r) : JGood r := by
 obtain ⟨s1, p1, k1, c1, q1, l1, d1, sz1, pz1, kz1, cz1, qz1, lz1, dz1, x1, y1, rfl, a, b, h1, h2, h3, h4, rfl⟩ := h
 exact JGood.of h3 h4
theorem JArg.res {w : World} (s1 : Bool) (p1 : Option Addr) (k1 c1 : Nat) (q1 : Option Addr) (l1 d1 : Nat) (sz1 : Bool) (pz1 : Option Addr) (kz1 cz1 : Nat) (qz1 : Option Addr) (lz1 dz1 : Nat) (x1 : Bool) (y1 : Bool) {r : (Bool × Nat × Nat) × (Bool × Nat × Nat) × Bool × Bool × Bool} (hr : JGood r) (h : GRep w (.agg #[.bool s1, .slice p1 k1 c1, .slice q1 l1 d1, .bool sz1, .slice pz1 kz1 cz1, .slice qz1 lz1 dz1, .bool x1, .bool y1]) (japi r)) : JArg w (.agg #[.bool s1, .slice p1 k1 c1, .slice q1 l1 d1, .bool sz1, .slice pz1 kz1 cz1, .slice qz1 lz1 dz1, .bool x1, .bool y1]) r := by
 obtain ⟨h1, h2, hx, hy⟩ := GRep.parts s1 p1 k1 c1 q1 l1 d1 sz1 pz1 kz1 cz1 qz1 lz1 dz1 x1 y1 h
 refine ⟨s1, p1, k1, c1, q1, l1, d1, sz1, pz1, kz1, cz1, qz1, lz1, dz1, x1, y1, rfl, (japi r).1, (japi r).2.1, hr.ends.1.nrep h1, hr.ends.2.nrep h2, hr.ends.1.1, hr.ends.2.1, ?_⟩
 rw [hx, hy, show ((japi r).1, (japi r).2.1, (japi r).2.2.1, (japi r).2.2.2) = japi r from rfl, hr.back]
theorem small2 {a b a' b' : Bool × Nat × Nat} {x y x' y' : Bool} (h1 : large a.2.1 a.2.2 = false) (h2 : large b.2.1 b.2.2 = false) (h3 : large a'.2.1 a'.2.2 = false) (h4 : large b'.2.1 b'.2.2 = false) : (ilarge (a, b, x, y) || ilarge (a', b', x', y')) = false := by
 show ((large a.2.1 a.2.2 || large b.2.1 b.2.2) || (large a'.2.1 a'.2.2 || large b'.2.1 b'.2.2)) = false
 rw [h1, h2, h3, h4]; rfl
theorem iMeet_J (s1 : Bool) (p1 : Option Addr) (k1 c1 : Nat) (q1 : Option Addr) (l1 d1 : Nat) (sz1 : Bool) (pz1 : Option Addr) (kz1 cz1 : Nat) (qz1 : Option Addr) (lz1 dz1 : Nat) (x1 : Bool) (y1 : Bool) (s2 : Bool) (p2 : Option Addr) (k2 c2 : Nat) (q2 : Option Addr) (l2 d2 : Nat) (sz2 : Bool) (pz2 : Option Addr) (kz2 cz2 : Nat) (qz2 : Option Addr) (lz2 dz2 : Nat) (x2 : Bool) (y2 : Bool) (r t : (Bool × Nat × Nat) × (Bool × Nat × Nat) × Bool × Bool × Bool) (w : World) (h : JArg w (.agg #[.bool s1, .slice p1 k1 c1, .slice q1 l1 d1, .bool sz1, .slice pz1 kz1 cz1, .slice qz1 lz1 dz1, .bool x1, .bool y1]) r) (h' : JArg w (.agg #[.bool s2, .slice p2 k2 c2, .slice q2 l2 d2, .bool sz2, .slice pz2 kz2 cz2, .slice qz2 lz2 dz2, .bool x2, .bool y2]) t) (ht : TabOk w) :
  Calls Tryz.prog 27 #[.agg #[.bool s1, .slice p1 k1 c1, .slice q1 l1 d1, .bool sz1, .slice pz1 kz1 cz1, .slice qz1 lz1 dz1, .bool x1, .bool y1], .agg #[.bool s2, .slice p2 k2 c2, .slice q2 l2 d2, .bool sz2, .slice pz2 kz2 cz2, .slice qz2 lz2 dz2, .bool x2, .bool y2]] w fun e w' => ∃ s5 p5 k5 c5 q5 l5 d5 sz5 pz5 kz5 cz5 qz5 lz5 dz5 x5 y5, e = .returned (.tuple #[.agg #[.bool s5, .slice p5 k5 c5, .slice q5 l5 d5, .bool sz5, .slice pz5 kz5 cz5, .slice qz5 lz5 dz5, .bool x5, .bool y5], .int .i64 0]) ∧ Hid (GRep w' (.agg #[.bool s5, .slice p5 k5 c5, .slice q5 l5 d5, .bool sz5, .slice pz5 kz5 cz5, .slice qz5 lz5 dz5, .bool x5, .bool y5]) (japi (jboth r t))) ∧ Below w.heap.size w w' := by
 obtain ⟨s3, p3, k3, c3, q3, l3, d3, sz3, pz3, kz3, cz3, qz3, lz3, dz3, x3, y3, hv, a, b, h1, h2, h3, h4, rfl⟩ := h
 obtain ⟨s4, p4, k4, c4, q4, l4, d4, sz4, pz4, kz4, cz4, qz4, lz4, dz4, x4, y4, hv', a', b', g1, g2, g3, g4, rfl⟩ := h'
 rw [hv, hv']
 have hc := iMeet_any s3 p3 k3 c3 q3 l3 d3 sz3 pz3 kz3 cz3 qz3 lz3 dz3 x3 y3 s4 p4 k4 c4 q4 l4 d4 sz4 pz4 kz4 cz4 qz4 lz4 dz4 x4 y4 a b a' b' w h1 h2 g1 g2 ht
 rw [m2_meet] at hc
 have e1 : m2code (a, b, x3, y3) (a', b', x4, y4) = 0 := by unfold m2code; rw [small2 h3 h4 g3 g4]; rfl
 have e2 : jval2 jboth (a, b, x3, y3) (a', b', x4, y4) = japi (jboth (jof (a, b, x3, y3)) (jof (a', b', x4, y4))) := by unfold jval2; rw [small2 h3 h4 g3 g4]; rfl
 rw [e1, e2] at hc
 exact hc
theorem iHull_J (s1 : Bool) (p1 : Option Addr) (k1 c1 : Nat) (q1 : Option Addr) (l1 d1 : Nat) (sz1 : Bool) (pz1 : Option Addr) (kz1 cz1 : Nat) (qz1 : Option Addr) (lz1 dz1 : Nat) (x1 : Bool) (y1 : Bool) (s2 : Bool) (p2 : Option Addr) (k2 c2 : Nat) (q2 : Option Addr) (l2 d2 : Nat) (sz2 : Bool) (pz2 : Option Addr) (kz2 cz2 : Nat) (qz2 : Option Addr) (lz2 dz2 : Nat) (x2 : Bool) (y2 : Bool) (r t : (Bool × Nat × Nat) × (Bool × Nat × Nat) × Bool × Bool × Bool) (w : World) (h : JArg w (.agg #[.bool s1, .slice p1 k1 c1, .slice q1 l1 d1, .bool sz1, .slice pz1 kz1 cz1, .slice qz1 lz1 dz1, .bool x1, .bool y1]) r) (h' : JArg w (.agg #[.bool s2, .slice p2 k2 c2, .slice q2 l2 d2, .bool sz2, .slice pz2 kz2 cz2, .slice qz2 lz2 dz2, .bool x2, .bool y2]) t) (ht : TabOk w) :
  Calls Tryz.prog 29 #[.agg #[.bool s1, .slice p1 k1 c1, .slice q1 l1 d1, .bool sz1, .slice pz1 kz1 cz1, .slice qz1 lz1 dz1, .bool x1, .bool y1], .agg #[.bool s2, .slice p2 k2 c2, .slice q2 l2 d2, .bool sz2, .slice pz2 kz2 cz2, .slice qz2 lz2 dz2, .bool x2, .bool y2]] w fun e w' => ∃ s5 p5 k5 c5 q5 l5 d5 sz5 pz5 kz5 cz5 qz5 lz5 dz5 x5 y5, e = .returned (.tuple #[.agg #[.bool s5, .slice p5 k5 c5, .slice q5 l5 d5, .bool sz5, .slice pz5 kz5 cz5, .slice qz5 lz5 dz5, .bool x5, .bool y5], .int .i64 0]) ∧ Hid (GRep w' (.agg #[.bool s5, .slice p5 k5 c5, .slice q5 l5 d5, .bool sz5, .slice pz5 kz5 cz5, .slice qz5 lz5 dz5, .bool x5, .bool y5]) (japi (jhull r t))) ∧ Below w.heap.size w w' := by
 obtain ⟨s3, p3, k3, c3, q3, l3, d3, sz3, pz3, kz3, cz3, qz3, lz3, dz3, x3, y3, hv, a, b, h1, h2, h3, h4, rfl⟩ := h
 obtain ⟨s4, p4, k4, c4, q4, l4, d4, sz4, pz4, kz4, cz4, qz4, lz4, dz4, x4, y4, hv', a', b', g1, g2, g3, g4, rfl⟩ := h'
 rw [hv, hv']
 have hc := iHull_any s3 p3 k3 c3 q3 l3 d3 sz3 pz3 kz3 cz3 qz3 lz3 dz3 x3 y3 s4 p4 k4 c4 q4 l4 d4 sz4 pz4 kz4 cz4 qz4 lz4 dz4 x4 y4 a b a' b' w h1 h2 g1 g2 ht
 rw [h2_hull] at hc
 have e1 : m2code (a, b, x3, y3) (a', b', x4, y4) = 0 := by unfold m2code; rw [small2 h3 h4 g3 g4]; rfl
 have e2 : jval2 jhull (a, b, x3, y3) (a', b', x4, y4) = japi (jhull (jof (a, b, x3, y3)) (jof (a', b', x4, y4))) := by unfold jval2; rw [small2 h3 h4 g3 g4]; rfl
 rw [e1, e2] at hc
 exact hc
theorem lawInside_J (s1 : Bool) (p1 : Option Addr) (k1 c1 : Nat) (q1 : Option Addr) (l1 d1 : Nat) (sz1 : Bool) (pz1 : Option Addr) (kz1 cz1 : Nat) (qz1 : Option Addr) (lz1 dz1 : Nat) (x1 : Bool) (y1 : Bool) (s2 : Bool) (p2 : Option Addr) (k2 c2 : Nat) (q2 : Option Addr) (l2 d2 : Nat) (sz2 : Bool) (pz2 : Option Addr) (kz2 cz2 : Nat) (qz2 : Option Addr) (lz2 dz2 : Nat) (x2 : Bool) (y2 : Bool) (r t : (Bool × Nat × Nat) × (Bool × Nat × Nat) × Bool × Bool × Bool) (w : World) (h : JArg w (.agg #[.bool s1, .slice p1 k1 c1, .slice q1 l1 d1, .bool sz1, .slice pz1 kz1 cz1, .slice qz1 lz1 dz1, .bool x1, .bool y1]) r) (h' : JArg w (.agg #[.bool s2, .slice p2 k2 c2, .slice q2 l2 d2, .bool sz2, .slice pz2 kz2 cz2, .slice qz2 lz2 dz2, .bool x2, .bool y2]) t) (ht : TabOk w) :
  Calls Tryz.prog 37 #[.agg #[.bool s1, .slice p1 k1 c1, .slice q1 l1 d1, .bool sz1, .slice pz1 kz1 cz1, .slice qz1 lz1 dz1, .bool x1, .bool y1], .agg #[.bool s2, .slice p2 k2 c2, .slice q2 l2 d2, .bool sz2, .slice pz2 kz2 cz2, .slice qz2 lz2 dz2, .bool x2, .bool y2]] w fun e w' => e = .returned (.bool (jwithin r t)) ∧ Below w.heap.size w w' := by
 obtain ⟨s3, p3, k3, c3, q3, l3, d3, sz3, pz3, kz3, cz3, qz3, lz3, dz3, x3, y3, hv, a, b, h1, h2, h3, h4, rfl⟩ := h
 obtain ⟨s4, p4, k4, c4, q4, l4, d4, sz4, pz4, kz4, cz4, qz4, lz4, dz4, x4, y4, hv', a', b', g1, g2, g3, g4, rfl⟩ := h'
 rw [hv, hv']
 have hc := lawInside_any s3 p3 k3 c3 q3 l3 d3 sz3 pz3 kz3 cz3 qz3 lz3 dz3 x3 y3 s4 p4 k4 c4 q4 l4 d4 sz4 pz4 kz4 cz4 qz4 lz4 dz4 x4 y4 a b a' b' w h1 h2 g1 g2 ht
 have e2 : jin2 (a, b, x3, y3) (a', b', x4, y4) = jwithin (jof (a, b, x3, y3)) (jof (a', b', x4, y4)) := by unfold jin2; rw [small2 h3 h4 g3 g4]; rfl
 rw [e2] at hc
 exact hc
theorem jOf_J (s1 : Bool) (p1 : Option Addr) (k1 c1 : Nat) (q1 : Option Addr) (l1 d1 : Nat) (sz1 : Bool) (pz1 : Option Addr) (kz1 cz1 : Nat) (qz1 : Option Addr) (lz1 dz1 : Nat) (x1 : Bool) (y1 : Bool) (r : (Bool × Nat × Nat) × (Bool × Nat × Nat) × Bool × Bool × Bool) (w : World) (h : JArg w (.agg #[.bool s1, .slice p1 k1 c1, .slice q1 l1 d1, .bool sz1, .slice pz1 kz1 cz1, .slice qz1 lz1 dz1, .bool x1, .bool y1]) r) :
  Calls Tryz.prog 84 #[.agg #[.bool s1, .slice p1 k1 c1, .slice q1 l1 d1, .bool sz1, .slice pz1 kz1 cz1, .slice qz1 lz1 dz1, .bool x1, .bool y1]] w fun e w' => ∃ s3 p3 k3 c3 q3 l3 d3 sz3 pz3 kz3 cz3 qz3 lz3 dz3 x3 y3 e3, e = .returned (.agg #[.bool s3, .slice p3 k3 c3, .slice q3 l3 d3, .bool sz3, .slice pz3 kz3 cz3, .slice qz3 lz3 dz3, .bool x3, .bool y3, .bool e3]) ∧ Hid (JRep w' (.agg #[.bool s3, .slice p3 k3 c3, .slice q3 l3 d3, .bool sz3, .slice pz3 kz3 cz3, .slice qz3 lz3 dz3, .bool x3, .bool y3, .bool e3]) r) ∧ Below w.heap.size w w' := by
 obtain ⟨s4, p4, k4, c4, q4, l4, d4, sz4, pz4, kz4, cz4, qz4, lz4, dz4, x4, y4, hv, a, b, h1, h2, h3, h4, rfl⟩ := h
 rw [hv]
 exact jOf_any s4 p4 k4 c4 q4 l4 d4 sz4 pz4 kz4 cz4 qz4 lz4 dz4 x4 y4 a b w h1 h2 h3 h4
theorem a2_ret {W : World} {B : Nat} {a0 a1 a2 a3 a4 a5 a6 a7 : Value} {tm : Array Value} {R : Ending → World → Prop} (h2 : tm[2]?.getD undef = .pointer (some ⟨B, 0, none⟩)) (hV : Box W B #[a0, a1, a2, a3, a4, a5, a6, a7]) (hR : R (.returned (.agg #[a0, a1, a2, a3, a4, a5, a6, a7])) W) :
  bodyPost Tryz.prog Tryz.f36 R .ret { tmps := tm, defers := [] } W := by
 obtain ⟨g0, g1, g2, g3, g4, g5, g6, g7, _⟩ := hV.cells8
 exact bodyPost_ret (v := .agg #[a0, a1, a2, a3, a4, a5, a6, a7]) (by simp [results, Tryz.results36, go_sem, h2, g0, g1, g2, g3, g4, g5, g6, g7]) rfl hR
theorem a2_J (s1 : Bool) (p1 : Option Addr) (k1 c1 : Nat) (q1 : Option Addr) (l1 d1 : Nat) (sz1 : Bool) (pz1 : Option Addr) (kz1 cz1 : Nat) (qz1 : Option Addr) (lz1 dz1 : Nat) (x1 : Bool) (y1 : Bool) (r : (Bool × Nat × Nat) × (Bool × Nat × Nat) × Bool × Bool × Bool) (w : World) (h : JArg w (.agg #[.bool s1, .slice p1 k1 c1, .slice q1 l1 d1, .bool sz1, .slice pz1 kz1 cz1, .slice qz1 lz1 dz1, .bool x1, .bool y1]) r) :
  Calls Tryz.prog 36 #[.agg #[.bool s1, .slice p1 k1 c1, .slice q1 l1 d1, .bool sz1, .slice pz1 kz1 cz1, .slice qz1 lz1 dz1, .bool x1, .bool y1]] w fun e w' => ∃ s5 p5 k5 c5 q5 l5 d5 sz5 pz5 kz5 cz5 qz5 lz5 dz5 x5 y5, e = .returned (.agg #[.bool s5, .slice p5 k5 c5, .slice q5 l5 d5, .bool sz5, .slice pz5 kz5 cz5, .slice qz5 lz5 dz5, .bool x5, .bool y5]) ∧ Hid (GRep w' (.agg #[.bool s5, .slice p5 k5 c5, .slice q5 l5 d5, .bool sz5, .slice pz5 kz5 cz5, .slice qz5 lz5 dz5, .bool x5, .bool y5]) (japi r)) ∧ Below w.heap.size w w' := by
 have HM := hid (fun (W : World) (hW : Below w.heap.size w W) => jOf_J s1 p1 k1 c1 q1 l1 d1 sz1 pz1 kz1 cz1 qz1 lz1 dz1 x1 y1 r W (h.below hW))
 have HA := hid (fun (W : World) (s3 : Bool) (p3 : Option Addr) (k3 c3 : Nat) (q3 : Option Addr) (l3 d3 : Nat) (sz3 : Bool) (pz3 : Option Addr) (kz3 cz3 : Nat) (qz3 : Option Addr) (lz3 dz3 : Nat) (x3 : Bool) (y3 : Bool) (e3 : Bool) (g : JRep W (.agg #[.bool s3, .slice p3 k3 c3, .slice q3 l3 d3, .bool sz3, .slice pz3 kz3 cz3, .slice qz3 lz3 dz3, .bool x3, .bool y3, .bool e3]) r) => jApi_any s3 p3 k3 c3 q3 l3 d3 sz3 pz3 kz3 cz3 qz3 lz3 dz3 x3 y3 e3 _ W g h.good.bd)
 clear h
 obtain ⟨D, hD⟩ : ∃ D, D = japi r := ⟨_, rfl⟩
 rw [← hD] at HA ⊢
 clear hD
 go_enter Tryz.func36, Tryz.ntmps36
 go_wp2_with fail
 generalize hA : World.alloc _ _ = W0
 have HV := hid (pre2_o hA nd8 nd8)
 clear hA
 refine (HM.out _ HV.out.2.2).mono ?_
 rintro e w1 ⟨s6, p6, k6, c6, q6, l6, d6, sz6, pz6, kz6, cz6, qz6, lz6, dz6, x6, y6, e6, rfl, hM, hB1⟩
 have HE := hid (And.intro (HV.out.2.1.below hB1) (HV.out.2.2.trans (hB1.mono HV.out.2.2.size)))
 clear hB1
 go_wp2_with fail
 refine (HA.out _ s6 p6 k6 c6 q6 l6 d6 sz6 pz6 kz6 cz6 qz6 lz6 dz6 x6 y6 e6 hM.out).mono ?_
 rintro e w2 ⟨s5, p5, k5, c5, q5, l5, d5, sz5, pz5, kz5, cz5, qz5, lz5, dz5, x5, y5, rfl, hG, hB2⟩
 have HE3 := hid (And.intro (HE.out.1.below hB2) (HE.out.2.trans (hB2.mono HE.out.2.size)))
 clear hB2
 obtain ⟨g0, g1, g2, g3, g4, g5, g6, g7, f0, f1, f2, f3, f4, f5, f6, f7⟩ := HE3.out.1.cells8
 go_wp2_with fail
 exact a2_ret rfl (HE3.out.1.stores [.bool s5, .slice p5 k5 c5, .slice q5 l5 d5, .bool sz5, .slice pz5 kz5 cz5, .slice qz5 lz5 dz5, .bool x5, .bool y5] rfl nd8) ⟨s5, p5, k5, c5, q5, l5, d5, sz5, pz5, kz5, cz5, qz5, lz5, dz5, x5, y5, rfl, hid (GRep.stores (k := 0) (l := [.bool s5, .slice p5 k5 c5, .slice q5 l5 d5, .bool sz5, .slice pz5 kz5 cz5, .slice qz5 lz5 dz5, .bool x5, .bool y5]) hG.out HE3.out.1 nd8), Below.stores (k := 0) (l := [.bool s5, .slice p5 k5 c5, .slice q5 l5 d5, .bool sz5, .slice pz5 kz5 cz5, .slice qz5 lz5 dz5, .bool x5, .bool y5]) HE3.out.2 (by omega)⟩
end Go.Proofs.YtimjoejkjgklaaaGreatDoor
namespace Go.Proofs.YtimjoejkjgklaaaGreatDoor
open Go.RowKit Dg
def jce (x : Bool) (p q : Bool × Nat × Nat) : Int := if x then 0 else fcmp p q
theorem jsm_iff {r t : (Bool × Nat × Nat) × (Bool × Nat × Nat) × Bool × Bool × Bool} (hr : JGood r) (ht : JGood t) : jsm r t (jce r.2.2.1 r.1 t.1) (jce r.2.2.2.1 r.2.1 t.2.1) = decide (r = t) := by
 rcases hr.shape with rfl | ⟨A, B, x, y, hA, hB, _, rfl⟩
 ·rcases ht.shape with rfl | ⟨A', B', x', y', hA', hB', _, rfl⟩
  ·rw [decide_eq_true rfl]; rfl
  ·rw [decide_eq_false (by intro h; exact Bool.noConfusion (show true = false from congrArg (fun z : (Bool × Nat × Nat) × (Bool × Nat × Nat) × Bool × Bool × Bool => z.2.2.2.2) h))]; rfl
 ·rcases ht.shape with rfl | ⟨A', B', x', y', hA', hB', _, rfl⟩
  ·rw [decide_eq_false (by intro h; exact Bool.noConfusion (show false = true from congrArg (fun z : (Bool × Nat × Nat) × (Bool × Nat × Nat) × Bool × Bool × Bool => z.2.2.2.2) h))]; rfl
  ·show (x == x' && (y == y' && (decide (jce x (if x then (false, 0, 0) else A) (if x' then (false, 0, 0) else A') = 0) && decide (jce y (if y then (false, 0, 0) else B) (if y' then (false, 0, 0) else B') = 0)))) = _
   by_cases hx : x = x'
   ·by_cases hy : y = y'
    ·subst hx hy
     have e1 : (decide (jce x (if x then (false, 0, 0) else A) (if x then (false, 0, 0) else A') = 0)) = decide ((if x then (false, 0, 0) else A) = (if x then (false, 0, 0) else A')) := by
      cases x
      ·exact decide_eq_decide.2 ⟨fr_same (hA rfl).1 (hA' rfl).1, fun h => by
        have h' : A = A' := h
        subst h'; exact fcmp_selfM A⟩
      ·rfl
     have e2 : (decide (jce y (if y then (false, 0, 0) else B) (if y then (false, 0, 0) else B') = 0)) = decide ((if y then (false, 0, 0) else B) = (if y then (false, 0, 0) else B')) := by
      cases y
      ·exact decide_eq_decide.2 ⟨fr_same (hB rfl).1 (hB' rfl).1, fun h => by
        have h' : B = B' := h
        subst h'; exact fcmp_selfM B⟩
      ·rfl
     rw [e1, e2, beq_self_eq_true, beq_self_eq_true, Bool.true_and, Bool.true_and, ← Bool.decide_and]
     exact decide_eq_decide.2 ⟨fun ⟨a, b⟩ => by rw [a, b], fun h => ⟨congrArg (fun z : (Bool × Nat × Nat) × (Bool × Nat × Nat) × Bool × Bool × Bool => z.1) h, congrArg (fun z : (Bool × Nat × Nat) × (Bool × Nat × Nat) × Bool × Bool × Bool => z.2.1) h⟩⟩
    ·rw [decide_eq_false (fun h => hy (congrArg (fun z : (Bool × Nat × Nat) × (Bool × Nat × Nat) × Bool × Bool × Bool => z.2.2.2.1) h))]
     have : (y == y') = false := by cases y <;> cases y' <;> first | rfl | exact absurd rfl hy
     rw [this, Bool.false_and, Bool.and_false]
   ·rw [decide_eq_false (fun h => hx (congrArg (fun z : (Bool × Nat × Nat) × (Bool × Nat × Nat) × Bool × Bool × Bool => z.2.2.1) h))]
    have : (x == x') = false := by cases x <;> cases x' <;> first | rfl | exact absurd rfl hx
    rw [this, Bool.false_and]
theorem jSame_J (s1 : Bool) (p1 : Option Addr) (k1 c1 : Nat) (q1 : Option Addr) (l1 d1 : Nat) (sz1 : Bool) (pz1 : Option Addr) (kz1 cz1 : Nat) (qz1 : Option Addr) (lz1 dz1 : Nat) (x1 : Bool) (y1 : Bool) (s2 : Bool) (p2 : Option Addr) (k2 c2 : Nat) (q2 : Option Addr) (l2 d2 : Nat) (sz2 : Bool) (pz2 : Option Addr) (kz2 cz2 : Nat) (qz2 : Option Addr) (lz2 dz2 : Nat) (x2 : Bool) (y2 : Bool) (r t : (Bool × Nat × Nat) × (Bool × Nat × Nat) × Bool × Bool × Bool) (w : World) (h : JArg w (.agg #[.bool s1, .slice p1 k1 c1, .slice q1 l1 d1, .bool sz1, .slice pz1 kz1 cz1, .slice qz1 lz1 dz1, .bool x1, .bool y1]) r) (h' : JArg w (.agg #[.bool s2, .slice p2 k2 c2, .slice q2 l2 d2, .bool sz2, .slice pz2 kz2 cz2, .slice qz2 lz2 dz2, .bool x2, .bool y2]) t) :
  Calls Tryz.prog 38 #[.agg #[.bool s1, .slice p1 k1 c1, .slice q1 l1 d1, .bool sz1, .slice pz1 kz1 cz1, .slice qz1 lz1 dz1, .bool x1, .bool y1], .agg #[.bool s2, .slice p2 k2 c2, .slice q2 l2 d2, .bool sz2, .slice pz2 kz2 cz2, .slice qz2 lz2 dz2, .bool x2, .bool y2]] w fun e w' => e = .returned (.bool (decide (r = t))) ∧ Below w.heap.size w w' := by
 rw [← jsm_iff h.good h'.good]
 refine jSame_gen s1 p1 k1 c1 q1 l1 d1 sz1 pz1 kz1 cz1 qz1 lz1 dz1 x1 y1 s2 p2 k2 c2 q2 l2 d2 sz2 pz2 kz2 cz2 qz2 lz2 dz2 x2 y2 r t _ _ w ?_ ?_ (fun W hW => jOf_J s1 p1 k1 c1 q1 l1 d1 sz1 pz1 kz1 cz1 qz1 lz1 dz1 x1 y1 r W (h.below hW)) (fun W hW => jOf_J s2 p2 k2 c2 q2 l2 d2 sz2 pz2 kz2 cz2 qz2 lz2 dz2 x2 y2 t W (h'.below hW))
 ·intro hx he he' W s3 p3 k3 c3 q3 l3 d3 s4 p4 k4 c4 q4 l4 d4 q q'
  rcases h.good.shape with rfl | ⟨A, B, x, y, hA, hB, _, rfl⟩
  ·exact Bool.noConfusion (show true = false from he)
  rcases h'.good.shape with rfl | ⟨A', B', x', y', hA', hB', _, rfl⟩
  ·exact Bool.noConfusion (show true = false from he')
  have hx' : x = x' := hx
  subst hx'
  cases x
  ·exact rcmp_ok (.agg #[.bool s3, .slice p3 k3 c3, .slice q3 l3 d3]) (.agg #[.bool s4, .slice p4 k4 c4, .slice q4 l4 d4]) A A' W q q' (hA rfl).ok (hA' rfl).ok
  ·exact rCmp_zero (.agg #[.bool s3, .slice p3 k3 c3, .slice q3 l3 d3]) (.agg #[.bool s4, .slice p4 k4 c4, .slice q4 l4 d4]) W q q'
 ·intro hx he he' W s3 p3 k3 c3 q3 l3 d3 s4 p4 k4 c4 q4 l4 d4 q q'
  rcases h.good.shape with rfl | ⟨A, B, x, y, hA, hB, _, rfl⟩
  ·exact Bool.noConfusion (show true = false from he)
  rcases h'.good.shape with rfl | ⟨A', B', x', y', hA', hB', _, rfl⟩
  ·exact Bool.noConfusion (show true = false from he')
  have hx' : y = y' := hx
  subst hx'
  cases y
  ·exact rcmp_ok (.agg #[.bool s3, .slice p3 k3 c3, .slice q3 l3 d3]) (.agg #[.bool s4, .slice p4 k4 c4, .slice q4 l4 d4]) B B' W q q' (hB rfl).ok (hB' rfl).ok
  ·exact rCmp_zero (.agg #[.bool s3, .slice p3 k3 c3, .slice q3 l3 d3]) (.agg #[.bool s4, .slice p4 k4 c4, .slice q4 l4 d4]) W q q'
end Go.Proofs.YtimjoejkjgklaaaGreatDoor
namespace Go.Proofs.YtimjoejkjgklaaaGreatDoor
open Go.RowKit Dg
theorem QQ.i6 {w w1 : World} {B1 B2 B3 B4 B5 B6 : Nat} {c1 c2 c3 c4 c5 c6 : List Value} (h1 : Box w1 B1 c1.toArray) (h2 : Box w1 B2 c2.toArray) (h3 : Box w1 B3 c3.toArray) (h4 : Box w1 B4 c4.toArray) (h5 : Box w1 B5 c5.toArray) (h6 : Box w1 B6 c6.toArray) (hb : Below w.heap.size w w1) : QQ w [(B1, c1), (B2, c2), (B3, c3), (B4, c4), (B5, c5), (B6, c6)] w1 :=
 ⟨by
  intro p hp
  simp only [List.mem_cons, List.not_mem_nil, or_false] at hp
  rcases hp with rfl | rfl | rfl | rfl | rfl | rfl <;> assumption, hb⟩
theorem QQ.o6 {w w1 : World} {B1 B2 B3 B4 B5 B6 : Nat} {c1 c2 c3 c4 c5 c6 : List Value} (h : QQ w [(B1, c1), (B2, c2), (B3, c3), (B4, c4), (B5, c5), (B6, c6)] w1) : Box w1 B1 c1.toArray ∧ Box w1 B2 c2.toArray ∧ Box w1 B3 c3.toArray ∧ Box w1 B4 c4.toArray ∧ Box w1 B5 c5.toArray ∧ Box w1 B6 c6.toArray := ⟨h.1 (B1, c1) (by simp), h.1 (B2, c2) (by simp), h.1 (B3, c3) (by simp), h.1 (B4, c4) (by simp), h.1 (B5, c5) (by simp), h.1 (B6, c6) (by simp)⟩
theorem jLarge_J (s1 : Bool) (p1 : Option Addr) (k1 c1 : Nat) (q1 : Option Addr) (l1 d1 : Nat) (sz1 : Bool) (pz1 : Option Addr) (kz1 cz1 : Nat) (qz1 : Option Addr) (lz1 dz1 : Nat) (x1 : Bool) (y1 : Bool) (r : (Bool × Nat × Nat) × (Bool × Nat × Nat) × Bool × Bool × Bool) (w : World) (h : JArg w (.agg #[.bool s1, .slice p1 k1 c1, .slice q1 l1 d1, .bool sz1, .slice pz1 kz1 cz1, .slice qz1 lz1 dz1, .bool x1, .bool y1]) r) :
  Calls Tryz.prog 35 #[.agg #[.bool s1, .slice p1 k1 c1, .slice q1 l1 d1, .bool sz1, .slice pz1 kz1 cz1, .slice qz1 lz1 dz1, .bool x1, .bool y1]] w fun e w' => e = .returned (.bool false) ∧ Below w.heap.size w w' := by
 obtain ⟨s4, p4, k4, c4, q4, l4, d4, sz4, pz4, kz4, cz4, qz4, lz4, dz4, x4, y4, hv, a, b, h1, h2, h3, h4, rfl⟩ := h
 rw [hv]
 have hc := jLarge_any s4 p4 k4 c4 q4 l4 d4 sz4 pz4 kz4 cz4 qz4 lz4 dz4 x4 y4 a b w h1 h2
 have e1 : ilarge (a, b, x4, y4) = false := by show (large a.2.1 a.2.2 || large b.2.1 b.2.2) = false; rw [h3, h4]; rfl
 rw [e1] at hc
 exact hc
theorem IntervalLattice_J (s1 : Bool) (p1 : Option Addr) (k1 c1 : Nat) (q1 : Option Addr) (l1 d1 : Nat) (sz1 : Bool) (pz1 : Option Addr) (kz1 cz1 : Nat) (qz1 : Option Addr) (lz1 dz1 : Nat) (x1 : Bool) (y1 : Bool) (s2 : Bool) (p2 : Option Addr) (k2 c2 : Nat) (q2 : Option Addr) (l2 d2 : Nat) (sz2 : Bool) (pz2 : Option Addr) (kz2 cz2 : Nat) (qz2 : Option Addr) (lz2 dz2 : Nat) (x2 : Bool) (y2 : Bool) (s3 : Bool) (p3 : Option Addr) (k3 c3 : Nat) (q3 : Option Addr) (l3 d3 : Nat) (sz3 : Bool) (pz3 : Option Addr) (kz3 cz3 : Nat) (qz3 : Option Addr) (lz3 dz3 : Nat) (x3 : Bool) (y3 : Bool) (ra rb rc rm rh rs rt rv ru : (Bool × Nat × Nat) × (Bool × Nat × Nat) × Bool × Bool × Bool) (bi : Bool) (w : World) (ja : JArg w (.agg #[.bool s1, .slice p1 k1 c1, .slice q1 l1 d1, .bool sz1, .slice pz1 kz1 cz1, .slice qz1 lz1 dz1, .bool x1, .bool y1]) ra) (jb : JArg w (.agg #[.bool s2, .slice p2 k2 c2, .slice q2 l2 d2, .bool sz2, .slice pz2 kz2 cz2, .slice qz2 lz2 dz2, .bool x2, .bool y2]) rb) (jc : JArg w (.agg #[.bool s3, .slice p3 k3 c3, .slice q3 l3 d3, .bool sz3, .slice pz3 kz3 cz3, .slice qz3 lz3 dz3, .bool x3, .bool y3]) rc) (ht : TabOk w)
  (em : rm = jboth ra rb) (em2 : rm = jboth rb ra) (eh : rh = jhull ra rb) (eh2 : rh = jhull rb ra) (es : rs = jboth rm rc) (et : rt = jboth rb rc) (es2 : rs = jboth ra rt) (ev : rv = jhull rh rc) (eu : ru = jhull rb rc) (ev2 : rv = jhull ra ru) (ey : ra = jboth ra rh) (ez : ra = jhull ra rm)
  (i1 : jwithin rm ra = true) (i2 : jwithin ra rh = true) (i3 : jwithin ra rb = bi) (i4 : decide (rm = ra) = bi)
  (gm : JGood rm) (gh : JGood rh) (gs : JGood rs) (gt : JGood rt) (gv : JGood rv) (gu : JGood ru) :
  Calls Tryz.prog 7 #[.agg #[.bool s1, .slice p1 k1 c1, .slice q1 l1 d1, .bool sz1, .slice pz1 kz1 cz1, .slice qz1 lz1 dz1, .bool x1, .bool y1], .agg #[.bool s2, .slice p2 k2 c2, .slice q2 l2 d2, .bool sz2, .slice pz2 kz2 cz2, .slice qz2 lz2 dz2, .bool x2, .bool y2], .agg #[.bool s3, .slice p3 k3 c3, .slice q3 l3 d3, .bool sz3, .slice pz3 kz3 cz3, .slice qz3 lz3 dz3, .bool x3, .bool y3]] w fun e w' => e = .returned (.bool true) ∧ Below w.heap.size w w' := by
 have GA := hid ja.good
 have GM := hid gm
 have GH := hid gh
 have GS := hid gs
 have GT := hid gt
 have GV := hid gv
 have GU := hid gu
 have HL := hid (fun (W : World) (s5 : Bool) (p5 : Option Addr) (k5 c5 : Nat) (q5 : Option Addr) (l5 d5 : Nat) (sz5 : Bool) (pz5 : Option Addr) (kz5 cz5 : Nat) (qz5 : Option Addr) (lz5 dz5 : Nat) (x5 : Bool) (y5 : Bool) (r : (Bool × Nat × Nat) × (Bool × Nat × Nat) × Bool × Bool × Bool) (h : JArg W (.agg #[.bool s5, .slice p5 k5 c5, .slice q5 l5 d5, .bool sz5, .slice pz5 kz5 cz5, .slice qz5 lz5 dz5, .bool x5, .bool y5]) r) => jLarge_J s5 p5 k5 c5 q5 l5 d5 sz5 pz5 kz5 cz5 qz5 lz5 dz5 x5 y5 r W h)
 have HM : Hid (∀ (W : World) (_ : Below w.heap.size w W) (s5 : Bool) (p5 : Option Addr) (k5 c5 : Nat) (q5 : Option Addr) (l5 d5 : Nat) (sz5 : Bool) (pz5 : Option Addr) (kz5 cz5 : Nat) (qz5 : Option Addr) (lz5 dz5 : Nat) (x5 : Bool) (y5 : Bool) (s6 : Bool) (p6 : Option Addr) (k6 c6 : Nat) (q6 : Option Addr) (l6 d6 : Nat) (sz6 : Bool) (pz6 : Option Addr) (kz6 cz6 : Nat) (qz6 : Option Addr) (lz6 dz6 : Nat) (x6 : Bool) (y6 : Bool) (r t q : (Bool × Nat × Nat) × (Bool × Nat × Nat) × Bool × Bool × Bool) (_ : q = jboth r t) (_ : JArg W (.agg #[.bool s5, .slice p5 k5 c5, .slice q5 l5 d5, .bool sz5, .slice pz5 kz5 cz5, .slice qz5 lz5 dz5, .bool x5, .bool y5]) r) (_ : JArg W (.agg #[.bool s6, .slice p6 k6 c6, .slice q6 l6 d6, .bool sz6, .slice pz6 kz6 cz6, .slice qz6 lz6 dz6, .bool x6, .bool y6]) t), Calls Tryz.prog 27 #[.agg #[.bool s5, .slice p5 k5 c5, .slice q5 l5 d5, .bool sz5, .slice pz5 kz5 cz5, .slice qz5 lz5 dz5, .bool x5, .bool y5], .agg #[.bool s6, .slice p6 k6 c6, .slice q6 l6 d6, .bool sz6, .slice pz6 kz6 cz6, .slice qz6 lz6 dz6, .bool x6, .bool y6]] W fun e w' => ∃ s7 p7 k7 c7 q7 l7 d7 sz7 pz7 kz7 cz7 qz7 lz7 dz7 x7 y7, e = .returned (.tuple #[.agg #[.bool s7, .slice p7 k7 c7, .slice q7 l7 d7, .bool sz7, .slice pz7 kz7 cz7, .slice qz7 lz7 dz7, .bool x7, .bool y7], .int .i64 0]) ∧ Hid (GRep w' (.agg #[.bool s7, .slice p7 k7 c7, .slice q7 l7 d7, .bool sz7, .slice pz7 kz7 cz7, .slice qz7 lz7 dz7, .bool x7, .bool y7]) (japi q)) ∧ Below W.heap.size W w') := hid (fun W hW s5 p5 k5 c5 q5 l5 d5 sz5 pz5 kz5 cz5 qz5 lz5 dz5 x5 y5 s6 p6 k6 c6 q6 l6 d6 sz6 pz6 kz6 cz6 qz6 lz6 dz6 x6 y6 r t q e h h' => by rw [e]; exact iMeet_J s5 p5 k5 c5 q5 l5 d5 sz5 pz5 kz5 cz5 qz5 lz5 dz5 x5 y5 s6 p6 k6 c6 q6 l6 d6 sz6 pz6 kz6 cz6 qz6 lz6 dz6 x6 y6 r t W h h' (ht.below hW))
 have HH : Hid (∀ (W : World) (_ : Below w.heap.size w W) (s5 : Bool) (p5 : Option Addr) (k5 c5 : Nat) (q5 : Option Addr) (l5 d5 : Nat) (sz5 : Bool) (pz5 : Option Addr) (kz5 cz5 : Nat) (qz5 : Option Addr) (lz5 dz5 : Nat) (x5 : Bool) (y5 : Bool) (s6 : Bool) (p6 : Option Addr) (k6 c6 : Nat) (q6 : Option Addr) (l6 d6 : Nat) (sz6 : Bool) (pz6 : Option Addr) (kz6 cz6 : Nat) (qz6 : Option Addr) (lz6 dz6 : Nat) (x6 : Bool) (y6 : Bool) (r t q : (Bool × Nat × Nat) × (Bool × Nat × Nat) × Bool × Bool × Bool) (_ : q = jhull r t) (_ : JArg W (.agg #[.bool s5, .slice p5 k5 c5, .slice q5 l5 d5, .bool sz5, .slice pz5 kz5 cz5, .slice qz5 lz5 dz5, .bool x5, .bool y5]) r) (_ : JArg W (.agg #[.bool s6, .slice p6 k6 c6, .slice q6 l6 d6, .bool sz6, .slice pz6 kz6 cz6, .slice qz6 lz6 dz6, .bool x6, .bool y6]) t), Calls Tryz.prog 29 #[.agg #[.bool s5, .slice p5 k5 c5, .slice q5 l5 d5, .bool sz5, .slice pz5 kz5 cz5, .slice qz5 lz5 dz5, .bool x5, .bool y5], .agg #[.bool s6, .slice p6 k6 c6, .slice q6 l6 d6, .bool sz6, .slice pz6 kz6 cz6, .slice qz6 lz6 dz6, .bool x6, .bool y6]] W fun e w' => ∃ s7 p7 k7 c7 q7 l7 d7 sz7 pz7 kz7 cz7 qz7 lz7 dz7 x7 y7, e = .returned (.tuple #[.agg #[.bool s7, .slice p7 k7 c7, .slice q7 l7 d7, .bool sz7, .slice pz7 kz7 cz7, .slice qz7 lz7 dz7, .bool x7, .bool y7], .int .i64 0]) ∧ Hid (GRep w' (.agg #[.bool s7, .slice p7 k7 c7, .slice q7 l7 d7, .bool sz7, .slice pz7 kz7 cz7, .slice qz7 lz7 dz7, .bool x7, .bool y7]) (japi q)) ∧ Below W.heap.size W w') := hid (fun W hW s5 p5 k5 c5 q5 l5 d5 sz5 pz5 kz5 cz5 qz5 lz5 dz5 x5 y5 s6 p6 k6 c6 q6 l6 d6 sz6 pz6 kz6 cz6 qz6 lz6 dz6 x6 y6 r t q e h h' => by rw [e]; exact iHull_J s5 p5 k5 c5 q5 l5 d5 sz5 pz5 kz5 cz5 qz5 lz5 dz5 x5 y5 s6 p6 k6 c6 q6 l6 d6 sz6 pz6 kz6 cz6 qz6 lz6 dz6 x6 y6 r t W h h' (ht.below hW))
 have HI := hid (fun (W : World) (s5 : Bool) (p5 : Option Addr) (k5 c5 : Nat) (q5 : Option Addr) (l5 d5 : Nat) (sz5 : Bool) (pz5 : Option Addr) (kz5 cz5 : Nat) (qz5 : Option Addr) (lz5 dz5 : Nat) (x5 : Bool) (y5 : Bool) (s6 : Bool) (p6 : Option Addr) (k6 c6 : Nat) (q6 : Option Addr) (l6 d6 : Nat) (sz6 : Bool) (pz6 : Option Addr) (kz6 cz6 : Nat) (qz6 : Option Addr) (lz6 dz6 : Nat) (x6 : Bool) (y6 : Bool) (r : (Bool × Nat × Nat) × (Bool × Nat × Nat) × Bool × Bool × Bool) (g : JGood r) (h : GRep W (.agg #[.bool s5, .slice p5 k5 c5, .slice q5 l5 d5, .bool sz5, .slice pz5 kz5 cz5, .slice qz5 lz5 dz5, .bool x5, .bool y5]) (japi r)) (h' : GRep W (.agg #[.bool s6, .slice p6 k6 c6, .slice q6 l6 d6, .bool sz6, .slice pz6 kz6 cz6, .slice qz6 lz6 dz6, .bool x6, .bool y6]) (japi r)) => is3_ok s5 p5 k5 c5 q5 l5 d5 sz5 pz5 kz5 cz5 qz5 lz5 dz5 x5 y5 s6 p6 k6 c6 q6 l6 d6 sz6 pz6 kz6 cz6 qz6 lz6 dz6 x6 y6 r W g h h')
 have HN : Hid (∀ (W : World) (_ : Below w.heap.size w W) (s5 : Bool) (p5 : Option Addr) (k5 c5 : Nat) (q5 : Option Addr) (l5 d5 : Nat) (sz5 : Bool) (pz5 : Option Addr) (kz5 cz5 : Nat) (qz5 : Option Addr) (lz5 dz5 : Nat) (x5 : Bool) (y5 : Bool) (s6 : Bool) (p6 : Option Addr) (k6 c6 : Nat) (q6 : Option Addr) (l6 d6 : Nat) (sz6 : Bool) (pz6 : Option Addr) (kz6 cz6 : Nat) (qz6 : Option Addr) (lz6 dz6 : Nat) (x6 : Bool) (y6 : Bool) (r t : (Bool × Nat × Nat) × (Bool × Nat × Nat) × Bool × Bool × Bool) (b : Bool) (_ : jwithin r t = b) (_ : JArg W (.agg #[.bool s5, .slice p5 k5 c5, .slice q5 l5 d5, .bool sz5, .slice pz5 kz5 cz5, .slice qz5 lz5 dz5, .bool x5, .bool y5]) r) (_ : JArg W (.agg #[.bool s6, .slice p6 k6 c6, .slice q6 l6 d6, .bool sz6, .slice pz6 kz6 cz6, .slice qz6 lz6 dz6, .bool x6, .bool y6]) t), Calls Tryz.prog 37 #[.agg #[.bool s5, .slice p5 k5 c5, .slice q5 l5 d5, .bool sz5, .slice pz5 kz5 cz5, .slice qz5 lz5 dz5, .bool x5, .bool y5], .agg #[.bool s6, .slice p6 k6 c6, .slice q6 l6 d6, .bool sz6, .slice pz6 kz6 cz6, .slice qz6 lz6 dz6, .bool x6, .bool y6]] W fun e w' => e = .returned (.bool b) ∧ Below W.heap.size W w') := hid (fun W hW s5 p5 k5 c5 q5 l5 d5 sz5 pz5 kz5 cz5 qz5 lz5 dz5 x5 y5 s6 p6 k6 c6 q6 l6 d6 sz6 pz6 kz6 cz6 qz6 lz6 dz6 x6 y6 r t b e h h' => by rw [← e]; exact lawInside_J s5 p5 k5 c5 q5 l5 d5 sz5 pz5 kz5 cz5 qz5 lz5 dz5 x5 y5 s6 p6 k6 c6 q6 l6 d6 sz6 pz6 kz6 cz6 qz6 lz6 dz6 x6 y6 r t W h h' (ht.below hW))
 have HS2 : Hid (∀ (W : World) (s5 : Bool) (p5 : Option Addr) (k5 c5 : Nat) (q5 : Option Addr) (l5 d5 : Nat) (sz5 : Bool) (pz5 : Option Addr) (kz5 cz5 : Nat) (qz5 : Option Addr) (lz5 dz5 : Nat) (x5 : Bool) (y5 : Bool) (s6 : Bool) (p6 : Option Addr) (k6 c6 : Nat) (q6 : Option Addr) (l6 d6 : Nat) (sz6 : Bool) (pz6 : Option Addr) (kz6 cz6 : Nat) (qz6 : Option Addr) (lz6 dz6 : Nat) (x6 : Bool) (y6 : Bool) (r t : (Bool × Nat × Nat) × (Bool × Nat × Nat) × Bool × Bool × Bool) (b : Bool) (_ : decide (r = t) = b) (_ : JArg W (.agg #[.bool s5, .slice p5 k5 c5, .slice q5 l5 d5, .bool sz5, .slice pz5 kz5 cz5, .slice qz5 lz5 dz5, .bool x5, .bool y5]) r) (_ : JArg W (.agg #[.bool s6, .slice p6 k6 c6, .slice q6 l6 d6, .bool sz6, .slice pz6 kz6 cz6, .slice qz6 lz6 dz6, .bool x6, .bool y6]) t), Calls Tryz.prog 38 #[.agg #[.bool s5, .slice p5 k5 c5, .slice q5 l5 d5, .bool sz5, .slice pz5 kz5 cz5, .slice qz5 lz5 dz5, .bool x5, .bool y5], .agg #[.bool s6, .slice p6 k6 c6, .slice q6 l6 d6, .bool sz6, .slice pz6 kz6 cz6, .slice qz6 lz6 dz6, .bool x6, .bool y6]] W fun e w' => e = .returned (.bool b) ∧ Below W.heap.size W w') := hid (fun W s5 p5 k5 c5 q5 l5 d5 sz5 pz5 kz5 cz5 qz5 lz5 dz5 x5 y5 s6 p6 k6 c6 q6 l6 d6 sz6 pz6 kz6 cz6 qz6 lz6 dz6 x6 y6 r t b e h h' => by rw [← e]; exact jSame_J s5 p5 k5 c5 q5 l5 d5 sz5 pz5 kz5 cz5 qz5 lz5 dz5 x5 y5 s6 p6 k6 c6 q6 l6 d6 sz6 pz6 kz6 cz6 qz6 lz6 dz6 x6 y6 r t W h h')
 have HA2 := hid (fun (W : World) (s5 : Bool) (p5 : Option Addr) (k5 c5 : Nat) (q5 : Option Addr) (l5 d5 : Nat) (sz5 : Bool) (pz5 : Option Addr) (kz5 cz5 : Nat) (qz5 : Option Addr) (lz5 dz5 : Nat) (x5 : Bool) (y5 : Bool) (r : (Bool × Nat × Nat) × (Bool × Nat × Nat) × Bool × Bool × Bool) (h : JArg W (.agg #[.bool s5, .slice p5 k5 c5, .slice q5 l5 d5, .bool sz5, .slice pz5 kz5 cz5, .slice qz5 lz5 dz5, .bool x5, .bool y5]) r) => a2_J s5 p5 k5 c5 q5 l5 d5 sz5 pz5 kz5 cz5 qz5 lz5 dz5 x5 y5 r W h)
 have HA := hid (fun (W : World) (hW : Below w.heap.size w W) => awake3_any W (ht.below hW))
 have Ja := hid ja
 have Jb := hid jb
 have Jc := hid jc
 have Eem := hid em
 have Eem2 := hid em2
 have Eeh := hid eh
 have Eeh2 := hid eh2
 have Ees := hid es
 have Eet := hid et
 have Ees2 := hid es2
 have Eev := hid ev
 have Eeu := hid eu
 have Eev2 := hid ev2
 have Eey := hid ey
 have Eez := hid ez
 have Ei1 := hid i1
 have Ei2 := hid i2
 have Ei3 := hid i3
 have Ei4 := hid i4
 clear ja jb jc ht gm gh gs gt gv gu em em2 eh eh2 es et es2 ev eu ev2 ey ez i1 i2 i3 i4
 go_enter Tryz.func7, Tryz.ntmps7
 go_wp2_with fail
 generalize hA : World.alloc _ _ = W0
 have HV := hid (pre3_o hA nd8 nd8 nd8)
 clear hA
 have HB := hid HV.out.2.2.2
 have Ba := hid HV.out.1
 have Ja_ := hid (Ja.out.below HB.out)
 have Bb := hid HV.out.2.1
 have Jb_ := hid (Jb.out.below HB.out)
 have Bc := hid HV.out.2.2.1
 have Jc_ := hid (Jc.out.below HB.out)
 clear HV Ja Jb Jc
 obtain ⟨m0_0, m0_1, m0_2, m0_3, m0_4, m0_5, m0_6, m0_7, _⟩ := (Ba.out).cells8
 refine (HL.out _ s1 p1 k1 c1 q1 l1 d1 sz1 pz1 kz1 cz1 qz1 lz1 dz1 x1 y1 ra (Ja_.out)).mono ?_
 rintro e w1 ⟨rfl, hBw1⟩
 clear m0_0 m0_1 m0_2 m0_3 m0_4 m0_5 m0_6 m0_7
 replace Ba := hid (Ba.out.below hBw1)
 replace Ja_ := hid (Ja_.out.below hBw1)
 replace Bb := hid (Bb.out.below hBw1)
 replace Jb_ := hid (Jb_.out.below hBw1)
 replace Bc := hid (Bc.out.below hBw1)
 replace Jc_ := hid (Jc_.out.below hBw1)
 replace HB := hid (HB.out.trans ((hBw1).mono HB.out.size))
 clear hBw1 
 obtain ⟨m0_0, m0_1, m0_2, m0_3, m0_4, m0_5, m0_6, m0_7, _⟩ := (Bb.out).cells8
 go_wp2_with fail
 refine (HL.out _ s2 p2 k2 c2 q2 l2 d2 sz2 pz2 kz2 cz2 qz2 lz2 dz2 x2 y2 rb (Jb_.out)).mono ?_
 rintro e w2 ⟨rfl, hBw2⟩
 clear m0_0 m0_1 m0_2 m0_3 m0_4 m0_5 m0_6 m0_7
 replace Ba := hid (Ba.out.below hBw2)
 replace Ja_ := hid (Ja_.out.below hBw2)
 replace Bb := hid (Bb.out.below hBw2)
 replace Jb_ := hid (Jb_.out.below hBw2)
 replace Bc := hid (Bc.out.below hBw2)
 replace Jc_ := hid (Jc_.out.below hBw2)
 replace HB := hid (HB.out.trans ((hBw2).mono HB.out.size))
 clear hBw2 
 obtain ⟨m0_0, m0_1, m0_2, m0_3, m0_4, m0_5, m0_6, m0_7, _⟩ := (Bc.out).cells8
 go_wp2_with fail
 refine (HL.out _ s3 p3 k3 c3 q3 l3 d3 sz3 pz3 kz3 cz3 qz3 lz3 dz3 x3 y3 rc (Jc_.out)).mono ?_
 rintro e w3 ⟨rfl, hBw3⟩
 clear m0_0 m0_1 m0_2 m0_3 m0_4 m0_5 m0_6 m0_7
 replace Ba := hid (Ba.out.below hBw3)
 replace Ja_ := hid (Ja_.out.below hBw3)
 replace Bb := hid (Bb.out.below hBw3)
 replace Jb_ := hid (Jb_.out.below hBw3)
 replace Bc := hid (Bc.out.below hBw3)
 replace Jc_ := hid (Jc_.out.below hBw3)
 replace HB := hid (HB.out.trans ((hBw3).mono HB.out.size))
 clear hBw3 
 obtain ⟨m0_0, m0_1, m0_2, m0_3, m0_4, m0_5, m0_6, m0_7, _⟩ := (Ba.out).cells8
 obtain ⟨m1_0, m1_1, m1_2, m1_3, m1_4, m1_5, m1_6, m1_7, _⟩ := (Bb.out).cells8
 go_wp2_with fail
 refine (HM.out _ (HB.out) s1 p1 k1 c1 q1 l1 d1 sz1 pz1 kz1 cz1 qz1 lz1 dz1 x1 y1 s2 p2 k2 c2 q2 l2 d2 sz2 pz2 kz2 cz2 qz2 lz2 dz2 x2 y2 ra rb rm Eem.out (Ja_.out) (Jb_.out)).mono ?_
 rintro e w4 ⟨s11, p11, k11, c11, q11, l11, d11, sz11, pz11, kz11, cz11, qz11, lz11, dz11, x11, y11, rfl, hG11, hBw4⟩
 clear m0_0 m0_1 m0_2 m0_3 m0_4 m0_5 m0_6 m0_7 m1_0 m1_1 m1_2 m1_3 m1_4 m1_5 m1_6 m1_7
 replace Ba := hid (Ba.out.below hBw4)
 replace Ja_ := hid (Ja_.out.below hBw4)
 replace Bb := hid (Bb.out.below hBw4)
 replace Jb_ := hid (Jb_.out.below hBw4)
 replace Bc := hid (Bc.out.below hBw4)
 replace Jc_ := hid (Jc_.out.below hBw4)
 replace HB := hid (HB.out.trans ((hBw4).mono HB.out.size))
 clear hBw4 
 go_upto_region 4 with fail
 have HX := hid (pre1 w4 [.bool s11, .slice p11 k11 c11, .slice q11 l11 d11, .bool sz11, .slice pz11 kz11 cz11, .slice qz11 lz11 dz11, .bool x11, .bool y11] 26 nd8)
 have lt_a := (Ba.out).lt
 have lt_b := (Bb.out).lt
 have lt_c := (Bc.out).lt
 generalize w4.alloc (.cells #[.bool s11, .slice p11 k11 c11, .slice q11 l11 d11, .bool sz11, .slice pz11 kz11 cz11, .slice qz11 lz11 dz11, .bool x11, .bool y11] 26) = W11 at *
 clear lt_a lt_b lt_c
 have HX1 := hid HX.out.1
 have HX2 := hid HX.out.2
 have hG11b := hid (GRep.below hG11.out HX2.out)
 replace Ba := hid (Ba.out.below HX2.out)
 replace Ja_ := hid (Ja_.out.below HX2.out)
 replace Bb := hid (Bb.out.below HX2.out)
 replace Jb_ := hid (Jb_.out.below HX2.out)
 replace Bc := hid (Bc.out.below HX2.out)
 replace Jc_ := hid (Jc_.out.below HX2.out)
 replace HB := hid (HB.out.trans ((HX2.out).mono HB.out.size))
 have Bm := hid HX1.out
 have Jm_ := hid (JArg.res s11 p11 k11 c11 q11 l11 d11 sz11 pz11 kz11 cz11 qz11 lz11 dz11 x11 y11 GM.out hG11b.out)
 have Gm_ := hid hG11b.out
 clear HX HX1 HX2 hG11 hG11b 
 obtain ⟨m0_0, m0_1, m0_2, m0_3, m0_4, m0_5, m0_6, m0_7, _⟩ := (Bb.out).cells8
 obtain ⟨m1_0, m1_1, m1_2, m1_3, m1_4, m1_5, m1_6, m1_7, _⟩ := (Ba.out).cells8
 go_wp2_with fail
 refine (HM.out _ (HB.out) s2 p2 k2 c2 q2 l2 d2 sz2 pz2 kz2 cz2 qz2 lz2 dz2 x2 y2 s1 p1 k1 c1 q1 l1 d1 sz1 pz1 kz1 cz1 qz1 lz1 dz1 x1 y1 rb ra rm Eem2.out (Jb_.out) (Ja_.out)).mono ?_
 rintro e w5 ⟨s12, p12, k12, c12, q12, l12, d12, sz12, pz12, kz12, cz12, qz12, lz12, dz12, x12, y12, rfl, hG12, hBw5⟩
 clear m0_0 m0_1 m0_2 m0_3 m0_4 m0_5 m0_6 m0_7 m1_0 m1_1 m1_2 m1_3 m1_4 m1_5 m1_6 m1_7
 replace Ba := hid (Ba.out.below hBw5)
 replace Ja_ := hid (Ja_.out.below hBw5)
 replace Bb := hid (Bb.out.below hBw5)
 replace Jb_ := hid (Jb_.out.below hBw5)
 replace Bc := hid (Bc.out.below hBw5)
 replace Jc_ := hid (Jc_.out.below hBw5)
 replace Bm := hid (Bm.out.below hBw5)
 replace Jm_ := hid (Jm_.out.below hBw5)
 replace Gm_ := hid (Gm_.out.below hBw5)
 replace HB := hid (HB.out.trans ((hBw5).mono HB.out.size))
 clear hBw5 
 go_upto_region 5 with fail
 have HX := hid (pre1 w5 [.bool s12, .slice p12 k12 c12, .slice q12 l12 d12, .bool sz12, .slice pz12 kz12 cz12, .slice qz12 lz12 dz12, .bool x12, .bool y12] 26 nd8)
 have lt_a := (Ba.out).lt
 have lt_b := (Bb.out).lt
 have lt_c := (Bc.out).lt
 have lt_m := (Bm.out).lt
 generalize w5.alloc (.cells #[.bool s12, .slice p12 k12 c12, .slice q12 l12 d12, .bool sz12, .slice pz12 kz12 cz12, .slice qz12 lz12 dz12, .bool x12, .bool y12] 26) = W12 at *
 clear lt_a lt_b lt_c lt_m
 have HX1 := hid HX.out.1
 have HX2 := hid HX.out.2
 have hG12b := hid (GRep.below hG12.out HX2.out)
 replace Ba := hid (Ba.out.below HX2.out)
 replace Ja_ := hid (Ja_.out.below HX2.out)
 replace Bb := hid (Bb.out.below HX2.out)
 replace Jb_ := hid (Jb_.out.below HX2.out)
 replace Bc := hid (Bc.out.below HX2.out)
 replace Jc_ := hid (Jc_.out.below HX2.out)
 replace Bm := hid (Bm.out.below HX2.out)
 replace Jm_ := hid (Jm_.out.below HX2.out)
 replace Gm_ := hid (Gm_.out.below HX2.out)
 replace HB := hid (HB.out.trans ((HX2.out).mono HB.out.size))
 have Bn := hid HX1.out
 have Jn_ := hid (JArg.res s12 p12 k12 c12 q12 l12 d12 sz12 pz12 kz12 cz12 qz12 lz12 dz12 x12 y12 GM.out hG12b.out)
 have Gn_ := hid hG12b.out
 clear HX HX1 HX2 hG12 hG12b 
 obtain ⟨m0_0, m0_1, m0_2, m0_3, m0_4, m0_5, m0_6, m0_7, _⟩ := (Ba.out).cells8
 obtain ⟨m1_0, m1_1, m1_2, m1_3, m1_4, m1_5, m1_6, m1_7, _⟩ := (Bb.out).cells8
 go_wp2_with fail
 refine (HH.out _ (HB.out) s1 p1 k1 c1 q1 l1 d1 sz1 pz1 kz1 cz1 qz1 lz1 dz1 x1 y1 s2 p2 k2 c2 q2 l2 d2 sz2 pz2 kz2 cz2 qz2 lz2 dz2 x2 y2 ra rb rh Eeh.out (Ja_.out) (Jb_.out)).mono ?_
 rintro e w6 ⟨s13, p13, k13, c13, q13, l13, d13, sz13, pz13, kz13, cz13, qz13, lz13, dz13, x13, y13, rfl, hG13, hBw6⟩
 clear m0_0 m0_1 m0_2 m0_3 m0_4 m0_5 m0_6 m0_7 m1_0 m1_1 m1_2 m1_3 m1_4 m1_5 m1_6 m1_7
 replace Ba := hid (Ba.out.below hBw6)
 replace Ja_ := hid (Ja_.out.below hBw6)
 replace Bb := hid (Bb.out.below hBw6)
 replace Jb_ := hid (Jb_.out.below hBw6)
 replace Bc := hid (Bc.out.below hBw6)
 replace Jc_ := hid (Jc_.out.below hBw6)
 replace Bm := hid (Bm.out.below hBw6)
 replace Jm_ := hid (Jm_.out.below hBw6)
 replace Gm_ := hid (Gm_.out.below hBw6)
 replace Bn := hid (Bn.out.below hBw6)
 replace Jn_ := hid (Jn_.out.below hBw6)
 replace Gn_ := hid (Gn_.out.below hBw6)
 replace HB := hid (HB.out.trans ((hBw6).mono HB.out.size))
 clear hBw6 
 go_upto_region 6 with fail
 have HX := hid (pre1 w6 [.bool s13, .slice p13 k13 c13, .slice q13 l13 d13, .bool sz13, .slice pz13 kz13 cz13, .slice qz13 lz13 dz13, .bool x13, .bool y13] 26 nd8)
 have lt_a := (Ba.out).lt
 have lt_b := (Bb.out).lt
 have lt_c := (Bc.out).lt
 have lt_m := (Bm.out).lt
 have lt_n := (Bn.out).lt
 generalize w6.alloc (.cells #[.bool s13, .slice p13 k13 c13, .slice q13 l13 d13, .bool sz13, .slice pz13 kz13 cz13, .slice qz13 lz13 dz13, .bool x13, .bool y13] 26) = W13 at *
 clear lt_a lt_b lt_c lt_m lt_n
 have HX1 := hid HX.out.1
 have HX2 := hid HX.out.2
 have hG13b := hid (GRep.below hG13.out HX2.out)
 replace Ba := hid (Ba.out.below HX2.out)
 replace Ja_ := hid (Ja_.out.below HX2.out)
 replace Bb := hid (Bb.out.below HX2.out)
 replace Jb_ := hid (Jb_.out.below HX2.out)
 replace Bc := hid (Bc.out.below HX2.out)
 replace Jc_ := hid (Jc_.out.below HX2.out)
 replace Bm := hid (Bm.out.below HX2.out)
 replace Jm_ := hid (Jm_.out.below HX2.out)
 replace Gm_ := hid (Gm_.out.below HX2.out)
 replace Bn := hid (Bn.out.below HX2.out)
 replace Jn_ := hid (Jn_.out.below HX2.out)
 replace Gn_ := hid (Gn_.out.below HX2.out)
 replace HB := hid (HB.out.trans ((HX2.out).mono HB.out.size))
 have Bh := hid HX1.out
 have Jh_ := hid (JArg.res s13 p13 k13 c13 q13 l13 d13 sz13 pz13 kz13 cz13 qz13 lz13 dz13 x13 y13 GH.out hG13b.out)
 have Gh_ := hid hG13b.out
 clear HX HX1 HX2 hG13 hG13b 
 obtain ⟨m0_0, m0_1, m0_2, m0_3, m0_4, m0_5, m0_6, m0_7, _⟩ := (Bb.out).cells8
 obtain ⟨m1_0, m1_1, m1_2, m1_3, m1_4, m1_5, m1_6, m1_7, _⟩ := (Ba.out).cells8
 go_wp2_with fail
 refine (HH.out _ (HB.out) s2 p2 k2 c2 q2 l2 d2 sz2 pz2 kz2 cz2 qz2 lz2 dz2 x2 y2 s1 p1 k1 c1 q1 l1 d1 sz1 pz1 kz1 cz1 qz1 lz1 dz1 x1 y1 rb ra rh Eeh2.out (Jb_.out) (Ja_.out)).mono ?_
 rintro e w7 ⟨s14, p14, k14, c14, q14, l14, d14, sz14, pz14, kz14, cz14, qz14, lz14, dz14, x14, y14, rfl, hG14, hBw7⟩
 clear m0_0 m0_1 m0_2 m0_3 m0_4 m0_5 m0_6 m0_7 m1_0 m1_1 m1_2 m1_3 m1_4 m1_5 m1_6 m1_7
 replace Ba := hid (Ba.out.below hBw7)
 replace Ja_ := hid (Ja_.out.below hBw7)
 replace Bb := hid (Bb.out.below hBw7)
 replace Jb_ := hid (Jb_.out.below hBw7)
 replace Bc := hid (Bc.out.below hBw7)
 replace Jc_ := hid (Jc_.out.below hBw7)
 replace Bm := hid (Bm.out.below hBw7)
 replace Jm_ := hid (Jm_.out.below hBw7)
 replace Gm_ := hid (Gm_.out.below hBw7)
 replace Bn := hid (Bn.out.below hBw7)
 replace Jn_ := hid (Jn_.out.below hBw7)
 replace Gn_ := hid (Gn_.out.below hBw7)
 replace Bh := hid (Bh.out.below hBw7)
 replace Jh_ := hid (Jh_.out.below hBw7)
 replace Gh_ := hid (Gh_.out.below hBw7)
 replace HB := hid (HB.out.trans ((hBw7).mono HB.out.size))
 clear hBw7 
 go_upto_region 7 with fail
 have HX := hid (pre1 w7 [.bool s14, .slice p14 k14 c14, .slice q14 l14 d14, .bool sz14, .slice pz14 kz14 cz14, .slice qz14 lz14 dz14, .bool x14, .bool y14] 26 nd8)
 have lt_a := (Ba.out).lt
 have lt_b := (Bb.out).lt
 have lt_c := (Bc.out).lt
 have lt_m := (Bm.out).lt
 have lt_n := (Bn.out).lt
 have lt_h := (Bh.out).lt
 generalize w7.alloc (.cells #[.bool s14, .slice p14 k14 c14, .slice q14 l14 d14, .bool sz14, .slice pz14 kz14 cz14, .slice qz14 lz14 dz14, .bool x14, .bool y14] 26) = W14 at *
 clear lt_a lt_b lt_c lt_m lt_n lt_h
 have HX1 := hid HX.out.1
 have HX2 := hid HX.out.2
 have hG14b := hid (GRep.below hG14.out HX2.out)
 replace Ba := hid (Ba.out.below HX2.out)
 replace Ja_ := hid (Ja_.out.below HX2.out)
 replace Bb := hid (Bb.out.below HX2.out)
 replace Jb_ := hid (Jb_.out.below HX2.out)
 replace Bc := hid (Bc.out.below HX2.out)
 replace Jc_ := hid (Jc_.out.below HX2.out)
 replace Bm := hid (Bm.out.below HX2.out)
 replace Jm_ := hid (Jm_.out.below HX2.out)
 replace Gm_ := hid (Gm_.out.below HX2.out)
 replace Bn := hid (Bn.out.below HX2.out)
 replace Jn_ := hid (Jn_.out.below HX2.out)
 replace Gn_ := hid (Gn_.out.below HX2.out)
 replace Bh := hid (Bh.out.below HX2.out)
 replace Jh_ := hid (Jh_.out.below HX2.out)
 replace Gh_ := hid (Gh_.out.below HX2.out)
 replace HB := hid (HB.out.trans ((HX2.out).mono HB.out.size))
 have Bi := hid HX1.out
 have Ji_ := hid (JArg.res s14 p14 k14 c14 q14 l14 d14 sz14 pz14 kz14 cz14 qz14 lz14 dz14 x14 y14 GH.out hG14b.out)
 have Gi_ := hid hG14b.out
 clear HX HX1 HX2 hG14 hG14b 
 obtain ⟨m0_0, m0_1, m0_2, m0_3, m0_4, m0_5, m0_6, m0_7, _⟩ := (Bn.out).cells8
 obtain ⟨m1_0, m1_1, m1_2, m1_3, m1_4, m1_5, m1_6, m1_7, _⟩ := (Bm.out).cells8
 go_wp2_with fail
 refine (HI.out _ s12 p12 k12 c12 q12 l12 d12 sz12 pz12 kz12 cz12 qz12 lz12 dz12 x12 y12 s11 p11 k11 c11 q11 l11 d11 sz11 pz11 kz11 cz11 qz11 lz11 dz11 x11 y11 rm GM.out (Gn_.out) (Gm_.out)).mono ?_
 rintro e w8 ⟨rfl, hBw8⟩
 clear m0_0 m0_1 m0_2 m0_3 m0_4 m0_5 m0_6 m0_7 m1_0 m1_1 m1_2 m1_3 m1_4 m1_5 m1_6 m1_7
 replace Ba := hid (Ba.out.below hBw8)
 replace Ja_ := hid (Ja_.out.below hBw8)
 replace Bb := hid (Bb.out.below hBw8)
 replace Jb_ := hid (Jb_.out.below hBw8)
 replace Bc := hid (Bc.out.below hBw8)
 replace Jc_ := hid (Jc_.out.below hBw8)
 replace Bm := hid (Bm.out.below hBw8)
 replace Jm_ := hid (Jm_.out.below hBw8)
 replace Gm_ := hid (Gm_.out.below hBw8)
 replace Bn := hid (Bn.out.below hBw8)
 replace Jn_ := hid (Jn_.out.below hBw8)
 replace Gn_ := hid (Gn_.out.below hBw8)
 replace Bh := hid (Bh.out.below hBw8)
 replace Jh_ := hid (Jh_.out.below hBw8)
 replace Gh_ := hid (Gh_.out.below hBw8)
 replace Bi := hid (Bi.out.below hBw8)
 replace Ji_ := hid (Ji_.out.below hBw8)
 replace Gi_ := hid (Gi_.out.below hBw8)
 replace HB := hid (HB.out.trans ((hBw8).mono HB.out.size))
 clear hBw8 
 obtain ⟨m0_0, m0_1, m0_2, m0_3, m0_4, m0_5, m0_6, m0_7, _⟩ := (Bi.out).cells8
 obtain ⟨m1_0, m1_1, m1_2, m1_3, m1_4, m1_5, m1_6, m1_7, _⟩ := (Bh.out).cells8
 go_wp2_with fail
 refine (HI.out _ s14 p14 k14 c14 q14 l14 d14 sz14 pz14 kz14 cz14 qz14 lz14 dz14 x14 y14 s13 p13 k13 c13 q13 l13 d13 sz13 pz13 kz13 cz13 qz13 lz13 dz13 x13 y13 rh GH.out (Gi_.out) (Gh_.out)).mono ?_
 rintro e w9 ⟨rfl, hBw9⟩
 clear m0_0 m0_1 m0_2 m0_3 m0_4 m0_5 m0_6 m0_7 m1_0 m1_1 m1_2 m1_3 m1_4 m1_5 m1_6 m1_7
 replace Ba := hid (Ba.out.below hBw9)
 replace Ja_ := hid (Ja_.out.below hBw9)
 replace Bb := hid (Bb.out.below hBw9)
 replace Jb_ := hid (Jb_.out.below hBw9)
 replace Bc := hid (Bc.out.below hBw9)
 replace Jc_ := hid (Jc_.out.below hBw9)
 replace Bm := hid (Bm.out.below hBw9)
 replace Jm_ := hid (Jm_.out.below hBw9)
 replace Gm_ := hid (Gm_.out.below hBw9)
 replace Bn := hid (Bn.out.below hBw9)
 replace Jn_ := hid (Jn_.out.below hBw9)
 replace Gn_ := hid (Gn_.out.below hBw9)
 replace Bh := hid (Bh.out.below hBw9)
 replace Jh_ := hid (Jh_.out.below hBw9)
 replace Gh_ := hid (Gh_.out.below hBw9)
 replace Bi := hid (Bi.out.below hBw9)
 replace Ji_ := hid (Ji_.out.below hBw9)
 replace Gi_ := hid (Gi_.out.below hBw9)
 replace HB := hid (HB.out.trans ((hBw9).mono HB.out.size))
 clear hBw9 
 clear Bn Jn_ Gn_
 clear Bi Ji_ Gi_
 clear Gm_
 clear Gh_
 obtain ⟨m0_0, m0_1, m0_2, m0_3, m0_4, m0_5, m0_6, m0_7, _⟩ := (Bm.out).cells8
 obtain ⟨m1_0, m1_1, m1_2, m1_3, m1_4, m1_5, m1_6, m1_7, _⟩ := (Bc.out).cells8
 go_wp2_with fail
 refine (HM.out _ (HB.out) s11 p11 k11 c11 q11 l11 d11 sz11 pz11 kz11 cz11 qz11 lz11 dz11 x11 y11 s3 p3 k3 c3 q3 l3 d3 sz3 pz3 kz3 cz3 qz3 lz3 dz3 x3 y3 rm rc rs Ees.out (Jm_.out) (Jc_.out)).mono ?_
 rintro e w10 ⟨s15, p15, k15, c15, q15, l15, d15, sz15, pz15, kz15, cz15, qz15, lz15, dz15, x15, y15, rfl, hG15, hBw10⟩
 clear m0_0 m0_1 m0_2 m0_3 m0_4 m0_5 m0_6 m0_7 m1_0 m1_1 m1_2 m1_3 m1_4 m1_5 m1_6 m1_7
 replace Ba := hid (Ba.out.below hBw10)
 replace Ja_ := hid (Ja_.out.below hBw10)
 replace Bb := hid (Bb.out.below hBw10)
 replace Jb_ := hid (Jb_.out.below hBw10)
 replace Bc := hid (Bc.out.below hBw10)
 replace Jc_ := hid (Jc_.out.below hBw10)
 replace Bm := hid (Bm.out.below hBw10)
 replace Jm_ := hid (Jm_.out.below hBw10)
 replace Bh := hid (Bh.out.below hBw10)
 replace Jh_ := hid (Jh_.out.below hBw10)
 replace HB := hid (HB.out.trans ((hBw10).mono HB.out.size))
 clear hBw10 
 go_upto_region 10 with fail
 have HX := hid (pre1 w10 [.bool s15, .slice p15 k15 c15, .slice q15 l15 d15, .bool sz15, .slice pz15 kz15 cz15, .slice qz15 lz15 dz15, .bool x15, .bool y15] 26 nd8)
 have lt_a := (Ba.out).lt
 have lt_b := (Bb.out).lt
 have lt_c := (Bc.out).lt
 have lt_m := (Bm.out).lt
 have lt_h := (Bh.out).lt
 generalize w10.alloc (.cells #[.bool s15, .slice p15 k15 c15, .slice q15 l15 d15, .bool sz15, .slice pz15 kz15 cz15, .slice qz15 lz15 dz15, .bool x15, .bool y15] 26) = W15 at *
 clear lt_a lt_b lt_c lt_m lt_h
 have HX1 := hid HX.out.1
 have HX2 := hid HX.out.2
 have hG15b := hid (GRep.below hG15.out HX2.out)
 replace Ba := hid (Ba.out.below HX2.out)
 replace Ja_ := hid (Ja_.out.below HX2.out)
 replace Bb := hid (Bb.out.below HX2.out)
 replace Jb_ := hid (Jb_.out.below HX2.out)
 replace Bc := hid (Bc.out.below HX2.out)
 replace Jc_ := hid (Jc_.out.below HX2.out)
 replace Bm := hid (Bm.out.below HX2.out)
 replace Jm_ := hid (Jm_.out.below HX2.out)
 replace Bh := hid (Bh.out.below HX2.out)
 replace Jh_ := hid (Jh_.out.below HX2.out)
 replace HB := hid (HB.out.trans ((HX2.out).mono HB.out.size))
 have Bs := hid HX1.out
 have Js_ := hid (JArg.res s15 p15 k15 c15 q15 l15 d15 sz15 pz15 kz15 cz15 qz15 lz15 dz15 x15 y15 GS.out hG15b.out)
 have Gs_ := hid hG15b.out
 clear HX HX1 HX2 hG15 hG15b 
 obtain ⟨m0_0, m0_1, m0_2, m0_3, m0_4, m0_5, m0_6, m0_7, _⟩ := (Bb.out).cells8
 obtain ⟨m1_0, m1_1, m1_2, m1_3, m1_4, m1_5, m1_6, m1_7, _⟩ := (Bc.out).cells8
 go_wp2_with fail
 refine (HM.out _ (HB.out) s2 p2 k2 c2 q2 l2 d2 sz2 pz2 kz2 cz2 qz2 lz2 dz2 x2 y2 s3 p3 k3 c3 q3 l3 d3 sz3 pz3 kz3 cz3 qz3 lz3 dz3 x3 y3 rb rc rt Eet.out (Jb_.out) (Jc_.out)).mono ?_
 rintro e w11 ⟨s16, p16, k16, c16, q16, l16, d16, sz16, pz16, kz16, cz16, qz16, lz16, dz16, x16, y16, rfl, hG16, hBw11⟩
 clear m0_0 m0_1 m0_2 m0_3 m0_4 m0_5 m0_6 m0_7 m1_0 m1_1 m1_2 m1_3 m1_4 m1_5 m1_6 m1_7
 replace Ba := hid (Ba.out.below hBw11)
 replace Ja_ := hid (Ja_.out.below hBw11)
 replace Bb := hid (Bb.out.below hBw11)
 replace Jb_ := hid (Jb_.out.below hBw11)
 replace Bc := hid (Bc.out.below hBw11)
 replace Jc_ := hid (Jc_.out.below hBw11)
 replace Bm := hid (Bm.out.below hBw11)
 replace Jm_ := hid (Jm_.out.below hBw11)
 replace Bh := hid (Bh.out.below hBw11)
 replace Jh_ := hid (Jh_.out.below hBw11)
 replace Bs := hid (Bs.out.below hBw11)
 replace Js_ := hid (Js_.out.below hBw11)
 replace Gs_ := hid (Gs_.out.below hBw11)
 replace HB := hid (HB.out.trans ((hBw11).mono HB.out.size))
 clear hBw11 
 go_upto_region 11 with fail
 have HX := hid (pre1 w11 [.bool s16, .slice p16 k16 c16, .slice q16 l16 d16, .bool sz16, .slice pz16 kz16 cz16, .slice qz16 lz16 dz16, .bool x16, .bool y16] 26 nd8)
 have lt_a := (Ba.out).lt
 have lt_b := (Bb.out).lt
 have lt_c := (Bc.out).lt
 have lt_m := (Bm.out).lt
 have lt_h := (Bh.out).lt
 have lt_s := (Bs.out).lt
 generalize w11.alloc (.cells #[.bool s16, .slice p16 k16 c16, .slice q16 l16 d16, .bool sz16, .slice pz16 kz16 cz16, .slice qz16 lz16 dz16, .bool x16, .bool y16] 26) = W16 at *
 clear lt_a lt_b lt_c lt_m lt_h lt_s
 have HX1 := hid HX.out.1
 have HX2 := hid HX.out.2
 have hG16b := hid (GRep.below hG16.out HX2.out)
 replace Ba := hid (Ba.out.below HX2.out)
 replace Ja_ := hid (Ja_.out.below HX2.out)
 replace Bb := hid (Bb.out.below HX2.out)
 replace Jb_ := hid (Jb_.out.below HX2.out)
 replace Bc := hid (Bc.out.below HX2.out)
 replace Jc_ := hid (Jc_.out.below HX2.out)
 replace Bm := hid (Bm.out.below HX2.out)
 replace Jm_ := hid (Jm_.out.below HX2.out)
 replace Bh := hid (Bh.out.below HX2.out)
 replace Jh_ := hid (Jh_.out.below HX2.out)
 replace Bs := hid (Bs.out.below HX2.out)
 replace Js_ := hid (Js_.out.below HX2.out)
 replace Gs_ := hid (Gs_.out.below HX2.out)
 replace HB := hid (HB.out.trans ((HX2.out).mono HB.out.size))
 have Bt := hid HX1.out
 have Jt_ := hid (JArg.res s16 p16 k16 c16 q16 l16 d16 sz16 pz16 kz16 cz16 qz16 lz16 dz16 x16 y16 GT.out hG16b.out)
 clear HX HX1 HX2 hG16 hG16b 
 obtain ⟨m0_0, m0_1, m0_2, m0_3, m0_4, m0_5, m0_6, m0_7, _⟩ := (Ba.out).cells8
 obtain ⟨m1_0, m1_1, m1_2, m1_3, m1_4, m1_5, m1_6, m1_7, _⟩ := (Bt.out).cells8
 go_wp2_with fail
 refine (HM.out _ (HB.out) s1 p1 k1 c1 q1 l1 d1 sz1 pz1 kz1 cz1 qz1 lz1 dz1 x1 y1 s16 p16 k16 c16 q16 l16 d16 sz16 pz16 kz16 cz16 qz16 lz16 dz16 x16 y16 ra rt rs Ees2.out (Ja_.out) (Jt_.out)).mono ?_
 rintro e w12 ⟨s17, p17, k17, c17, q17, l17, d17, sz17, pz17, kz17, cz17, qz17, lz17, dz17, x17, y17, rfl, hG17, hBw12⟩
 clear m0_0 m0_1 m0_2 m0_3 m0_4 m0_5 m0_6 m0_7 m1_0 m1_1 m1_2 m1_3 m1_4 m1_5 m1_6 m1_7
 replace Ba := hid (Ba.out.below hBw12)
 replace Ja_ := hid (Ja_.out.below hBw12)
 replace Bb := hid (Bb.out.below hBw12)
 replace Jb_ := hid (Jb_.out.below hBw12)
 replace Bc := hid (Bc.out.below hBw12)
 replace Jc_ := hid (Jc_.out.below hBw12)
 replace Bm := hid (Bm.out.below hBw12)
 replace Jm_ := hid (Jm_.out.below hBw12)
 replace Bh := hid (Bh.out.below hBw12)
 replace Jh_ := hid (Jh_.out.below hBw12)
 replace Bs := hid (Bs.out.below hBw12)
 replace Js_ := hid (Js_.out.below hBw12)
 replace Gs_ := hid (Gs_.out.below hBw12)
 replace Bt := hid (Bt.out.below hBw12)
 replace Jt_ := hid (Jt_.out.below hBw12)
 replace HB := hid (HB.out.trans ((hBw12).mono HB.out.size))
 clear hBw12 
 go_upto_region 12 with fail
 have HX := hid (pre1 w12 [.bool s17, .slice p17 k17 c17, .slice q17 l17 d17, .bool sz17, .slice pz17 kz17 cz17, .slice qz17 lz17 dz17, .bool x17, .bool y17] 26 nd8)
 have lt_a := (Ba.out).lt
 have lt_b := (Bb.out).lt
 have lt_c := (Bc.out).lt
 have lt_m := (Bm.out).lt
 have lt_h := (Bh.out).lt
 have lt_s := (Bs.out).lt
 have lt_t := (Bt.out).lt
 generalize w12.alloc (.cells #[.bool s17, .slice p17 k17 c17, .slice q17 l17 d17, .bool sz17, .slice pz17 kz17 cz17, .slice qz17 lz17 dz17, .bool x17, .bool y17] 26) = W17 at *
 clear lt_a lt_b lt_c lt_m lt_h lt_s lt_t
 have HX1 := hid HX.out.1
 have HX2 := hid HX.out.2
 have hG17b := hid (GRep.below hG17.out HX2.out)
 replace Ba := hid (Ba.out.below HX2.out)
 replace Ja_ := hid (Ja_.out.below HX2.out)
 replace Bb := hid (Bb.out.below HX2.out)
 replace Jb_ := hid (Jb_.out.below HX2.out)
 replace Bc := hid (Bc.out.below HX2.out)
 replace Jc_ := hid (Jc_.out.below HX2.out)
 replace Bm := hid (Bm.out.below HX2.out)
 replace Jm_ := hid (Jm_.out.below HX2.out)
 replace Bh := hid (Bh.out.below HX2.out)
 replace Jh_ := hid (Jh_.out.below HX2.out)
 replace Bs := hid (Bs.out.below HX2.out)
 replace Js_ := hid (Js_.out.below HX2.out)
 replace Gs_ := hid (Gs_.out.below HX2.out)
 replace Bt := hid (Bt.out.below HX2.out)
 replace Jt_ := hid (Jt_.out.below HX2.out)
 replace HB := hid (HB.out.trans ((HX2.out).mono HB.out.size))
 have Bu := hid HX1.out
 have Ju_ := hid (JArg.res s17 p17 k17 c17 q17 l17 d17 sz17 pz17 kz17 cz17 qz17 lz17 dz17 x17 y17 GS.out hG17b.out)
 have Gu_ := hid hG17b.out
 clear HX HX1 HX2 hG17 hG17b 
 clear Bt Jt_
 obtain ⟨m0_0, m0_1, m0_2, m0_3, m0_4, m0_5, m0_6, m0_7, _⟩ := (Bh.out).cells8
 obtain ⟨m1_0, m1_1, m1_2, m1_3, m1_4, m1_5, m1_6, m1_7, _⟩ := (Bc.out).cells8
 go_wp2_with fail
 refine (HH.out _ (HB.out) s13 p13 k13 c13 q13 l13 d13 sz13 pz13 kz13 cz13 qz13 lz13 dz13 x13 y13 s3 p3 k3 c3 q3 l3 d3 sz3 pz3 kz3 cz3 qz3 lz3 dz3 x3 y3 rh rc rv Eev.out (Jh_.out) (Jc_.out)).mono ?_
 rintro e w13 ⟨s18, p18, k18, c18, q18, l18, d18, sz18, pz18, kz18, cz18, qz18, lz18, dz18, x18, y18, rfl, hG18, hBw13⟩
 clear m0_0 m0_1 m0_2 m0_3 m0_4 m0_5 m0_6 m0_7 m1_0 m1_1 m1_2 m1_3 m1_4 m1_5 m1_6 m1_7
 replace Ba := hid (Ba.out.below hBw13)
 replace Ja_ := hid (Ja_.out.below hBw13)
 replace Bb := hid (Bb.out.below hBw13)
 replace Jb_ := hid (Jb_.out.below hBw13)
 replace Bc := hid (Bc.out.below hBw13)
 replace Jc_ := hid (Jc_.out.below hBw13)
 replace Bm := hid (Bm.out.below hBw13)
 replace Jm_ := hid (Jm_.out.below hBw13)
 replace Bh := hid (Bh.out.below hBw13)
 replace Jh_ := hid (Jh_.out.below hBw13)
 replace Bs := hid (Bs.out.below hBw13)
 replace Js_ := hid (Js_.out.below hBw13)
 replace Gs_ := hid (Gs_.out.below hBw13)
 replace Bu := hid (Bu.out.below hBw13)
 replace Ju_ := hid (Ju_.out.below hBw13)
 replace Gu_ := hid (Gu_.out.below hBw13)
 replace HB := hid (HB.out.trans ((hBw13).mono HB.out.size))
 clear hBw13 
 go_upto_region 13 with fail
 have HX := hid (pre1 w13 [.bool s18, .slice p18 k18 c18, .slice q18 l18 d18, .bool sz18, .slice pz18 kz18 cz18, .slice qz18 lz18 dz18, .bool x18, .bool y18] 26 nd8)
 have lt_a := (Ba.out).lt
 have lt_b := (Bb.out).lt
 have lt_c := (Bc.out).lt
 have lt_m := (Bm.out).lt
 have lt_h := (Bh.out).lt
 have lt_s := (Bs.out).lt
 have lt_u := (Bu.out).lt
 generalize w13.alloc (.cells #[.bool s18, .slice p18 k18 c18, .slice q18 l18 d18, .bool sz18, .slice pz18 kz18 cz18, .slice qz18 lz18 dz18, .bool x18, .bool y18] 26) = W18 at *
 clear lt_a lt_b lt_c lt_m lt_h lt_s lt_u
 have HX1 := hid HX.out.1
 have HX2 := hid HX.out.2
 have hG18b := hid (GRep.below hG18.out HX2.out)
 replace Ba := hid (Ba.out.below HX2.out)
 replace Ja_ := hid (Ja_.out.below HX2.out)
 replace Bb := hid (Bb.out.below HX2.out)
 replace Jb_ := hid (Jb_.out.below HX2.out)
 replace Bc := hid (Bc.out.below HX2.out)
 replace Jc_ := hid (Jc_.out.below HX2.out)
 replace Bm := hid (Bm.out.below HX2.out)
 replace Jm_ := hid (Jm_.out.below HX2.out)
 replace Bh := hid (Bh.out.below HX2.out)
 replace Jh_ := hid (Jh_.out.below HX2.out)
 replace Bs := hid (Bs.out.below HX2.out)
 replace Js_ := hid (Js_.out.below HX2.out)
 replace Gs_ := hid (Gs_.out.below HX2.out)
 replace Bu := hid (Bu.out.below HX2.out)
 replace Ju_ := hid (Ju_.out.below HX2.out)
 replace Gu_ := hid (Gu_.out.below HX2.out)
 replace HB := hid (HB.out.trans ((HX2.out).mono HB.out.size))
 have Bv := hid HX1.out
 have Jv_ := hid (JArg.res s18 p18 k18 c18 q18 l18 d18 sz18 pz18 kz18 cz18 qz18 lz18 dz18 x18 y18 GV.out hG18b.out)
 have Gv_ := hid hG18b.out
 clear HX HX1 HX2 hG18 hG18b 
 obtain ⟨m0_0, m0_1, m0_2, m0_3, m0_4, m0_5, m0_6, m0_7, _⟩ := (Bb.out).cells8
 obtain ⟨m1_0, m1_1, m1_2, m1_3, m1_4, m1_5, m1_6, m1_7, _⟩ := (Bc.out).cells8
 go_wp2_with fail
 refine (HH.out _ (HB.out) s2 p2 k2 c2 q2 l2 d2 sz2 pz2 kz2 cz2 qz2 lz2 dz2 x2 y2 s3 p3 k3 c3 q3 l3 d3 sz3 pz3 kz3 cz3 qz3 lz3 dz3 x3 y3 rb rc ru Eeu.out (Jb_.out) (Jc_.out)).mono ?_
 rintro e w14 ⟨s19, p19, k19, c19, q19, l19, d19, sz19, pz19, kz19, cz19, qz19, lz19, dz19, x19, y19, rfl, hG19, hBw14⟩
 clear m0_0 m0_1 m0_2 m0_3 m0_4 m0_5 m0_6 m0_7 m1_0 m1_1 m1_2 m1_3 m1_4 m1_5 m1_6 m1_7
 replace Ba := hid (Ba.out.below hBw14)
 replace Ja_ := hid (Ja_.out.below hBw14)
 replace Bb := hid (Bb.out.below hBw14)
 replace Jb_ := hid (Jb_.out.below hBw14)
 replace Bc := hid (Bc.out.below hBw14)
 replace Jc_ := hid (Jc_.out.below hBw14)
 replace Bm := hid (Bm.out.below hBw14)
 replace Jm_ := hid (Jm_.out.below hBw14)
 replace Bh := hid (Bh.out.below hBw14)
 replace Jh_ := hid (Jh_.out.below hBw14)
 replace Bs := hid (Bs.out.below hBw14)
 replace Js_ := hid (Js_.out.below hBw14)
 replace Gs_ := hid (Gs_.out.below hBw14)
 replace Bu := hid (Bu.out.below hBw14)
 replace Ju_ := hid (Ju_.out.below hBw14)
 replace Gu_ := hid (Gu_.out.below hBw14)
 replace Bv := hid (Bv.out.below hBw14)
 replace Jv_ := hid (Jv_.out.below hBw14)
 replace Gv_ := hid (Gv_.out.below hBw14)
 replace HB := hid (HB.out.trans ((hBw14).mono HB.out.size))
 clear hBw14 
 go_upto_region 14 with fail
 have HX := hid (pre1 w14 [.bool s19, .slice p19 k19 c19, .slice q19 l19 d19, .bool sz19, .slice pz19 kz19 cz19, .slice qz19 lz19 dz19, .bool x19, .bool y19] 26 nd8)
 have lt_a := (Ba.out).lt
 have lt_b := (Bb.out).lt
 have lt_c := (Bc.out).lt
 have lt_m := (Bm.out).lt
 have lt_h := (Bh.out).lt
 have lt_s := (Bs.out).lt
 have lt_u := (Bu.out).lt
 have lt_v := (Bv.out).lt
 generalize w14.alloc (.cells #[.bool s19, .slice p19 k19 c19, .slice q19 l19 d19, .bool sz19, .slice pz19 kz19 cz19, .slice qz19 lz19 dz19, .bool x19, .bool y19] 26) = W19 at *
 clear lt_a lt_b lt_c lt_m lt_h lt_s lt_u lt_v
 have HX1 := hid HX.out.1
 have HX2 := hid HX.out.2
 have hG19b := hid (GRep.below hG19.out HX2.out)
 replace Ba := hid (Ba.out.below HX2.out)
 replace Ja_ := hid (Ja_.out.below HX2.out)
 replace Bb := hid (Bb.out.below HX2.out)
 replace Jb_ := hid (Jb_.out.below HX2.out)
 replace Bc := hid (Bc.out.below HX2.out)
 replace Jc_ := hid (Jc_.out.below HX2.out)
 replace Bm := hid (Bm.out.below HX2.out)
 replace Jm_ := hid (Jm_.out.below HX2.out)
 replace Bh := hid (Bh.out.below HX2.out)
 replace Jh_ := hid (Jh_.out.below HX2.out)
 replace Bs := hid (Bs.out.below HX2.out)
 replace Js_ := hid (Js_.out.below HX2.out)
 replace Gs_ := hid (Gs_.out.below HX2.out)
 replace Bu := hid (Bu.out.below HX2.out)
 replace Ju_ := hid (Ju_.out.below HX2.out)
 replace Gu_ := hid (Gu_.out.below HX2.out)
 replace Bv := hid (Bv.out.below HX2.out)
 replace Jv_ := hid (Jv_.out.below HX2.out)
 replace Gv_ := hid (Gv_.out.below HX2.out)
 replace HB := hid (HB.out.trans ((HX2.out).mono HB.out.size))
 have Bq := hid HX1.out
 have Jq_ := hid (JArg.res s19 p19 k19 c19 q19 l19 d19 sz19 pz19 kz19 cz19 qz19 lz19 dz19 x19 y19 GU.out hG19b.out)
 clear HX HX1 HX2 hG19 hG19b 
 clear Bc Jc_
 obtain ⟨m0_0, m0_1, m0_2, m0_3, m0_4, m0_5, m0_6, m0_7, _⟩ := (Ba.out).cells8
 obtain ⟨m1_0, m1_1, m1_2, m1_3, m1_4, m1_5, m1_6, m1_7, _⟩ := (Bq.out).cells8
 go_wp2_with fail
 refine (HH.out _ (HB.out) s1 p1 k1 c1 q1 l1 d1 sz1 pz1 kz1 cz1 qz1 lz1 dz1 x1 y1 s19 p19 k19 c19 q19 l19 d19 sz19 pz19 kz19 cz19 qz19 lz19 dz19 x19 y19 ra ru rv Eev2.out (Ja_.out) (Jq_.out)).mono ?_
 rintro e w15 ⟨s20, p20, k20, c20, q20, l20, d20, sz20, pz20, kz20, cz20, qz20, lz20, dz20, x20, y20, rfl, hG20, hBw15⟩
 clear m0_0 m0_1 m0_2 m0_3 m0_4 m0_5 m0_6 m0_7 m1_0 m1_1 m1_2 m1_3 m1_4 m1_5 m1_6 m1_7
 replace Ba := hid (Ba.out.below hBw15)
 replace Ja_ := hid (Ja_.out.below hBw15)
 replace Bb := hid (Bb.out.below hBw15)
 replace Jb_ := hid (Jb_.out.below hBw15)
 replace Bm := hid (Bm.out.below hBw15)
 replace Jm_ := hid (Jm_.out.below hBw15)
 replace Bh := hid (Bh.out.below hBw15)
 replace Jh_ := hid (Jh_.out.below hBw15)
 replace Bs := hid (Bs.out.below hBw15)
 replace Js_ := hid (Js_.out.below hBw15)
 replace Gs_ := hid (Gs_.out.below hBw15)
 replace Bu := hid (Bu.out.below hBw15)
 replace Ju_ := hid (Ju_.out.below hBw15)
 replace Gu_ := hid (Gu_.out.below hBw15)
 replace Bv := hid (Bv.out.below hBw15)
 replace Jv_ := hid (Jv_.out.below hBw15)
 replace Gv_ := hid (Gv_.out.below hBw15)
 replace Bq := hid (Bq.out.below hBw15)
 replace Jq_ := hid (Jq_.out.below hBw15)
 replace HB := hid (HB.out.trans ((hBw15).mono HB.out.size))
 clear hBw15 
 go_upto_region 15 with fail
 have HX := hid (pre1 w15 [.bool s20, .slice p20 k20 c20, .slice q20 l20 d20, .bool sz20, .slice pz20 kz20 cz20, .slice qz20 lz20 dz20, .bool x20, .bool y20] 26 nd8)
 have lt_a := (Ba.out).lt
 have lt_b := (Bb.out).lt
 have lt_m := (Bm.out).lt
 have lt_h := (Bh.out).lt
 have lt_s := (Bs.out).lt
 have lt_u := (Bu.out).lt
 have lt_v := (Bv.out).lt
 have lt_q := (Bq.out).lt
 generalize w15.alloc (.cells #[.bool s20, .slice p20 k20 c20, .slice q20 l20 d20, .bool sz20, .slice pz20 kz20 cz20, .slice qz20 lz20 dz20, .bool x20, .bool y20] 26) = W20 at *
 clear lt_a lt_b lt_m lt_h lt_s lt_u lt_v lt_q
 have HX1 := hid HX.out.1
 have HX2 := hid HX.out.2
 have hG20b := hid (GRep.below hG20.out HX2.out)
 replace Ba := hid (Ba.out.below HX2.out)
 replace Ja_ := hid (Ja_.out.below HX2.out)
 replace Bb := hid (Bb.out.below HX2.out)
 replace Jb_ := hid (Jb_.out.below HX2.out)
 replace Bm := hid (Bm.out.below HX2.out)
 replace Jm_ := hid (Jm_.out.below HX2.out)
 replace Bh := hid (Bh.out.below HX2.out)
 replace Jh_ := hid (Jh_.out.below HX2.out)
 replace Bs := hid (Bs.out.below HX2.out)
 replace Js_ := hid (Js_.out.below HX2.out)
 replace Gs_ := hid (Gs_.out.below HX2.out)
 replace Bu := hid (Bu.out.below HX2.out)
 replace Ju_ := hid (Ju_.out.below HX2.out)
 replace Gu_ := hid (Gu_.out.below HX2.out)
 replace Bv := hid (Bv.out.below HX2.out)
 replace Jv_ := hid (Jv_.out.below HX2.out)
 replace Gv_ := hid (Gv_.out.below HX2.out)
 replace Bq := hid (Bq.out.below HX2.out)
 replace Jq_ := hid (Jq_.out.below HX2.out)
 replace HB := hid (HB.out.trans ((HX2.out).mono HB.out.size))
 have Bx := hid HX1.out
 have Jx_ := hid (JArg.res s20 p20 k20 c20 q20 l20 d20 sz20 pz20 kz20 cz20 qz20 lz20 dz20 x20 y20 GV.out hG20b.out)
 have Gx_ := hid hG20b.out
 clear HX HX1 HX2 hG20 hG20b 
 clear Bq Jq_
 obtain ⟨m0_0, m0_1, m0_2, m0_3, m0_4, m0_5, m0_6, m0_7, _⟩ := (Bu.out).cells8
 obtain ⟨m1_0, m1_1, m1_2, m1_3, m1_4, m1_5, m1_6, m1_7, _⟩ := (Bs.out).cells8
 go_wp2_with fail
 refine (HI.out _ s17 p17 k17 c17 q17 l17 d17 sz17 pz17 kz17 cz17 qz17 lz17 dz17 x17 y17 s15 p15 k15 c15 q15 l15 d15 sz15 pz15 kz15 cz15 qz15 lz15 dz15 x15 y15 rs GS.out (Gu_.out) (Gs_.out)).mono ?_
 rintro e w16 ⟨rfl, hBw16⟩
 clear m0_0 m0_1 m0_2 m0_3 m0_4 m0_5 m0_6 m0_7 m1_0 m1_1 m1_2 m1_3 m1_4 m1_5 m1_6 m1_7
 replace Ba := hid (Ba.out.below hBw16)
 replace Ja_ := hid (Ja_.out.below hBw16)
 replace Bb := hid (Bb.out.below hBw16)
 replace Jb_ := hid (Jb_.out.below hBw16)
 replace Bm := hid (Bm.out.below hBw16)
 replace Jm_ := hid (Jm_.out.below hBw16)
 replace Bh := hid (Bh.out.below hBw16)
 replace Jh_ := hid (Jh_.out.below hBw16)
 replace Bs := hid (Bs.out.below hBw16)
 replace Js_ := hid (Js_.out.below hBw16)
 replace Gs_ := hid (Gs_.out.below hBw16)
 replace Bu := hid (Bu.out.below hBw16)
 replace Ju_ := hid (Ju_.out.below hBw16)
 replace Gu_ := hid (Gu_.out.below hBw16)
 replace Bv := hid (Bv.out.below hBw16)
 replace Jv_ := hid (Jv_.out.below hBw16)
 replace Gv_ := hid (Gv_.out.below hBw16)
 replace Bx := hid (Bx.out.below hBw16)
 replace Jx_ := hid (Jx_.out.below hBw16)
 replace Gx_ := hid (Gx_.out.below hBw16)
 replace HB := hid (HB.out.trans ((hBw16).mono HB.out.size))
 clear hBw16 
 obtain ⟨m0_0, m0_1, m0_2, m0_3, m0_4, m0_5, m0_6, m0_7, _⟩ := (Bx.out).cells8
 obtain ⟨m1_0, m1_1, m1_2, m1_3, m1_4, m1_5, m1_6, m1_7, _⟩ := (Bv.out).cells8
 go_wp2_with fail
 refine (HI.out _ s20 p20 k20 c20 q20 l20 d20 sz20 pz20 kz20 cz20 qz20 lz20 dz20 x20 y20 s18 p18 k18 c18 q18 l18 d18 sz18 pz18 kz18 cz18 qz18 lz18 dz18 x18 y18 rv GV.out (Gx_.out) (Gv_.out)).mono ?_
 rintro e w17 ⟨rfl, hBw17⟩
 clear m0_0 m0_1 m0_2 m0_3 m0_4 m0_5 m0_6 m0_7 m1_0 m1_1 m1_2 m1_3 m1_4 m1_5 m1_6 m1_7
 replace Ba := hid (Ba.out.below hBw17)
 replace Ja_ := hid (Ja_.out.below hBw17)
 replace Bb := hid (Bb.out.below hBw17)
 replace Jb_ := hid (Jb_.out.below hBw17)
 replace Bm := hid (Bm.out.below hBw17)
 replace Jm_ := hid (Jm_.out.below hBw17)
 replace Bh := hid (Bh.out.below hBw17)
 replace Jh_ := hid (Jh_.out.below hBw17)
 replace Bs := hid (Bs.out.below hBw17)
 replace Js_ := hid (Js_.out.below hBw17)
 replace Gs_ := hid (Gs_.out.below hBw17)
 replace Bu := hid (Bu.out.below hBw17)
 replace Ju_ := hid (Ju_.out.below hBw17)
 replace Gu_ := hid (Gu_.out.below hBw17)
 replace Bv := hid (Bv.out.below hBw17)
 replace Jv_ := hid (Jv_.out.below hBw17)
 replace Gv_ := hid (Gv_.out.below hBw17)
 replace Bx := hid (Bx.out.below hBw17)
 replace Jx_ := hid (Jx_.out.below hBw17)
 replace Gx_ := hid (Gx_.out.below hBw17)
 replace HB := hid (HB.out.trans ((hBw17).mono HB.out.size))
 clear hBw17 
 clear Bu Ju_ Gu_
 clear Bs Js_ Gs_
 clear Bx Jx_ Gx_
 clear Bv Jv_ Gv_
 obtain ⟨m0_0, m0_1, m0_2, m0_3, m0_4, m0_5, m0_6, m0_7, _⟩ := (Ba.out).cells8
 obtain ⟨m1_0, m1_1, m1_2, m1_3, m1_4, m1_5, m1_6, m1_7, _⟩ := (Bh.out).cells8
 go_wp2_with fail
 refine (HM.out _ (HB.out) s1 p1 k1 c1 q1 l1 d1 sz1 pz1 kz1 cz1 qz1 lz1 dz1 x1 y1 s13 p13 k13 c13 q13 l13 d13 sz13 pz13 kz13 cz13 qz13 lz13 dz13 x13 y13 ra rh ra Eey.out (Ja_.out) (Jh_.out)).mono ?_
 rintro e w18 ⟨s21, p21, k21, c21, q21, l21, d21, sz21, pz21, kz21, cz21, qz21, lz21, dz21, x21, y21, rfl, hG21, hBw18⟩
 clear m0_0 m0_1 m0_2 m0_3 m0_4 m0_5 m0_6 m0_7 m1_0 m1_1 m1_2 m1_3 m1_4 m1_5 m1_6 m1_7
 replace Ba := hid (Ba.out.below hBw18)
 replace Ja_ := hid (Ja_.out.below hBw18)
 replace Bb := hid (Bb.out.below hBw18)
 replace Jb_ := hid (Jb_.out.below hBw18)
 replace Bm := hid (Bm.out.below hBw18)
 replace Jm_ := hid (Jm_.out.below hBw18)
 replace Bh := hid (Bh.out.below hBw18)
 replace Jh_ := hid (Jh_.out.below hBw18)
 replace HB := hid (HB.out.trans ((hBw18).mono HB.out.size))
 clear hBw18 
 go_upto_region 18 with fail
 have HX := hid (pre1 w18 [.bool s21, .slice p21 k21 c21, .slice q21 l21 d21, .bool sz21, .slice pz21 kz21 cz21, .slice qz21 lz21 dz21, .bool x21, .bool y21] 26 nd8)
 have lt_a := (Ba.out).lt
 have lt_b := (Bb.out).lt
 have lt_m := (Bm.out).lt
 have lt_h := (Bh.out).lt
 generalize w18.alloc (.cells #[.bool s21, .slice p21 k21 c21, .slice q21 l21 d21, .bool sz21, .slice pz21 kz21 cz21, .slice qz21 lz21 dz21, .bool x21, .bool y21] 26) = W21 at *
 clear lt_a lt_b lt_m lt_h
 have HX1 := hid HX.out.1
 have HX2 := hid HX.out.2
 have hG21b := hid (GRep.below hG21.out HX2.out)
 replace Ba := hid (Ba.out.below HX2.out)
 replace Ja_ := hid (Ja_.out.below HX2.out)
 replace Bb := hid (Bb.out.below HX2.out)
 replace Jb_ := hid (Jb_.out.below HX2.out)
 replace Bm := hid (Bm.out.below HX2.out)
 replace Jm_ := hid (Jm_.out.below HX2.out)
 replace Bh := hid (Bh.out.below HX2.out)
 replace Jh_ := hid (Jh_.out.below HX2.out)
 replace HB := hid (HB.out.trans ((HX2.out).mono HB.out.size))
 have By := hid HX1.out
 have Jy_ := hid (JArg.res s21 p21 k21 c21 q21 l21 d21 sz21 pz21 kz21 cz21 qz21 lz21 dz21 x21 y21 GA.out hG21b.out)
 have Gy_ := hid hG21b.out
 clear HX HX1 HX2 hG21 hG21b 
 obtain ⟨m0_0, m0_1, m0_2, m0_3, m0_4, m0_5, m0_6, m0_7, _⟩ := (Ba.out).cells8
 obtain ⟨m1_0, m1_1, m1_2, m1_3, m1_4, m1_5, m1_6, m1_7, _⟩ := (Bm.out).cells8
 go_wp2_with fail
 refine (HH.out _ (HB.out) s1 p1 k1 c1 q1 l1 d1 sz1 pz1 kz1 cz1 qz1 lz1 dz1 x1 y1 s11 p11 k11 c11 q11 l11 d11 sz11 pz11 kz11 cz11 qz11 lz11 dz11 x11 y11 ra rm ra Eez.out (Ja_.out) (Jm_.out)).mono ?_
 rintro e w19 ⟨s22, p22, k22, c22, q22, l22, d22, sz22, pz22, kz22, cz22, qz22, lz22, dz22, x22, y22, rfl, hG22, hBw19⟩
 clear m0_0 m0_1 m0_2 m0_3 m0_4 m0_5 m0_6 m0_7 m1_0 m1_1 m1_2 m1_3 m1_4 m1_5 m1_6 m1_7
 replace Ba := hid (Ba.out.below hBw19)
 replace Ja_ := hid (Ja_.out.below hBw19)
 replace Bb := hid (Bb.out.below hBw19)
 replace Jb_ := hid (Jb_.out.below hBw19)
 replace Bm := hid (Bm.out.below hBw19)
 replace Jm_ := hid (Jm_.out.below hBw19)
 replace Bh := hid (Bh.out.below hBw19)
 replace Jh_ := hid (Jh_.out.below hBw19)
 replace By := hid (By.out.below hBw19)
 replace Jy_ := hid (Jy_.out.below hBw19)
 replace Gy_ := hid (Gy_.out.below hBw19)
 replace HB := hid (HB.out.trans ((hBw19).mono HB.out.size))
 clear hBw19 
 go_upto_region 19 with fail
 have HX := hid (pre1 w19 [.bool s22, .slice p22 k22 c22, .slice q22 l22 d22, .bool sz22, .slice pz22 kz22 cz22, .slice qz22 lz22 dz22, .bool x22, .bool y22] 26 nd8)
 have lt_a := (Ba.out).lt
 have lt_b := (Bb.out).lt
 have lt_m := (Bm.out).lt
 have lt_h := (Bh.out).lt
 have lt_y := (By.out).lt
 generalize w19.alloc (.cells #[.bool s22, .slice p22 k22 c22, .slice q22 l22 d22, .bool sz22, .slice pz22 kz22 cz22, .slice qz22 lz22 dz22, .bool x22, .bool y22] 26) = W22 at *
 clear lt_a lt_b lt_m lt_h lt_y
 have HX1 := hid HX.out.1
 have HX2 := hid HX.out.2
 have hG22b := hid (GRep.below hG22.out HX2.out)
 replace Ba := hid (Ba.out.below HX2.out)
 replace Ja_ := hid (Ja_.out.below HX2.out)
 replace Bb := hid (Bb.out.below HX2.out)
 replace Jb_ := hid (Jb_.out.below HX2.out)
 replace Bm := hid (Bm.out.below HX2.out)
 replace Jm_ := hid (Jm_.out.below HX2.out)
 replace Bh := hid (Bh.out.below HX2.out)
 replace Jh_ := hid (Jh_.out.below HX2.out)
 replace By := hid (By.out.below HX2.out)
 replace Jy_ := hid (Jy_.out.below HX2.out)
 replace Gy_ := hid (Gy_.out.below HX2.out)
 replace HB := hid (HB.out.trans ((HX2.out).mono HB.out.size))
 have Bz := hid HX1.out
 have Jz_ := hid (JArg.res s22 p22 k22 c22 q22 l22 d22 sz22 pz22 kz22 cz22 qz22 lz22 dz22 x22 y22 GA.out hG22b.out)
 have Gz_ := hid hG22b.out
 clear HX HX1 HX2 hG22 hG22b 
 have HQ := hid (QQ.i6 (w := W22) (c1 := [.bool s21, .slice p21 k21 c21, .slice q21 l21 d21, .bool sz21, .slice pz21 kz21 cz21, .slice qz21 lz21 dz21, .bool x21, .bool y21]) (c2 := [.bool s22, .slice p22 k22 c22, .slice q22 l22 d22, .bool sz22, .slice pz22 kz22 cz22, .slice qz22 lz22 dz22, .bool x22, .bool y22]) (c3 := [.bool s1, .slice p1 k1 c1, .slice q1 l1 d1, .bool sz1, .slice pz1 kz1 cz1, .slice qz1 lz1 dz1, .bool x1, .bool y1]) (c4 := [.bool s11, .slice p11 k11 c11, .slice q11 l11 d11, .bool sz11, .slice pz11 kz11 cz11, .slice qz11 lz11 dz11, .bool x11, .bool y11]) (c5 := [.bool s13, .slice p13 k13 c13, .slice q13 l13 d13, .bool sz13, .slice pz13 kz13 cz13, .slice qz13 lz13 dz13, .bool x13, .bool y13]) (c6 := [.bool s2, .slice p2 k2 c2, .slice q2 l2 d2, .bool sz2, .slice pz2 kz2 cz2, .slice qz2 lz2 dz2, .bool x2, .bool y2]) (By.out) (Bz.out) (Ba.out) (Bm.out) (Bh.out) (Bb.out) (Below.refl _ _))
 have HS : Hid (∀ w', QQ W22 [(w18.heap.size, [.bool s21, .slice p21 k21 c21, .slice q21 l21 d21, .bool sz21, .slice pz21 kz21 cz21, .slice qz21 lz21 dz21, .bool x21, .bool y21]), (w19.heap.size, [.bool s22, .slice p22 k22 c22, .slice q22 l22 d22, .bool sz22, .slice pz22 kz22 cz22, .slice qz22 lz22 dz22, .bool x22, .bool y22]), (w.heap.size, [.bool s1, .slice p1 k1 c1, .slice q1 l1 d1, .bool sz1, .slice pz1 kz1 cz1, .slice qz1 lz1 dz1, .bool x1, .bool y1]), (w4.heap.size, [.bool s11, .slice p11 k11 c11, .slice q11 l11 d11, .bool sz11, .slice pz11 kz11 cz11, .slice qz11 lz11 dz11, .bool x11, .bool y11]), (w6.heap.size, [.bool s13, .slice p13 k13 c13, .slice q13 l13 d13, .bool sz13, .slice pz13 kz13 cz13, .slice qz13 lz13 dz13, .bool x13, .bool y13]), (w.heap.size + 1, [.bool s2, .slice p2 k2 c2, .slice q2 l2 d2, .bool sz2, .slice pz2 kz2 cz2, .slice qz2 lz2 dz2, .bool x2, .bool y2])] w' → (w'.cell? ⟨w18.heap.size, 0, none⟩ = some (.bool s21) ∧ w'.cell? ⟨w18.heap.size, 1, none⟩ = some (.slice p21 k21 c21) ∧ w'.cell? ⟨w18.heap.size, 2, none⟩ = some (.slice q21 l21 d21) ∧ w'.cell? ⟨w18.heap.size, 3, none⟩ = some (.bool sz21) ∧ w'.cell? ⟨w18.heap.size, 4, none⟩ = some (.slice pz21 kz21 cz21) ∧ w'.cell? ⟨w18.heap.size, 5, none⟩ = some (.slice qz21 lz21 dz21) ∧ w'.cell? ⟨w18.heap.size, 6, none⟩ = some (.bool x21) ∧ w'.cell? ⟨w18.heap.size, 7, none⟩ = some (.bool y21) ∧ w'.cell? ⟨w19.heap.size, 0, none⟩ = some (.bool s22) ∧ w'.cell? ⟨w19.heap.size, 1, none⟩ = some (.slice p22 k22 c22) ∧ w'.cell? ⟨w19.heap.size, 2, none⟩ = some (.slice q22 l22 d22) ∧ w'.cell? ⟨w19.heap.size, 3, none⟩ = some (.bool sz22) ∧ w'.cell? ⟨w19.heap.size, 4, none⟩ = some (.slice pz22 kz22 cz22) ∧ w'.cell? ⟨w19.heap.size, 5, none⟩ = some (.slice qz22 lz22 dz22) ∧ w'.cell? ⟨w19.heap.size, 6, none⟩ = some (.bool x22) ∧ w'.cell? ⟨w19.heap.size, 7, none⟩ = some (.bool y22) ∧ w'.cell? ⟨w.heap.size, 0, none⟩ = some (.bool s1) ∧ w'.cell? ⟨w.heap.size, 1, none⟩ = some (.slice p1 k1 c1) ∧ w'.cell? ⟨w.heap.size, 2, none⟩ = some (.slice q1 l1 d1) ∧ w'.cell? ⟨w.heap.size, 3, none⟩ = some (.bool sz1) ∧ w'.cell? ⟨w.heap.size, 4, none⟩ = some (.slice pz1 kz1 cz1) ∧ w'.cell? ⟨w.heap.size, 5, none⟩ = some (.slice qz1 lz1 dz1) ∧ w'.cell? ⟨w.heap.size, 6, none⟩ = some (.bool x1) ∧ w'.cell? ⟨w.heap.size, 7, none⟩ = some (.bool y1) ∧ w'.cell? ⟨w4.heap.size, 0, none⟩ = some (.bool s11) ∧ w'.cell? ⟨w4.heap.size, 1, none⟩ = some (.slice p11 k11 c11) ∧ w'.cell? ⟨w4.heap.size, 2, none⟩ = some (.slice q11 l11 d11) ∧ w'.cell? ⟨w4.heap.size, 3, none⟩ = some (.bool sz11) ∧ w'.cell? ⟨w4.heap.size, 4, none⟩ = some (.slice pz11 kz11 cz11) ∧ w'.cell? ⟨w4.heap.size, 5, none⟩ = some (.slice qz11 lz11 dz11) ∧ w'.cell? ⟨w4.heap.size, 6, none⟩ = some (.bool x11) ∧ w'.cell? ⟨w4.heap.size, 7, none⟩ = some (.bool y11) ∧ w'.cell? ⟨w6.heap.size, 0, none⟩ = some (.bool s13) ∧ w'.cell? ⟨w6.heap.size, 1, none⟩ = some (.slice p13 k13 c13) ∧ w'.cell? ⟨w6.heap.size, 2, none⟩ = some (.slice q13 l13 d13) ∧ w'.cell? ⟨w6.heap.size, 3, none⟩ = some (.bool sz13) ∧ w'.cell? ⟨w6.heap.size, 4, none⟩ = some (.slice pz13 kz13 cz13) ∧ w'.cell? ⟨w6.heap.size, 5, none⟩ = some (.slice qz13 lz13 dz13) ∧ w'.cell? ⟨w6.heap.size, 6, none⟩ = some (.bool x13) ∧ w'.cell? ⟨w6.heap.size, 7, none⟩ = some (.bool y13) ∧ w'.cell? ⟨w.heap.size + 1, 0, none⟩ = some (.bool s2) ∧ w'.cell? ⟨w.heap.size + 1, 1, none⟩ = some (.slice p2 k2 c2) ∧ w'.cell? ⟨w.heap.size + 1, 2, none⟩ = some (.slice q2 l2 d2) ∧ w'.cell? ⟨w.heap.size + 1, 3, none⟩ = some (.bool sz2) ∧ w'.cell? ⟨w.heap.size + 1, 4, none⟩ = some (.slice pz2 kz2 cz2) ∧ w'.cell? ⟨w.heap.size + 1, 5, none⟩ = some (.slice qz2 lz2 dz2) ∧ w'.cell? ⟨w.heap.size + 1, 6, none⟩ = some (.bool x2) ∧ w'.cell? ⟨w.heap.size + 1, 7, none⟩ = some (.bool y2) ∧ Hid (QQ W22 [(w18.heap.size, [.bool s21, .slice p21 k21 c21, .slice q21 l21 d21, .bool sz21, .slice pz21 kz21 cz21, .slice qz21 lz21 dz21, .bool x21, .bool y21]), (w19.heap.size, [.bool s22, .slice p22 k22 c22, .slice q22 l22 d22, .bool sz22, .slice pz22 kz22 cz22, .slice qz22 lz22 dz22, .bool x22, .bool y22]), (w.heap.size, [.bool s1, .slice p1 k1 c1, .slice q1 l1 d1, .bool sz1, .slice pz1 kz1 cz1, .slice qz1 lz1 dz1, .bool x1, .bool y1]), (w4.heap.size, [.bool s11, .slice p11 k11 c11, .slice q11 l11 d11, .bool sz11, .slice pz11 kz11 cz11, .slice qz11 lz11 dz11, .bool x11, .bool y11]), (w6.heap.size, [.bool s13, .slice p13 k13 c13, .slice q13 l13 d13, .bool sz13, .slice pz13 kz13 cz13, .slice qz13 lz13 dz13, .bool x13, .bool y13]), (w.heap.size + 1, [.bool s2, .slice p2 k2 c2, .slice q2 l2 d2, .bool sz2, .slice pz2 kz2 cz2, .slice qz2 lz2 dz2, .bool x2, .bool y2])] w'))) := hid fun w' hb => ⟨(hb.o6.1).cells8.1, (hb.o6.1).cells8.2.1, (hb.o6.1).cells8.2.2.1, (hb.o6.1).cells8.2.2.2.1, (hb.o6.1).cells8.2.2.2.2.1, (hb.o6.1).cells8.2.2.2.2.2.1, (hb.o6.1).cells8.2.2.2.2.2.2.1, (hb.o6.1).cells8.2.2.2.2.2.2.2.1, (hb.o6.2.1).cells8.1, (hb.o6.2.1).cells8.2.1, (hb.o6.2.1).cells8.2.2.1, (hb.o6.2.1).cells8.2.2.2.1, (hb.o6.2.1).cells8.2.2.2.2.1, (hb.o6.2.1).cells8.2.2.2.2.2.1, (hb.o6.2.1).cells8.2.2.2.2.2.2.1, (hb.o6.2.1).cells8.2.2.2.2.2.2.2.1, (hb.o6.2.2.1).cells8.1, (hb.o6.2.2.1).cells8.2.1, (hb.o6.2.2.1).cells8.2.2.1, (hb.o6.2.2.1).cells8.2.2.2.1, (hb.o6.2.2.1).cells8.2.2.2.2.1, (hb.o6.2.2.1).cells8.2.2.2.2.2.1, (hb.o6.2.2.1).cells8.2.2.2.2.2.2.1, (hb.o6.2.2.1).cells8.2.2.2.2.2.2.2.1, (hb.o6.2.2.2.1).cells8.1, (hb.o6.2.2.2.1).cells8.2.1, (hb.o6.2.2.2.1).cells8.2.2.1, (hb.o6.2.2.2.1).cells8.2.2.2.1, (hb.o6.2.2.2.1).cells8.2.2.2.2.1, (hb.o6.2.2.2.1).cells8.2.2.2.2.2.1, (hb.o6.2.2.2.1).cells8.2.2.2.2.2.2.1, (hb.o6.2.2.2.1).cells8.2.2.2.2.2.2.2.1, (hb.o6.2.2.2.2.1).cells8.1, (hb.o6.2.2.2.2.1).cells8.2.1, (hb.o6.2.2.2.2.1).cells8.2.2.1, (hb.o6.2.2.2.2.1).cells8.2.2.2.1, (hb.o6.2.2.2.2.1).cells8.2.2.2.2.1, (hb.o6.2.2.2.2.1).cells8.2.2.2.2.2.1, (hb.o6.2.2.2.2.1).cells8.2.2.2.2.2.2.1, (hb.o6.2.2.2.2.1).cells8.2.2.2.2.2.2.2.1, (hb.o6.2.2.2.2.2).cells8.1, (hb.o6.2.2.2.2.2).cells8.2.1, (hb.o6.2.2.2.2.2).cells8.2.2.1, (hb.o6.2.2.2.2.2).cells8.2.2.2.1, (hb.o6.2.2.2.2.2).cells8.2.2.2.2.1, (hb.o6.2.2.2.2.2).cells8.2.2.2.2.2.1, (hb.o6.2.2.2.2.2).cells8.2.2.2.2.2.2.1, (hb.o6.2.2.2.2.2).cells8.2.2.2.2.2.2.2.1, hid hb⟩
 have hbb : (bi == bi) = true := by cases bi <;> rfl
 go_wp2_with fail
 go_region_held3 (fun w' => w'.cell? ⟨w18.heap.size, 0, none⟩ = some (.bool s21) ∧ w'.cell? ⟨w18.heap.size, 1, none⟩ = some (.slice p21 k21 c21) ∧ w'.cell? ⟨w18.heap.size, 2, none⟩ = some (.slice q21 l21 d21) ∧ w'.cell? ⟨w18.heap.size, 3, none⟩ = some (.bool sz21) ∧ w'.cell? ⟨w18.heap.size, 4, none⟩ = some (.slice pz21 kz21 cz21) ∧ w'.cell? ⟨w18.heap.size, 5, none⟩ = some (.slice qz21 lz21 dz21) ∧ w'.cell? ⟨w18.heap.size, 6, none⟩ = some (.bool x21) ∧ w'.cell? ⟨w18.heap.size, 7, none⟩ = some (.bool y21) ∧ w'.cell? ⟨w19.heap.size, 0, none⟩ = some (.bool s22) ∧ w'.cell? ⟨w19.heap.size, 1, none⟩ = some (.slice p22 k22 c22) ∧ w'.cell? ⟨w19.heap.size, 2, none⟩ = some (.slice q22 l22 d22) ∧ w'.cell? ⟨w19.heap.size, 3, none⟩ = some (.bool sz22) ∧ w'.cell? ⟨w19.heap.size, 4, none⟩ = some (.slice pz22 kz22 cz22) ∧ w'.cell? ⟨w19.heap.size, 5, none⟩ = some (.slice qz22 lz22 dz22) ∧ w'.cell? ⟨w19.heap.size, 6, none⟩ = some (.bool x22) ∧ w'.cell? ⟨w19.heap.size, 7, none⟩ = some (.bool y22) ∧ w'.cell? ⟨w.heap.size, 0, none⟩ = some (.bool s1) ∧ w'.cell? ⟨w.heap.size, 1, none⟩ = some (.slice p1 k1 c1) ∧ w'.cell? ⟨w.heap.size, 2, none⟩ = some (.slice q1 l1 d1) ∧ w'.cell? ⟨w.heap.size, 3, none⟩ = some (.bool sz1) ∧ w'.cell? ⟨w.heap.size, 4, none⟩ = some (.slice pz1 kz1 cz1) ∧ w'.cell? ⟨w.heap.size, 5, none⟩ = some (.slice qz1 lz1 dz1) ∧ w'.cell? ⟨w.heap.size, 6, none⟩ = some (.bool x1) ∧ w'.cell? ⟨w.heap.size, 7, none⟩ = some (.bool y1) ∧ w'.cell? ⟨w4.heap.size, 0, none⟩ = some (.bool s11) ∧ w'.cell? ⟨w4.heap.size, 1, none⟩ = some (.slice p11 k11 c11) ∧ w'.cell? ⟨w4.heap.size, 2, none⟩ = some (.slice q11 l11 d11) ∧ w'.cell? ⟨w4.heap.size, 3, none⟩ = some (.bool sz11) ∧ w'.cell? ⟨w4.heap.size, 4, none⟩ = some (.slice pz11 kz11 cz11) ∧ w'.cell? ⟨w4.heap.size, 5, none⟩ = some (.slice qz11 lz11 dz11) ∧ w'.cell? ⟨w4.heap.size, 6, none⟩ = some (.bool x11) ∧ w'.cell? ⟨w4.heap.size, 7, none⟩ = some (.bool y11) ∧ w'.cell? ⟨w6.heap.size, 0, none⟩ = some (.bool s13) ∧ w'.cell? ⟨w6.heap.size, 1, none⟩ = some (.slice p13 k13 c13) ∧ w'.cell? ⟨w6.heap.size, 2, none⟩ = some (.slice q13 l13 d13) ∧ w'.cell? ⟨w6.heap.size, 3, none⟩ = some (.bool sz13) ∧ w'.cell? ⟨w6.heap.size, 4, none⟩ = some (.slice pz13 kz13 cz13) ∧ w'.cell? ⟨w6.heap.size, 5, none⟩ = some (.slice qz13 lz13 dz13) ∧ w'.cell? ⟨w6.heap.size, 6, none⟩ = some (.bool x13) ∧ w'.cell? ⟨w6.heap.size, 7, none⟩ = some (.bool y13) ∧ w'.cell? ⟨w.heap.size + 1, 0, none⟩ = some (.bool s2) ∧ w'.cell? ⟨w.heap.size + 1, 1, none⟩ = some (.slice p2 k2 c2) ∧ w'.cell? ⟨w.heap.size + 1, 2, none⟩ = some (.slice q2 l2 d2) ∧ w'.cell? ⟨w.heap.size + 1, 3, none⟩ = some (.bool sz2) ∧ w'.cell? ⟨w.heap.size + 1, 4, none⟩ = some (.slice pz2 kz2 cz2) ∧ w'.cell? ⟨w.heap.size + 1, 5, none⟩ = some (.slice qz2 lz2 dz2) ∧ w'.cell? ⟨w.heap.size + 1, 6, none⟩ = some (.bool x2) ∧ w'.cell? ⟨w.heap.size + 1, 7, none⟩ = some (.bool y2) ∧ Hid (QQ W22 [(w18.heap.size, [.bool s21, .slice p21 k21 c21, .slice q21 l21 d21, .bool sz21, .slice pz21 kz21 cz21, .slice qz21 lz21 dz21, .bool x21, .bool y21]), (w19.heap.size, [.bool s22, .slice p22 k22 c22, .slice q22 l22 d22, .bool sz22, .slice pz22 kz22 cz22, .slice qz22 lz22 dz22, .bool x22, .bool y22]), (w.heap.size, [.bool s1, .slice p1 k1 c1, .slice q1 l1 d1, .bool sz1, .slice pz1 kz1 cz1, .slice qz1 lz1 dz1, .bool x1, .bool y1]), (w4.heap.size, [.bool s11, .slice p11 k11 c11, .slice q11 l11 d11, .bool sz11, .slice pz11 kz11 cz11, .slice qz11 lz11 dz11, .bool x11, .bool y11]), (w6.heap.size, [.bool s13, .slice p13 k13 c13, .slice q13 l13 d13, .bool sz13, .slice pz13 kz13 cz13, .slice qz13 lz13 dz13, .bool x13, .bool y13]), (w.heap.size + 1, [.bool s2, .slice p2 k2 c2, .slice q2 l2 d2, .bool sz2, .slice pz2 kz2 cz2, .slice qz2 lz2 dz2, .bool x2, .bool y2])] w'))
  (first | (refine HS.out _ ?_; first | (with_reducible exact HQ.out.drew) | (with_reducible assumption)))
  (first
   | (go_at_call 20; refine (HA.out _ ((HB.out).trans (hQ8.bel.mono (HB.out).size))).mono ?_; rintro e v9 ⟨rfl, hB9⟩; have hQ9 := hQ8.call hB9)
   | (go_at_call 38; refine (HS2.out _ s11 p11 k11 c11 q11 l11 d11 sz11 pz11 kz11 cz11 qz11 lz11 dz11 x11 y11 s1 p1 k1 c1 q1 l1 d1 sz1 pz1 kz1 cz1 qz1 lz1 dz1 x1 y1 rm ra bi Ei4.out ((Jm_.out).below hQ7.bel) ((Ja_.out).below hQ7.bel)).mono ?_; rintro e v8 ⟨rfl, hB8⟩; have hQ8 := hQ7.call hB8)
   | (go_at_call_of 37 p2; refine (HN.out _ ((HB.out).trans (hQ6.bel.mono (HB.out).size)) s1 p1 k1 c1 q1 l1 d1 sz1 pz1 kz1 cz1 qz1 lz1 dz1 x1 y1 s2 p2 k2 c2 q2 l2 d2 sz2 pz2 kz2 cz2 qz2 lz2 dz2 x2 y2 ra rb bi Ei3.out ((Ja_.out).below hQ6.bel) ((Jb_.out).below hQ6.bel)).mono ?_; rintro e v7 ⟨rfl, hB7⟩; have hQ7 := hQ6.call hB7)
   | (go_at_call_of 37 p13; refine (HN.out _ ((HB.out).trans (hQ5.bel.mono (HB.out).size)) s1 p1 k1 c1 q1 l1 d1 sz1 pz1 kz1 cz1 qz1 lz1 dz1 x1 y1 s13 p13 k13 c13 q13 l13 d13 sz13 pz13 kz13 cz13 qz13 lz13 dz13 x13 y13 ra rh true Ei2.out ((Ja_.out).below hQ5.bel) ((Jh_.out).below hQ5.bel)).mono ?_; rintro e v6 ⟨rfl, hB6⟩; have hQ6 := hQ5.call hB6)
   | (go_at_call_of 37 p11; refine (HN.out _ ((HB.out).trans (hQ4.bel.mono (HB.out).size)) s11 p11 k11 c11 q11 l11 d11 sz11 pz11 kz11 cz11 qz11 lz11 dz11 x11 y11 s1 p1 k1 c1 q1 l1 d1 sz1 pz1 kz1 cz1 qz1 lz1 dz1 x1 y1 rm ra true Ei1.out ((Jm_.out).below hQ4.bel) ((Ja_.out).below hQ4.bel)).mono ?_; rintro e v5 ⟨rfl, hB5⟩; have hQ5 := hQ4.call hB5)
   | (go_at_call 18; refine (HI.out _ s22 p22 k22 c22 q22 l22 d22 sz22 pz22 kz22 cz22 qz22 lz22 dz22 x22 y22 s31 p31 k31 c31 q31 l31 d31 sz31 pz31 kz31 cz31 qz31 lz31 dz31 x31 y31 ra GA.out ((Gz_.out).below hQ3.bel) hG3.out).mono ?_; rintro e v4 ⟨rfl, hB4⟩; have hQ4 := hQ3.call hB4)
   | (go_at_call 36; refine (HA2.out _ s1 p1 k1 c1 q1 l1 d1 sz1 pz1 kz1 cz1 qz1 lz1 dz1 x1 y1 ra ((Ja_.out).below hQ2.bel)).mono ?_; rintro e v3 ⟨s31, p31, k31, c31, q31, l31, d31, sz31, pz31, kz31, cz31, qz31, lz31, dz31, x31, y31, rfl, hG3, hB3⟩; have hQ3 := hQ2.call hB3)
   | (go_at_call 18; refine (HI.out _ s21 p21 k21 c21 q21 l21 d21 sz21 pz21 kz21 cz21 qz21 lz21 dz21 x21 y21 s30 p30 k30 c30 q30 l30 d30 sz30 pz30 kz30 cz30 qz30 lz30 dz30 x30 y30 ra GA.out ((Gy_.out).below hQ1.bel) hG1.out).mono ?_; rintro e v2 ⟨rfl, hB2⟩; have hQ2 := hQ1.call hB2)
   | (go_at_call 36; refine (HA2.out _ s1 p1 k1 c1 q1 l1 d1 sz1 pz1 kz1 cz1 qz1 lz1 dz1 x1 y1 ra ((Ja_.out).below HQ.out.drew.bel)).mono ?_; rintro e v1 ⟨s30, p30, k30, c30, q30, l30, d30, sz30, pz30, kz30, cz30, qz30, lz30, dz30, x30, y30, rfl, hG1, hB1⟩; have hQ1 := HQ.out.drew.call hB1))
 rename_i hHeld
 clear hHeld
 have HZ := hid ((HB.out).trans (hQ9.bel.mono (HB.out).size))
 go_wp2_with fail
 go_ret
 exact ⟨rfl, HZ.out⟩
theorem IntervalLattice_lg (s1 : Bool) (p1 : Option Addr) (k1 c1 : Nat) (q1 : Option Addr) (l1 d1 : Nat) (sz1 : Bool) (pz1 : Option Addr) (kz1 cz1 : Nat) (qz1 : Option Addr) (lz1 dz1 : Nat) (x1 : Bool) (y1 : Bool) (s2 : Bool) (p2 : Option Addr) (k2 c2 : Nat) (q2 : Option Addr) (l2 d2 : Nat) (sz2 : Bool) (pz2 : Option Addr) (kz2 cz2 : Nat) (qz2 : Option Addr) (lz2 dz2 : Nat) (x2 : Bool) (y2 : Bool) (s3 : Bool) (p3 : Option Addr) (k3 c3 : Nat) (q3 : Option Addr) (l3 d3 : Nat) (sz3 : Bool) (pz3 : Option Addr) (kz3 cz3 : Nat) (qz3 : Option Addr) (lz3 dz3 : Nat) (x3 : Bool) (y3 : Bool) (la lb lc : Bool) (w : World) (h1 : ∀ W, Below w.heap.size w W → Calls Tryz.prog 35 #[.agg #[.bool s1, .slice p1 k1 c1, .slice q1 l1 d1, .bool sz1, .slice pz1 kz1 cz1, .slice qz1 lz1 dz1, .bool x1, .bool y1]] W fun e w' => e = .returned (.bool la) ∧ Below W.heap.size W w') (h2 : ∀ W, Below w.heap.size w W → Calls Tryz.prog 35 #[.agg #[.bool s2, .slice p2 k2 c2, .slice q2 l2 d2, .bool sz2, .slice pz2 kz2 cz2, .slice qz2 lz2 dz2, .bool x2, .bool y2]] W fun e w' => e = .returned (.bool lb) ∧ Below W.heap.size W w') (h3 : ∀ W, Below w.heap.size w W → Calls Tryz.prog 35 #[.agg #[.bool s3, .slice p3 k3 c3, .slice q3 l3 d3, .bool sz3, .slice pz3 kz3 cz3, .slice qz3 lz3 dz3, .bool x3, .bool y3]] W fun e w' => e = .returned (.bool lc) ∧ Below W.heap.size W w')
  (h4 : ∀ W, Below w.heap.size w W → Calls Tryz.prog 20 #[] W fun e w' => e = .returned (.bool true) ∧ Below W.heap.size W w') (h : (la || lb || lc) = true) :
  Calls Tryz.prog 7 #[.agg #[.bool s1, .slice p1 k1 c1, .slice q1 l1 d1, .bool sz1, .slice pz1 kz1 cz1, .slice qz1 lz1 dz1, .bool x1, .bool y1], .agg #[.bool s2, .slice p2 k2 c2, .slice q2 l2 d2, .bool sz2, .slice pz2 kz2 cz2, .slice qz2 lz2 dz2, .bool x2, .bool y2], .agg #[.bool s3, .slice p3 k3 c3, .slice q3 l3 d3, .bool sz3, .slice pz3 kz3 cz3, .slice qz3 lz3 dz3, .bool x3, .bool y3]] w fun e w' => e = .returned (.bool true) ∧ Below w.heap.size w w' := by
 have H1 := hid h1
 have H2 := hid h2
 have H3 := hid h3
 have H4 := hid h4
 clear h1 h2 h3 h4
 have hq : la = true ∨ (la = false ∧ lb = true) ∨ (la = false ∧ lb = false ∧ lc = true) := by cases la <;> cases lb <;> cases lc <;> simp_all
 clear h
 rcases hq with rfl | ⟨rfl, rfl⟩ | ⟨rfl, rfl, rfl⟩
 ·go_enter Tryz.func7, Tryz.ntmps7
  go_wp2_with fail
  generalize hA : World.alloc _ _ = W0
  have HV := hid (pre3_o hA nd8 nd8 nd8)
  clear hA
  refine (H1.out _ (HV.out.2.2.2)).mono ?_
  rintro e w1 ⟨rfl, hB1⟩
  have K0_0 := hid ((HV.out.1).below hB1)
  have K0_1 := hid ((HV.out.2.1).below hB1)
  have K0_2 := hid ((HV.out.2.2.1).below hB1)
  have HB0 := hid ((HV.out.2.2.2).trans (hB1.mono (HV.out.2.2.2).size))
  clear hB1
  go_wp2_with fail
  refine (H4.out _ (HB0.out)).mono ?_
  rintro e w9 ⟨rfl, hB9⟩
  have HZ := hid ((HB0.out).trans (hB9.mono (HB0.out).size))
  go_wp2_with fail
  go_ret
  exact ⟨rfl, HZ.out⟩
 ·go_enter Tryz.func7, Tryz.ntmps7
  go_wp2_with fail
  generalize hA : World.alloc _ _ = W0
  have HV := hid (pre3_o hA nd8 nd8 nd8)
  clear hA
  refine (H1.out _ (HV.out.2.2.2)).mono ?_
  rintro e w1 ⟨rfl, hB1⟩
  have K0_0 := hid ((HV.out.1).below hB1)
  have K0_1 := hid ((HV.out.2.1).below hB1)
  have K0_2 := hid ((HV.out.2.2.1).below hB1)
  have HB0 := hid ((HV.out.2.2.2).trans (hB1.mono (HV.out.2.2.2).size))
  clear hB1
  obtain ⟨m0, m1, m2, m3, m4, m5, m6, m7, _⟩ := (K0_1.out).cells8
  go_wp2_with fail
  refine (H2.out _ (HB0.out)).mono ?_
  rintro e w2 ⟨rfl, hB2⟩
  have K1_0 := hid ((K0_0.out).below hB2)
  have K1_1 := hid ((K0_1.out).below hB2)
  have K1_2 := hid ((K0_2.out).below hB2)
  have HB1 := hid ((HB0.out).trans (hB2.mono (HB0.out).size))
  clear hB2 m0 m1 m2 m3 m4 m5 m6 m7
  go_wp2_with fail
  refine (H4.out _ (HB1.out)).mono ?_
  rintro e w9 ⟨rfl, hB9⟩
  have HZ := hid ((HB1.out).trans (hB9.mono (HB1.out).size))
  go_wp2_with fail
  go_ret
  exact ⟨rfl, HZ.out⟩
 ·go_enter Tryz.func7, Tryz.ntmps7
  go_wp2_with fail
  generalize hA : World.alloc _ _ = W0
  have HV := hid (pre3_o hA nd8 nd8 nd8)
  clear hA
  refine (H1.out _ (HV.out.2.2.2)).mono ?_
  rintro e w1 ⟨rfl, hB1⟩
  have K0_0 := hid ((HV.out.1).below hB1)
  have K0_1 := hid ((HV.out.2.1).below hB1)
  have K0_2 := hid ((HV.out.2.2.1).below hB1)
  have HB0 := hid ((HV.out.2.2.2).trans (hB1.mono (HV.out.2.2.2).size))
  clear hB1
  obtain ⟨m0, m1, m2, m3, m4, m5, m6, m7, _⟩ := (K0_1.out).cells8
  go_wp2_with fail
  refine (H2.out _ (HB0.out)).mono ?_
  rintro e w2 ⟨rfl, hB2⟩
  have K1_0 := hid ((K0_0.out).below hB2)
  have K1_1 := hid ((K0_1.out).below hB2)
  have K1_2 := hid ((K0_2.out).below hB2)
  have HB1 := hid ((HB0.out).trans (hB2.mono (HB0.out).size))
  clear hB2 m0 m1 m2 m3 m4 m5 m6 m7
  obtain ⟨m0, m1, m2, m3, m4, m5, m6, m7, _⟩ := (K1_2.out).cells8
  go_wp2_with fail
  refine (H3.out _ (HB1.out)).mono ?_
  rintro e w3 ⟨rfl, hB3⟩
  have K2_0 := hid ((K1_0.out).below hB3)
  have K2_1 := hid ((K1_1.out).below hB3)
  have K2_2 := hid ((K1_2.out).below hB3)
  have HB2 := hid ((HB1.out).trans (hB3.mono (HB1.out).size))
  clear hB3 m0 m1 m2 m3 m4 m5 m6 m7
  go_wp2_with fail
  refine (H4.out _ (HB2.out)).mono ?_
  rintro e w9 ⟨rfl, hB9⟩
  have HZ := hid ((HB2.out).trans (hB9.mono (HB2.out).size))
  go_wp2_with fail
  go_ret
  exact ⟨rfl, HZ.out⟩
theorem IntervalLattice_any (v u z : Value) (i j k : (Bool × Nat × Nat) × (Bool × Nat × Nat) × Bool × Bool) (w : World) (ha : IRep w v i) (hb : IRep w u j) (hc : IRep w z k) (ht : TabOk w) :
  Calls Tryz.prog 7 #[v, u, z] w fun e w' => e = .returned (.bool true) ∧ Below w.heap.size w w' := by
 obtain ⟨s1, p1, kk1, c1, q1, l1, d1, sz1, pz1, kz1, cz1, qz1, lz1, dz1, x1, y1, rfl, h1, h2, rfl, rfl⟩ := ha
 obtain ⟨s2, p2, kk2, c2, q2, l2, d2, sz2, pz2, kz2, cz2, qz2, lz2, dz2, x2, y2, rfl, h3, h4, rfl, rfl⟩ := hb
 obtain ⟨s3, p3, kk3, c3, q3, l3, d3, sz3, pz3, kz3, cz3, qz3, lz3, dz3, x3, y3, rfl, h5, h6, rfl, rfl⟩ := hc
 cases hl : (ilarge (i.1, i.2.1, i.2.2.1, i.2.2.2) || ilarge (j.1, j.2.1, j.2.2.1, j.2.2.2) || ilarge (k.1, k.2.1, k.2.2.1, k.2.2.2))
 ·rw [Bool.or_eq_false_iff, Bool.or_eq_false_iff] at hl
  have k1 : (large i.1.2.1 i.1.2.2 || large i.2.1.2.1 i.2.1.2.2) = false := hl.1.1
  have k2 : (large j.1.2.1 j.1.2.2 || large j.2.1.2.1 j.2.1.2.2) = false := hl.1.2
  have k3 : (large k.1.2.1 k.1.2.2 || large k.2.1.2.1 k.2.1.2.2) = false := hl.2
  rw [Bool.or_eq_false_iff] at k1 k2 k3
  have ga : JGood (jof (i.1, i.2.1, i.2.2.1, i.2.2.2)) := JGood.of k1.1 k1.2
  have gb : JGood (jof (j.1, j.2.1, j.2.2.1, j.2.2.2)) := JGood.of k2.1 k2.2
  have gc : JGood (jof (k.1, k.2.1, k.2.2.1, k.2.2.2)) := JGood.of k3.1 k3.2
  have Ja : JArg w _ (jof (i.1, i.2.1, i.2.2.1, i.2.2.2)) := ⟨_, _, _, _, _, _, _, _, _, _, _, _, _, _, _, _, rfl, _, _, h1, h2, k1.1, k1.2, rfl⟩
  have Jb : JArg w _ (jof (j.1, j.2.1, j.2.2.1, j.2.2.2)) := ⟨_, _, _, _, _, _, _, _, _, _, _, _, _, _, _, _, rfl, _, _, h3, h4, k2.1, k2.2, rfl⟩
  have Jc : JArg w _ (jof (k.1, k.2.1, k.2.2.1, k.2.2.2)) := ⟨_, _, _, _, _, _, _, _, _, _, _, _, _, _, _, _, rfl, _, _, h5, h6, k3.1, k3.2, rfl⟩
  have gm := jboth_good ga gb
  have gh := jhull_good ga gb
  exact IntervalLattice_J s1 p1 kk1 c1 q1 l1 d1 sz1 pz1 kz1 cz1 qz1 lz1 dz1 _ _ s2 p2 kk2 c2 q2 l2 d2 sz2 pz2 kz2 cz2 qz2 lz2 dz2 _ _ s3 p3 kk3 c3 q3 l3 d3 sz3 pz3 kz3 cz3 qz3 lz3 dz3 _ _
   _ _ _ _ _ _ _ _ _ (jwithin (jof (i.1, i.2.1, i.2.2.1, i.2.2.2)) (jof (j.1, j.2.1, j.2.2.1, j.2.2.2))) w Ja Jb Jc ht
   rfl (lat_both_comm ga gb) rfl (lat_hull_comm ga gb) rfl rfl (lat_both_assoc ga gb gc) rfl rfl (lat_hull_assoc ga gb gc) (lat_absorb_both ga gb).symm (lat_absorb_hull ga gb).symm
   (lat_in_both ga gb) (lat_in_hull ga gb) rfl
   (by
    cases hw : jwithin (jof (i.1, i.2.1, i.2.2.1, i.2.2.2)) (jof (j.1, j.2.1, j.2.2.1, j.2.2.2))
    ·exact decide_eq_false (fun h => Bool.noConfusion (((lat_within ga gb).2 h).symm.trans hw))
    ·exact decide_eq_true ((lat_within ga gb).1 hw))
   gm gh (jboth_good gm gc) (jboth_good gb gc) (jhull_good gh gc) (jhull_good gb gc)
 ·exact IntervalLattice_lg s1 p1 kk1 c1 q1 l1 d1 sz1 pz1 kz1 cz1 qz1 lz1 dz1 _ _ s2 p2 kk2 c2 q2 l2 d2 sz2 pz2 kz2 cz2 qz2 lz2 dz2 _ _ s3 p3 kk3 c3 q3 l3 d3 sz3 pz3 kz3 cz3 qz3 lz3 dz3 _ _ _ _ _ w
   (fun W hW => jLarge_any _ _ _ _ _ _ _ _ _ _ _ _ _ _ _ _ i.1 i.2.1 W (h1.below hW) (h2.below hW))
   (fun W hW => jLarge_any _ _ _ _ _ _ _ _ _ _ _ _ _ _ _ _ j.1 j.2.1 W (h3.below hW) (h4.below hW))
   (fun W hW => jLarge_any _ _ _ _ _ _ _ _ _ _ _ _ _ _ _ _ k.1 k.2.1 W (h5.below hW) (h6.below hW))
   (fun W hW => awake3_any W (ht.below hW)) hl
end Go.Proofs.YtimjoejkjgklaaaGreatDoor
