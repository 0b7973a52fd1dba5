/- The opposite of a set, of the program. The opposite of a set, of the reference. Neg of both sides. The greater and the lesser one of two ends, of two numbers; the sign of an end. -/
import Derived.Test.YtimjoejkjgklaaaGreatDoorMkI
import Derived.Test.YtimjoejkjgklaaaGreatDoorBothI
import Derived.WalkSmall
import Derived.Test.YtimjoejkjgklaaaGreatDoorIsJ
set_option maxHeartbeats 2000000
set_option maxRecDepth 100000
namespace Go.Proofs.YtimjoejkjgklaaaGreatDoor
open Go.RowKit Dg
def eneg (x : Int × Bool × Nat × Nat) : Int × Bool × Nat × Nat := if x.1 = 0 then (0, fneg x.2) else (-x.1, false, 0, 0)
end Go.Proofs.YtimjoejkjgklaaaGreatDoor
namespace Go.Proofs.YtimjoejkjgklaaaGreatDoor
open Go.RowKit Dg
def jminus (r : (Bool × Nat × Nat) × (Bool × Nat × Nat) × Bool × Bool × Bool) : (Bool × Nat × Nat) × (Bool × Nat × Nat) × Bool × Bool × Bool := if r.2.2.2.2 then r else (fneg r.2.1, fneg r.1, r.2.2.2.1, r.2.2.1, false)
theorem jMinus_ret {W : World} {B : Nat} {a0 a1 a2 a3 a4 a5 a6 a7 a8 : Value} {tm : Array Value} {R : Ending → World → Prop} (h2 : tm[2]?.getD undef = .pointer (some ⟨B, 0, none⟩)) (hV : Box W B #[a0, a1, a2, a3, a4, a5, a6, a7, a8]) (hR : R (.returned (.agg #[a0, a1, a2, a3, a4, a5, a6, a7, a8])) W) :
  bodyPost Tryz.prog Tryz.f117 R .ret { tmps := tm, defers := [] } W := by
 obtain ⟨g0, g1, g2, g3, g4, g5, g6, g7, g8, _⟩ := hV.cells9
 exact bodyPost_ret (v := .agg #[a0, a1, a2, a3, a4, a5, a6, a7, a8]) (by simp [results, Tryz.results117, go_sem, h2, g0, g1, g2, g3, g4, g5, g6, g7, g8]) rfl hR
theorem jMinus_some (s1 : Bool) (p1 : Option Addr) (k1 c1 : Nat) (q1 : Option Addr) (l1 d1 : Nat) (sz1 : Bool) (pz1 : Option Addr) (kz1 cz1 : Nat) (qz1 : Option Addr) (lz1 dz1 : Nat) (x1 : Bool) (y1 : Bool) (e1 : Bool) (x : (Bool × Nat × Nat) × (Bool × Nat × Nat) × Bool × Bool × Bool) (w : World) (h : JRep w (.agg #[.bool s1, .slice p1 k1 c1, .slice q1 l1 d1, .bool sz1, .slice pz1 kz1 cz1, .slice qz1 lz1 dz1, .bool x1, .bool y1, .bool e1]) x) (he : x.2.2.2.2 = false) :
  Calls Tryz.prog 117 #[.agg #[.bool s1, .slice p1 k1 c1, .slice q1 l1 d1, .bool sz1, .slice pz1 kz1 cz1, .slice qz1 lz1 dz1, .bool x1, .bool y1, .bool e1]] w fun e w' => ∃ s3 p3 k3 c3 q3 l3 d3 sz3 pz3 kz3 cz3 qz3 lz3 dz3 x3 y3 e3, e = .returned (.agg #[.bool s3, .slice p3 k3 c3, .slice q3 l3 d3, .bool sz3, .slice pz3 kz3 cz3, .slice qz3 lz3 dz3, .bool x3, .bool y3, .bool e3]) ∧ Hid (JRep w' (.agg #[.bool s3, .slice p3 k3 c3, .slice q3 l3 d3, .bool sz3, .slice pz3 kz3 cz3, .slice qz3 lz3 dz3, .bool x3, .bool y3, .bool e3]) (jminus x)) ∧ Below w.heap.size w w' := by
 have h1 := JRep.parts s1 p1 k1 c1 q1 l1 d1 sz1 pz1 kz1 cz1 qz1 lz1 dz1 x1 y1 e1 h
 have HL := hid (fun (W : World) (hW : Below w.heap.size w W) => qopen (t := fneg x.1) (Opp_any (.agg #[.bool s1, .slice p1 k1 c1, .slice q1 l1 d1]) x.1 W (h1.1.below hW)))
 have HH := hid (fun (W : World) (hW : Below w.heap.size w W) => qopen (t := fneg x.2.1) (Opp_any (.agg #[.bool sz1, .slice pz1 kz1 cz1, .slice qz1 lz1 dz1]) x.2.1 W (h1.2.1.below hW)))
 obtain ⟨_, _, hi, hj, hee⟩ := h1
 rw [he] at hee
 subst hee
 obtain ⟨r, hr⟩ : ∃ r, r = jminus x := ⟨_, rfl⟩
 obtain ⟨rl, hrl⟩ : ∃ r, r = fneg x.1 := ⟨_, rfl⟩
 obtain ⟨rh, hrh⟩ : ∃ r, r = fneg x.2.1 := ⟨_, rfl⟩
 rw [← hr]
 rw [← hrl] at HL
 rw [← hrh] at HH
 have HX : Hid (r = (rh, rl, y1, x1, false)) := hid (by rw [hr, hrl, hrh, hi, hj]; unfold jminus; rw [he]; rfl)
 clear hr hrl hrh h he hi hj
 go_enter Tryz.func117, Tryz.ntmps117
 go_wp2_with fail
 have HV := hid (pre2 w [.bool s1, .slice p1 k1 c1, .slice q1 l1 d1, .bool sz1, .slice pz1 kz1 cz1, .slice qz1 lz1 dz1, .bool x1, .bool y1, .bool false] [.bool false, .slice none 0 0, .slice none 0 0, .bool false, .slice none 0 0, .slice none 0 0, .bool false, .bool false, .bool false] 66 66 nd9 nd9)
 generalize (w.alloc (.cells #[.bool s1, .slice p1 k1 c1, .slice q1 l1 d1, .bool sz1, .slice pz1 kz1 cz1, .slice qz1 lz1 dz1, .bool x1, .bool y1, .bool false] 66)).alloc (.cells #[.bool false, .slice none 0 0, .slice none 0 0, .bool false, .slice none 0 0, .slice none 0 0, .bool false, .bool false, .bool false] 66) = W0 at *
 have HQ := hid (QQ.i1 (cs := [.bool s1, .slice p1 k1 c1, .slice q1 l1 d1, .bool sz1, .slice pz1 kz1 cz1, .slice qz1 lz1 dz1, .bool x1, .bool y1, .bool false]) HV.out.1 HV.out.2.2)
 have HS : Hid (∀ w', QQ w [(w.heap.size, [.bool s1, .slice p1 k1 c1, .slice q1 l1 d1, .bool sz1, .slice pz1 kz1 cz1, .slice qz1 lz1 dz1, .bool x1, .bool y1, .bool false])] w' → (w'.cell? ⟨w.heap.size, 0, none⟩ = some (.bool s1) ∧ w'.cell? ⟨w.heap.size, 1, none⟩ = some (.slice p1 k1 c1) ∧ w'.cell? ⟨w.heap.size, 2, none⟩ = some (.slice q1 l1 d1) ∧ w'.cell? ⟨w.heap.size, 3, none⟩ = some (.bool sz1) ∧ w'.cell? ⟨w.heap.size, 4, none⟩ = some (.slice pz1 kz1 cz1) ∧ w'.cell? ⟨w.heap.size, 5, none⟩ = some (.slice qz1 lz1 dz1) ∧ w'.cell? ⟨w.heap.size, 6, none⟩ = some (.bool x1) ∧ w'.cell? ⟨w.heap.size, 7, none⟩ = some (.bool y1) ∧ w'.cell? ⟨w.heap.size, 8, none⟩ = some (.bool false) ∧ Hid (QQ w [(w.heap.size, [.bool s1, .slice p1 k1 c1, .slice q1 l1 d1, .bool sz1, .slice pz1 kz1 cz1, .slice qz1 lz1 dz1, .bool x1, .bool y1, .bool false])] w'))) :=
  hid fun w' hb => ⟨(hb.b1.cells9).1, (hb.b1.cells9).2.1, (hb.b1.cells9).2.2.1, (hb.b1.cells9).2.2.2.1, (hb.b1.cells9).2.2.2.2.1, (hb.b1.cells9).2.2.2.2.2.1, (hb.b1.cells9).2.2.2.2.2.2.1, (hb.b1.cells9).2.2.2.2.2.2.2.1, (hb.b1.cells9).2.2.2.2.2.2.2.2.1, hid hb⟩
 have HN : Hid (Apart [(w.heap.size, [.bool s1, .slice p1 k1 c1, .slice q1 l1 d1, .bool sz1, .slice pz1 kz1 cz1, .slice qz1 lz1 dz1, .bool x1, .bool y1, .bool false])] (w.heap.size + 1)) := hid (ne1 (by omega))
 have HI : Hid (w.heap.size ≤ w.heap.size + 1) := hid (by omega)
 go_region_held3 (fun w' => w'.cell? ⟨w.heap.size, 0, none⟩ = some (.bool s1) ∧ w'.cell? ⟨w.heap.size, 1, none⟩ = some (.slice p1 k1 c1) ∧ w'.cell? ⟨w.heap.size, 2, none⟩ = some (.slice q1 l1 d1) ∧ w'.cell? ⟨w.heap.size, 3, none⟩ = some (.bool sz1) ∧ w'.cell? ⟨w.heap.size, 4, none⟩ = some (.slice pz1 kz1 cz1) ∧ w'.cell? ⟨w.heap.size, 5, none⟩ = some (.slice qz1 lz1 dz1) ∧ w'.cell? ⟨w.heap.size, 6, none⟩ = some (.bool x1) ∧ w'.cell? ⟨w.heap.size, 7, none⟩ = some (.bool y1) ∧ w'.cell? ⟨w.heap.size, 8, none⟩ = some (.bool false) ∧ Hid (QQ w [(w.heap.size, [.bool s1, .slice p1 k1 c1, .slice q1 l1 d1, .bool sz1, .slice pz1 kz1 cz1, .slice qz1 lz1 dz1, .bool x1, .bool y1, .bool false])] w'))
  (first | (refine HS.out _ ?_; first | (with_reducible exact HQ.out.drew) | (with_reducible assumption) | (with_reducible refine QQ.st9 ?_ HN.out HI.out; assumption)))
  (first
   | (go_at_call_of 157 pz1; refine (HH.out _ HQ.out.drew.bel).mono ?_; rintro e wa ⟨s4, p4, k4, c4, q4, l4, d4, rfl, hE1, hB1⟩; have hQ1 := HQ.out.drew.call hB1; have hV1 := (HV.out.2.1.drew).below hB1)
   | (go_at_call_of 157 p1; refine (HL.out _ hQ1.bel).mono ?_; rintro e wb ⟨s5, p5, k5, c5, q5, l5, d5, rfl, hE2, hB2⟩; have hQ2 := hQ1.call hB2; have hV2 := hV1.below hB2; obtain ⟨g0, g1, g2, g3, g4, g5, g6, g7, g8, f0, f1, f2, f3, f4, f5, f6, f7, f8⟩ := hV2.cells9))
 rename_i hHeld
 clear hHeld
 have HE := hid (And.intro hV2 (And.intro (hE1.out.below hB2) (And.intro hE2.out hQ2.bel)))
 clear hQ1 hQ2 hV1 hV2 hB1 hB2 hE1 hE2
 go_wp2_with fail
 exact jMinus_ret rfl (HE.out.1.stores [.bool s4, .slice p4 k4 c4, .slice q4 l4 d4, .bool s5, .slice p5 k5 c5, .slice q5 l5 d5, .bool y1, .bool x1, .bool false] rfl nd9) ⟨_, _, _, _, _, _, _, _, _, _, _, _, _, _, _, _, _, rfl, hid ⟨_, _, _, _, _, _, _, _, _, _, _, _, _, _, _, _, _, rfl, by rw [HX.out]; exact QNorm.stores (k := 0) (l := [.bool s4, .slice p4 k4 c4, .slice q4 l4 d4, .bool s5, .slice p5 k5 c5, .slice q5 l5 d5, .bool y1, .bool x1, .bool false]) HE.out.2.1 HE.out.1 nd9, by rw [HX.out]; exact QNorm.stores (k := 0) (l := [.bool s4, .slice p4 k4 c4, .slice q4 l4 d4, .bool s5, .slice p5 k5 c5, .slice q5 l5 d5, .bool y1, .bool x1, .bool false]) HE.out.2.2.1 HE.out.1 nd9, by rw [HX.out], by rw [HX.out], by rw [HX.out]⟩, Below.stores (k := 0) (l := [.bool s4, .slice p4 k4 c4, .slice q4 l4 d4, .bool s5, .slice p5 k5 c5, .slice q5 l5 d5, .bool y1, .bool x1, .bool false]) HE.out.2.2.2 (Nat.le_succ _)⟩
theorem jMinus_none (s1 : Bool) (p1 : Option Addr) (k1 c1 : Nat) (q1 : Option Addr) (l1 d1 : Nat) (sz1 : Bool) (pz1 : Option Addr) (kz1 cz1 : Nat) (qz1 : Option Addr) (lz1 dz1 : Nat) (x1 : Bool) (y1 : Bool) (e1 : Bool) (x : (Bool × Nat × Nat) × (Bool × Nat × Nat) × Bool × Bool × Bool) (w : World) (h : JRep w (.agg #[.bool s1, .slice p1 k1 c1, .slice q1 l1 d1, .bool sz1, .slice pz1 kz1 cz1, .slice qz1 lz1 dz1, .bool x1, .bool y1, .bool e1]) x) (he : x.2.2.2.2 = true) :
  Calls Tryz.prog 117 #[.agg #[.bool s1, .slice p1 k1 c1, .slice q1 l1 d1, .bool sz1, .slice pz1 kz1 cz1, .slice qz1 lz1 dz1, .bool x1, .bool y1, .bool e1]] w fun e w' => ∃ s3 p3 k3 c3 q3 l3 d3 sz3 pz3 kz3 cz3 qz3 lz3 dz3 x3 y3 e3, e = .returned (.agg #[.bool s3, .slice p3 k3 c3, .slice q3 l3 d3, .bool sz3, .slice pz3 kz3 cz3, .slice qz3 lz3 dz3, .bool x3, .bool y3, .bool e3]) ∧ Hid (JRep w' (.agg #[.bool s3, .slice p3 k3 c3, .slice q3 l3 d3, .bool sz3, .slice pz3 kz3 cz3, .slice qz3 lz3 dz3, .bool x3, .bool y3, .bool e3]) (jminus x)) ∧ Below w.heap.size w w' := by
 have hee := (JRep.parts s1 p1 k1 c1 q1 l1 d1 sz1 pz1 kz1 cz1 qz1 lz1 dz1 x1 y1 e1 h).2.2.2.2
 rw [he] at hee
 subst hee
 have hX : jminus x = x := by unfold jminus; rw [he]; rfl
 rw [hX]
 have HJ := hid h
 clear h he hX
 go_enter Tryz.func117, Tryz.ntmps117
 go_upto_region 2 with fail
 have HV := hid (pre2 w [.bool s1, .slice p1 k1 c1, .slice q1 l1 d1, .bool sz1, .slice pz1 kz1 cz1, .slice qz1 lz1 dz1, .bool x1, .bool y1, .bool true] [.bool false, .slice none 0 0, .slice none 0 0, .bool false, .slice none 0 0, .slice none 0 0, .bool false, .bool false, .bool false] 66 66 nd9 nd9)
 generalize (w.alloc (.cells #[.bool s1, .slice p1 k1 c1, .slice q1 l1 d1, .bool sz1, .slice pz1 kz1 cz1, .slice qz1 lz1 dz1, .bool x1, .bool y1, .bool true] 66)).alloc (.cells #[.bool false, .slice none 0 0, .slice none 0 0, .bool false, .slice none 0 0, .slice none 0 0, .bool false, .bool false, .bool false] 66) = W0 at *
 obtain ⟨m0, m1, m2, m3, m4, m5, m6, m7, m8, _⟩ := HV.out.1.cells9
 obtain ⟨g0, g1, g2, g3, g4, g5, g6, g7, g8, f0, f1, f2, f3, f4, f5, f6, f7, f8⟩ := HV.out.2.1.cells9
 go_wp2_with fail
 exact jMinus_ret rfl (HV.out.2.1.stores [.bool s1, .slice p1 k1 c1, .slice q1 l1 d1, .bool sz1, .slice pz1 kz1 cz1, .slice qz1 lz1 dz1, .bool x1, .bool y1, .bool true] rfl nd9) ⟨_, _, _, _, _, _, _, _, _, _, _, _, _, _, _, _, _, rfl, hid (JRep.stores (k := 0) (l := [.bool s1, .slice p1 k1 c1, .slice q1 l1 d1, .bool sz1, .slice pz1 kz1 cz1, .slice qz1 lz1 dz1, .bool x1, .bool y1, .bool true]) (HJ.out.below HV.out.2.2) HV.out.2.1 nd9), Below.stores (k := 0) (l := [.bool s1, .slice p1 k1 c1, .slice q1 l1 d1, .bool sz1, .slice pz1 kz1 cz1, .slice qz1 lz1 dz1, .bool x1, .bool y1, .bool true]) HV.out.2.2 (Nat.le_succ _)⟩
theorem jMinus_any (s1 : Bool) (p1 : Option Addr) (k1 c1 : Nat) (q1 : Option Addr) (l1 d1 : Nat) (sz1 : Bool) (pz1 : Option Addr) (kz1 cz1 : Nat) (qz1 : Option Addr) (lz1 dz1 : Nat) (x1 : Bool) (y1 : Bool) (e1 : Bool) (x : (Bool × Nat × Nat) × (Bool × Nat × Nat) × Bool × Bool × Bool) (w : World) (h : JRep w (.agg #[.bool s1, .slice p1 k1 c1, .slice q1 l1 d1, .bool sz1, .slice pz1 kz1 cz1, .slice qz1 lz1 dz1, .bool x1, .bool y1, .bool e1]) x) :
  Calls Tryz.prog 117 #[.agg #[.bool s1, .slice p1 k1 c1, .slice q1 l1 d1, .bool sz1, .slice pz1 kz1 cz1, .slice qz1 lz1 dz1, .bool x1, .bool y1, .bool e1]] w fun e w' => ∃ s3 p3 k3 c3 q3 l3 d3 sz3 pz3 kz3 cz3 qz3 lz3 dz3 x3 y3 e3, e = .returned (.agg #[.bool s3, .slice p3 k3 c3, .slice q3 l3 d3, .bool sz3, .slice pz3 kz3 cz3, .slice qz3 lz3 dz3, .bool x3, .bool y3, .bool e3]) ∧ Hid (JRep w' (.agg #[.bool s3, .slice p3 k3 c3, .slice q3 l3 d3, .bool sz3, .slice pz3 kz3 cz3, .slice qz3 lz3 dz3, .bool x3, .bool y3, .bool e3]) (jminus x)) ∧ Below w.heap.size w w' := by
 by_cases he : x.2.2.2.2 = true
 ·exact jMinus_none s1 p1 k1 c1 q1 l1 d1 sz1 pz1 kz1 cz1 qz1 lz1 dz1 x1 y1 e1 x w h he
 ·exact jMinus_some s1 p1 k1 c1 q1 l1 d1 sz1 pz1 kz1 cz1 qz1 lz1 dz1 x1 y1 e1 x w h (by simpa using he)
theorem QFit.neg {t : Bool × Nat × Nat} (h : QFit t) : QFit (fneg t) := by
 obtain ⟨s, n, d, hd, rfl⟩ := h.1
 rw [fneg_frac hd]
 exact ⟨⟨_, _, _, hd, rfl⟩, h.2.1, h.2.2⟩
theorem sv_fneg (t : Bool × Nat × Nat) : sv (fneg t).1 (fneg t).2.1 = - sv t.1 t.2.1 := by
 obtain ⟨s, n, d⟩ := t
 show sv (!s && decide (n ≠ 0)) n = - sv s n
 cases s <;> by_cases h : n = 0 <;> simp [sv, h]
theorem fcmp_neg {a b : Bool × Nat × Nat} (h : fcmp a b ≤ 0) : fcmp (fneg b) (fneg a) ≤ 0 := by
 rw [fcmp_nonpos] at h ⊢
 rw [sv_fneg, sv_fneg]
 show -sv b.1 b.2.1 * (a.2.2 : Int) ≤ -sv a.1 a.2.1 * (b.2.2 : Int)
 rw [Int.neg_mul, Int.neg_mul]
 omega
theorem fneg_zero : fneg (false, 0, 0) = (false, 0, 0) := by decide
theorem JGood.neg {r : (Bool × Nat × Nat) × (Bool × Nat × Nat) × Bool × Bool × Bool} (h : JGood r) : JGood (jminus r) := by
 rcases h with rfl | ⟨he, hl, hh, hc⟩
 ·exact .inl rfl
 ·unfold jminus
  rw [he]
  refine .inr ⟨rfl, ?_, ?_, fun hx hy => fcmp_neg (hc hy hx)⟩
  ·rcases hh with ⟨h1, h2⟩ | ⟨h1, h2⟩
   ·exact .inl ⟨h1, by show fneg r.2.1 = _; rw [h2, fneg_zero]⟩
   ·exact .inr ⟨h1, h2.neg⟩
  ·rcases hl with ⟨h1, h2⟩ | ⟨h1, h2⟩
   ·exact .inl ⟨h1, by show fneg r.1 = _; rw [h2, fneg_zero]⟩
   ·exact .inr ⟨h1, h2.neg⟩
end Go.Proofs.YtimjoejkjgklaaaGreatDoor
namespace Go.Proofs.YtimjoejkjgklaaaGreatDoor
open Go.RowKit Dg
theorem EOk.neg {A : Nat} {x : Int × Bool × Nat × Nat} (h : EOk A x) : EOk A (eneg x) := by
 unfold eneg
 split
 case isTrue h0 =>
  refine ⟨fun _ => ?_, fun h1 => absurd rfl h1, h.bn, h.bd⟩
  obtain ⟨s, n, d, hd, e⟩ := h.fin h0
  exact ⟨!s, n, d, hd, by show fneg x.2 = _; rw [e, fneg_frac hd]⟩
 case isFalse h0 =>
  refine ⟨fun h1 => ?_, fun _ => ⟨?_, rfl⟩, Nat.pow_pos W32_pos, Nat.pow_pos W32_pos⟩
  ·have h1' : -x.1 = 0 := h1
   omega
  ·show -x.1 = 1 ∨ -x.1 = -1
   rcases (h.inf h0).1 with e | e <;> rw [e] <;> simp
end Go.Proofs.YtimjoejkjgklaaaGreatDoor
namespace Go.Proofs.YtimjoejkjgklaaaGreatDoor
open Go.RowKit Dg
def emax (x y : Int × Bool × Nat × Nat) : Int × Bool × Nat × Nat := if 0 < ecmp y x then y else x
theorem egreatest_ret {W : World} {B : Nat} {a0 a1 a2 a3 : Value} {tm : Array Value} {R : Ending → World → Prop} (h2 : tm[4]?.getD undef = .pointer (some ⟨B, 0, none⟩)) (hV : Box W B #[a0, a1, a2, a3]) (hR : R (.returned (.agg #[a0, a1, a2, a3])) W) :
  bodyPost Tryz.prog Tryz.f116 R .ret { tmps := tm, defers := [] } W := by
 obtain ⟨g0, g1, g2, g3, _⟩ := hV.cells4
 exact bodyPost_ret (v := .agg #[a0, a1, a2, a3]) (by simp [results, Tryz.results116, go_sem, h2, g0, g1, g2, g3]) rfl hR
theorem egreatest_any (i1 : Int) (s1 : Bool) (p1 : Option Addr) (k1 c1 : Nat) (q1 : Option Addr) (l1 d1 : Nat) (i2 : Int) (s2 : Bool) (p2 : Option Addr) (k2 c2 : Nat) (q2 : Option Addr) (l2 d2 : Nat) (x y : Int × Bool × Nat × Nat) (A : Nat) (w : World) (h : ERep w (.agg #[.int .i64 i1, .bool s1, .slice p1 k1 c1, .slice q1 l1 d1]) x) (h' : ERep w (.agg #[.int .i64 i2, .bool s2, .slice p2 k2 c2, .slice q2 l2 d2]) y) (hx : EOk A x) (hy : EOk A y) (hA : A ≤ 4000000) :
  Calls Tryz.prog 116 #[.agg #[.int .i64 i1, .bool s1, .slice p1 k1 c1, .slice q1 l1 d1], .agg #[.int .i64 i2, .bool s2, .slice p2 k2 c2, .slice q2 l2 d2]] w fun e w' => ∃ i3 s3 p3 k3 c3 q3 l3 d3, e = .returned (.agg #[.int .i64 i3, .bool s3, .slice p3 k3 c3, .slice q3 l3 d3]) ∧ Hid (ERep w' (.agg #[.int .i64 i3, .bool s3, .slice p3 k3 c3, .slice q3 l3 d3]) (emax x y)) ∧ Below w.heap.size w w' := by
 have HC := hid (fun (W : World) (hW : Below w.heap.size w W) => ecompare_any i2 s2 p2 k2 c2 q2 l2 d2 i1 s1 p1 k1 c1 q1 l1 d1 y x A W (h'.below hW) (h.below hW) hy hx hA)
 have HR := hid (And.intro (fun (W : World) (hW : Below w.heap.size w W) => ERep.below h hW) (fun (W : World) (hW : Below w.heap.size w W) => ERep.below h' hW))
 obtain ⟨z, hz⟩ : ∃ z, z = emax x y := ⟨_, rfl⟩
 rw [← hz]
 have hD : z = if 0 < ecmp y x then y else x := hz
 clear hz
 obtain ⟨r, hr⟩ : ∃ r, r = ecmp y x := ⟨_, rfl⟩
 rw [← hr] at HC hD
 have HZ := hid hD
 clear h h' hx hy hr hD
 go_enter Tryz.func116, Tryz.ntmps116
 go_wp2_with fail
 have HV := hid (pre3 w [.int .i64 i1, .bool s1, .slice p1 k1 c1, .slice q1 l1 d1] [.int .i64 i2, .bool s2, .slice p2 k2 c2, .slice q2 l2 d2] [.int .i64 0, .bool false, .slice none 0 0, .slice none 0 0] 59 59 59 nd4 nd4 nd4)
 generalize ((w.alloc (.cells #[.int .i64 i1, .bool s1, .slice p1 k1 c1, .slice q1 l1 d1] 59)).alloc (.cells #[.int .i64 i2, .bool s2, .slice p2 k2 c2, .slice q2 l2 d2] 59)).alloc (.cells #[.int .i64 0, .bool false, .slice none 0 0, .slice none 0 0] 59) = W0 at *
 by_cases hc : 0 < r
 ·have hc1 : decide (0 < r) = true := decide_eq_true hc
  refine (HC.out _ HV.out.2.2.2).mono ?_
  rintro e w1 ⟨rfl, hB1⟩
  have HE := hid (And.intro (HV.out.1.below hB1) (And.intro (HV.out.2.1.below hB1) (And.intro (HV.out.2.2.1.below hB1) (HV.out.2.2.2.trans (hB1.mono HV.out.2.2.2.size)))))
  clear hB1
  obtain ⟨m0, m1, m2, m3, _⟩ := HE.out.2.1.cells4
  obtain ⟨g0, g1, g2, g3, f0, f1, f2, f3⟩ := HE.out.2.2.1.cells4
  go_wp2_with fail
  exact egreatest_ret rfl (HE.out.2.2.1.stores [.int .i64 i2, .bool s2, .slice p2 k2 c2, .slice q2 l2 d2] rfl nd4) ⟨i2, s2, p2, k2, c2, q2, l2, d2, rfl, hid (by rw [HZ.out, if_pos (show 0 < r by omega)]; exact ERep.stores (k := 0) (l := [.int .i64 i2, .bool s2, .slice p2 k2 c2, .slice q2 l2 d2]) (HR.out.2 _ HE.out.2.2.2) HE.out.2.2.1 nd4), Below.stores (k := 0) (l := [.int .i64 i2, .bool s2, .slice p2 k2 c2, .slice q2 l2 d2]) HE.out.2.2.2 (by omega)⟩
 ·have hc1 : decide (0 < r) = false := decide_eq_false hc
  refine (HC.out _ HV.out.2.2.2).mono ?_
  rintro e w1 ⟨rfl, hB1⟩
  have HE := hid (And.intro (HV.out.1.below hB1) (And.intro (HV.out.2.1.below hB1) (And.intro (HV.out.2.2.1.below hB1) (HV.out.2.2.2.trans (hB1.mono HV.out.2.2.2.size)))))
  clear hB1
  obtain ⟨m0, m1, m2, m3, _⟩ := HE.out.1.cells4
  obtain ⟨g0, g1, g2, g3, f0, f1, f2, f3⟩ := HE.out.2.2.1.cells4
  go_wp2_with fail
  exact egreatest_ret rfl (HE.out.2.2.1.stores [.int .i64 i1, .bool s1, .slice p1 k1 c1, .slice q1 l1 d1] rfl nd4) ⟨i1, s1, p1, k1, c1, q1, l1, d1, rfl, hid (by rw [HZ.out, if_neg (show ¬ (0 < r) by omega)]; exact ERep.stores (k := 0) (l := [.int .i64 i1, .bool s1, .slice p1 k1 c1, .slice q1 l1 d1]) (HR.out.1 _ HE.out.2.2.2) HE.out.2.2.1 nd4), Below.stores (k := 0) (l := [.int .i64 i1, .bool s1, .slice p1 k1 c1, .slice q1 l1 d1]) HE.out.2.2.2 (by omega)⟩
def emin (x y : Int × Bool × Nat × Nat) : Int × Bool × Nat × Nat := if ecmp y x < 0 then y else x
theorem eleast_ret {W : World} {B : Nat} {a0 a1 a2 a3 : Value} {tm : Array Value} {R : Ending → World → Prop} (h2 : tm[4]?.getD undef = .pointer (some ⟨B, 0, none⟩)) (hV : Box W B #[a0, a1, a2, a3]) (hR : R (.returned (.agg #[a0, a1, a2, a3])) W) :
  bodyPost Tryz.prog Tryz.f113 R .ret { tmps := tm, defers := [] } W := by
 obtain ⟨g0, g1, g2, g3, _⟩ := hV.cells4
 exact bodyPost_ret (v := .agg #[a0, a1, a2, a3]) (by simp [results, Tryz.results113, go_sem, h2, g0, g1, g2, g3]) rfl hR
theorem eleast_any (i1 : Int) (s1 : Bool) (p1 : Option Addr) (k1 c1 : Nat) (q1 : Option Addr) (l1 d1 : Nat) (i2 : Int) (s2 : Bool) (p2 : Option Addr) (k2 c2 : Nat) (q2 : Option Addr) (l2 d2 : Nat) (x y : Int × Bool × Nat × Nat) (A : Nat) (w : World) (h : ERep w (.agg #[.int .i64 i1, .bool s1, .slice p1 k1 c1, .slice q1 l1 d1]) x) (h' : ERep w (.agg #[.int .i64 i2, .bool s2, .slice p2 k2 c2, .slice q2 l2 d2]) y) (hx : EOk A x) (hy : EOk A y) (hA : A ≤ 4000000) :
  Calls Tryz.prog 113 #[.agg #[.int .i64 i1, .bool s1, .slice p1 k1 c1, .slice q1 l1 d1], .agg #[.int .i64 i2, .bool s2, .slice p2 k2 c2, .slice q2 l2 d2]] w fun e w' => ∃ i3 s3 p3 k3 c3 q3 l3 d3, e = .returned (.agg #[.int .i64 i3, .bool s3, .slice p3 k3 c3, .slice q3 l3 d3]) ∧ Hid (ERep w' (.agg #[.int .i64 i3, .bool s3, .slice p3 k3 c3, .slice q3 l3 d3]) (emin x y)) ∧ Below w.heap.size w w' := by
 have HC := hid (fun (W : World) (hW : Below w.heap.size w W) => ecompare_any i2 s2 p2 k2 c2 q2 l2 d2 i1 s1 p1 k1 c1 q1 l1 d1 y x A W (h'.below hW) (h.below hW) hy hx hA)
 have HR := hid (And.intro (fun (W : World) (hW : Below w.heap.size w W) => ERep.below h hW) (fun (W : World) (hW : Below w.heap.size w W) => ERep.below h' hW))
 obtain ⟨z, hz⟩ : ∃ z, z = emin x y := ⟨_, rfl⟩
 rw [← hz]
 have hD : z = if ecmp y x < 0 then y else x := hz
 clear hz
 obtain ⟨r, hr⟩ : ∃ r, r = ecmp y x := ⟨_, rfl⟩
 rw [← hr] at HC hD
 have HZ := hid hD
 clear h h' hx hy hr hD
 go_enter Tryz.func113, Tryz.ntmps113
 go_wp2_with fail
 have HV := hid (pre3 w [.int .i64 i1, .bool s1, .slice p1 k1 c1, .slice q1 l1 d1] [.int .i64 i2, .bool s2, .slice p2 k2 c2, .slice q2 l2 d2] [.int .i64 0, .bool false, .slice none 0 0, .slice none 0 0] 59 59 59 nd4 nd4 nd4)
 generalize ((w.alloc (.cells #[.int .i64 i1, .bool s1, .slice p1 k1 c1, .slice q1 l1 d1] 59)).alloc (.cells #[.int .i64 i2, .bool s2, .slice p2 k2 c2, .slice q2 l2 d2] 59)).alloc (.cells #[.int .i64 0, .bool false, .slice none 0 0, .slice none 0 0] 59) = W0 at *
 by_cases hc : r < 0
 ·have hc1 : decide (r < 0) = true := decide_eq_true hc
  refine (HC.out _ HV.out.2.2.2).mono ?_
  rintro e w1 ⟨rfl, hB1⟩
  have HE := hid (And.intro (HV.out.1.below hB1) (And.intro (HV.out.2.1.below hB1) (And.intro (HV.out.2.2.1.below hB1) (HV.out.2.2.2.trans (hB1.mono HV.out.2.2.2.size)))))
  clear hB1
  obtain ⟨m0, m1, m2, m3, _⟩ := HE.out.2.1.cells4
  obtain ⟨g0, g1, g2, g3, f0, f1, f2, f3⟩ := HE.out.2.2.1.cells4
  go_wp2_with fail
  exact eleast_ret rfl (HE.out.2.2.1.stores [.int .i64 i2, .bool s2, .slice p2 k2 c2, .slice q2 l2 d2] rfl nd4) ⟨i2, s2, p2, k2, c2, q2, l2, d2, rfl, hid (by rw [HZ.out, if_pos (show r < 0 by omega)]; exact ERep.stores (k := 0) (l := [.int .i64 i2, .bool s2, .slice p2 k2 c2, .slice q2 l2 d2]) (HR.out.2 _ HE.out.2.2.2) HE.out.2.2.1 nd4), Below.stores (k := 0) (l := [.int .i64 i2, .bool s2, .slice p2 k2 c2, .slice q2 l2 d2]) HE.out.2.2.2 (by omega)⟩
 ·have hc1 : decide (r < 0) = false := decide_eq_false hc
  refine (HC.out _ HV.out.2.2.2).mono ?_
  rintro e w1 ⟨rfl, hB1⟩
  have HE := hid (And.intro (HV.out.1.below hB1) (And.intro (HV.out.2.1.below hB1) (And.intro (HV.out.2.2.1.below hB1) (HV.out.2.2.2.trans (hB1.mono HV.out.2.2.2.size)))))
  clear hB1
  obtain ⟨m0, m1, m2, m3, _⟩ := HE.out.1.cells4
  obtain ⟨g0, g1, g2, g3, f0, f1, f2, f3⟩ := HE.out.2.2.1.cells4
  go_wp2_with fail
  exact eleast_ret rfl (HE.out.2.2.1.stores [.int .i64 i1, .bool s1, .slice p1 k1 c1, .slice q1 l1 d1] rfl nd4) ⟨i1, s1, p1, k1, c1, q1, l1, d1, rfl, hid (by rw [HZ.out, if_neg (show ¬ (r < 0) by omega)]; exact ERep.stores (k := 0) (l := [.int .i64 i1, .bool s1, .slice p1 k1 c1, .slice q1 l1 d1]) (HR.out.1 _ HE.out.2.2.2) HE.out.2.2.1 nd4), Below.stores (k := 0) (l := [.int .i64 i1, .bool s1, .slice p1 k1 c1, .slice q1 l1 d1]) HE.out.2.2.2 (by omega)⟩
def qmax (x y : Bool × Nat × Nat) : Bool × Nat × Nat := if 0 < fcmp y x then y else x
def qmin (x y : Bool × Nat × Nat) : Bool × Nat × Nat := if fcmp y x < 0 then y else x
theorem jLeast_ret {W : World} {B : Nat} {a0 a1 a2 : Value} {tm : Array Value} {R : Ending → World → Prop} (h2 : tm[4]?.getD undef = .pointer (some ⟨B, 0, none⟩)) (hV : Box W B #[a0, a1, a2]) (hR : R (.returned (.agg #[a0, a1, a2])) W) :
  bodyPost Tryz.prog Tryz.f115 R .ret { tmps := tm, defers := [] } W := by
 obtain ⟨g0, g1, g2, _⟩ := hV.cells3
 exact bodyPost_ret (v := .agg #[a0, a1, a2]) (by simp [results, Tryz.results115, go_sem, h2, g0, g1, g2]) rfl hR
theorem jLeast_any (s1 : Bool) (p1 : Option Addr) (k1 c1 : Nat) (q1 : Option Addr) (l1 d1 : Nat) (s2 : Bool) (p2 : Option Addr) (k2 c2 : Nat) (q2 : Option Addr) (l2 d2 : Nat) (x y : Bool × Nat × Nat) (w : World) (h : QNorm w (.agg #[.bool s1, .slice p1 k1 c1, .slice q1 l1 d1]) x) (h' : QNorm w (.agg #[.bool s2, .slice p2 k2 c2, .slice q2 l2 d2]) y) (hx : QOk x) (hy : QOk y) :
  Calls Tryz.prog 115 #[.agg #[.bool s1, .slice p1 k1 c1, .slice q1 l1 d1], .agg #[.bool s2, .slice p2 k2 c2, .slice q2 l2 d2]] w fun e w' => ∃ s3 p3 k3 c3 q3 l3 d3, e = .returned (.agg #[.bool s3, .slice p3 k3 c3, .slice q3 l3 d3]) ∧ Hid (QNorm w' (.agg #[.bool s3, .slice p3 k3 c3, .slice q3 l3 d3]) (qmin x y)) ∧ Below w.heap.size w w' := by
 have HC := hid (fun (W : World) (hW : Below w.heap.size w W) => rcmp_ok (.agg #[.bool s2, .slice p2 k2 c2, .slice q2 l2 d2]) (.agg #[.bool s1, .slice p1 k1 c1, .slice q1 l1 d1]) y x W (h'.below hW) (h.below hW) hy hx)
 have HR := hid (And.intro (fun (W : World) (hW : Below w.heap.size w W) => QNorm.below h hW) (fun (W : World) (hW : Below w.heap.size w W) => QNorm.below h' hW))
 obtain ⟨z, hz⟩ : ∃ z, z = qmin x y := ⟨_, rfl⟩
 rw [← hz]
 have hD : z = if fcmp y x < 0 then y else x := hz
 clear hz
 obtain ⟨r, hr⟩ : ∃ r, r = fcmp y x := ⟨_, rfl⟩
 rw [← hr] at HC hD
 have HZ := hid hD
 clear h h' hx hy hr hD
 go_enter Tryz.func115, Tryz.ntmps115
 go_wp2_with fail
 have HV := hid (pre3 w [.bool s1, .slice p1 k1 c1, .slice q1 l1 d1] [.bool s2, .slice p2 k2 c2, .slice q2 l2 d2] [.bool false, .slice none 0 0, .slice none 0 0] 64 64 64 nd3 nd3 nd3)
 generalize ((w.alloc (.cells #[.bool s1, .slice p1 k1 c1, .slice q1 l1 d1] 64)).alloc (.cells #[.bool s2, .slice p2 k2 c2, .slice q2 l2 d2] 64)).alloc (.cells #[.bool false, .slice none 0 0, .slice none 0 0] 64) = W0 at *
 by_cases hc : r < 0
 ·have hc1 : decide (r < 0) = true := decide_eq_true hc
  refine (HC.out _ HV.out.2.2.2).mono ?_
  rintro e w1 ⟨rfl, hB1⟩
  have HE := hid (And.intro (HV.out.1.below hB1) (And.intro (HV.out.2.1.below hB1) (And.intro (HV.out.2.2.1.below hB1) (HV.out.2.2.2.trans (hB1.mono HV.out.2.2.2.size)))))
  clear hB1
  obtain ⟨m0, m1, m2, _⟩ := HE.out.2.1.cells3
  obtain ⟨g0, g1, g2, f0, f1, f2⟩ := HE.out.2.2.1.cells3
  go_wp2_with fail
  exact jLeast_ret rfl (HE.out.2.2.1.stores [.bool s2, .slice p2 k2 c2, .slice q2 l2 d2] rfl nd3) ⟨s2, p2, k2, c2, q2, l2, d2, rfl, hid (by rw [HZ.out, if_pos (show r < 0 by omega)]; exact QNorm.stores (k := 0) (l := [.bool s2, .slice p2 k2 c2, .slice q2 l2 d2]) (HR.out.2 _ HE.out.2.2.2) HE.out.2.2.1 nd3), Below.stores (k := 0) (l := [.bool s2, .slice p2 k2 c2, .slice q2 l2 d2]) HE.out.2.2.2 (by omega)⟩
 ·have hc1 : decide (r < 0) = false := decide_eq_false hc
  refine (HC.out _ HV.out.2.2.2).mono ?_
  rintro e w1 ⟨rfl, hB1⟩
  have HE := hid (And.intro (HV.out.1.below hB1) (And.intro (HV.out.2.1.below hB1) (And.intro (HV.out.2.2.1.below hB1) (HV.out.2.2.2.trans (hB1.mono HV.out.2.2.2.size)))))
  clear hB1
  obtain ⟨m0, m1, m2, _⟩ := HE.out.1.cells3
  obtain ⟨g0, g1, g2, f0, f1, f2⟩ := HE.out.2.2.1.cells3
  go_wp2_with fail
  exact jLeast_ret rfl (HE.out.2.2.1.stores [.bool s1, .slice p1 k1 c1, .slice q1 l1 d1] rfl nd3) ⟨s1, p1, k1, c1, q1, l1, d1, rfl, hid (by rw [HZ.out, if_neg (show ¬ (r < 0) by omega)]; exact QNorm.stores (k := 0) (l := [.bool s1, .slice p1 k1 c1, .slice q1 l1 d1]) (HR.out.1 _ HE.out.2.2.2) HE.out.2.2.1 nd3), Below.stores (k := 0) (l := [.bool s1, .slice p1 k1 c1, .slice q1 l1 d1]) HE.out.2.2.2 (by omega)⟩
end Go.Proofs.YtimjoejkjgklaaaGreatDoor
