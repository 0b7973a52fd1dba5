/- The opposite of a set, of the reference. Neg of both sides. The greater and the lesser one of two ends, of two numbers; the sign of an end. The sign of an end; the absolute values of a set, of the program. -/
import Derived.Test.YtpdpabpdejmdbaaGreatDoorIsJ
import Derived.Test.YtpdpabpdejmdbaaGreatDoorNegI
namespace Go.Proofs.YtpdpabpdejmdbaaGreatDoor
open Go.RowKit Dg

/-- The opposite set. -/
def jminus (r : (Bool × Nat × Nat) × (Bool × Nat × Nat) × Bool × Bool × Bool) : (Bool × Nat × Nat) × (Bool × Nat × Nat) × Bool × Bool × Bool := if r.2.2.2.2 then r else (fneg r.2.1, fneg r.1, r.2.2.2.1, r.2.2.1, false)

theorem jMinus_ret {W : World} {B : Nat} {a0 a1 a2 a3 a4 a5 a6 a7 a8 : Value} {tm : Array Value} {R : Ending → World → Prop} (h2 : tm[2]?.getD undef = .pointer (some ⟨B, 0, none⟩)) (hV : Box W B #[a0, a1, a2, a3, a4, a5, a6, a7, a8]) (hR : R (.returned (.agg #[a0, a1, a2, a3, a4, a5, a6, a7, a8])) W) :
    bodyPost Tryz.prog Tryz.f79 R .ret { tmps := tm, defers := [] } W := by
  obtain ⟨g0, g1, g2, g3, g4, g5, g6, g7, g8, _⟩ := hV.cells9
  exact bodyPost_ret (v := .agg #[a0, a1, a2, a3, a4, a5, a6, a7, a8]) (by simp [results, Tryz.results79, go_sem, h2, g0, g1, g2, g3, g4, g5, g6, g7, g8]) rfl hR
set_option maxHeartbeats 2000000 in
set_option maxRecDepth 100000 in
theorem jMinus_some (s1 : Bool) (p1 : Option Addr) (k1 c1 : Nat) (q1 : Option Addr) (l1 d1 : Nat) (sz1 : Bool) (pz1 : Option Addr) (kz1 cz1 : Nat) (qz1 : Option Addr) (lz1 dz1 : Nat) (x1 : Bool) (y1 : Bool) (e1 : Bool) (x : (Bool × Nat × Nat) × (Bool × Nat × Nat) × Bool × Bool × Bool) (w : World) (h : JRep w (.agg #[.bool s1, .slice p1 k1 c1, .slice q1 l1 d1, .bool sz1, .slice pz1 kz1 cz1, .slice qz1 lz1 dz1, .bool x1, .bool y1, .bool e1]) x) (he : x.2.2.2.2 = false) :
    Calls Tryz.prog 79 #[.agg #[.bool s1, .slice p1 k1 c1, .slice q1 l1 d1, .bool sz1, .slice pz1 kz1 cz1, .slice qz1 lz1 dz1, .bool x1, .bool y1, .bool e1]] w fun e w' => ∃ s3 p3 k3 c3 q3 l3 d3 sz3 pz3 kz3 cz3 qz3 lz3 dz3 x3 y3 e3, e = .returned (.agg #[.bool s3, .slice p3 k3 c3, .slice q3 l3 d3, .bool sz3, .slice pz3 kz3 cz3, .slice qz3 lz3 dz3, .bool x3, .bool y3, .bool e3]) ∧ Hid (JRep w' (.agg #[.bool s3, .slice p3 k3 c3, .slice q3 l3 d3, .bool sz3, .slice pz3 kz3 cz3, .slice qz3 lz3 dz3, .bool x3, .bool y3, .bool e3]) (jminus x)) ∧ Below w.heap.size w w' := by
  have h1 := JRep.parts s1 p1 k1 c1 q1 l1 d1 sz1 pz1 kz1 cz1 qz1 lz1 dz1 x1 y1 e1 h
  have HL := hid (fun (W : World) (hW : Below w.heap.size w W) => qopen (t := fneg x.1) (Opp_any (.agg #[.bool s1, .slice p1 k1 c1, .slice q1 l1 d1]) x.1 W (h1.1.below hW)))
  have HH := hid (fun (W : World) (hW : Below w.heap.size w W) => qopen (t := fneg x.2.1) (Opp_any (.agg #[.bool sz1, .slice pz1 kz1 cz1, .slice qz1 lz1 dz1]) x.2.1 W (h1.2.1.below hW)))
  obtain ⟨_, _, hi, hj, hee⟩ := h1
  rw [he] at hee
  subst hee
  obtain ⟨r, hr⟩ : ∃ r, r = jminus x := ⟨_, rfl⟩
  obtain ⟨rl, hrl⟩ : ∃ r, r = fneg x.1 := ⟨_, rfl⟩
  obtain ⟨rh, hrh⟩ : ∃ r, r = fneg x.2.1 := ⟨_, rfl⟩
  rw [← hr]
  rw [← hrl] at HL
  rw [← hrh] at HH
  have HX : Hid (r = (rh, rl, y1, x1, false)) := hid (by rw [hr, hrl, hrh, hi, hj]; unfold jminus; rw [he]; rfl)
  clear hr hrl hrh h he hi hj
  go_enter Tryz.func79, Tryz.ntmps79
  go_wp2_with fail
  have HV := hid (pre2 w [.bool s1, .slice p1 k1 c1, .slice q1 l1 d1, .bool sz1, .slice pz1 kz1 cz1, .slice qz1 lz1 dz1, .bool x1, .bool y1, .bool false] [.bool false, .slice none 0 0, .slice none 0 0, .bool false, .slice none 0 0, .slice none 0 0, .bool false, .bool false, .bool false] 73 73 ⟨trivial, trivial, trivial, trivial, trivial, trivial, trivial, trivial, trivial, trivial⟩ ⟨trivial, trivial, trivial, trivial, trivial, trivial, trivial, trivial, trivial, trivial⟩)
  generalize (w.alloc (.cells #[.bool s1, .slice p1 k1 c1, .slice q1 l1 d1, .bool sz1, .slice pz1 kz1 cz1, .slice qz1 lz1 dz1, .bool x1, .bool y1, .bool false] 73)).alloc (.cells #[.bool false, .slice none 0 0, .slice none 0 0, .bool false, .slice none 0 0, .slice none 0 0, .bool false, .bool false, .bool false] 73) = W0 at *
  have HQ := hid (QQ.i1 (cs := [.bool s1, .slice p1 k1 c1, .slice q1 l1 d1, .bool sz1, .slice pz1 kz1 cz1, .slice qz1 lz1 dz1, .bool x1, .bool y1, .bool false]) HV.out.1 HV.out.2.2)
  have HS : Hid (∀ w', QQ w [(w.heap.size, [.bool s1, .slice p1 k1 c1, .slice q1 l1 d1, .bool sz1, .slice pz1 kz1 cz1, .slice qz1 lz1 dz1, .bool x1, .bool y1, .bool false])] w' → (w'.cell? ⟨w.heap.size, 0, none⟩ = some (.bool s1) ∧ w'.cell? ⟨w.heap.size, 1, none⟩ = some (.slice p1 k1 c1) ∧ w'.cell? ⟨w.heap.size, 2, none⟩ = some (.slice q1 l1 d1) ∧ w'.cell? ⟨w.heap.size, 3, none⟩ = some (.bool sz1) ∧ w'.cell? ⟨w.heap.size, 4, none⟩ = some (.slice pz1 kz1 cz1) ∧ w'.cell? ⟨w.heap.size, 5, none⟩ = some (.slice qz1 lz1 dz1) ∧ w'.cell? ⟨w.heap.size, 6, none⟩ = some (.bool x1) ∧ w'.cell? ⟨w.heap.size, 7, none⟩ = some (.bool y1) ∧ w'.cell? ⟨w.heap.size, 8, none⟩ = some (.bool false) ∧ Hid (QQ w [(w.heap.size, [.bool s1, .slice p1 k1 c1, .slice q1 l1 d1, .bool sz1, .slice pz1 kz1 cz1, .slice qz1 lz1 dz1, .bool x1, .bool y1, .bool false])] w'))) :=
    hid fun w' hb => ⟨(hb.b1.cells9).1, (hb.b1.cells9).2.1, (hb.b1.cells9).2.2.1, (hb.b1.cells9).2.2.2.1, (hb.b1.cells9).2.2.2.2.1, (hb.b1.cells9).2.2.2.2.2.1, (hb.b1.cells9).2.2.2.2.2.2.1, (hb.b1.cells9).2.2.2.2.2.2.2.1, (hb.b1.cells9).2.2.2.2.2.2.2.2.1, hid hb⟩
  have HN : Hid (Apart [(w.heap.size, [.bool s1, .slice p1 k1 c1, .slice q1 l1 d1, .bool sz1, .slice pz1 kz1 cz1, .slice qz1 lz1 dz1, .bool x1, .bool y1, .bool false])] (w.heap.size + 1)) := hid (ne1 (by omega))
  have HI : Hid (w.heap.size ≤ w.heap.size + 1) := hid (by omega)
  go_region_held3 (fun w' => w'.cell? ⟨w.heap.size, 0, none⟩ = some (.bool s1) ∧ w'.cell? ⟨w.heap.size, 1, none⟩ = some (.slice p1 k1 c1) ∧ w'.cell? ⟨w.heap.size, 2, none⟩ = some (.slice q1 l1 d1) ∧ w'.cell? ⟨w.heap.size, 3, none⟩ = some (.bool sz1) ∧ w'.cell? ⟨w.heap.size, 4, none⟩ = some (.slice pz1 kz1 cz1) ∧ w'.cell? ⟨w.heap.size, 5, none⟩ = some (.slice qz1 lz1 dz1) ∧ w'.cell? ⟨w.heap.size, 6, none⟩ = some (.bool x1) ∧ w'.cell? ⟨w.heap.size, 7, none⟩ = some (.bool y1) ∧ w'.cell? ⟨w.heap.size, 8, none⟩ = some (.bool false) ∧ Hid (QQ w [(w.heap.size, [.bool s1, .slice p1 k1 c1, .slice q1 l1 d1, .bool sz1, .slice pz1 kz1 cz1, .slice qz1 lz1 dz1, .bool x1, .bool y1, .bool false])] w'))
    (first | (refine HS.out _ ?_; first | (with_reducible exact HQ.out.drew) | (with_reducible assumption) | (with_reducible refine QQ.st9 ?_ HN.out HI.out; assumption)))
    (first
      | (go_at_call_of 141 pz1; refine (HH.out _ HQ.out.drew.bel).mono ?_; rintro e wa ⟨s4, p4, k4, c4, q4, l4, d4, rfl, hE1, hB1⟩; have hQ1 := HQ.out.drew.call hB1; have hV1 := (HV.out.2.1.drew).below hB1)
      | (go_at_call_of 141 p1; refine (HL.out _ hQ1.bel).mono ?_; rintro e wb ⟨s5, p5, k5, c5, q5, l5, d5, rfl, hE2, hB2⟩; have hQ2 := hQ1.call hB2; have hV2 := hV1.below hB2; obtain ⟨g0, g1, g2, g3, g4, g5, g6, g7, g8, f0, f1, f2, f3, f4, f5, f6, f7, f8⟩ := hV2.cells9))
  rename_i hHeld
  clear hHeld
  have HE := hid (And.intro hV2 (And.intro (hE1.out.below hB2) (And.intro hE2.out hQ2.bel)))
  clear hQ1 hQ2 hV1 hV2 hB1 hB2 hE1 hE2
  go_wp2_with fail
  exact jMinus_ret rfl (HE.out.1.stores [.bool s4, .slice p4 k4 c4, .slice q4 l4 d4, .bool s5, .slice p5 k5 c5, .slice q5 l5 d5, .bool y1, .bool x1, .bool false] rfl ⟨trivial, trivial, trivial, trivial, trivial, trivial, trivial, trivial, trivial, trivial⟩) ⟨_, _, _, _, _, _, _, _, _, _, _, _, _, _, _, _, _, rfl, hid ⟨_, _, _, _, _, _, _, _, _, _, _, _, _, _, _, _, _, rfl, by rw [HX.out]; exact QNorm.stores (k := 0) (l := [.bool s4, .slice p4 k4 c4, .slice q4 l4 d4, .bool s5, .slice p5 k5 c5, .slice q5 l5 d5, .bool y1, .bool x1, .bool false]) HE.out.2.1 HE.out.1 ⟨trivial, trivial, trivial, trivial, trivial, trivial, trivial, trivial, trivial, trivial⟩, by rw [HX.out]; exact QNorm.stores (k := 0) (l := [.bool s4, .slice p4 k4 c4, .slice q4 l4 d4, .bool s5, .slice p5 k5 c5, .slice q5 l5 d5, .bool y1, .bool x1, .bool false]) HE.out.2.2.1 HE.out.1 ⟨trivial, trivial, trivial, trivial, trivial, trivial, trivial, trivial, trivial, trivial⟩, by rw [HX.out], by rw [HX.out], by rw [HX.out]⟩, Below.stores (k := 0) (l := [.bool s4, .slice p4 k4 c4, .slice q4 l4 d4, .bool s5, .slice p5 k5 c5, .slice q5 l5 d5, .bool y1, .bool x1, .bool false]) HE.out.2.2.2 (Nat.le_succ _)⟩

set_option maxHeartbeats 2000000 in
set_option maxRecDepth 100000 in
theorem jMinus_none (s1 : Bool) (p1 : Option Addr) (k1 c1 : Nat) (q1 : Option Addr) (l1 d1 : Nat) (sz1 : Bool) (pz1 : Option Addr) (kz1 cz1 : Nat) (qz1 : Option Addr) (lz1 dz1 : Nat) (x1 : Bool) (y1 : Bool) (e1 : Bool) (x : (Bool × Nat × Nat) × (Bool × Nat × Nat) × Bool × Bool × Bool) (w : World) (h : JRep w (.agg #[.bool s1, .slice p1 k1 c1, .slice q1 l1 d1, .bool sz1, .slice pz1 kz1 cz1, .slice qz1 lz1 dz1, .bool x1, .bool y1, .bool e1]) x) (he : x.2.2.2.2 = true) :
    Calls Tryz.prog 79 #[.agg #[.bool s1, .slice p1 k1 c1, .slice q1 l1 d1, .bool sz1, .slice pz1 kz1 cz1, .slice qz1 lz1 dz1, .bool x1, .bool y1, .bool e1]] w fun e w' => ∃ s3 p3 k3 c3 q3 l3 d3 sz3 pz3 kz3 cz3 qz3 lz3 dz3 x3 y3 e3, e = .returned (.agg #[.bool s3, .slice p3 k3 c3, .slice q3 l3 d3, .bool sz3, .slice pz3 kz3 cz3, .slice qz3 lz3 dz3, .bool x3, .bool y3, .bool e3]) ∧ Hid (JRep w' (.agg #[.bool s3, .slice p3 k3 c3, .slice q3 l3 d3, .bool sz3, .slice pz3 kz3 cz3, .slice qz3 lz3 dz3, .bool x3, .bool y3, .bool e3]) (jminus x)) ∧ Below w.heap.size w w' := by
  have hee := (JRep.parts s1 p1 k1 c1 q1 l1 d1 sz1 pz1 kz1 cz1 qz1 lz1 dz1 x1 y1 e1 h).2.2.2.2
  rw [he] at hee
  subst hee
  have hX : jminus x = x := by unfold jminus; rw [he]; rfl
  rw [hX]
  have HJ := hid h
  clear h he hX
  go_enter Tryz.func79, Tryz.ntmps79
  go_upto_region 2 with fail
  have HV := hid (pre2 w [.bool s1, .slice p1 k1 c1, .slice q1 l1 d1, .bool sz1, .slice pz1 kz1 cz1, .slice qz1 lz1 dz1, .bool x1, .bool y1, .bool true] [.bool false, .slice none 0 0, .slice none 0 0, .bool false, .slice none 0 0, .slice none 0 0, .bool false, .bool false, .bool false] 73 73 ⟨trivial, trivial, trivial, trivial, trivial, trivial, trivial, trivial, trivial, trivial⟩ ⟨trivial, trivial, trivial, trivial, trivial, trivial, trivial, trivial, trivial, trivial⟩)
  generalize (w.alloc (.cells #[.bool s1, .slice p1 k1 c1, .slice q1 l1 d1, .bool sz1, .slice pz1 kz1 cz1, .slice qz1 lz1 dz1, .bool x1, .bool y1, .bool true] 73)).alloc (.cells #[.bool false, .slice none 0 0, .slice none 0 0, .bool false, .slice none 0 0, .slice none 0 0, .bool false, .bool false, .bool false] 73) = W0 at *
  obtain ⟨m0, m1, m2, m3, m4, m5, m6, m7, m8, _⟩ := HV.out.1.cells9
  obtain ⟨g0, g1, g2, g3, g4, g5, g6, g7, g8, f0, f1, f2, f3, f4, f5, f6, f7, f8⟩ := HV.out.2.1.cells9
  go_wp2_with fail
  exact jMinus_ret rfl (HV.out.2.1.stores [.bool s1, .slice p1 k1 c1, .slice q1 l1 d1, .bool sz1, .slice pz1 kz1 cz1, .slice qz1 lz1 dz1, .bool x1, .bool y1, .bool true] rfl ⟨trivial, trivial, trivial, trivial, trivial, trivial, trivial, trivial, trivial, trivial⟩) ⟨_, _, _, _, _, _, _, _, _, _, _, _, _, _, _, _, _, rfl, hid (JRep.stores (k := 0) (l := [.bool s1, .slice p1 k1 c1, .slice q1 l1 d1, .bool sz1, .slice pz1 kz1 cz1, .slice qz1 lz1 dz1, .bool x1, .bool y1, .bool true]) (HJ.out.below HV.out.2.2) HV.out.2.1 ⟨trivial, trivial, trivial, trivial, trivial, trivial, trivial, trivial, trivial, trivial⟩), Below.stores (k := 0) (l := [.bool s1, .slice p1 k1 c1, .slice q1 l1 d1, .bool sz1, .slice pz1 kz1 cz1, .slice qz1 lz1 dz1, .bool x1, .bool y1, .bool true]) HV.out.2.2 (Nat.le_succ _)⟩
theorem jMinus_any (s1 : Bool) (p1 : Option Addr) (k1 c1 : Nat) (q1 : Option Addr) (l1 d1 : Nat) (sz1 : Bool) (pz1 : Option Addr) (kz1 cz1 : Nat) (qz1 : Option Addr) (lz1 dz1 : Nat) (x1 : Bool) (y1 : Bool) (e1 : Bool) (x : (Bool × Nat × Nat) × (Bool × Nat × Nat) × Bool × Bool × Bool) (w : World) (h : JRep w (.agg #[.bool s1, .slice p1 k1 c1, .slice q1 l1 d1, .bool sz1, .slice pz1 kz1 cz1, .slice qz1 lz1 dz1, .bool x1, .bool y1, .bool e1]) x) :
    Calls Tryz.prog 79 #[.agg #[.bool s1, .slice p1 k1 c1, .slice q1 l1 d1, .bool sz1, .slice pz1 kz1 cz1, .slice qz1 lz1 dz1, .bool x1, .bool y1, .bool e1]] w fun e w' => ∃ s3 p3 k3 c3 q3 l3 d3 sz3 pz3 kz3 cz3 qz3 lz3 dz3 x3 y3 e3, e = .returned (.agg #[.bool s3, .slice p3 k3 c3, .slice q3 l3 d3, .bool sz3, .slice pz3 kz3 cz3, .slice qz3 lz3 dz3, .bool x3, .bool y3, .bool e3]) ∧ Hid (JRep w' (.agg #[.bool s3, .slice p3 k3 c3, .slice q3 l3 d3, .bool sz3, .slice pz3 kz3 cz3, .slice qz3 lz3 dz3, .bool x3, .bool y3, .bool e3]) (jminus x)) ∧ Below w.heap.size w w' := by
  by_cases he : x.2.2.2.2 = true
  · exact jMinus_none s1 p1 k1 c1 q1 l1 d1 sz1 pz1 kz1 cz1 qz1 lz1 dz1 x1 y1 e1 x w h he
  · exact jMinus_some s1 p1 k1 c1 q1 l1 d1 sz1 pz1 kz1 cz1 qz1 lz1 dz1 x1 y1 e1 x w h (by simpa using he)

theorem QFit.neg {t : Bool × Nat × Nat} (h : QFit t) : QFit (fneg t) := by
  obtain ⟨s, n, d, hd, rfl⟩ := h.1
  rw [fneg_frac hd]
  exact ⟨⟨_, _, _, hd, rfl⟩, h.2.1, h.2.2⟩
theorem sv_fneg (t : Bool × Nat × Nat) : sv (fneg t).1 (fneg t).2.1 = - sv t.1 t.2.1 := by
  obtain ⟨s, n, d⟩ := t
  show sv (!s && decide (n ≠ 0)) n = - sv s n
  cases s <;> by_cases h : n = 0 <;> simp [sv, h]
theorem fcmp_neg {a b : Bool × Nat × Nat} (h : fcmp a b ≤ 0) : fcmp (fneg b) (fneg a) ≤ 0 := by
  rw [fcmp_nonpos] at h ⊢
  rw [sv_fneg, sv_fneg]
  show -sv b.1 b.2.1 * (a.2.2 : Int) ≤ -sv a.1 a.2.1 * (b.2.2 : Int)
  rw [Int.neg_mul, Int.neg_mul]
  omega
theorem fneg_zero : fneg (false, 0, 0) = (false, 0, 0) := by decide
theorem JGood.neg {r : (Bool × Nat × Nat) × (Bool × Nat × Nat) × Bool × Bool × Bool} (h : JGood r) : JGood (jminus r) := by
  rcases h with rfl | ⟨he, hl, hh, hc⟩
  · exact .inl rfl
  · unfold jminus
    rw [he]
    refine .inr ⟨rfl, ?_, ?_, fun hx hy => fcmp_neg (hc hy hx)⟩
    · rcases hh with ⟨h1, h2⟩ | ⟨h1, h2⟩
      · exact .inl ⟨h1, by show fneg r.2.1 = _; rw [h2, fneg_zero]⟩
      · exact .inr ⟨h1, h2.neg⟩
    · rcases hl with ⟨h1, h2⟩ | ⟨h1, h2⟩
      · exact .inl ⟨h1, by show fneg r.1 = _; rw [h2, fneg_zero]⟩
      · exact .inr ⟨h1, h2.neg⟩
end Go.Proofs.YtpdpabpdejmdbaaGreatDoor

namespace Go.Proofs.YtpdpabpdejmdbaaGreatDoor
open Go.RowKit Dg

theorem EOk.neg {A : Nat} {x : Int × Bool × Nat × Nat} (h : EOk A x) : EOk A (eneg x) := by
  unfold eneg
  split
  case isTrue h0 =>
    refine ⟨fun _ => ?_, fun h1 => absurd rfl h1, h.bn, h.bd⟩
    obtain ⟨s, n, d, hd, e⟩ := h.fin h0
    exact ⟨!s, n, d, hd, by show fneg x.2 = _; rw [e, fneg_frac hd]⟩
  case isFalse h0 =>
    refine ⟨fun h1 => ?_, fun _ => ⟨?_, rfl⟩, Nat.pow_pos W32_pos, Nat.pow_pos W32_pos⟩
    · have h1' : -x.1 = 0 := h1
      omega
    · show -x.1 = 1 ∨ -x.1 = -1
      rcases (h.inf h0).1 with e | e <;> rw [e] <;> simp
theorem ebig_neg {x : Int × Bool × Nat × Nat} (h : ebig x = false) : ebig (eneg x) = false := by
  unfold eneg
  split
  case isTrue h0 =>
    unfold ebig at h
    rw [decide_eq_true h0] at h
    exact h
  case isFalse h0 =>
    unfold ebig
    rw [decide_eq_false (by show ¬ (-x.1 = 0); omega)]
    rfl
theorem enter_sneg (args : Array Value) (w : World) : (callFunc 78 args).run Tryz.prog w = .ok (.enter 78 args) w := call_enter Tryz.func78 (by kernel_rfl) rfl args w

theorem iNeg_ret {W : World} {B : Nat} {a0 a1 a2 a3 a4 a5 a6 a7 ev : Value} {tm : Array Value} {R : Ending → World → Prop} (h2 : tm[2]?.getD undef = .pointer (some ⟨B, 0, none⟩)) (h3 : tm[3]?.getD undef = ev) (hV : Box W B #[a0, a1, a2, a3, a4, a5, a6, a7]) (hR : R (.returned (.tuple #[.agg #[a0, a1, a2, a3, a4, a5, a6, a7], ev])) W) :
    bodyPost Tryz.prog Tryz.f26 R .ret { tmps := tm, defers := [] } W := by
  obtain ⟨g0, g1, g2, g3, g4, g5, g6, g7, _⟩ := hV.cells8
  exact bodyPost_ret (v := .tuple #[.agg #[a0, a1, a2, a3, a4, a5, a6, a7], ev]) (by simp [results, Tryz.results26, go_sem, h2, h3, g0, g1, g2, g3, g4, g5, g6, g7]) rfl hR
set_option maxHeartbeats 2000000 in
set_option maxRecDepth 100000 in
theorem iNeg_any (s1 : Bool) (p1 : Option Addr) (k1 c1 : Nat) (q1 : Option Addr) (l1 d1 : Nat) (sz1 : Bool) (pz1 : Option Addr) (kz1 cz1 : Nat) (qz1 : Option Addr) (lz1 dz1 : Nat) (x1 : Bool) (y1 : Bool) (a b : Bool × Nat × Nat) (w : World) (ha : NRep w (.agg #[.bool s1, .slice p1 k1 c1, .slice q1 l1 d1]) a) (hb : NRep w (.agg #[.bool sz1, .slice pz1 kz1 cz1, .slice qz1 lz1 dz1]) b) (ht : TabOk w) :
    Calls Tryz.prog 26 #[.agg #[.bool s1, .slice p1 k1 c1, .slice q1 l1 d1, .bool sz1, .slice pz1 kz1 cz1, .slice qz1 lz1 dz1, .bool x1, .bool y1]] w fun e w' => ∃ s5 p5 k5 c5 q5 l5 d5 sz5 pz5 kz5 cz5 qz5 lz5 dz5 x5 y5, e = .returned (.tuple #[.agg #[.bool s5, .slice p5 k5 c5, .slice q5 l5 d5, .bool sz5, .slice pz5 kz5 cz5, .slice qz5 lz5 dz5, .bool x5, .bool y5], .int .i64 (icode (a, b, x1, y1))]) ∧ Hid (GRep w' (.agg #[.bool s5, .slice p5 k5 c5, .slice q5 l5 d5, .bool sz5, .slice pz5 kz5 cz5, .slice qz5 lz5 dz5, .bool x5, .bool y5]) (iop sneg (a, b, x1, y1))) ∧ Below w.heap.size w w' := by
  obtain ⟨c, hc⟩ : ∃ r, r = icode (a, b, x1, y1) := ⟨_, rfl⟩
  obtain ⟨D, hD⟩ : ∃ r, r = iop sneg (a, b, x1, y1) := ⟨_, rfl⟩
  rw [← hc, ← hD]
  have HC : Hid (∀ W, Below w.heap.size w W → Calls Tryz.prog 77 #[.agg #[.bool s1, .slice p1 k1 c1, .slice q1 l1 d1, .bool sz1, .slice pz1 kz1 cz1, .slice qz1 lz1 dz1, .bool x1, .bool y1], .bool true, .func (.func 78) #[] #[]] W fun e w' => ∃ s5 p5 k5 c5 q5 l5 d5 sz5 pz5 kz5 cz5 qz5 lz5 dz5 x5 y5, e = .returned (.tuple #[.agg #[.bool s5, .slice p5 k5 c5, .slice q5 l5 d5, .bool sz5, .slice pz5 kz5 cz5, .slice qz5 lz5 dz5, .bool x5, .bool y5], .int .i64 c]) ∧ Hid (GRep w' (.agg #[.bool s5, .slice p5 k5 c5, .slice q5 l5 d5, .bool sz5, .slice pz5 kz5 cz5, .slice qz5 lz5 dz5, .bool x5, .bool y5]) D) ∧ Below W.heap.size W w') := by
    refine hid fun W hW => ?_
    rw [hc, hD]
    refine one_val s1 p1 k1 c1 q1 l1 d1 sz1 pz1 kz1 cz1 qz1 lz1 dz1 x1 y1 _ #[] sneg a b W (ha.below hW) (hb.below hW) (ht.below hW) enter_sneg (fun h1 h2 _ => ?_) (fun h1 h2 _ W4 i3 s3 p3 k3 c3 q3 l3 d3 j3 sz3 pz3 kz3 cz3 qz3 lz3 dz3 e3 hW4 hS => ?_)
    · exact ⟨⟨((rdE_ok (inf := y1) (g := 1) (.inl rfl) h2).le (by omega)).neg, ((rdE_ok (inf := x1) (g := -1) (.inr rfl) h1).le (by omega)).neg⟩, ⟨ebig_neg (ebig_rd h2), ebig_neg (ebig_rd h1)⟩, rfl⟩
    · exact sneg_any i3 s3 p3 k3 c3 q3 l3 d3 j3 sz3 pz3 kz3 cz3 qz3 lz3 dz3 e3 _ 64 W4 hS ⟨rdE_ok (inf := x1) (g := -1) (.inr rfl) h1, rdE_ok (inf := y1) (g := 1) (.inl rfl) h2⟩
  clear ha hb ht hc hD
  go_enter Tryz.func26, Tryz.ntmps26
  go_wp2_with fail
  have HV := hid (pre2 w [.bool s1, .slice p1 k1 c1, .slice q1 l1 d1, .bool sz1, .slice pz1 kz1 cz1, .slice qz1 lz1 dz1, .bool x1, .bool y1] [.bool false, .slice none 0 0, .slice none 0 0, .bool false, .slice none 0 0, .slice none 0 0, .bool false, .bool false] 26 26 ⟨trivial, trivial, trivial, trivial, trivial, trivial, trivial, trivial, trivial⟩ ⟨trivial, trivial, trivial, trivial, trivial, trivial, trivial, trivial, trivial⟩)
  generalize (w.alloc (.cells #[.bool s1, .slice p1 k1 c1, .slice q1 l1 d1, .bool sz1, .slice pz1 kz1 cz1, .slice qz1 lz1 dz1, .bool x1, .bool y1] 26)).alloc (.cells #[.bool false, .slice none 0 0, .slice none 0 0, .bool false, .slice none 0 0, .slice none 0 0, .bool false, .bool false] 26) = W0 at *
  refine (HC.out _ HV.out.2.2).mono ?_
  rintro e w1 ⟨s5, p5, k5, c5, q5, l5, d5, sz5, pz5, kz5, cz5, qz5, lz5, dz5, x5, y5, rfl, hG, hB1⟩
  have HE := hid (And.intro (HV.out.2.1.below hB1) (HV.out.2.2.trans (hB1.mono HV.out.2.2.size)))
  clear hB1
  obtain ⟨g0, g1, g2, g3, g4, g5, g6, g7, f0, f1, f2, f3, f4, f5, f6, f7⟩ := HE.out.1.cells8
  go_wp2_with fail
  exact iNeg_ret rfl rfl (HE.out.1.stores [.bool s5, .slice p5 k5 c5, .slice q5 l5 d5, .bool sz5, .slice pz5 kz5 cz5, .slice qz5 lz5 dz5, .bool x5, .bool y5] rfl ⟨trivial, trivial, trivial, trivial, trivial, trivial, trivial, trivial, trivial⟩) ⟨s5, p5, k5, c5, q5, l5, d5, sz5, pz5, kz5, cz5, qz5, lz5, dz5, x5, y5, rfl, hid (GRep.stores (k := 0) (l := [.bool s5, .slice p5 k5 c5, .slice q5 l5 d5, .bool sz5, .slice pz5 kz5 cz5, .slice qz5 lz5 dz5, .bool x5, .bool y5]) hG.out HE.out.1 ⟨trivial, trivial, trivial, trivial, trivial, trivial, trivial, trivial, trivial⟩), Below.stores (k := 0) (l := [.bool s5, .slice p5 k5 c5, .slice q5 l5 d5, .bool sz5, .slice pz5 kz5 cz5, .slice qz5 lz5 dz5, .bool x5, .bool y5]) HE.out.2 (by omega)⟩


theorem jNeg_ret {W : World} {B : Nat} {a0 a1 a2 a3 a4 a5 a6 a7 ev : Value} {tm : Array Value} {R : Ending → World → Prop} (h2 : tm[2]?.getD undef = .pointer (some ⟨B, 0, none⟩)) (h3 : tm[3]?.getD undef = ev) (hV : Box W B #[a0, a1, a2, a3, a4, a5, a6, a7]) (hR : R (.returned (.tuple #[.agg #[a0, a1, a2, a3, a4, a5, a6, a7], ev])) W) :
    bodyPost Tryz.prog Tryz.f27 R .ret { tmps := tm, defers := [] } W := by
  obtain ⟨g0, g1, g2, g3, g4, g5, g6, g7, _⟩ := hV.cells8
  exact bodyPost_ret (v := .tuple #[.agg #[a0, a1, a2, a3, a4, a5, a6, a7], ev]) (by simp [results, Tryz.results27, go_sem, h2, h3, g0, g1, g2, g3, g4, g5, g6, g7]) rfl hR
set_option maxHeartbeats 2000000 in
set_option maxRecDepth 100000 in
theorem jNeg_large (s1 : Bool) (p1 : Option Addr) (k1 c1 : Nat) (q1 : Option Addr) (l1 d1 : Nat) (sz1 : Bool) (pz1 : Option Addr) (kz1 cz1 : Nat) (qz1 : Option Addr) (lz1 dz1 : Nat) (x1 : Bool) (y1 : Bool) (a b : Bool × Nat × Nat) (w : World) (ha : NRep w (.agg #[.bool s1, .slice p1 k1 c1, .slice q1 l1 d1]) a) (hb : NRep w (.agg #[.bool sz1, .slice pz1 kz1 cz1, .slice qz1 lz1 dz1]) b) (h : ilarge (a, b, x1, y1) = true) :
    Calls Tryz.prog 27 #[.agg #[.bool s1, .slice p1 k1 c1, .slice q1 l1 d1, .bool sz1, .slice pz1 kz1 cz1, .slice qz1 lz1 dz1, .bool x1, .bool y1]] w fun e w' => ∃ s5 p5 k5 c5 q5 l5 d5 sz5 pz5 kz5 cz5 qz5 lz5 dz5 x5 y5, e = .returned (.tuple #[.agg #[.bool s5, .slice p5 k5 c5, .slice q5 l5 d5, .bool sz5, .slice pz5 kz5 cz5, .slice qz5 lz5 dz5, .bool x5, .bool y5], .int .i64 1]) ∧ Hid (GRep w' (.agg #[.bool s5, .slice p5 k5 c5, .slice q5 l5 d5, .bool sz5, .slice pz5 kz5 cz5, .slice qz5 lz5 dz5, .bool x5, .bool y5]) gzero) ∧ Below w.heap.size w w' := by
  have HL := hid (fun (W : World) (hW : Below w.heap.size w W) => jOne_large s1 p1 k1 c1 q1 l1 d1 sz1 pz1 kz1 cz1 qz1 lz1 dz1 x1 y1 a b 0 W (ha.below hW) (hb.below hW) h)
  clear ha hb h
  go_enter Tryz.func27, Tryz.ntmps27
  go_wp2_with fail
  have HV := hid (pre2 w [.bool s1, .slice p1 k1 c1, .slice q1 l1 d1, .bool sz1, .slice pz1 kz1 cz1, .slice qz1 lz1 dz1, .bool x1, .bool y1] [.bool false, .slice none 0 0, .slice none 0 0, .bool false, .slice none 0 0, .slice none 0 0, .bool false, .bool false] 26 26 ⟨trivial, trivial, trivial, trivial, trivial, trivial, trivial, trivial, trivial⟩ ⟨trivial, trivial, trivial, trivial, trivial, trivial, trivial, trivial, trivial⟩)
  generalize (w.alloc (.cells #[.bool s1, .slice p1 k1 c1, .slice q1 l1 d1, .bool sz1, .slice pz1 kz1 cz1, .slice qz1 lz1 dz1, .bool x1, .bool y1] 26)).alloc (.cells #[.bool false, .slice none 0 0, .slice none 0 0, .bool false, .slice none 0 0, .slice none 0 0, .bool false, .bool false] 26) = W0 at *
  refine (HL.out _ HV.out.2.2).mono ?_
  rintro e w1 ⟨rfl, hB1⟩
  have HE := hid (And.intro (HV.out.2.1.below hB1) (HV.out.2.2.trans (hB1.mono HV.out.2.2.size)))
  clear hB1
  go_upto_region 3 with fail
  have HX := hid (pre1 w1 [.bool false, .slice none 0 0, .slice none 0 0, .bool false, .slice none 0 0, .slice none 0 0, .bool false, .bool false, .bool false] 73 ⟨trivial, trivial, trivial, trivial, trivial, trivial, trivial, trivial, trivial, trivial⟩)
  have hlt : w.heap.size + 1 < w1.heap.size := HE.out.1.lt
  generalize w1.alloc (.cells #[.bool false, .slice none 0 0, .slice none 0 0, .bool false, .slice none 0 0, .slice none 0 0, .bool false, .bool false, .bool false] 73) = W1 at *
  have HE2 := hid (And.intro (HE.out.1.below HX.out.2) (HE.out.2.trans (HX.out.2.mono HE.out.2.size)))
  obtain ⟨g0, g1, g2, g3, g4, g5, g6, g7, f0, f1, f2, f3, f4, f5, f6, f7⟩ := HE2.out.1.cells8
  go_wp2_with fail
  exact jNeg_ret rfl rfl (HE2.out.1.stores [.bool false, .slice none 0 0, .slice none 0 0, .bool false, .slice none 0 0, .slice none 0 0, .bool false, .bool false] rfl ⟨trivial, trivial, trivial, trivial, trivial, trivial, trivial, trivial, trivial⟩) ⟨_, _, _, _, _, _, _, _, _, _, _, _, _, _, _, _, rfl, hid (GRep.stores (k := 0) (l := [.bool false, .slice none 0 0, .slice none 0 0, .bool false, .slice none 0 0, .slice none 0 0, .bool false, .bool false] ) (GRep.zero W1) HE2.out.1 ⟨trivial, trivial, trivial, trivial, trivial, trivial, trivial, trivial, trivial⟩), Below.stores (k := 0) (l := [.bool false, .slice none 0 0, .slice none 0 0, .bool false, .slice none 0 0, .slice none 0 0, .bool false, .bool false] ) HE2.out.2 (by omega)⟩

set_option maxHeartbeats 2000000 in
set_option maxRecDepth 100000 in
theorem jNeg_ok (s1 : Bool) (p1 : Option Addr) (k1 c1 : Nat) (q1 : Option Addr) (l1 d1 : Nat) (sz1 : Bool) (pz1 : Option Addr) (kz1 cz1 : Nat) (qz1 : Option Addr) (lz1 dz1 : Nat) (x1 : Bool) (y1 : Bool) (a b : Bool × Nat × Nat) (w : World) (ha : NRep w (.agg #[.bool s1, .slice p1 k1 c1, .slice q1 l1 d1]) a) (hb : NRep w (.agg #[.bool sz1, .slice pz1 kz1 cz1, .slice qz1 lz1 dz1]) b) (h1 : large a.2.1 a.2.2 = false) (h2 : large b.2.1 b.2.2 = false) :
    Calls Tryz.prog 27 #[.agg #[.bool s1, .slice p1 k1 c1, .slice q1 l1 d1, .bool sz1, .slice pz1 kz1 cz1, .slice qz1 lz1 dz1, .bool x1, .bool y1]] w fun e w' => ∃ s5 p5 k5 c5 q5 l5 d5 sz5 pz5 kz5 cz5 qz5 lz5 dz5 x5 y5, e = .returned (.tuple #[.agg #[.bool s5, .slice p5 k5 c5, .slice q5 l5 d5, .bool sz5, .slice pz5 kz5 cz5, .slice qz5 lz5 dz5, .bool x5, .bool y5], .int .i64 0]) ∧ Hid (GRep w' (.agg #[.bool s5, .slice p5 k5 c5, .slice q5 l5 d5, .bool sz5, .slice pz5 kz5 cz5, .slice qz5 lz5 dz5, .bool x5, .bool y5]) (japi (jminus (jof (a, b, x1, y1))))) ∧ Below w.heap.size w w' := by
  have HL := hid (fun (W : World) (hW : Below w.heap.size w W) => jOne_ok s1 p1 k1 c1 q1 l1 d1 sz1 pz1 kz1 cz1 qz1 lz1 dz1 x1 y1 a b 0 W (ha.below hW) (hb.below hW) h1 h2 (by omega) (by omega))
  have HM := hid (fun (W : World) (s3 : Bool) (p3 : Option Addr) (k3 c3 : Nat) (q3 : Option Addr) (l3 d3 : Nat) (sz3 : Bool) (pz3 : Option Addr) (kz3 cz3 : Nat) (qz3 : Option Addr) (lz3 dz3 : Nat) (x3 : Bool) (y3 : Bool) (e3 : Bool) (h : JRep W (.agg #[.bool s3, .slice p3 k3 c3, .slice q3 l3 d3, .bool sz3, .slice pz3 kz3 cz3, .slice qz3 lz3 dz3, .bool x3, .bool y3, .bool e3]) (jof (a, b, x1, y1))) => jMinus_any s3 p3 k3 c3 q3 l3 d3 sz3 pz3 kz3 cz3 qz3 lz3 dz3 x3 y3 e3 _ W h)
  have HA := hid (fun (W : World) (s3 : Bool) (p3 : Option Addr) (k3 c3 : Nat) (q3 : Option Addr) (l3 d3 : Nat) (sz3 : Bool) (pz3 : Option Addr) (kz3 cz3 : Nat) (qz3 : Option Addr) (lz3 dz3 : Nat) (x3 : Bool) (y3 : Bool) (e3 : Bool) (h : JRep W (.agg #[.bool s3, .slice p3 k3 c3, .slice q3 l3 d3, .bool sz3, .slice pz3 kz3 cz3, .slice qz3 lz3 dz3, .bool x3, .bool y3, .bool e3]) (jminus (jof (a, b, x1, y1)))) => jApi_any s3 p3 k3 c3 q3 l3 d3 sz3 pz3 kz3 cz3 qz3 lz3 dz3 x3 y3 e3 _ W h (JGood.of h1 h2).neg.bd)
  clear ha hb h1 h2
  obtain ⟨r, hr⟩ : ∃ r, r = jof (a, b, x1, y1) := ⟨_, rfl⟩
  rw [← hr] at HL HM HA
  rw [← hr]
  clear hr
  go_enter Tryz.func27, Tryz.ntmps27
  go_wp2_with fail
  have HV := hid (pre2 w [.bool s1, .slice p1 k1 c1, .slice q1 l1 d1, .bool sz1, .slice pz1 kz1 cz1, .slice qz1 lz1 dz1, .bool x1, .bool y1] [.bool false, .slice none 0 0, .slice none 0 0, .bool false, .slice none 0 0, .slice none 0 0, .bool false, .bool false] 26 26 ⟨trivial, trivial, trivial, trivial, trivial, trivial, trivial, trivial, trivial⟩ ⟨trivial, trivial, trivial, trivial, trivial, trivial, trivial, trivial, trivial⟩)
  generalize (w.alloc (.cells #[.bool s1, .slice p1 k1 c1, .slice q1 l1 d1, .bool sz1, .slice pz1 kz1 cz1, .slice qz1 lz1 dz1, .bool x1, .bool y1] 26)).alloc (.cells #[.bool false, .slice none 0 0, .slice none 0 0, .bool false, .slice none 0 0, .slice none 0 0, .bool false, .bool false] 26) = W0 at *
  refine (HL.out _ HV.out.2.2).mono ?_
  rintro e w1 ⟨s2, p2, k2, c2, q2, l2, d2, sz2, pz2, kz2, cz2, qz2, lz2, dz2, x2, y2, e2, rfl, hJ, hB1⟩
  have HE := hid (And.intro (HV.out.2.1.below hB1) (HV.out.2.2.trans (hB1.mono HV.out.2.2.size)))
  clear hB1
  go_upto_region 4 with fail
  have HX := hid (pre1 w1 [.bool s2, .slice p2 k2 c2, .slice q2 l2 d2, .bool sz2, .slice pz2 kz2 cz2, .slice qz2 lz2 dz2, .bool x2, .bool y2, .bool e2] 73 ⟨trivial, trivial, trivial, trivial, trivial, trivial, trivial, trivial, trivial, trivial⟩)
  have hlt : w.heap.size + 1 < w1.heap.size := HE.out.1.lt
  have HJ := hid (hJ.out.below HX.out.2)
  clear hJ
  generalize w1.alloc (.cells #[.bool s2, .slice p2 k2 c2, .slice q2 l2 d2, .bool sz2, .slice pz2 kz2 cz2, .slice qz2 lz2 dz2, .bool x2, .bool y2, .bool e2] 73) = W1 at *
  have HE2 := hid (And.intro (HE.out.1.below HX.out.2) (HE.out.2.trans (HX.out.2.mono HE.out.2.size)))
  obtain ⟨m0, m1, m2, m3, m4, m5, m6, m7, m8, _⟩ := HX.out.1.cells9
  go_wp2_with fail
  refine (HM.out _ s2 p2 k2 c2 q2 l2 d2 sz2 pz2 kz2 cz2 qz2 lz2 dz2 x2 y2 e2 HJ.out).mono ?_
  rintro e w2' ⟨s6, p6, k6, c6, q6, l6, d6, sz6, pz6, kz6, cz6, qz6, lz6, dz6, x6, y6, e6, rfl, hM, hB2'⟩
  have HE2' := hid (And.intro (HE2.out.1.below hB2') (HE2.out.2.trans (hB2'.mono HE2.out.2.size)))
  clear hB2' m0 m1 m2 m3 m4 m5 m6 m7 m8
  go_wp2_with fail
  refine (HA.out _ s6 p6 k6 c6 q6 l6 d6 sz6 pz6 kz6 cz6 qz6 lz6 dz6 x6 y6 e6 hM.out).mono ?_
  rintro e w2 ⟨s5, p5, k5, c5, q5, l5, d5, sz5, pz5, kz5, cz5, qz5, lz5, dz5, x5, y5, rfl, hG, hB2⟩
  have HE3 := hid (And.intro (HE2'.out.1.below hB2) (HE2'.out.2.trans (hB2.mono HE2'.out.2.size)))
  clear hB2
  obtain ⟨g0, g1, g2, g3, g4, g5, g6, g7, f0, f1, f2, f3, f4, f5, f6, f7⟩ := HE3.out.1.cells8
  go_wp2_with fail
  exact jNeg_ret rfl rfl (HE3.out.1.stores [.bool s5, .slice p5 k5 c5, .slice q5 l5 d5, .bool sz5, .slice pz5 kz5 cz5, .slice qz5 lz5 dz5, .bool x5, .bool y5] rfl ⟨trivial, trivial, trivial, trivial, trivial, trivial, trivial, trivial, trivial⟩) ⟨s5, p5, k5, c5, q5, l5, d5, sz5, pz5, kz5, cz5, qz5, lz5, dz5, x5, y5, rfl, hid (GRep.stores (k := 0) (l := [.bool s5, .slice p5 k5 c5, .slice q5 l5 d5, .bool sz5, .slice pz5 kz5 cz5, .slice qz5 lz5 dz5, .bool x5, .bool y5]) hG.out HE3.out.1 ⟨trivial, trivial, trivial, trivial, trivial, trivial, trivial, trivial, trivial⟩), Below.stores (k := 0) (l := [.bool s5, .slice p5 k5 c5, .slice q5 l5 d5, .bool sz5, .slice pz5 kz5 cz5, .slice qz5 lz5 dz5, .bool x5, .bool y5]) HE3.out.2 (by omega)⟩

/-- What Neg of the reference returns. -/
def jneg (a : (Bool × Nat × Nat) × (Bool × Nat × Nat) × Bool × Bool) : (Bool × Nat × Nat) × (Bool × Nat × Nat) × Bool × Bool := if ilarge a then gzero else japi (jminus (jof a))
theorem jNeg_any (s1 : Bool) (p1 : Option Addr) (k1 c1 : Nat) (q1 : Option Addr) (l1 d1 : Nat) (sz1 : Bool) (pz1 : Option Addr) (kz1 cz1 : Nat) (qz1 : Option Addr) (lz1 dz1 : Nat) (x1 : Bool) (y1 : Bool) (a b : Bool × Nat × Nat) (w : World) (ha : NRep w (.agg #[.bool s1, .slice p1 k1 c1, .slice q1 l1 d1]) a) (hb : NRep w (.agg #[.bool sz1, .slice pz1 kz1 cz1, .slice qz1 lz1 dz1]) b) :
    Calls Tryz.prog 27 #[.agg #[.bool s1, .slice p1 k1 c1, .slice q1 l1 d1, .bool sz1, .slice pz1 kz1 cz1, .slice qz1 lz1 dz1, .bool x1, .bool y1]] w fun e w' => ∃ s5 p5 k5 c5 q5 l5 d5 sz5 pz5 kz5 cz5 qz5 lz5 dz5 x5 y5, e = .returned (.tuple #[.agg #[.bool s5, .slice p5 k5 c5, .slice q5 l5 d5, .bool sz5, .slice pz5 kz5 cz5, .slice qz5 lz5 dz5, .bool x5, .bool y5], .int .i64 (icode (a, b, x1, y1))]) ∧ Hid (GRep w' (.agg #[.bool s5, .slice p5 k5 c5, .slice q5 l5 d5, .bool sz5, .slice pz5 kz5 cz5, .slice qz5 lz5 dz5, .bool x5, .bool y5]) (jneg (a, b, x1, y1))) ∧ Below w.heap.size w w' := by
  cases hL : (large a.2.1 a.2.2 || large b.2.1 b.2.2)
  · have hla : ilarge (a, b, x1, y1) = false := hL
    rw [Bool.or_eq_false_iff] at hL
    have ec : icode (a, b, x1, y1) = 0 := by unfold icode; rw [hla]; rfl
    have eD : jneg (a, b, x1, y1) = japi (jminus (jof (a, b, x1, y1))) := by unfold jneg; rw [hla]; rfl
    rw [ec, eD]
    exact jNeg_ok s1 p1 k1 c1 q1 l1 d1 sz1 pz1 kz1 cz1 qz1 lz1 dz1 x1 y1 a b w ha hb hL.1 hL.2
  · have hla : ilarge (a, b, x1, y1) = true := hL
    have ec : icode (a, b, x1, y1) = 1 := by unfold icode; rw [hla]; rfl
    have eD : jneg (a, b, x1, y1) = gzero := by unfold jneg; rw [hla]; rfl
    rw [ec, eD]
    exact jNeg_large s1 p1 k1 c1 q1 l1 d1 sz1 pz1 kz1 cz1 qz1 lz1 dz1 x1 y1 a b w ha hb hla
theorem neg_same {a b : Bool × Nat × Nat} {x y : Bool} (h1 : large a.2.1 a.2.2 = false) (h2 : large b.2.1 b.2.2 = false) :
    (if (srd (a, b, x, y)).2.2 then giv (srd (a, b, x, y)) else giv (sneg (srd (a, b, x, y)))) = japi (jminus (jof (a, b, x, y))) := by
  have ea : jrat (fneg (fr a)) = outF (fneg (fr a)) := (QFit.of h1).neg.jrat
  have eb : jrat (fneg (fr b)) = outF (fneg (fr b)) := (QFit.of h2).neg.jrat
  cases x <;> cases y
  · have e : (srd (a, b, false, false)).2.2 = decide (0 < fcmp (fr a) (fr b)) := by
      show decide (0 < ecmp (0, fr a) (0, fr b)) = _
      rw [show ecmp (0, fr a) (0, fr b) = fcmp (fr a) (fr b) by unfold ecmp; simp]
    rw [giv_srd h1 h2, e]
    show _ = japi (jminus (if decide (0 < fcmp (fr a) (fr b)) then jnone else (fr a, fr b, false, false, false)))
    rw [show jof (a, b, false, false) = (if decide (0 < fcmp (fr a) (fr b)) then jnone else (fr a, fr b, false, false, false)) from rfl]
    by_cases hc : 0 < fcmp (fr a) (fr b)
    · rw [decide_eq_true hc]; rfl
    · rw [decide_eq_false hc]
      show (outF (fneg (fr b)), outF (fneg (fr a)), false, false) = (jrat (fneg (fr b)), jrat (fneg (fr a)), false, false)
      rw [ea, eb]
  · show ((false, 0, 0), outF (fneg (fr a)), true, false) = (jrat (fneg (false, 0, 0)), jrat (fneg (fr a)), true, false)
    rw [ea, fneg_zero, jrat_zero]
  · show (outF (fneg (fr b)), (false, 0, 0), false, true) = (jrat (fneg (fr b)), jrat (fneg (false, 0, 0)), false, true)
    rw [eb, fneg_zero, jrat_zero]
  · show ((false, 0, 0), (false, 0, 0), true, true) = (jrat (fneg (false, 0, 0)), jrat (fneg (false, 0, 0)), true, true)
    rw [fneg_zero, jrat_zero]
theorem neg_eq (a b : Bool × Nat × Nat) (x y : Bool) : jneg (a, b, x, y) = iop sneg (a, b, x, y) := by
  unfold jneg iop
  cases h : ilarge (a, b, x, y)
  · have h' : (large a.2.1 a.2.2 || large b.2.1 b.2.2) = false := h
    rw [Bool.or_eq_false_iff] at h'
    exact (neg_same h'.1 h'.2).symm
  · rfl
theorem neg_ok (a b : Bool × Nat × Nat) (x y : Bool) (h : icode (a, b, x, y) = 0) : ∃ r, JGood r ∧ iop sneg (a, b, x, y) = japi r := by
  unfold icode at h
  cases hl : ilarge (a, b, x, y)
  · have h' : (large a.2.1 a.2.2 || large b.2.1 b.2.2) = false := hl
    rw [Bool.or_eq_false_iff] at h'
    refine ⟨_, (JGood.of (x := x) (y := y) h'.1 h'.2).neg, ?_⟩
    rw [← neg_eq]
    unfold jneg
    rw [hl]
    rfl
  · rw [hl] at h
    exact absurd h (by decide)
theorem iop_err (f : ((Int × Bool × Nat × Nat) × (Int × Bool × Nat × Nat) × Bool) → ((Int × Bool × Nat × Nat) × (Int × Bool × Nat × Nat) × Bool)) (a b : Bool × Nat × Nat) (x y : Bool) (h : icode (a, b, x, y) ≠ 0) : iop f (a, b, x, y) = gzero := by
  unfold icode at h
  unfold iop
  cases hl : ilarge (a, b, x, y)
  · rw [hl] at h
    exact absurd rfl h
  · rfl
end Go.Proofs.YtpdpabpdejmdbaaGreatDoor

namespace Go.Proofs.YtpdpabpdejmdbaaGreatDoor
open Go.RowKit Dg

def emax (x y : Int × Bool × Nat × Nat) : Int × Bool × Nat × Nat := if 0 < ecmp y x then y else x
theorem egreatest_ret {W : World} {B : Nat} {a0 a1 a2 a3 : Value} {tm : Array Value} {R : Ending → World → Prop} (h2 : tm[4]?.getD undef = .pointer (some ⟨B, 0, none⟩)) (hV : Box W B #[a0, a1, a2, a3]) (hR : R (.returned (.agg #[a0, a1, a2, a3])) W) :
    bodyPost Tryz.prog Tryz.f144 R .ret { tmps := tm, defers := [] } W := by
  obtain ⟨g0, g1, g2, g3, _⟩ := hV.cells4
  exact bodyPost_ret (v := .agg #[a0, a1, a2, a3]) (by simp [results, Tryz.results144, go_sem, h2, g0, g1, g2, g3]) rfl hR
set_option maxHeartbeats 2000000 in
set_option maxRecDepth 100000 in
theorem egreatest_any (i1 : Int) (s1 : Bool) (p1 : Option Addr) (k1 c1 : Nat) (q1 : Option Addr) (l1 d1 : Nat) (i2 : Int) (s2 : Bool) (p2 : Option Addr) (k2 c2 : Nat) (q2 : Option Addr) (l2 d2 : Nat) (x y : Int × Bool × Nat × Nat) (A : Nat) (w : World) (h : ERep w (.agg #[.int .i64 i1, .bool s1, .slice p1 k1 c1, .slice q1 l1 d1]) x) (h' : ERep w (.agg #[.int .i64 i2, .bool s2, .slice p2 k2 c2, .slice q2 l2 d2]) y) (hx : EOk A x) (hy : EOk A y) (hA : A ≤ 4000000) :
    Calls Tryz.prog 144 #[.agg #[.int .i64 i1, .bool s1, .slice p1 k1 c1, .slice q1 l1 d1], .agg #[.int .i64 i2, .bool s2, .slice p2 k2 c2, .slice q2 l2 d2]] w fun e w' => ∃ i3 s3 p3 k3 c3 q3 l3 d3, e = .returned (.agg #[.int .i64 i3, .bool s3, .slice p3 k3 c3, .slice q3 l3 d3]) ∧ Hid (ERep w' (.agg #[.int .i64 i3, .bool s3, .slice p3 k3 c3, .slice q3 l3 d3]) (emax x y)) ∧ Below w.heap.size w w' := by
  have HC := hid (fun (W : World) (hW : Below w.heap.size w W) => ecompare_any i2 s2 p2 k2 c2 q2 l2 d2 i1 s1 p1 k1 c1 q1 l1 d1 y x A W (h'.below hW) (h.below hW) hy hx hA)
  have HR := hid (And.intro (fun (W : World) (hW : Below w.heap.size w W) => ERep.below h hW) (fun (W : World) (hW : Below w.heap.size w W) => ERep.below h' hW))
  obtain ⟨z, hz⟩ : ∃ z, z = emax x y := ⟨_, rfl⟩
  rw [← hz]
  have hD : z = if 0 < ecmp y x then y else x := hz
  clear hz
  obtain ⟨r, hr⟩ : ∃ r, r = ecmp y x := ⟨_, rfl⟩
  rw [← hr] at HC hD
  have HZ := hid hD
  clear h h' hx hy hr hD
  go_enter Tryz.func144, Tryz.ntmps144
  go_wp2_with fail
  have HV := hid (pre3 w [.int .i64 i1, .bool s1, .slice p1 k1 c1, .slice q1 l1 d1] [.int .i64 i2, .bool s2, .slice p2 k2 c2, .slice q2 l2 d2] [.int .i64 0, .bool false, .slice none 0 0, .slice none 0 0] 63 63 63 ⟨trivial, trivial, trivial, trivial, trivial⟩ ⟨trivial, trivial, trivial, trivial, trivial⟩ ⟨trivial, trivial, trivial, trivial, trivial⟩)
  generalize ((w.alloc (.cells #[.int .i64 i1, .bool s1, .slice p1 k1 c1, .slice q1 l1 d1] 63)).alloc (.cells #[.int .i64 i2, .bool s2, .slice p2 k2 c2, .slice q2 l2 d2] 63)).alloc (.cells #[.int .i64 0, .bool false, .slice none 0 0, .slice none 0 0] 63) = W0 at *
  by_cases hc : 0 < r
  · have hc1 : decide (0 < r) = true := decide_eq_true hc
    refine (HC.out _ HV.out.2.2.2).mono ?_
    rintro e w1 ⟨rfl, hB1⟩
    have HE := hid (And.intro (HV.out.1.below hB1) (And.intro (HV.out.2.1.below hB1) (And.intro (HV.out.2.2.1.below hB1) (HV.out.2.2.2.trans (hB1.mono HV.out.2.2.2.size)))))
    clear hB1
    obtain ⟨m0, m1, m2, m3, _⟩ := HE.out.2.1.cells4
    obtain ⟨g0, g1, g2, g3, f0, f1, f2, f3⟩ := HE.out.2.2.1.cells4
    go_wp2_with fail
    exact egreatest_ret rfl (HE.out.2.2.1.stores [.int .i64 i2, .bool s2, .slice p2 k2 c2, .slice q2 l2 d2] rfl ⟨trivial, trivial, trivial, trivial, trivial⟩) ⟨i2, s2, p2, k2, c2, q2, l2, d2, rfl, hid (by rw [HZ.out, if_pos (show 0 < r by omega)]; exact ERep.stores (k := 0) (l := [.int .i64 i2, .bool s2, .slice p2 k2 c2, .slice q2 l2 d2]) (HR.out.2 _ HE.out.2.2.2) HE.out.2.2.1 ⟨trivial, trivial, trivial, trivial, trivial⟩), Below.stores (k := 0) (l := [.int .i64 i2, .bool s2, .slice p2 k2 c2, .slice q2 l2 d2]) HE.out.2.2.2 (by omega)⟩
  · have hc1 : decide (0 < r) = false := decide_eq_false hc
    refine (HC.out _ HV.out.2.2.2).mono ?_
    rintro e w1 ⟨rfl, hB1⟩
    have HE := hid (And.intro (HV.out.1.below hB1) (And.intro (HV.out.2.1.below hB1) (And.intro (HV.out.2.2.1.below hB1) (HV.out.2.2.2.trans (hB1.mono HV.out.2.2.2.size)))))
    clear hB1
    obtain ⟨m0, m1, m2, m3, _⟩ := HE.out.1.cells4
    obtain ⟨g0, g1, g2, g3, f0, f1, f2, f3⟩ := HE.out.2.2.1.cells4
    go_wp2_with fail
    exact egreatest_ret rfl (HE.out.2.2.1.stores [.int .i64 i1, .bool s1, .slice p1 k1 c1, .slice q1 l1 d1] rfl ⟨trivial, trivial, trivial, trivial, trivial⟩) ⟨i1, s1, p1, k1, c1, q1, l1, d1, rfl, hid (by rw [HZ.out, if_neg (show ¬ (0 < r) by omega)]; exact ERep.stores (k := 0) (l := [.int .i64 i1, .bool s1, .slice p1 k1 c1, .slice q1 l1 d1]) (HR.out.1 _ HE.out.2.2.2) HE.out.2.2.1 ⟨trivial, trivial, trivial, trivial, trivial⟩), Below.stores (k := 0) (l := [.int .i64 i1, .bool s1, .slice p1 k1 c1, .slice q1 l1 d1]) HE.out.2.2.2 (by omega)⟩

def qmax (x y : Bool × Nat × Nat) : Bool × Nat × Nat := if 0 < fcmp y x then y else x
theorem jMost_ret {W : World} {B : Nat} {a0 a1 a2 : Value} {tm : Array Value} {R : Ending → World → Prop} (h2 : tm[4]?.getD undef = .pointer (some ⟨B, 0, none⟩)) (hV : Box W B #[a0, a1, a2]) (hR : R (.returned (.agg #[a0, a1, a2])) W) :
    bodyPost Tryz.prog Tryz.f145 R .ret { tmps := tm, defers := [] } W := by
  obtain ⟨g0, g1, g2, _⟩ := hV.cells3
  exact bodyPost_ret (v := .agg #[a0, a1, a2]) (by simp [results, Tryz.results145, go_sem, h2, g0, g1, g2]) rfl hR
set_option maxHeartbeats 2000000 in
set_option maxRecDepth 100000 in
theorem jMost_any (s1 : Bool) (p1 : Option Addr) (k1 c1 : Nat) (q1 : Option Addr) (l1 d1 : Nat) (s2 : Bool) (p2 : Option Addr) (k2 c2 : Nat) (q2 : Option Addr) (l2 d2 : Nat) (x y : Bool × Nat × Nat) (w : World) (h : QNorm w (.agg #[.bool s1, .slice p1 k1 c1, .slice q1 l1 d1]) x) (h' : QNorm w (.agg #[.bool s2, .slice p2 k2 c2, .slice q2 l2 d2]) y) (hx : QOk x) (hy : QOk y) :
    Calls Tryz.prog 145 #[.agg #[.bool s1, .slice p1 k1 c1, .slice q1 l1 d1], .agg #[.bool s2, .slice p2 k2 c2, .slice q2 l2 d2]] w fun e w' => ∃ s3 p3 k3 c3 q3 l3 d3, e = .returned (.agg #[.bool s3, .slice p3 k3 c3, .slice q3 l3 d3]) ∧ Hid (QNorm w' (.agg #[.bool s3, .slice p3 k3 c3, .slice q3 l3 d3]) (qmax x y)) ∧ Below w.heap.size w w' := by
  have HC := hid (fun (W : World) (hW : Below w.heap.size w W) => rcmp_ok (.agg #[.bool s2, .slice p2 k2 c2, .slice q2 l2 d2]) (.agg #[.bool s1, .slice p1 k1 c1, .slice q1 l1 d1]) y x W (h'.below hW) (h.below hW) hy hx)
  have HR := hid (And.intro (fun (W : World) (hW : Below w.heap.size w W) => QNorm.below h hW) (fun (W : World) (hW : Below w.heap.size w W) => QNorm.below h' hW))
  obtain ⟨z, hz⟩ : ∃ z, z = qmax x y := ⟨_, rfl⟩
  rw [← hz]
  have hD : z = if 0 < fcmp y x then y else x := hz
  clear hz
  obtain ⟨r, hr⟩ : ∃ r, r = fcmp y x := ⟨_, rfl⟩
  rw [← hr] at HC hD
  have HZ := hid hD
  clear h h' hx hy hr hD
  go_enter Tryz.func145, Tryz.ntmps145
  go_wp2_with fail
  have HV := hid (pre3 w [.bool s1, .slice p1 k1 c1, .slice q1 l1 d1] [.bool s2, .slice p2 k2 c2, .slice q2 l2 d2] [.bool false, .slice none 0 0, .slice none 0 0] 71 71 71 ⟨trivial, trivial, trivial, trivial⟩ ⟨trivial, trivial, trivial, trivial⟩ ⟨trivial, trivial, trivial, trivial⟩)
  generalize ((w.alloc (.cells #[.bool s1, .slice p1 k1 c1, .slice q1 l1 d1] 71)).alloc (.cells #[.bool s2, .slice p2 k2 c2, .slice q2 l2 d2] 71)).alloc (.cells #[.bool false, .slice none 0 0, .slice none 0 0] 71) = W0 at *
  by_cases hc : 0 < r
  · have hc1 : decide (0 < r) = true := decide_eq_true hc
    refine (HC.out _ HV.out.2.2.2).mono ?_
    rintro e w1 ⟨rfl, hB1⟩
    have HE := hid (And.intro (HV.out.1.below hB1) (And.intro (HV.out.2.1.below hB1) (And.intro (HV.out.2.2.1.below hB1) (HV.out.2.2.2.trans (hB1.mono HV.out.2.2.2.size)))))
    clear hB1
    obtain ⟨m0, m1, m2, _⟩ := HE.out.2.1.cells3
    obtain ⟨g0, g1, g2, f0, f1, f2⟩ := HE.out.2.2.1.cells3
    go_wp2_with fail
    exact jMost_ret rfl (HE.out.2.2.1.stores [.bool s2, .slice p2 k2 c2, .slice q2 l2 d2] rfl ⟨trivial, trivial, trivial, trivial⟩) ⟨s2, p2, k2, c2, q2, l2, d2, rfl, hid (by rw [HZ.out, if_pos (show 0 < r by omega)]; exact QNorm.stores (k := 0) (l := [.bool s2, .slice p2 k2 c2, .slice q2 l2 d2]) (HR.out.2 _ HE.out.2.2.2) HE.out.2.2.1 ⟨trivial, trivial, trivial, trivial⟩), Below.stores (k := 0) (l := [.bool s2, .slice p2 k2 c2, .slice q2 l2 d2]) HE.out.2.2.2 (by omega)⟩
  · have hc1 : decide (0 < r) = false := decide_eq_false hc
    refine (HC.out _ HV.out.2.2.2).mono ?_
    rintro e w1 ⟨rfl, hB1⟩
    have HE := hid (And.intro (HV.out.1.below hB1) (And.intro (HV.out.2.1.below hB1) (And.intro (HV.out.2.2.1.below hB1) (HV.out.2.2.2.trans (hB1.mono HV.out.2.2.2.size)))))
    clear hB1
    obtain ⟨m0, m1, m2, _⟩ := HE.out.1.cells3
    obtain ⟨g0, g1, g2, f0, f1, f2⟩ := HE.out.2.2.1.cells3
    go_wp2_with fail
    exact jMost_ret rfl (HE.out.2.2.1.stores [.bool s1, .slice p1 k1 c1, .slice q1 l1 d1] rfl ⟨trivial, trivial, trivial, trivial⟩) ⟨s1, p1, k1, c1, q1, l1, d1, rfl, hid (by rw [HZ.out, if_neg (show ¬ (0 < r) by omega)]; exact QNorm.stores (k := 0) (l := [.bool s1, .slice p1 k1 c1, .slice q1 l1 d1]) (HR.out.1 _ HE.out.2.2.2) HE.out.2.2.1 ⟨trivial, trivial, trivial, trivial⟩), Below.stores (k := 0) (l := [.bool s1, .slice p1 k1 c1, .slice q1 l1 d1]) HE.out.2.2.2 (by omega)⟩

end Go.Proofs.YtpdpabpdejmdbaaGreatDoor

namespace Go.Proofs.YtpdpabpdejmdbaaGreatDoor
open Go.RowKit Dg

/-- The sign of an end. -/
def esgn (x : Int × Bool × Nat × Nat) : Int := if x.1 = 0 then sgn x.2.1 x.2.2.1 else x.1
set_option maxHeartbeats 1000000 in
set_option maxRecDepth 100000 in
theorem esign_fin (s1 : Bool) (p1 : Option Addr) (k1 c1 : Nat) (q1 : Option Addr) (l1 d1 : Nat) (t : Bool × Nat × Nat) (w : World) (h : FNorm w (.agg #[.bool s1, .slice p1 k1 c1, .slice q1 l1 d1]) t) :
    Calls Tryz.prog 142 #[.agg #[.int .i64 0, .bool s1, .slice p1 k1 c1, .slice q1 l1 d1]] w fun e w' => e = .returned (.int .i64 (sgn t.1 t.2.1)) ∧ Below w.heap.size w w' := by
  have HO := hid (fun (W : World) (hW : Below w.heap.size w W) => Sign_any (.agg #[.bool s1, .slice p1 k1 c1, .slice q1 l1 d1]) t.1 t.2.1 t.2.2 W (FNorm.below h hW))
  clear h
  obtain ⟨r, hr⟩ : ∃ r, r = sgn t.1 t.2.1 := ⟨_, rfl⟩
  rw [← hr] at HO ⊢
  clear hr
  go_enter Tryz.func142, Tryz.ntmps142
  go_wp2_with fail
  have HV := hid (pre1 w [.int .i64 0, .bool s1, .slice p1 k1 c1, .slice q1 l1 d1] 63 ⟨trivial, trivial, trivial, trivial, trivial⟩)
  generalize w.alloc (.cells #[.int .i64 0, .bool s1, .slice p1 k1 c1, .slice q1 l1 d1] 63) = W0 at *
  refine (infinite_any 0 s1 p1 k1 c1 q1 l1 d1 W0).mono ?_
  rintro e w1 ⟨rfl, hB1⟩
  rw [show ((0 : Int) != 0) = false from rfl]
  have HE := hid (And.intro (HV.out.1.below hB1) (HV.out.2.trans (hB1.mono HV.out.2.size)))
  clear hB1
  obtain ⟨u0, u1, u2, u3, _⟩ := HE.out.1.cells4
  go_wp2_with fail
  refine (HO.out _ HE.out.2).mono ?_
  rintro e w2 ⟨rfl, hB2⟩
  go_wp2_with fail
  go_ret
  exact ⟨rfl, HE.out.2.trans (hB2.mono HE.out.2.size)⟩
set_option maxHeartbeats 1000000 in
set_option maxRecDepth 100000 in
theorem esign_inf (i1 : Int) (s1 : Bool) (p1 : Option Addr) (k1 c1 : Nat) (q1 : Option Addr) (l1 d1 : Nat) (w : World) (h : i1 ≠ 0) :
    Calls Tryz.prog 142 #[.agg #[.int .i64 i1, .bool s1, .slice p1 k1 c1, .slice q1 l1 d1]] w fun e w' => e = .returned (.int .i64 i1) ∧ Below w.heap.size w w' := by
  have hne : (i1 != 0) = true := by simpa using h
  have HN := hid hne
  clear h hne
  go_enter Tryz.func142, Tryz.ntmps142
  go_wp2_with fail
  have HV := hid (pre1 w [.int .i64 i1, .bool s1, .slice p1 k1 c1, .slice q1 l1 d1] 63 ⟨trivial, trivial, trivial, trivial, trivial⟩)
  generalize w.alloc (.cells #[.int .i64 i1, .bool s1, .slice p1 k1 c1, .slice q1 l1 d1] 63) = W0 at *
  refine (infinite_any i1 s1 p1 k1 c1 q1 l1 d1 W0).mono ?_
  rintro e w1 ⟨rfl, hB1⟩
  rw [HN.out]
  have HE := hid (And.intro (HV.out.1.below hB1) (HV.out.2.trans (hB1.mono HV.out.2.size)))
  clear hB1
  obtain ⟨u0, u1, u2, u3, _⟩ := HE.out.1.cells4
  go_wp2_with fail
  go_ret
  exact ⟨rfl, HE.out.2⟩
theorem esign_any (i1 : Int) (s1 : Bool) (p1 : Option Addr) (k1 c1 : Nat) (q1 : Option Addr) (l1 d1 : Nat) (x : Int × Bool × Nat × Nat) (w : World) (h : ERep w (.agg #[.int .i64 i1, .bool s1, .slice p1 k1 c1, .slice q1 l1 d1]) x) :
    Calls Tryz.prog 142 #[.agg #[.int .i64 i1, .bool s1, .slice p1 k1 c1, .slice q1 l1 d1]] w fun e w' => e = .returned (.int .i64 (esgn x)) ∧ Below w.heap.size w w' := by
  obtain ⟨hi, hF⟩ := h.frac
  unfold esgn
  by_cases h0 : x.1 = 0
  · rw [if_pos h0]
    rw [h0] at hi
    subst hi
    exact esign_fin s1 p1 k1 c1 q1 l1 d1 x.2 w hF
  · rw [if_neg h0]
    rw [← hi]
    exact esign_inf i1 s1 p1 k1 c1 q1 l1 d1 w (by rw [hi]; exact h0)

theorem whole_ret {W : World} {B : Nat} {a0 a1 a2 a3 : Value} {tm : Array Value} {R : Ending → World → Prop} (h2 : tm[2]?.getD undef = .pointer (some ⟨B, 0, none⟩)) (hV : Box W B #[a0, a1, a2, a3]) (hR : R (.returned (.agg #[a0, a1, a2, a3])) W) :
    bodyPost Tryz.prog Tryz.f143 R .ret { tmps := tm, defers := [] } W := by
  obtain ⟨g0, g1, g2, g3, _⟩ := hV.cells4
  exact bodyPost_ret (v := .agg #[a0, a1, a2, a3]) (by simp [results, Tryz.results143, go_sem, h2, g0, g1, g2, g3]) rfl hR
set_option maxHeartbeats 1000000 in
set_option maxRecDepth 100000 in
theorem whole_zero (w : World) :
    Calls Tryz.prog 143 #[.int .i64 0] w fun e w' => ∃ i2 s2 p2 k2 c2 q2 l2 d2, e = .returned (.agg #[.int .i64 i2, .bool s2, .slice p2 k2 c2, .slice q2 l2 d2]) ∧ Hid (ERep w' (.agg #[.int .i64 i2, .bool s2, .slice p2 k2 c2, .slice q2 l2 d2]) (0, false, 0, 1)) ∧ Below w.heap.size w w' := by
  have HO := hid (fun (W : World) => fopen (t := (false, 0, 1)) ((FracFromInt_any 0 W (by omega) (by omega)).mono fun e w' h => h))
  go_enter Tryz.func143, Tryz.ntmps143
  go_wp2_with fail
  have HV := hid (pre1 w [.int .i64 0, .bool false, .slice none 0 0, .slice none 0 0] 63 ⟨trivial, trivial, trivial, trivial, trivial⟩)
  generalize w.alloc (.cells #[.int .i64 0, .bool false, .slice none 0 0, .slice none 0 0] 63) = W0 at *
  refine (HO.out _).mono ?_
  rintro e w2 ⟨s2, p2, k2, c2, q2, l2, d2, rfl, hF, hB2⟩
  have HE2 := hid (And.intro (HV.out.1.below hB2) (HV.out.2.trans (hB2.mono HV.out.2.size)))
  clear hB2
  go_wp2_with fail
  refine (finite_any s2 p2 k2 c2 q2 l2 d2 w2).mono ?_
  rintro e w3 ⟨rfl, hB3⟩
  have HE3 := hid (And.intro (HE2.out.1.below hB3) (HE2.out.2.trans (hB3.mono HE2.out.2.size)))
  have HF3 := hid (hF.out.below hB3)
  clear hB3 hF
  obtain ⟨g0, g1, g2, g3, f0, f1, f2, f3⟩ := HE3.out.1.cells4
  go_wp2_with fail
  exact whole_ret rfl (HE3.out.1.stores [.int .i64 0, .bool s2, .slice p2 k2 c2, .slice q2 l2 d2] rfl ⟨trivial, trivial, trivial, trivial, trivial⟩) ⟨0, s2, p2, k2, c2, q2, l2, d2, rfl, hid (ERep.mk (x := (0, false, 0, 1)) rfl (FNorm.stores (k := 0) (l := [.int .i64 0, .bool s2, .slice p2 k2 c2, .slice q2 l2 d2]) HF3.out HE3.out.1 ⟨trivial, trivial, trivial, trivial, trivial⟩)), Below.stores (k := 0) (l := [.int .i64 0, .bool s2, .slice p2 k2 c2, .slice q2 l2 d2]) HE3.out.2 (Nat.le_refl _)⟩

/-- The set of the absolute values. -/
def sabs (x : (Int × Bool × Nat × Nat) × (Int × Bool × Nat × Nat) × Bool) : (Int × Bool × Nat × Nat) × (Int × Bool × Nat × Nat) × Bool := if 0 ≤ esgn x.1 then x else if esgn x.2.1 ≤ 0 then sneg x else ((0, false, 0, 1), emax (eneg x.1) x.2.1, false)
theorem sabs_ret {W : World} {B : Nat} {a0 a1 a2 a3 a4 a5 a6 a7 a8 : Value} {tm : Array Value} {R : Ending → World → Prop} (h2 : tm[2]?.getD undef = .pointer (some ⟨B, 0, none⟩)) (hV : Box W B #[a0, a1, a2, a3, a4, a5, a6, a7, a8]) (hR : R (.returned (.agg #[a0, a1, a2, a3, a4, a5, a6, a7, a8])) W) :
    bodyPost Tryz.prog Tryz.f80 R .ret { tmps := tm, defers := [] } W := by
  obtain ⟨g0, g1, g2, g3, g4, g5, g6, g7, g8, _⟩ := hV.cells9
  exact bodyPost_ret (v := .agg #[a0, a1, a2, a3, a4, a5, a6, a7, a8]) (by simp [results, Tryz.results80, go_sem, h2, g0, g1, g2, g3, g4, g5, g6, g7, g8]) rfl hR
set_option maxHeartbeats 2000000 in
set_option maxRecDepth 100000 in
theorem sabs_pos (i1 : Int) (s1 : Bool) (p1 : Option Addr) (k1 c1 : Nat) (q1 : Option Addr) (l1 d1 : Nat) (j1 : Int) (sz1 : Bool) (pz1 : Option Addr) (kz1 cz1 : Nat) (qz1 : Option Addr) (lz1 dz1 : Nat) (e1 : Bool) (x : (Int × Bool × Nat × Nat) × (Int × Bool × Nat × Nat) × Bool) (w : World) (h : SRep w (.agg #[.int .i64 i1, .bool s1, .slice p1 k1 c1, .slice q1 l1 d1, .int .i64 j1, .bool sz1, .slice pz1 kz1 cz1, .slice qz1 lz1 dz1, .bool e1]) x) (hc : 0 ≤ esgn x.1) :
    Calls Tryz.prog 80 #[.agg #[.int .i64 i1, .bool s1, .slice p1 k1 c1, .slice q1 l1 d1, .int .i64 j1, .bool sz1, .slice pz1 kz1 cz1, .slice qz1 lz1 dz1, .bool e1]] w fun e w' => ∃ i3 s3 p3 k3 c3 q3 l3 d3 j3 sz3 pz3 kz3 cz3 qz3 lz3 dz3 e3, e = .returned (.agg #[.int .i64 i3, .bool s3, .slice p3 k3 c3, .slice q3 l3 d3, .int .i64 j3, .bool sz3, .slice pz3 kz3 cz3, .slice qz3 lz3 dz3, .bool e3]) ∧ Hid (SRep w' (.agg #[.int .i64 i3, .bool s3, .slice p3 k3 c3, .slice q3 l3 d3, .int .i64 j3, .bool sz3, .slice pz3 kz3 cz3, .slice qz3 lz3 dz3, .bool e3]) x) ∧ Below w.heap.size w w' := by
  have h1 := h.ends
  have HL := hid (fun (W : World) (hW : Below w.heap.size w W) => esign_any i1 s1 p1 k1 c1 q1 l1 d1 x.1 W (h1.1.below hW))
  obtain ⟨a, ha⟩ : ∃ r, r = esgn x.1 := ⟨_, rfl⟩
  rw [← ha] at HL hc
  have f1 : decide (0 ≤ a) = true := decide_eq_true hc
  have HZ := hid h
  clear h h1 ha hc
  go_enter Tryz.func80, Tryz.ntmps80
  go_wp2_with fail
  have HV := hid (pre2 w [.int .i64 i1, .bool s1, .slice p1 k1 c1, .slice q1 l1 d1, .int .i64 j1, .bool sz1, .slice pz1 kz1 cz1, .slice qz1 lz1 dz1, .bool e1] [.int .i64 0, .bool false, .slice none 0 0, .slice none 0 0, .int .i64 0, .bool false, .slice none 0 0, .slice none 0 0, .bool false] 65 65 ⟨trivial, trivial, trivial, trivial, trivial, trivial, trivial, trivial, trivial, trivial⟩ ⟨trivial, trivial, trivial, trivial, trivial, trivial, trivial, trivial, trivial, trivial⟩)
  generalize (w.alloc (.cells #[.int .i64 i1, .bool s1, .slice p1 k1 c1, .slice q1 l1 d1, .int .i64 j1, .bool sz1, .slice pz1 kz1 cz1, .slice qz1 lz1 dz1, .bool e1] 65)).alloc (.cells #[.int .i64 0, .bool false, .slice none 0 0, .slice none 0 0, .int .i64 0, .bool false, .slice none 0 0, .slice none 0 0, .bool false] 65) = W0 at *
  obtain ⟨m0, m1, m2, m3, m4, m5, m6, m7, m8, _⟩ := HV.out.1.cells9
  go_wp2_with fail
  refine (HL.out _ HV.out.2.2).mono ?_
  rintro e w1 ⟨rfl, hB1⟩
  clear m0 m1 m2 m3 m4 m5 m6 m7 m8
  have HE := hid (And.intro (HV.out.2.1.below hB1) (And.intro (HV.out.1.below hB1) (HV.out.2.2.trans (hB1.mono HV.out.2.2.size))))
  clear hB1
  obtain ⟨m0, m1, m2, m3, m4, m5, m6, m7, m8, _⟩ := HE.out.2.1.cells9
  obtain ⟨g0, g1, g2, g3, g4, g5, g6, g7, g8, n0, n1, n2, n3, n4, n5, n6, n7, n8⟩ := HE.out.1.cells9
  go_wp2_with fail
  exact sabs_ret rfl (HE.out.1.stores [.int .i64 i1, .bool s1, .slice p1 k1 c1, .slice q1 l1 d1, .int .i64 j1, .bool sz1, .slice pz1 kz1 cz1, .slice qz1 lz1 dz1, .bool e1] rfl ⟨trivial, trivial, trivial, trivial, trivial, trivial, trivial, trivial, trivial, trivial⟩) ⟨_, _, _, _, _, _, _, _, _, _, _, _, _, _, _, _, _, rfl, hid (SRep.stores (k := 0) (l := [.int .i64 i1, .bool s1, .slice p1 k1 c1, .slice q1 l1 d1, .int .i64 j1, .bool sz1, .slice pz1 kz1 cz1, .slice qz1 lz1 dz1, .bool e1]) (HZ.out.below HE.out.2.2) HE.out.1 ⟨trivial, trivial, trivial, trivial, trivial, trivial, trivial, trivial, trivial, trivial⟩), Below.stores (k := 0) (l := [.int .i64 i1, .bool s1, .slice p1 k1 c1, .slice q1 l1 d1, .int .i64 j1, .bool sz1, .slice pz1 kz1 cz1, .slice qz1 lz1 dz1, .bool e1]) HE.out.2.2 (by omega)⟩

set_option maxHeartbeats 2000000 in
set_option maxRecDepth 100000 in
theorem sabs_neg (i1 : Int) (s1 : Bool) (p1 : Option Addr) (k1 c1 : Nat) (q1 : Option Addr) (l1 d1 : Nat) (j1 : Int) (sz1 : Bool) (pz1 : Option Addr) (kz1 cz1 : Nat) (qz1 : Option Addr) (lz1 dz1 : Nat) (e1 : Bool) (x : (Int × Bool × Nat × Nat) × (Int × Bool × Nat × Nat) × Bool) (A : Nat) (w : World) (h : SRep w (.agg #[.int .i64 i1, .bool s1, .slice p1 k1 c1, .slice q1 l1 d1, .int .i64 j1, .bool sz1, .slice pz1 kz1 cz1, .slice qz1 lz1 dz1, .bool e1]) x) (hx : EOk A x.1 ∧ EOk A x.2.1) (hc : ¬ 0 ≤ esgn x.1) (hd : esgn x.2.1 ≤ 0) :
    Calls Tryz.prog 80 #[.agg #[.int .i64 i1, .bool s1, .slice p1 k1 c1, .slice q1 l1 d1, .int .i64 j1, .bool sz1, .slice pz1 kz1 cz1, .slice qz1 lz1 dz1, .bool e1]] w fun e w' => ∃ i3 s3 p3 k3 c3 q3 l3 d3 j3 sz3 pz3 kz3 cz3 qz3 lz3 dz3 e3, e = .returned (.agg #[.int .i64 i3, .bool s3, .slice p3 k3 c3, .slice q3 l3 d3, .int .i64 j3, .bool sz3, .slice pz3 kz3 cz3, .slice qz3 lz3 dz3, .bool e3]) ∧ Hid (SRep w' (.agg #[.int .i64 i3, .bool s3, .slice p3 k3 c3, .slice q3 l3 d3, .int .i64 j3, .bool sz3, .slice pz3 kz3 cz3, .slice qz3 lz3 dz3, .bool e3]) (sneg x)) ∧ Below w.heap.size w w' := by
  have h1 := h.ends
  have HL := hid (fun (W : World) (hW : Below w.heap.size w W) => esign_any i1 s1 p1 k1 c1 q1 l1 d1 x.1 W (h1.1.below hW))
  have HH := hid (fun (W : World) (hW : Below w.heap.size w W) => esign_any j1 sz1 pz1 kz1 cz1 qz1 lz1 dz1 x.2.1 W (h1.2.1.below hW))
  have HN := hid (fun (W : World) (hW : Below w.heap.size w W) => sneg_any i1 s1 p1 k1 c1 q1 l1 d1 j1 sz1 pz1 kz1 cz1 qz1 lz1 dz1 e1 x A W (h.below hW) hx)
  obtain ⟨a, ha⟩ : ∃ r, r = esgn x.1 := ⟨_, rfl⟩
  obtain ⟨b, hb⟩ : ∃ r, r = esgn x.2.1 := ⟨_, rfl⟩
  rw [← ha] at HL hc
  rw [← hb] at HH hd
  have f1 : decide (0 ≤ a) = false := decide_eq_false hc
  have f2 : decide (b ≤ 0) = true := decide_eq_true hd
  clear h h1 ha hb hc hd hx
  go_enter Tryz.func80, Tryz.ntmps80
  go_wp2_with fail
  have HV := hid (pre2 w [.int .i64 i1, .bool s1, .slice p1 k1 c1, .slice q1 l1 d1, .int .i64 j1, .bool sz1, .slice pz1 kz1 cz1, .slice qz1 lz1 dz1, .bool e1] [.int .i64 0, .bool false, .slice none 0 0, .slice none 0 0, .int .i64 0, .bool false, .slice none 0 0, .slice none 0 0, .bool false] 65 65 ⟨trivial, trivial, trivial, trivial, trivial, trivial, trivial, trivial, trivial, trivial⟩ ⟨trivial, trivial, trivial, trivial, trivial, trivial, trivial, trivial, trivial, trivial⟩)
  generalize (w.alloc (.cells #[.int .i64 i1, .bool s1, .slice p1 k1 c1, .slice q1 l1 d1, .int .i64 j1, .bool sz1, .slice pz1 kz1 cz1, .slice qz1 lz1 dz1, .bool e1] 65)).alloc (.cells #[.int .i64 0, .bool false, .slice none 0 0, .slice none 0 0, .int .i64 0, .bool false, .slice none 0 0, .slice none 0 0, .bool false] 65) = W0 at *
  obtain ⟨m0, m1, m2, m3, m4, m5, m6, m7, m8, _⟩ := HV.out.1.cells9
  go_wp2_with fail
  refine (HL.out _ HV.out.2.2).mono ?_
  rintro e w1 ⟨rfl, hB1⟩
  clear m0 m1 m2 m3 m4 m5 m6 m7 m8
  have HE := hid (And.intro (HV.out.2.1.below hB1) (And.intro (HV.out.1.below hB1) (HV.out.2.2.trans (hB1.mono HV.out.2.2.size))))
  clear hB1
  obtain ⟨m0, m1, m2, m3, m4, m5, m6, m7, m8, _⟩ := HE.out.2.1.cells9
  go_wp2_with fail
  refine (HH.out _ HE.out.2.2).mono ?_
  rintro e w2 ⟨rfl, hB2⟩
  clear m0 m1 m2 m3 m4 m5 m6 m7 m8
  have HE2 := hid (And.intro (HE.out.1.below hB2) (And.intro (HE.out.2.1.below hB2) (HE.out.2.2.trans (hB2.mono HE.out.2.2.size))))
  clear hB2
  obtain ⟨m0, m1, m2, m3, m4, m5, m6, m7, m8, _⟩ := HE2.out.2.1.cells9
  go_wp2_with fail
  refine (HN.out _ HE2.out.2.2).mono ?_
  rintro e w3 ⟨i3, s3, p3, k3, c3, q3, l3, d3, j3, sz3, pz3, kz3, cz3, qz3, lz3, dz3, e3, rfl, hS, hB3⟩
  clear m0 m1 m2 m3 m4 m5 m6 m7 m8
  have HE3 := hid (And.intro (HE2.out.1.below hB3) (HE2.out.2.2.trans (hB3.mono HE2.out.2.2.size)))
  clear hB3
  obtain ⟨g0, g1, g2, g3, g4, g5, g6, g7, g8, n0, n1, n2, n3, n4, n5, n6, n7, n8⟩ := HE3.out.1.cells9
  go_wp2_with fail
  exact sabs_ret rfl (HE3.out.1.stores [.int .i64 i3, .bool s3, .slice p3 k3 c3, .slice q3 l3 d3, .int .i64 j3, .bool sz3, .slice pz3 kz3 cz3, .slice qz3 lz3 dz3, .bool e3] rfl ⟨trivial, trivial, trivial, trivial, trivial, trivial, trivial, trivial, trivial, trivial⟩) ⟨i3, s3, p3, k3, c3, q3, l3, d3, j3, sz3, pz3, kz3, cz3, qz3, lz3, dz3, e3, rfl, hid (SRep.stores (k := 0) (l := [.int .i64 i3, .bool s3, .slice p3 k3 c3, .slice q3 l3 d3, .int .i64 j3, .bool sz3, .slice pz3 kz3 cz3, .slice qz3 lz3 dz3, .bool e3]) hS.out HE3.out.1 ⟨trivial, trivial, trivial, trivial, trivial, trivial, trivial, trivial, trivial, trivial⟩), Below.stores (k := 0) (l := [.int .i64 i3, .bool s3, .slice p3 k3 c3, .slice q3 l3 d3, .int .i64 j3, .bool sz3, .slice pz3 kz3 cz3, .slice qz3 lz3 dz3, .bool e3]) HE3.out.2 (by omega)⟩

set_option maxHeartbeats 2000000 in
set_option maxRecDepth 100000 in
theorem sabs_mix (i1 : Int) (s1 : Bool) (p1 : Option Addr) (k1 c1 : Nat) (q1 : Option Addr) (l1 d1 : Nat) (j1 : Int) (sz1 : Bool) (pz1 : Option Addr) (kz1 cz1 : Nat) (qz1 : Option Addr) (lz1 dz1 : Nat) (e1 : Bool) (x : (Int × Bool × Nat × Nat) × (Int × Bool × Nat × Nat) × Bool) (A : Nat) (w : World) (h : SRep w (.agg #[.int .i64 i1, .bool s1, .slice p1 k1 c1, .slice q1 l1 d1, .int .i64 j1, .bool sz1, .slice pz1 kz1 cz1, .slice qz1 lz1 dz1, .bool e1]) x) (hx : EOk A x.1 ∧ EOk A x.2.1) (hA : A ≤ 4000000) (hc : ¬ 0 ≤ esgn x.1) (hd : ¬ esgn x.2.1 ≤ 0) :
    Calls Tryz.prog 80 #[.agg #[.int .i64 i1, .bool s1, .slice p1 k1 c1, .slice q1 l1 d1, .int .i64 j1, .bool sz1, .slice pz1 kz1 cz1, .slice qz1 lz1 dz1, .bool e1]] w fun e w' => ∃ i3 s3 p3 k3 c3 q3 l3 d3 j3 sz3 pz3 kz3 cz3 qz3 lz3 dz3 e3, e = .returned (.agg #[.int .i64 i3, .bool s3, .slice p3 k3 c3, .slice q3 l3 d3, .int .i64 j3, .bool sz3, .slice pz3 kz3 cz3, .slice qz3 lz3 dz3, .bool e3]) ∧ Hid (SRep w' (.agg #[.int .i64 i3, .bool s3, .slice p3 k3 c3, .slice q3 l3 d3, .int .i64 j3, .bool sz3, .slice pz3 kz3 cz3, .slice qz3 lz3 dz3, .bool e3]) ((0, false, 0, 1), emax (eneg x.1) x.2.1, false)) ∧ Below w.heap.size w w' := by
  have h1 := h.ends
  have HL := hid (fun (W : World) (hW : Below w.heap.size w W) => esign_any i1 s1 p1 k1 c1 q1 l1 d1 x.1 W (h1.1.below hW))
  have HH := hid (fun (W : World) (hW : Below w.heap.size w W) => esign_any j1 sz1 pz1 kz1 cz1 qz1 lz1 dz1 x.2.1 W (h1.2.1.below hW))
  have HM := hid (fun (W : World) (hW : Below w.heap.size w W) => eneg_any i1 s1 p1 k1 c1 q1 l1 d1 x.1 A W (h1.1.below hW) hx.1)
  have HG := hid (fun (W : World) (i5 : Int) (s5 : Bool) (p5 : Option Addr) (k5 c5 : Nat) (q5 : Option Addr) (l5 d5 : Nat) (hW : Below w.heap.size w W) (h5 : ERep W (.agg #[.int .i64 i5, .bool s5, .slice p5 k5 c5, .slice q5 l5 d5]) (eneg x.1)) => egreatest_any i5 s5 p5 k5 c5 q5 l5 d5 j1 sz1 pz1 kz1 cz1 qz1 lz1 dz1 (eneg x.1) x.2.1 A W h5 (h1.2.1.below hW) hx.1.neg hx.2 hA)
  obtain ⟨a, ha⟩ : ∃ r, r = esgn x.1 := ⟨_, rfl⟩
  obtain ⟨b, hb⟩ : ∃ r, r = esgn x.2.1 := ⟨_, rfl⟩
  rw [← ha] at HL hc
  rw [← hb] at HH hd
  have f1 : decide (0 ≤ a) = false := decide_eq_false hc
  have f2 : decide (b ≤ 0) = false := decide_eq_false hd
  obtain ⟨z, hz⟩ : ∃ r, r = emax (eneg x.1) x.2.1 := ⟨_, rfl⟩
  rw [← hz] at HG ⊢
  obtain ⟨n, hn⟩ : ∃ r, r = eneg x.1 := ⟨_, rfl⟩
  rw [← hn] at HG HM
  clear h h1 ha hb hc hd hx hz hn
  have HW := hid whole_zero
  go_enter Tryz.func80, Tryz.ntmps80
  go_wp2_with fail
  have HV := hid (pre2 w [.int .i64 i1, .bool s1, .slice p1 k1 c1, .slice q1 l1 d1, .int .i64 j1, .bool sz1, .slice pz1 kz1 cz1, .slice qz1 lz1 dz1, .bool e1] [.int .i64 0, .bool false, .slice none 0 0, .slice none 0 0, .int .i64 0, .bool false, .slice none 0 0, .slice none 0 0, .bool false] 65 65 ⟨trivial, trivial, trivial, trivial, trivial, trivial, trivial, trivial, trivial, trivial⟩ ⟨trivial, trivial, trivial, trivial, trivial, trivial, trivial, trivial, trivial, trivial⟩)
  generalize (w.alloc (.cells #[.int .i64 i1, .bool s1, .slice p1 k1 c1, .slice q1 l1 d1, .int .i64 j1, .bool sz1, .slice pz1 kz1 cz1, .slice qz1 lz1 dz1, .bool e1] 65)).alloc (.cells #[.int .i64 0, .bool false, .slice none 0 0, .slice none 0 0, .int .i64 0, .bool false, .slice none 0 0, .slice none 0 0, .bool false] 65) = W0 at *
  obtain ⟨m0, m1, m2, m3, m4, m5, m6, m7, m8, _⟩ := HV.out.1.cells9
  go_wp2_with fail
  refine (HL.out _ HV.out.2.2).mono ?_
  rintro e w1 ⟨rfl, hB1⟩
  clear m0 m1 m2 m3 m4 m5 m6 m7 m8
  have HE := hid (And.intro (HV.out.2.1.below hB1) (And.intro (HV.out.1.below hB1) (HV.out.2.2.trans (hB1.mono HV.out.2.2.size))))
  clear hB1
  obtain ⟨m0, m1, m2, m3, m4, m5, m6, m7, m8, _⟩ := HE.out.2.1.cells9
  go_wp2_with fail
  refine (HH.out _ HE.out.2.2).mono ?_
  rintro e w2 ⟨rfl, hB2⟩
  clear m0 m1 m2 m3 m4 m5 m6 m7 m8
  have HE2 := hid (And.intro (HE.out.1.below hB2) (And.intro (HE.out.2.1.below hB2) (HE.out.2.2.trans (hB2.mono HE.out.2.2.size))))
  clear hB2
  have HQ := hid (QQ.i1 (cs := [.int .i64 i1, .bool s1, .slice p1 k1 c1, .slice q1 l1 d1, .int .i64 j1, .bool sz1, .slice pz1 kz1 cz1, .slice qz1 lz1 dz1, .bool e1]) HE2.out.2.1 HE2.out.2.2)
  have HS : Hid (∀ w', QQ w [(w.heap.size, [.int .i64 i1, .bool s1, .slice p1 k1 c1, .slice q1 l1 d1, .int .i64 j1, .bool sz1, .slice pz1 kz1 cz1, .slice qz1 lz1 dz1, .bool e1])] w' → (w'.cell? ⟨w.heap.size, 0, none⟩ = some (.int .i64 i1) ∧ w'.cell? ⟨w.heap.size, 1, none⟩ = some (.bool s1) ∧ w'.cell? ⟨w.heap.size, 2, none⟩ = some (.slice p1 k1 c1) ∧ w'.cell? ⟨w.heap.size, 3, none⟩ = some (.slice q1 l1 d1) ∧ w'.cell? ⟨w.heap.size, 4, none⟩ = some (.int .i64 j1) ∧ w'.cell? ⟨w.heap.size, 5, none⟩ = some (.bool sz1) ∧ w'.cell? ⟨w.heap.size, 6, none⟩ = some (.slice pz1 kz1 cz1) ∧ w'.cell? ⟨w.heap.size, 7, none⟩ = some (.slice qz1 lz1 dz1) ∧ w'.cell? ⟨w.heap.size, 8, none⟩ = some (.bool e1) ∧ Hid (QQ w [(w.heap.size, [.int .i64 i1, .bool s1, .slice p1 k1 c1, .slice q1 l1 d1, .int .i64 j1, .bool sz1, .slice pz1 kz1 cz1, .slice qz1 lz1 dz1, .bool e1])] w'))) :=
    hid fun w' hb => ⟨(hb.b1.cells9).1, (hb.b1.cells9).2.1, (hb.b1.cells9).2.2.1, (hb.b1.cells9).2.2.2.1, (hb.b1.cells9).2.2.2.2.1, (hb.b1.cells9).2.2.2.2.2.1, (hb.b1.cells9).2.2.2.2.2.2.1, (hb.b1.cells9).2.2.2.2.2.2.2.1, (hb.b1.cells9).2.2.2.2.2.2.2.2.1, hid hb⟩
  have HN : Hid (Apart [(w.heap.size, [.int .i64 i1, .bool s1, .slice p1 k1 c1, .slice q1 l1 d1, .int .i64 j1, .bool sz1, .slice pz1 kz1 cz1, .slice qz1 lz1 dz1, .bool e1])] (w.heap.size + 1)) := hid (ne1 (by omega))
  have HI : Hid (w.heap.size ≤ w.heap.size + 1) := hid (by omega)
  go_wp2_with fail
  go_region_held3 (fun w' => w'.cell? ⟨w.heap.size, 0, none⟩ = some (.int .i64 i1) ∧ w'.cell? ⟨w.heap.size, 1, none⟩ = some (.bool s1) ∧ w'.cell? ⟨w.heap.size, 2, none⟩ = some (.slice p1 k1 c1) ∧ w'.cell? ⟨w.heap.size, 3, none⟩ = some (.slice q1 l1 d1) ∧ w'.cell? ⟨w.heap.size, 4, none⟩ = some (.int .i64 j1) ∧ w'.cell? ⟨w.heap.size, 5, none⟩ = some (.bool sz1) ∧ w'.cell? ⟨w.heap.size, 6, none⟩ = some (.slice pz1 kz1 cz1) ∧ w'.cell? ⟨w.heap.size, 7, none⟩ = some (.slice qz1 lz1 dz1) ∧ w'.cell? ⟨w.heap.size, 8, none⟩ = some (.bool e1) ∧ Hid (QQ w [(w.heap.size, [.int .i64 i1, .bool s1, .slice p1 k1 c1, .slice q1 l1 d1, .int .i64 j1, .bool sz1, .slice pz1 kz1 cz1, .slice qz1 lz1 dz1, .bool e1])] w'))
    (first | (refine HS.out _ ?_; first | (with_reducible exact HQ.out.drew) | (with_reducible assumption) | (with_reducible refine QQ.st9 ?_ HN.out HI.out; assumption)))
    (first
      | (go_at_call 143; refine (HW.out _).mono ?_; rintro e wa ⟨i4, s4, p4, k4, c4, q4, l4, d4, rfl, hE1, hB1⟩; have hQ1 := HQ.out.drew.call hB1; have hV1 := (HE2.out.1.drew).below hB1)
      | (go_at_call 140; refine (HM.out _ hQ1.bel).mono ?_; rintro e wb ⟨i5, s5, p5, k5, c5, q5, l5, d5, rfl, hE2, hB2⟩; have hQ2 := hQ1.call hB2; have hV2 := hV1.below hB2)
      | (go_at_call 144; refine (HG.out _ i5 s5 p5 k5 c5 q5 l5 d5 hQ2.bel hE2.out).mono ?_; rintro e wc ⟨i6, s6, p6, k6, c6, q6, l6, d6, rfl, hE3, hB3⟩; have hQ3 := hQ2.call hB3; have hV3 := hV2.below hB3; obtain ⟨g0, g1, g2, g3, g4, g5, g6, g7, g8, n0, n1, n2, n3, n4, n5, n6, n7, n8⟩ := hV3.cells9))
  rename_i hHeld
  clear hHeld
  have HE3 := hid (And.intro hV3 (And.intro ((hE1.out.below hB2).below hB3) (And.intro hE3.out hQ3.bel)))
  clear hQ1 hQ2 hQ3 hV1 hV2 hV3 hB1 hB2 hB3 hE1 hE2 hE3
  go_wp2_with fail
  exact sabs_ret rfl (HE3.out.1.stores [.int .i64 i4, .bool s4, .slice p4 k4 c4, .slice q4 l4 d4, .int .i64 i6, .bool s6, .slice p6 k6 c6, .slice q6 l6 d6, .bool false] rfl ⟨trivial, trivial, trivial, trivial, trivial, trivial, trivial, trivial, trivial, trivial⟩) ⟨_, _, _, _, _, _, _, _, _, _, _, _, _, _, _, _, _, rfl, hid ⟨_, _, _, _, _, _, _, _, _, _, _, _, _, _, _, _, _, rfl, ERep.stores (k := 0) (l := [.int .i64 i4, .bool s4, .slice p4 k4 c4, .slice q4 l4 d4, .int .i64 i6, .bool s6, .slice p6 k6 c6, .slice q6 l6 d6, .bool false]) HE3.out.2.1 HE3.out.1 ⟨trivial, trivial, trivial, trivial, trivial, trivial, trivial, trivial, trivial, trivial⟩, ERep.stores (k := 0) (l := [.int .i64 i4, .bool s4, .slice p4 k4 c4, .slice q4 l4 d4, .int .i64 i6, .bool s6, .slice p6 k6 c6, .slice q6 l6 d6, .bool false]) HE3.out.2.2.1 HE3.out.1 ⟨trivial, trivial, trivial, trivial, trivial, trivial, trivial, trivial, trivial, trivial⟩, rfl⟩, Below.stores (k := 0) (l := [.int .i64 i4, .bool s4, .slice p4 k4 c4, .slice q4 l4 d4, .int .i64 i6, .bool s6, .slice p6 k6 c6, .slice q6 l6 d6, .bool false]) HE3.out.2.2.2 (by omega)⟩
theorem sabs_any (i1 : Int) (s1 : Bool) (p1 : Option Addr) (k1 c1 : Nat) (q1 : Option Addr) (l1 d1 : Nat) (j1 : Int) (sz1 : Bool) (pz1 : Option Addr) (kz1 cz1 : Nat) (qz1 : Option Addr) (lz1 dz1 : Nat) (e1 : Bool) (x : (Int × Bool × Nat × Nat) × (Int × Bool × Nat × Nat) × Bool) (A : Nat) (w : World) (h : SRep w (.agg #[.int .i64 i1, .bool s1, .slice p1 k1 c1, .slice q1 l1 d1, .int .i64 j1, .bool sz1, .slice pz1 kz1 cz1, .slice qz1 lz1 dz1, .bool e1]) x) (hx : EOk A x.1 ∧ EOk A x.2.1) (hA : A ≤ 4000000) :
    Calls Tryz.prog 80 #[.agg #[.int .i64 i1, .bool s1, .slice p1 k1 c1, .slice q1 l1 d1, .int .i64 j1, .bool sz1, .slice pz1 kz1 cz1, .slice qz1 lz1 dz1, .bool e1]] w fun e w' => ∃ i3 s3 p3 k3 c3 q3 l3 d3 j3 sz3 pz3 kz3 cz3 qz3 lz3 dz3 e3, e = .returned (.agg #[.int .i64 i3, .bool s3, .slice p3 k3 c3, .slice q3 l3 d3, .int .i64 j3, .bool sz3, .slice pz3 kz3 cz3, .slice qz3 lz3 dz3, .bool e3]) ∧ Hid (SRep w' (.agg #[.int .i64 i3, .bool s3, .slice p3 k3 c3, .slice q3 l3 d3, .int .i64 j3, .bool sz3, .slice pz3 kz3 cz3, .slice qz3 lz3 dz3, .bool e3]) (sabs x)) ∧ Below w.heap.size w w' := by
  unfold sabs
  by_cases hc : 0 ≤ esgn x.1
  · rw [if_pos hc]
    exact sabs_pos i1 s1 p1 k1 c1 q1 l1 d1 j1 sz1 pz1 kz1 cz1 qz1 lz1 dz1 e1 x w h hc
  · rw [if_neg hc]
    by_cases hd : esgn x.2.1 ≤ 0
    · rw [if_pos hd]
      exact sabs_neg i1 s1 p1 k1 c1 q1 l1 d1 j1 sz1 pz1 kz1 cz1 qz1 lz1 dz1 e1 x A w h hx hc hd
    · rw [if_neg hd]
      exact sabs_mix i1 s1 p1 k1 c1 q1 l1 d1 j1 sz1 pz1 kz1 cz1 qz1 lz1 dz1 e1 x A w h hx hA hc hd

end Go.Proofs.YtpdpabpdejmdbaaGreatDoor
