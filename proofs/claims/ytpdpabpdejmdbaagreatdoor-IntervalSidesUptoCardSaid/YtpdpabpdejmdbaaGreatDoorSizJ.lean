/- Size of the reference: the absolute values of a set. -/

import Derived.Test.YtpdpabpdejmdbaaGreatDoorAbsI
namespace Go.Proofs.YtpdpabpdejmdbaaGreatDoor
open Go.RowKit Dg

theorem jSize_ret {W : World} {B : Nat} {a0 a1 a2 a3 a4 a5 a6 a7 a8 : Value} {tm : Array Value} {R : Ending → World → Prop} (h2 : tm[2]?.getD undef = .pointer (some ⟨B, 0, none⟩)) (hV : Box W B #[a0, a1, a2, a3, a4, a5, a6, a7, a8]) (hR : R (.returned (.agg #[a0, a1, a2, a3, a4, a5, a6, a7, a8])) W) :
    bodyPost Tryz.prog Tryz.f81 R .ret { tmps := tm, defers := [] } W := by
  obtain ⟨g0, g1, g2, g3, g4, g5, g6, g7, g8, _⟩ := hV.cells9
  exact bodyPost_ret (v := .agg #[a0, a1, a2, a3, a4, a5, a6, a7, a8]) (by simp [results, Tryz.results81, go_sem, h2, g0, g1, g2, g3, g4, g5, g6, g7, g8]) rfl hR
set_option maxHeartbeats 8000000 in
set_option maxRecDepth 100000 in
theorem jSize_id (s1 : Bool) (p1 : Option Addr) (k1 c1 : Nat) (q1 : Option Addr) (l1 d1 : Nat) (sz1 : Bool) (pz1 : Option Addr) (kz1 cz1 : Nat) (qz1 : Option Addr) (lz1 dz1 : Nat) (x1 : Bool) (y1 : Bool) (e1 : Bool) (z : Int) (r : (Bool × Nat × Nat) × (Bool × Nat × Nat) × Bool × Bool × Bool) (w : World) (h : JRep w (.agg #[.bool s1, .slice p1 k1 c1, .slice q1 l1 d1, .bool sz1, .slice pz1 kz1 cz1, .slice qz1 lz1 dz1, .bool x1, .bool y1, .bool e1]) r) (hz : z = 4 ∨ z = 0 ∨ z = 2 ∨ z = 1)
    (hg : ∀ W, Below w.heap.size w W → Calls Tryz.prog 89 #[.agg #[.bool s1, .slice p1 k1 c1, .slice q1 l1 d1, .bool sz1, .slice pz1 kz1 cz1, .slice qz1 lz1 dz1, .bool x1, .bool y1, .bool e1]] W fun e w' => e = .returned (.int .i64 z) ∧ Below W.heap.size W w') :
    Calls Tryz.prog 81 #[.agg #[.bool s1, .slice p1 k1 c1, .slice q1 l1 d1, .bool sz1, .slice pz1 kz1 cz1, .slice qz1 lz1 dz1, .bool x1, .bool y1, .bool e1]] w fun e w' => ∃ s3 p3 k3 c3 q3 l3 d3 sz3 pz3 kz3 cz3 qz3 lz3 dz3 x3 y3 e3, e = .returned (.agg #[.bool s3, .slice p3 k3 c3, .slice q3 l3 d3, .bool sz3, .slice pz3 kz3 cz3, .slice qz3 lz3 dz3, .bool x3, .bool y3, .bool e3]) ∧ Hid (JRep w' (.agg #[.bool s3, .slice p3 k3 c3, .slice q3 l3 d3, .bool sz3, .slice pz3 kz3 cz3, .slice qz3 lz3 dz3, .bool x3, .bool y3, .bool e3]) r) ∧ Below w.heap.size w w' := by
  have HZ := hid h
  have HG := hid hg
  clear h hg
  rcases hz with rfl | rfl | rfl | rfl
  all_goals
    go_enter Tryz.func81, Tryz.ntmps81
    go_upto_region 1 with fail
    have HV := hid (pre2 w [.bool s1, .slice p1 k1 c1, .slice q1 l1 d1, .bool sz1, .slice pz1 kz1 cz1, .slice qz1 lz1 dz1, .bool x1, .bool y1, .bool e1] [.bool false, .slice none 0 0, .slice none 0 0, .bool false, .slice none 0 0, .slice none 0 0, .bool false, .bool false, .bool false] 73 73 nd_J nd_J)
    generalize (w.alloc (.cells #[.bool s1, .slice p1 k1 c1, .slice q1 l1 d1, .bool sz1, .slice pz1 kz1 cz1, .slice qz1 lz1 dz1, .bool x1, .bool y1, .bool e1] 73)).alloc (.cells #[.bool false, .slice none 0 0, .slice none 0 0, .bool false, .slice none 0 0, .slice none 0 0, .bool false, .bool false, .bool false] 73) = W0 at *
    obtain ⟨m0, m1, m2, m3, m4, m5, m6, m7, m8, _⟩ := HV.out.1.cells9
    go_wp2_with fail
    refine (HG.out _ HV.out.2.2).mono ?_
    rintro e w1 ⟨rfl, hB1⟩
    clear m0 m1 m2 m3 m4 m5 m6 m7 m8
    have HE := hid (And.intro (HV.out.2.1.below hB1) (And.intro (HV.out.1.below hB1) (HV.out.2.2.trans (hB1.mono HV.out.2.2.size))))
    clear hB1
    obtain ⟨m0, m1, m2, m3, m4, m5, m6, m7, m8, _⟩ := HE.out.2.1.cells9
    obtain ⟨g0, g1, g2, g3, g4, g5, g6, g7, g8, n0, n1, n2, n3, n4, n5, n6, n7, n8⟩ := HE.out.1.cells9
    go_wp2_with fail
    exact jSize_ret rfl (HE.out.1.stores [.bool s1, .slice p1 k1 c1, .slice q1 l1 d1, .bool sz1, .slice pz1 kz1 cz1, .slice qz1 lz1 dz1, .bool x1, .bool y1, .bool e1] rfl nd_J) ⟨_, _, _, _, _, _, _, _, _, _, _, _, _, _, _, _, _, rfl, hid (JRep.stores (k := 0) (l := [.bool s1, .slice p1 k1 c1, .slice q1 l1 d1, .bool sz1, .slice pz1 kz1 cz1, .slice qz1 lz1 dz1, .bool x1, .bool y1, .bool e1]) (HZ.out.below HE.out.2.2) HE.out.1 nd_J), Below.stores (k := 0) (l := [.bool s1, .slice p1 k1 c1, .slice q1 l1 d1, .bool sz1, .slice pz1 kz1 cz1, .slice qz1 lz1 dz1, .bool x1, .bool y1, .bool e1]) HE.out.2.2 (by omega)⟩

set_option maxHeartbeats 8000000 in
set_option maxRecDepth 100000 in
theorem jSize_neg (s1 : Bool) (p1 : Option Addr) (k1 c1 : Nat) (q1 : Option Addr) (l1 d1 : Nat) (sz1 : Bool) (pz1 : Option Addr) (kz1 cz1 : Nat) (qz1 : Option Addr) (lz1 dz1 : Nat) (x1 : Bool) (y1 : Bool) (e1 : Bool) (z : Int) (r : (Bool × Nat × Nat) × (Bool × Nat × Nat) × Bool × Bool × Bool) (w : World) (h : JRep w (.agg #[.bool s1, .slice p1 k1 c1, .slice q1 l1 d1, .bool sz1, .slice pz1 kz1 cz1, .slice qz1 lz1 dz1, .bool x1, .bool y1, .bool e1]) r) (hz : z = -2 ∨ z = -1)
    (hg : ∀ W, Below w.heap.size w W → Calls Tryz.prog 89 #[.agg #[.bool s1, .slice p1 k1 c1, .slice q1 l1 d1, .bool sz1, .slice pz1 kz1 cz1, .slice qz1 lz1 dz1, .bool x1, .bool y1, .bool e1]] W fun e w' => e = .returned (.int .i64 z) ∧ Below W.heap.size W w') :
    Calls Tryz.prog 81 #[.agg #[.bool s1, .slice p1 k1 c1, .slice q1 l1 d1, .bool sz1, .slice pz1 kz1 cz1, .slice qz1 lz1 dz1, .bool x1, .bool y1, .bool e1]] w fun e w' => ∃ s3 p3 k3 c3 q3 l3 d3 sz3 pz3 kz3 cz3 qz3 lz3 dz3 x3 y3 e3, e = .returned (.agg #[.bool s3, .slice p3 k3 c3, .slice q3 l3 d3, .bool sz3, .slice pz3 kz3 cz3, .slice qz3 lz3 dz3, .bool x3, .bool y3, .bool e3]) ∧ Hid (JRep w' (.agg #[.bool s3, .slice p3 k3 c3, .slice q3 l3 d3, .bool sz3, .slice pz3 kz3 cz3, .slice qz3 lz3 dz3, .bool x3, .bool y3, .bool e3]) (jminus r)) ∧ Below w.heap.size w w' := by
  have HM := hid (fun (W : World) (hW : Below w.heap.size w W) => jMinus_any s1 p1 k1 c1 q1 l1 d1 sz1 pz1 kz1 cz1 qz1 lz1 dz1 x1 y1 e1 r W (h.below hW))
  have HG := hid hg
  clear h hg
  rcases hz with rfl | rfl
  all_goals
    go_enter Tryz.func81, Tryz.ntmps81
    go_upto_region 1 with fail
    have HV := hid (pre2 w [.bool s1, .slice p1 k1 c1, .slice q1 l1 d1, .bool sz1, .slice pz1 kz1 cz1, .slice qz1 lz1 dz1, .bool x1, .bool y1, .bool e1] [.bool false, .slice none 0 0, .slice none 0 0, .bool false, .slice none 0 0, .slice none 0 0, .bool false, .bool false, .bool false] 73 73 nd_J nd_J)
    generalize (w.alloc (.cells #[.bool s1, .slice p1 k1 c1, .slice q1 l1 d1, .bool sz1, .slice pz1 kz1 cz1, .slice qz1 lz1 dz1, .bool x1, .bool y1, .bool e1] 73)).alloc (.cells #[.bool false, .slice none 0 0, .slice none 0 0, .bool false, .slice none 0 0, .slice none 0 0, .bool false, .bool false, .bool false] 73) = W0 at *
    obtain ⟨m0, m1, m2, m3, m4, m5, m6, m7, m8, _⟩ := HV.out.1.cells9
    go_wp2_with fail
    refine (HG.out _ HV.out.2.2).mono ?_
    rintro e w1 ⟨rfl, hB1⟩
    clear m0 m1 m2 m3 m4 m5 m6 m7 m8
    have HE := hid (And.intro (HV.out.2.1.below hB1) (And.intro (HV.out.1.below hB1) (HV.out.2.2.trans (hB1.mono HV.out.2.2.size))))
    clear hB1
    obtain ⟨m0, m1, m2, m3, m4, m5, m6, m7, m8, _⟩ := HE.out.2.1.cells9
    go_wp2_with fail
    refine (HM.out _ HE.out.2.2).mono ?_
    rintro e w3 ⟨s3, p3, k3, c3, q3, l3, d3, sz3, pz3, kz3, cz3, qz3, lz3, dz3, x3, y3, e3, rfl, hS, hB3⟩
    clear m0 m1 m2 m3 m4 m5 m6 m7 m8
    have HE3 := hid (And.intro (HE.out.1.below hB3) (HE.out.2.2.trans (hB3.mono HE.out.2.2.size)))
    clear hB3
    obtain ⟨g0, g1, g2, g3, g4, g5, g6, g7, g8, n0, n1, n2, n3, n4, n5, n6, n7, n8⟩ := HE3.out.1.cells9
    go_wp2_with fail
    exact jSize_ret rfl (HE3.out.1.stores [.bool s3, .slice p3 k3 c3, .slice q3 l3 d3, .bool sz3, .slice pz3 kz3 cz3, .slice qz3 lz3 dz3, .bool x3, .bool y3, .bool e3] rfl nd_J) ⟨s3, p3, k3, c3, q3, l3, d3, sz3, pz3, kz3, cz3, qz3, lz3, dz3, x3, y3, e3, rfl, hid (JRep.stores (k := 0) (l := [.bool s3, .slice p3 k3 c3, .slice q3 l3 d3, .bool sz3, .slice pz3 kz3 cz3, .slice qz3 lz3 dz3, .bool x3, .bool y3, .bool e3]) hS.out HE3.out.1 nd_J), Below.stores (k := 0) (l := [.bool s3, .slice p3 k3 c3, .slice q3 l3 d3, .bool sz3, .slice pz3 kz3 cz3, .slice qz3 lz3 dz3, .bool x3, .bool y3, .bool e3]) HE3.out.2 (by omega)⟩

theorem jrep_inf (w : World) : JRep w (.agg #[.bool false, .slice none 0 0, .slice none 0 0, .bool false, .slice none 0 0, .slice none 0 0, .bool false, .bool true, .bool false]) ((false, 0, 0), (false, 0, 0), false, true, false) := ⟨_, _, _, _, _, _, _, _, _, _, _, _, _, _, _, _, _, rfl, QNorm.zero w, QNorm.zero w, rfl, rfl, rfl⟩
/-- The absolute values of a set with numbers on both sides of 0. -/
def jmix (r : (Bool × Nat × Nat) × (Bool × Nat × Nat) × Bool × Bool × Bool) : (Bool × Nat × Nat) × (Bool × Nat × Nat) × Bool × Bool × Bool := if r.2.2.1 || r.2.2.2.1 then ((false, 0, 0), (false, 0, 0), false, true, false) else ((false, 0, 0), qmax (fneg r.1) r.2.1, false, false, false)
set_option maxHeartbeats 8000000 in
set_option maxRecDepth 100000 in
theorem jSize_inf (s1 : Bool) (p1 : Option Addr) (k1 c1 : Nat) (q1 : Option Addr) (l1 d1 : Nat) (sz1 : Bool) (pz1 : Option Addr) (kz1 cz1 : Nat) (qz1 : Option Addr) (lz1 dz1 : Nat) (x1 : Bool) (y1 : Bool) (e1 : Bool) (w : World) (hxy : (x1 || y1) = true)
    (hg : ∀ W, Below w.heap.size w W → Calls Tryz.prog 89 #[.agg #[.bool s1, .slice p1 k1 c1, .slice q1 l1 d1, .bool sz1, .slice pz1 kz1 cz1, .slice qz1 lz1 dz1, .bool x1, .bool y1, .bool e1]] W fun e w' => e = .returned (.int .i64 3) ∧ Below W.heap.size W w') :
    Calls Tryz.prog 81 #[.agg #[.bool s1, .slice p1 k1 c1, .slice q1 l1 d1, .bool sz1, .slice pz1 kz1 cz1, .slice qz1 lz1 dz1, .bool x1, .bool y1, .bool e1]] w fun e w' => ∃ s3 p3 k3 c3 q3 l3 d3 sz3 pz3 kz3 cz3 qz3 lz3 dz3 x3 y3 e3, e = .returned (.agg #[.bool s3, .slice p3 k3 c3, .slice q3 l3 d3, .bool sz3, .slice pz3 kz3 cz3, .slice qz3 lz3 dz3, .bool x3, .bool y3, .bool e3]) ∧ Hid (JRep w' (.agg #[.bool s3, .slice p3 k3 c3, .slice q3 l3 d3, .bool sz3, .slice pz3 kz3 cz3, .slice qz3 lz3 dz3, .bool x3, .bool y3, .bool e3]) ((false, 0, 0), (false, 0, 0), false, true, false)) ∧ Below w.heap.size w w' := by
  have HG := hid hg
  clear hg
  go_enter Tryz.func81, Tryz.ntmps81
  go_upto_region 1 with fail
  have HV := hid (pre2 w [.bool s1, .slice p1 k1 c1, .slice q1 l1 d1, .bool sz1, .slice pz1 kz1 cz1, .slice qz1 lz1 dz1, .bool x1, .bool y1, .bool e1] [.bool false, .slice none 0 0, .slice none 0 0, .bool false, .slice none 0 0, .slice none 0 0, .bool false, .bool false, .bool false] 73 73 nd_J nd_J)
  generalize (w.alloc (.cells #[.bool s1, .slice p1 k1 c1, .slice q1 l1 d1, .bool sz1, .slice pz1 kz1 cz1, .slice qz1 lz1 dz1, .bool x1, .bool y1, .bool e1] 73)).alloc (.cells #[.bool false, .slice none 0 0, .slice none 0 0, .bool false, .slice none 0 0, .slice none 0 0, .bool false, .bool false, .bool false] 73) = W0 at *
  obtain ⟨m0, m1, m2, m3, m4, m5, m6, m7, m8, _⟩ := HV.out.1.cells9
  go_wp2_with fail
  refine (HG.out _ HV.out.2.2).mono ?_
  rintro e w1 ⟨rfl, hB1⟩
  clear m0 m1 m2 m3 m4 m5 m6 m7 m8
  have HE := hid (And.intro (HV.out.2.1.below hB1) (And.intro (HV.out.1.below hB1) (HV.out.2.2.trans (hB1.mono HV.out.2.2.size))))
  clear hB1
  obtain ⟨m0, m1, m2, m3, m4, m5, m6, m7, m8, _⟩ := HE.out.2.1.cells9
  clear m0 m1 m2 m3 m4 m5 m6 m7 m8
  cases x1 <;> cases y1
  · exact absurd hxy (by decide)
  all_goals
    obtain ⟨m0, m1, m2, m3, m4, m5, m6, m7, m8, _⟩ := HE.out.2.1.cells9
    go_upto_region 13 with fail
    generalize hA : World.alloc _ _ = w2
    obtain ⟨hB2, hX2, _⟩ := al_step hA nd_J
    clear hA m0 m1 m2 m3 m4 m5 m6 m7 m8
    have hlt := HE.out.1.lt
    have HE3 := hid (And.intro (HE.out.1.below hB2) (HE.out.2.2.trans (hB2.mono HE.out.2.2.size)))
    clear hB2
    obtain ⟨m0, m1, m2, m3, m4, m5, m6, m7, m8, _⟩ := hX2.cells9
    obtain ⟨g0, g1, g2, g3, g4, g5, g6, g7, g8, n0, n1, n2, n3, n4, n5, n6, n7, n8⟩ := HE3.out.1.cells9
    go_wp2_with fail
    exact jSize_ret rfl (HE3.out.1.stores [.bool false, .slice none 0 0, .slice none 0 0, .bool false, .slice none 0 0, .slice none 0 0, .bool false, .bool true, .bool false] rfl nd_J) ⟨_, _, _, _, _, _, _, _, _, _, _, _, _, _, _, _, _, rfl, hid (JRep.stores (k := 0) (l := [.bool false, .slice none 0 0, .slice none 0 0, .bool false, .slice none 0 0, .slice none 0 0, .bool false, .bool true, .bool false]) (jrep_inf _) HE3.out.1 nd_J), Below.stores (k := 0) (l := [.bool false, .slice none 0 0, .slice none 0 0, .bool false, .slice none 0 0, .slice none 0 0, .bool false, .bool true, .bool false]) HE3.out.2 (by omega)⟩

theorem QOk.neg {t : Bool × Nat × Nat} (h : QOk t) : QOk (fneg t) := by
  obtain ⟨s, n, d, hd, rfl⟩ := h.1
  rw [fneg_frac hd]
  exact ⟨⟨_, _, _, hd, rfl⟩, h.2.1, h.2.2⟩
theorem QQ.st3o {w w1 : World} {l : List (Nat × List Value)} {B : Nat} {a b c : Value} (h : QQ w l w1) (hne : Apart l B) (hB : w.heap.size ≤ B) : QQ w l (((w1.setCell ⟨B, 3, none⟩ a).setCell ⟨B, 4, none⟩ b).setCell ⟨B, 5, none⟩ c) := QQ.stores (k := 3) (vs := [a, b, c]) h hne hB
set_option maxHeartbeats 8000000 in
set_option maxRecDepth 100000 in
theorem jSize_fin (s1 : Bool) (p1 : Option Addr) (k1 c1 : Nat) (q1 : Option Addr) (l1 d1 : Nat) (sz1 : Bool) (pz1 : Option Addr) (kz1 cz1 : Nat) (qz1 : Option Addr) (lz1 dz1 : Nat) (e1 : Bool) (a b : Bool × Nat × Nat) (w : World) (ha : QNorm w (.agg #[.bool s1, .slice p1 k1 c1, .slice q1 l1 d1]) a) (hb : QNorm w (.agg #[.bool sz1, .slice pz1 kz1 cz1, .slice qz1 lz1 dz1]) b) (hx : QOk a) (hy : QOk b)
    (hg : ∀ W, Below w.heap.size w W → Calls Tryz.prog 89 #[.agg #[.bool s1, .slice p1 k1 c1, .slice q1 l1 d1, .bool sz1, .slice pz1 kz1 cz1, .slice qz1 lz1 dz1, .bool false, .bool false, .bool e1]] W fun e w' => e = .returned (.int .i64 3) ∧ Below W.heap.size W w') :
    Calls Tryz.prog 81 #[.agg #[.bool s1, .slice p1 k1 c1, .slice q1 l1 d1, .bool sz1, .slice pz1 kz1 cz1, .slice qz1 lz1 dz1, .bool false, .bool false, .bool e1]] w fun e w' => ∃ s3 p3 k3 c3 q3 l3 d3 sz3 pz3 kz3 cz3 qz3 lz3 dz3 x3 y3 e3, e = .returned (.agg #[.bool s3, .slice p3 k3 c3, .slice q3 l3 d3, .bool sz3, .slice pz3 kz3 cz3, .slice qz3 lz3 dz3, .bool x3, .bool y3, .bool e3]) ∧ Hid (JRep w' (.agg #[.bool s3, .slice p3 k3 c3, .slice q3 l3 d3, .bool sz3, .slice pz3 kz3 cz3, .slice qz3 lz3 dz3, .bool x3, .bool y3, .bool e3]) ((false, 0, 0), qmax (fneg a) b, false, false, false)) ∧ Below w.heap.size w w' := by
  have HG := hid hg
  have HL := hid (fun (W : World) (hW : Below w.heap.size w W) => qopen (t := fneg a) (Opp_any (.agg #[.bool s1, .slice p1 k1 c1, .slice q1 l1 d1]) a W (ha.below hW)))
  have HM := hid (fun (W : World) (s4 : Bool) (p4 : Option Addr) (k4 c4 : Nat) (q4 : Option Addr) (l4 d4 : Nat) (hW : Below w.heap.size w W) (h4 : QNorm W (.agg #[.bool s4, .slice p4 k4 c4, .slice q4 l4 d4]) (fneg a)) => jMost_any s4 p4 k4 c4 q4 l4 d4 sz1 pz1 kz1 cz1 qz1 lz1 dz1 (fneg a) b W h4 (hb.below hW) hx.neg hy)
  obtain ⟨n, hn⟩ : ∃ r, r = fneg a := ⟨_, rfl⟩
  rw [← hn] at HL HM ⊢
  obtain ⟨z, hz⟩ : ∃ r, r = qmax n b := ⟨_, rfl⟩
  rw [← hz] at HM ⊢
  clear hg ha hb hx hy hn hz
  go_enter Tryz.func81, Tryz.ntmps81
  go_upto_region 1 with fail
  have HV := hid (pre2 w [.bool s1, .slice p1 k1 c1, .slice q1 l1 d1, .bool sz1, .slice pz1 kz1 cz1, .slice qz1 lz1 dz1, .bool false, .bool false, .bool e1] [.bool false, .slice none 0 0, .slice none 0 0, .bool false, .slice none 0 0, .slice none 0 0, .bool false, .bool false, .bool false] 73 73 nd_J nd_J)
  generalize (w.alloc (.cells #[.bool s1, .slice p1 k1 c1, .slice q1 l1 d1, .bool sz1, .slice pz1 kz1 cz1, .slice qz1 lz1 dz1, .bool false, .bool false, .bool e1] 73)).alloc (.cells #[.bool false, .slice none 0 0, .slice none 0 0, .bool false, .slice none 0 0, .slice none 0 0, .bool false, .bool false, .bool false] 73) = W0 at *
  obtain ⟨m0, m1, m2, m3, m4, m5, m6, m7, m8, _⟩ := HV.out.1.cells9
  go_wp2_with fail
  refine (HG.out _ HV.out.2.2).mono ?_
  rintro e w1 ⟨rfl, hB1⟩
  clear m0 m1 m2 m3 m4 m5 m6 m7 m8
  have HE := hid (And.intro (HV.out.2.1.below hB1) (And.intro (HV.out.1.below hB1) (HV.out.2.2.trans (hB1.mono HV.out.2.2.size))))
  clear hB1
  obtain ⟨m0, m1, m2, m3, m4, m5, m6, m7, m8, _⟩ := HE.out.2.1.cells9
  go_upto_region 12 with fail
  generalize hA : World.alloc _ _ = w2
  obtain ⟨hB2, hX2, hz2⟩ := al_step hA nd_J
  clear hA m0 m1 m2 m3 m4 m5 m6 m7 m8
  have hlt := HE.out.1.lt
  have HX := hid hX2
  have HE3 := hid (And.intro (HE.out.1.below hB2) (HE.out.2.2.trans (hB2.mono HE.out.2.2.size)))
  have HQ := hid (QQ.i1 (cs := [.bool s1, .slice p1 k1 c1, .slice q1 l1 d1, .bool sz1, .slice pz1 kz1 cz1, .slice qz1 lz1 dz1, .bool false, .bool false, .bool e1]) (HE.out.2.1.below hB2) (HE.out.2.2.trans (hB2.mono HE.out.2.2.size)))
  clear hB2 hX2
  have HS : Hid (∀ w', QQ w [(w.heap.size, [.bool s1, .slice p1 k1 c1, .slice q1 l1 d1, .bool sz1, .slice pz1 kz1 cz1, .slice qz1 lz1 dz1, .bool false, .bool false, .bool e1])] w' → (w'.cell? ⟨w.heap.size, 0, none⟩ = some (.bool s1) ∧ w'.cell? ⟨w.heap.size, 1, none⟩ = some (.slice p1 k1 c1) ∧ w'.cell? ⟨w.heap.size, 2, none⟩ = some (.slice q1 l1 d1) ∧ w'.cell? ⟨w.heap.size, 3, none⟩ = some (.bool sz1) ∧ w'.cell? ⟨w.heap.size, 4, none⟩ = some (.slice pz1 kz1 cz1) ∧ w'.cell? ⟨w.heap.size, 5, none⟩ = some (.slice qz1 lz1 dz1) ∧ w'.cell? ⟨w.heap.size, 6, none⟩ = some (.bool false) ∧ w'.cell? ⟨w.heap.size, 7, none⟩ = some (.bool false) ∧ w'.cell? ⟨w.heap.size, 8, none⟩ = some (.bool e1) ∧ Hid (QQ w [(w.heap.size, [.bool s1, .slice p1 k1 c1, .slice q1 l1 d1, .bool sz1, .slice pz1 kz1 cz1, .slice qz1 lz1 dz1, .bool false, .bool false, .bool e1])] w'))) :=
    hid fun w' hb => ⟨(hb.b1.cells9).1, (hb.b1.cells9).2.1, (hb.b1.cells9).2.2.1, (hb.b1.cells9).2.2.2.1, (hb.b1.cells9).2.2.2.2.1, (hb.b1.cells9).2.2.2.2.2.1, (hb.b1.cells9).2.2.2.2.2.2.1, (hb.b1.cells9).2.2.2.2.2.2.2.1, (hb.b1.cells9).2.2.2.2.2.2.2.2.1, hid hb⟩
  have HN : Hid (Apart [(w.heap.size, [.bool s1, .slice p1 k1 c1, .slice q1 l1 d1, .bool sz1, .slice pz1 kz1 cz1, .slice qz1 lz1 dz1, .bool false, .bool false, .bool e1])] w1.heap.size) := hid (ne1 (by omega))
  have HI : Hid (w.heap.size ≤ w1.heap.size) := hid (by omega)
  go_region_held3 (fun w' => w'.cell? ⟨w.heap.size, 0, none⟩ = some (.bool s1) ∧ w'.cell? ⟨w.heap.size, 1, none⟩ = some (.slice p1 k1 c1) ∧ w'.cell? ⟨w.heap.size, 2, none⟩ = some (.slice q1 l1 d1) ∧ w'.cell? ⟨w.heap.size, 3, none⟩ = some (.bool sz1) ∧ w'.cell? ⟨w.heap.size, 4, none⟩ = some (.slice pz1 kz1 cz1) ∧ w'.cell? ⟨w.heap.size, 5, none⟩ = some (.slice qz1 lz1 dz1) ∧ w'.cell? ⟨w.heap.size, 6, none⟩ = some (.bool false) ∧ w'.cell? ⟨w.heap.size, 7, none⟩ = some (.bool false) ∧ w'.cell? ⟨w.heap.size, 8, none⟩ = some (.bool e1) ∧ Hid (QQ w [(w.heap.size, [.bool s1, .slice p1 k1 c1, .slice q1 l1 d1, .bool sz1, .slice pz1 kz1 cz1, .slice qz1 lz1 dz1, .bool false, .bool false, .bool e1])] w'))
    (first | (refine HS.out _ ?_; first | (with_reducible exact HQ.out.drew) | (with_reducible assumption) | (with_reducible refine QQ.st3o ?_ HN.out HI.out; assumption)))
    (first
      | (go_at_call 141; refine (HL.out _ HQ.out.drew.bel).mono ?_; rintro e wb ⟨s4, p4, k4, c4, q4, l4, d4, rfl, hE2, hB2⟩; have hQ2 := HQ.out.drew.call hB2; have hV2 := (HE3.out.1.drew).below hB2; have hX2 := (HX.out.drew).below hB2)
      | (go_at_call 145; refine (HM.out _ s4 p4 k4 c4 q4 l4 d4 hQ2.bel hE2).mono ?_; rintro e wc ⟨s5, p5, k5, c5, q5, l5, d5, rfl, hE3, hB3⟩; have hQ3 := hQ2.call hB3; have hV3 := hV2.below hB3; have hX3 := hX2.below hB3; obtain ⟨g0, g1, g2, g3, g4, g5, g6, g7, g8, n0, n1, n2, n3, n4, n5, n6, n7, n8⟩ := hX3.cells9))
  rename_i hHeld
  clear hHeld
  generalize hW : World.setCell _ _ _ = w4
  have hX4 : Box w4 w1.heap.size #[.bool false, .slice none 0 0, .slice none 0 0, .bool s5, .slice p5 k5 c5, .slice q5 l5 d5, .bool false, .bool false, .bool false] := by rw [← hW]; exact Box.stores_at (m := [.bool false, .slice none 0 0, .slice none 0 0, .bool false, .slice none 0 0, .slice none 0 0, .bool false, .bool false, .bool false]) (k := 3) (l := [.bool s5, .slice p5 k5 c5, .slice q5 l5 d5]) hX3 ⟨trivial, trivial, trivial, trivial⟩
  have hV4 : Box w4 (w.heap.size + 1) _ := Box.of_eq (Box.stores_other (k := 3) (l := [.bool s5, .slice p5 k5 c5, .slice q5 l5 d5]) hV3 (by omega)) hW
  have hF4 : QNorm w4 (.agg #[.bool s5, .slice p5 k5 c5, .slice q5 l5 d5]) z := by rw [← hW]; exact QNorm.stores (k := 3) (l := [.bool s5, .slice p5 k5 c5, .slice q5 l5 d5]) hE3.out hX3 ⟨trivial, trivial, trivial, trivial⟩
  have hB4 : Below w.heap.size w w4 := by rw [← hW]; exact Below.stores (k := 3) (l := [.bool s5, .slice p5 k5 c5, .slice q5 l5 d5]) hQ3.bel (by omega)
  have HE4 := hid (And.intro hV4 (And.intro hX4 (And.intro hF4 hB4)))
  clear hW hX2 hX3 hX4 hV2 hV3 hV4 hF4 hB4 hQ2 hQ3 hB2 hB3 hE2 hE3 g0 g1 g2 g3 g4 g5 g6 g7 g8 n0 n1 n2 n3 n4 n5 n6 n7 n8
  obtain ⟨m0, m1, m2, m3, m4, m5, m6, m7, m8, _⟩ := HE4.out.2.1.cells9
  obtain ⟨g0, g1, g2, g3, g4, g5, g6, g7, g8, n0, n1, n2, n3, n4, n5, n6, n7, n8⟩ := HE4.out.1.cells9
  go_wp2_with fail
  exact jSize_ret rfl (HE4.out.1.stores [.bool false, .slice none 0 0, .slice none 0 0, .bool s5, .slice p5 k5 c5, .slice q5 l5 d5, .bool false, .bool false, .bool false] rfl nd_J) ⟨_, _, _, _, _, _, _, _, _, _, _, _, _, _, _, _, _, rfl, hid (JRep.stores (k := 0) (l := [.bool false, .slice none 0 0, .slice none 0 0, .bool s5, .slice p5 k5 c5, .slice q5 l5 d5, .bool false, .bool false, .bool false]) ⟨_, _, _, _, _, _, _, _, _, _, _, _, _, _, _, _, _, rfl, QNorm.zero _, HE4.out.2.2.1, rfl, rfl, rfl⟩ HE4.out.1 nd_J), Below.stores (k := 0) (l := [.bool false, .slice none 0 0, .slice none 0 0, .bool s5, .slice p5 k5 c5, .slice q5 l5 d5, .bool false, .bool false, .bool false]) HE4.out.2.2.2 (by omega)⟩
end Go.Proofs.YtpdpabpdejmdbaaGreatDoor
