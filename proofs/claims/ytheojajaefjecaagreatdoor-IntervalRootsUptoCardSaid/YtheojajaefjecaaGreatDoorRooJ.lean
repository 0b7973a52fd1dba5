/- Root of the reference. -/
import Derived.Test.YtheojajaefjecaaGreatDoorRndJ
import Derived.Test.YtheojajaefjecaaGreatDoorIsJ
set_option maxHeartbeats 4000000
set_option maxRecDepth 100000
namespace Go.Proofs.YtheojajaefjecaaGreatDoor
open Go.RowKit Dg
theorem jRoot_ret {W : World} {B : Nat} {a0 a1 a2 a3 a4 a5 a6 a7 ev : Value} {tm : Array Value} {R : Ending → World → Prop} (h2 : tm[6]?.getD undef = .pointer (some ⟨B, 0, none⟩)) (h3 : tm[7]?.getD undef = ev) (hV : Box W B #[a0, a1, a2, a3, a4, a5, a6, a7]) (hR : R (.returned (.tuple #[.agg #[a0, a1, a2, a3, a4, a5, a6, a7], ev])) W) :
  bodyPost Tryz.prog Tryz.f23 R .ret { tmps := tm, defers := [] } W := by
 obtain ⟨g0, g1, g2, g3, g4, g5, g6, g7, _⟩ := hV.cells8
 exact bodyPost_ret (v := .tuple #[.agg #[a0, a1, a2, a3, a4, a5, a6, a7], ev]) (by simp [results, Tryz.results23, go_sem, h2, h3, g0, g1, g2, g3, g4, g5, g6, g7]) rfl hR
theorem jRoot_fin {w W : World} {B : Nat} {s5 : Bool} {p5 : Option Addr} {k5 c5 : Nat} {q5 : Option Addr} {l5 d5 : Nat} {sz5 : Bool} {pz5 : Option Addr} {kz5 cz5 : Nat} {qz5 : Option Addr} {lz5 dz5 : Nat} {x5 : Bool} {y5 : Bool} {cs : Array Value} {tm : Array Value} {c : Int} {D : (Bool × Nat × Nat) × (Bool × Nat × Nat) × Bool × Bool} (h2 : tm[6]?.getD undef = .pointer (some ⟨B, 0, none⟩)) (h3 : tm[7]?.getD undef = .int .i64 c) (hB : Box W B cs) (hs : 8 = cs.size) (hG : GRep W (.agg #[.bool s5, .slice p5 k5 c5, .slice q5 l5 d5, .bool sz5, .slice pz5 kz5 cz5, .slice qz5 lz5 dz5, .bool x5, .bool y5]) D) (hL : Below w.heap.size w W) (hw : w.heap.size ≤ B) :
  bodyPost Tryz.prog Tryz.f23 (fun e w' => ∃ s5 p5 k5 c5 q5 l5 d5 sz5 pz5 kz5 cz5 qz5 lz5 dz5 x5 y5, e = .returned (.tuple #[.agg #[.bool s5, .slice p5 k5 c5, .slice q5 l5 d5, .bool sz5, .slice pz5 kz5 cz5, .slice qz5 lz5 dz5, .bool x5, .bool y5], .int .i64 c]) ∧ Hid (GRep w' (.agg #[.bool s5, .slice p5 k5 c5, .slice q5 l5 d5, .bool sz5, .slice pz5 kz5 cz5, .slice qz5 lz5 dz5, .bool x5, .bool y5]) D) ∧ Below w.heap.size w w') .ret { tmps := tm, defers := [] } (stores W B 0 [.bool s5, .slice p5 k5 c5, .slice q5 l5 d5, .bool sz5, .slice pz5 kz5 cz5, .slice qz5 lz5 dz5, .bool x5, .bool y5]) :=
 jRoot_ret h2 h3 (hB.stores [.bool s5, .slice p5 k5 c5, .slice q5 l5 d5, .bool sz5, .slice pz5 kz5 cz5, .slice qz5 lz5 dz5, .bool x5, .bool y5] hs nd8) ⟨s5, p5, k5, c5, q5, l5, d5, sz5, pz5, kz5, cz5, qz5, lz5, dz5, x5, y5, rfl, hid (GRep.stores (k := 0) (l := [.bool s5, .slice p5 k5 c5, .slice q5 l5 d5, .bool sz5, .slice pz5 kz5 cz5, .slice qz5 lz5 dz5, .bool x5, .bool y5]) hG hB nd8), Below.stores (k := 0) (l := [.bool s5, .slice p5 k5 c5, .slice q5 l5 d5, .bool sz5, .slice pz5 kz5 cz5, .slice qz5 lz5 dz5, .bool x5, .bool y5]) hL hw⟩
theorem jRoot_err (s1 : Bool) (p1 : Option Addr) (k1 c1 : Nat) (q1 : Option Addr) (l1 d1 : Nat) (sz1 : Bool) (pz1 : Option Addr) (kz1 cz1 : Nat) (qz1 : Option Addr) (lz1 dz1 : Nat) (x1 : Bool) (y1 : Bool) (n p c : Int) (w : World) (hc : c ≠ 0)
  (HO : Hid (∀ W, Below w.heap.size w W → Calls Tryz.prog 33 #[.agg #[.bool s1, .slice p1 k1 c1, .slice q1 l1 d1, .bool sz1, .slice pz1 kz1 cz1, .slice qz1 lz1 dz1, .bool x1, .bool y1], .int .i64 p] W fun e w' => e = .returned (.tuple #[.agg #[.bool false, .slice none 0 0, .slice none 0 0, .bool false, .slice none 0 0, .slice none 0 0, .bool false, .bool false, .bool false], .int .i64 c]) ∧ Below W.heap.size W w')) :
  Calls Tryz.prog 23 #[.agg #[.bool s1, .slice p1 k1 c1, .slice q1 l1 d1, .bool sz1, .slice pz1 kz1 cz1, .slice qz1 lz1 dz1, .bool x1, .bool y1], .int .i64 n, .int .i64 p] w fun e w' => ∃ s5 p5 k5 c5 q5 l5 d5 sz5 pz5 kz5 cz5 qz5 lz5 dz5 x5 y5, e = .returned (.tuple #[.agg #[.bool s5, .slice p5 k5 c5, .slice q5 l5 d5, .bool sz5, .slice pz5 kz5 cz5, .slice qz5 lz5 dz5, .bool x5, .bool y5], .int .i64 c]) ∧ Hid (GRep w' (.agg #[.bool s5, .slice p5 k5 c5, .slice q5 l5 d5, .bool sz5, .slice pz5 kz5 cz5, .slice qz5 lz5 dz5, .bool x5, .bool y5]) gzero) ∧ Below w.heap.size w w' := by
 have hz : (c == 0) = false := by simpa using hc
 clear hc
 go_enter Tryz.func23, Tryz.ntmps23
 go_wp2_with fail
 generalize hA : World.alloc _ _ = W0
 have HV := hid (pre2_o hA nd8 nd8)
 clear hA
 refine (HO.out _ HV.out.2.2).mono ?_
 rintro e w1 ⟨rfl, hB1⟩
 have HE := hid (And.intro (HV.out.2.1.below hB1) (HV.out.2.2.trans (hB1.mono HV.out.2.2.size)))
 clear hB1 HV
 go_upto_region 2 with fail
 have HX := hid (pre1 w1 [.bool false, .slice none 0 0, .slice none 0 0, .bool false, .slice none 0 0, .slice none 0 0, .bool false, .bool false, .bool false] 61 nd9)
 have hlt : w.heap.size + 1 < w1.heap.size := HE.out.1.lt
 generalize w1.alloc (.cells #[.bool false, .slice none 0 0, .slice none 0 0, .bool false, .slice none 0 0, .slice none 0 0, .bool false, .bool false, .bool false] 61) = W1 at *
 have HX1 := hid (And.intro HX.out.1 (And.intro (HE.out.1.below HX.out.2) (HE.out.2.trans (HX.out.2.mono HE.out.2.size))))
 clear HX HE
 generalize w1.heap.size = B1 at *
 obtain ⟨m0, m1, m2, m3, m4, m5, m6, m7, m8, _⟩ := HX1.out.1.cells9
 clear m0 m1 m2 m3 m4 m5 m6 m7 m8
 obtain ⟨g0, g1, g2, g3, g4, g5, g6, g7, f0, f1, f2, f3, f4, f5, f6, f7⟩ := HX1.out.2.1.cells8
 go_wp2_with fail
 exact jRoot_fin rfl rfl HX1.out.2.1 rfl (GRep.zero _) HX1.out.2.2 (by omega)
theorem jRoot_arg_lo (s1 : Bool) (p1 : Option Addr) (k1 c1 : Nat) (q1 : Option Addr) (l1 d1 : Nat) (sz1 : Bool) (pz1 : Option Addr) (kz1 cz1 : Nat) (qz1 : Option Addr) (lz1 dz1 : Nat) (x1 : Bool) (y1 : Bool) (n p : Int) (ta tb : Bool × Nat × Nat) (x y ee : Bool) (r : (Bool × Nat × Nat) × (Bool × Nat × Nat) × Bool × Bool × Bool) (w : World) (hr : r = (ta, tb, x, y, ee)) (hn : decide (n < 2) = true)
  (HO : Hid (∀ W, Below w.heap.size w W → Calls Tryz.prog 33 #[.agg #[.bool s1, .slice p1 k1 c1, .slice q1 l1 d1, .bool sz1, .slice pz1 kz1 cz1, .slice qz1 lz1 dz1, .bool x1, .bool y1], .int .i64 p] W fun e w' => ∃ s2 p2 k2 c2 q2 l2 d2 sz2 pz2 kz2 cz2 qz2 lz2 dz2 x2 y2 e2, e = .returned (.tuple #[.agg #[.bool s2, .slice p2 k2 c2, .slice q2 l2 d2, .bool sz2, .slice pz2 kz2 cz2, .slice qz2 lz2 dz2, .bool x2, .bool y2, .bool e2], .int .i64 0]) ∧ Hid (JRep w' (.agg #[.bool s2, .slice p2 k2 c2, .slice q2 l2 d2, .bool sz2, .slice pz2 kz2 cz2, .slice qz2 lz2 dz2, .bool x2, .bool y2, .bool e2]) r) ∧ Below W.heap.size W w')) :
  Calls Tryz.prog 23 #[.agg #[.bool s1, .slice p1 k1 c1, .slice q1 l1 d1, .bool sz1, .slice pz1 kz1 cz1, .slice qz1 lz1 dz1, .bool x1, .bool y1], .int .i64 n, .int .i64 p] w fun e w' => ∃ s5 p5 k5 c5 q5 l5 d5 sz5 pz5 kz5 cz5 qz5 lz5 dz5 x5 y5, e = .returned (.tuple #[.agg #[.bool s5, .slice p5 k5 c5, .slice q5 l5 d5, .bool sz5, .slice pz5 kz5 cz5, .slice qz5 lz5 dz5, .bool x5, .bool y5], .int .i64 2]) ∧ Hid (GRep w' (.agg #[.bool s5, .slice p5 k5 c5, .slice q5 l5 d5, .bool sz5, .slice pz5 kz5 cz5, .slice qz5 lz5 dz5, .bool x5, .bool y5]) gzero) ∧ Below w.heap.size w w' := by
 go_enter Tryz.func23, Tryz.ntmps23
 go_wp2_with fail
 generalize hA : World.alloc _ _ = W0
 have HV := hid (pre2_o hA nd8 nd8)
 clear hA
 refine (HO.out _ HV.out.2.2).mono ?_
 rintro e w1 ⟨s2, p2, k2, c2, q2, l2, d2, sz2, pz2, kz2, cz2, qz2, lz2, dz2, x2, y2, e2, rfl, hJ, hB1⟩
 have hj := JRep.parts s2 p2 k2 c2 q2 l2 d2 sz2 pz2 kz2 cz2 qz2 lz2 dz2 x2 y2 e2 hJ.out
 rw [hr] at hj
 obtain ⟨hl, hh, rfl, rfl, rfl⟩ := hj
 clear hJ
 have HLL := hid hl
 have HHH := hid hh
 clear hl hh
 have HE := hid (And.intro (HV.out.2.1.below hB1) (HV.out.2.2.trans (hB1.mono HV.out.2.2.size)))
 clear hB1 HV
 go_upto_region 2 with fail
 have HX := hid (pre1 w1 [.bool s2, .slice p2 k2 c2, .slice q2 l2 d2, .bool sz2, .slice pz2 kz2 cz2, .slice qz2 lz2 dz2, .bool x2, .bool y2, .bool e2] 61 nd9)
 have hlt : w.heap.size + 1 < w1.heap.size := HE.out.1.lt
 generalize w1.alloc (.cells #[.bool s2, .slice p2 k2 c2, .slice q2 l2 d2, .bool sz2, .slice pz2 kz2 cz2, .slice qz2 lz2 dz2, .bool x2, .bool y2, .bool e2] 61) = W1 at *
 have HX1 := hid (And.intro HX.out.1 (And.intro (HE.out.1.below HX.out.2) (HE.out.2.trans (HX.out.2.mono HE.out.2.size))))
 clear HX HE
 generalize w1.heap.size = B1 at *
 obtain ⟨m0, m1, m2, m3, m4, m5, m6, m7, m8, _⟩ := HX1.out.1.cells9
 clear m0 m1 m2 m3 m4 m5 m6 m7 m8
 obtain ⟨g0, g1, g2, g3, g4, g5, g6, g7, f0, f1, f2, f3, f4, f5, f6, f7⟩ := HX1.out.2.1.cells8
 go_wp2_with fail
 exact jRoot_fin rfl rfl HX1.out.2.1 rfl (GRep.zero _) HX1.out.2.2 (by omega)
theorem jRoot_arg_hi (s1 : Bool) (p1 : Option Addr) (k1 c1 : Nat) (q1 : Option Addr) (l1 d1 : Nat) (sz1 : Bool) (pz1 : Option Addr) (kz1 cz1 : Nat) (qz1 : Option Addr) (lz1 dz1 : Nat) (x1 : Bool) (y1 : Bool) (n p : Int) (ta tb : Bool × Nat × Nat) (x y ee : Bool) (r : (Bool × Nat × Nat) × (Bool × Nat × Nat) × Bool × Bool × Bool) (w : World) (hr : r = (ta, tb, x, y, ee)) (hn : decide (n < 2) = false) (hm : decide (8 < n) = true)
  (HO : Hid (∀ W, Below w.heap.size w W → Calls Tryz.prog 33 #[.agg #[.bool s1, .slice p1 k1 c1, .slice q1 l1 d1, .bool sz1, .slice pz1 kz1 cz1, .slice qz1 lz1 dz1, .bool x1, .bool y1], .int .i64 p] W fun e w' => ∃ s2 p2 k2 c2 q2 l2 d2 sz2 pz2 kz2 cz2 qz2 lz2 dz2 x2 y2 e2, e = .returned (.tuple #[.agg #[.bool s2, .slice p2 k2 c2, .slice q2 l2 d2, .bool sz2, .slice pz2 kz2 cz2, .slice qz2 lz2 dz2, .bool x2, .bool y2, .bool e2], .int .i64 0]) ∧ Hid (JRep w' (.agg #[.bool s2, .slice p2 k2 c2, .slice q2 l2 d2, .bool sz2, .slice pz2 kz2 cz2, .slice qz2 lz2 dz2, .bool x2, .bool y2, .bool e2]) r) ∧ Below W.heap.size W w')) :
  Calls Tryz.prog 23 #[.agg #[.bool s1, .slice p1 k1 c1, .slice q1 l1 d1, .bool sz1, .slice pz1 kz1 cz1, .slice qz1 lz1 dz1, .bool x1, .bool y1], .int .i64 n, .int .i64 p] w fun e w' => ∃ s5 p5 k5 c5 q5 l5 d5 sz5 pz5 kz5 cz5 qz5 lz5 dz5 x5 y5, e = .returned (.tuple #[.agg #[.bool s5, .slice p5 k5 c5, .slice q5 l5 d5, .bool sz5, .slice pz5 kz5 cz5, .slice qz5 lz5 dz5, .bool x5, .bool y5], .int .i64 2]) ∧ Hid (GRep w' (.agg #[.bool s5, .slice p5 k5 c5, .slice q5 l5 d5, .bool sz5, .slice pz5 kz5 cz5, .slice qz5 lz5 dz5, .bool x5, .bool y5]) gzero) ∧ Below w.heap.size w w' := by
 go_enter Tryz.func23, Tryz.ntmps23
 go_wp2_with fail
 generalize hA : World.alloc _ _ = W0
 have HV := hid (pre2_o hA nd8 nd8)
 clear hA
 refine (HO.out _ HV.out.2.2).mono ?_
 rintro e w1 ⟨s2, p2, k2, c2, q2, l2, d2, sz2, pz2, kz2, cz2, qz2, lz2, dz2, x2, y2, e2, rfl, hJ, hB1⟩
 have hj := JRep.parts s2 p2 k2 c2 q2 l2 d2 sz2 pz2 kz2 cz2 qz2 lz2 dz2 x2 y2 e2 hJ.out
 rw [hr] at hj
 obtain ⟨hl, hh, rfl, rfl, rfl⟩ := hj
 clear hJ
 have HLL := hid hl
 have HHH := hid hh
 clear hl hh
 have HE := hid (And.intro (HV.out.2.1.below hB1) (HV.out.2.2.trans (hB1.mono HV.out.2.2.size)))
 clear hB1 HV
 go_upto_region 2 with fail
 have HX := hid (pre1 w1 [.bool s2, .slice p2 k2 c2, .slice q2 l2 d2, .bool sz2, .slice pz2 kz2 cz2, .slice qz2 lz2 dz2, .bool x2, .bool y2, .bool e2] 61 nd9)
 have hlt : w.heap.size + 1 < w1.heap.size := HE.out.1.lt
 generalize w1.alloc (.cells #[.bool s2, .slice p2 k2 c2, .slice q2 l2 d2, .bool sz2, .slice pz2 kz2 cz2, .slice qz2 lz2 dz2, .bool x2, .bool y2, .bool e2] 61) = W1 at *
 have HX1 := hid (And.intro HX.out.1 (And.intro (HE.out.1.below HX.out.2) (HE.out.2.trans (HX.out.2.mono HE.out.2.size))))
 clear HX HE
 generalize w1.heap.size = B1 at *
 obtain ⟨m0, m1, m2, m3, m4, m5, m6, m7, m8, _⟩ := HX1.out.1.cells9
 clear m0 m1 m2 m3 m4 m5 m6 m7 m8
 obtain ⟨g0, g1, g2, g3, g4, g5, g6, g7, f0, f1, f2, f3, f4, f5, f6, f7⟩ := HX1.out.2.1.cells8
 go_wp2_with fail
 exact jRoot_fin rfl rfl HX1.out.2.1 rfl (GRep.zero _) HX1.out.2.2 (by omega)
theorem jRoot_none (s1 : Bool) (p1 : Option Addr) (k1 c1 : Nat) (q1 : Option Addr) (l1 d1 : Nat) (sz1 : Bool) (pz1 : Option Addr) (kz1 cz1 : Nat) (qz1 : Option Addr) (lz1 dz1 : Nat) (x1 : Bool) (y1 : Bool) (n p : Int) (ta tb : Bool × Nat × Nat) (x y : Bool) (r : (Bool × Nat × Nat) × (Bool × Nat × Nat) × Bool × Bool × Bool) (D : (Bool × Nat × Nat) × (Bool × Nat × Nat) × Bool × Bool) (w : World) (hr : r = (ta, tb, x, y, true)) (hn : decide (n < 2) = false) (hm : decide (8 < n) = false)
  (HO : Hid (∀ W, Below w.heap.size w W → Calls Tryz.prog 33 #[.agg #[.bool s1, .slice p1 k1 c1, .slice q1 l1 d1, .bool sz1, .slice pz1 kz1 cz1, .slice qz1 lz1 dz1, .bool x1, .bool y1], .int .i64 p] W fun e w' => ∃ s2 p2 k2 c2 q2 l2 d2 sz2 pz2 kz2 cz2 qz2 lz2 dz2 x2 y2 e2, e = .returned (.tuple #[.agg #[.bool s2, .slice p2 k2 c2, .slice q2 l2 d2, .bool sz2, .slice pz2 kz2 cz2, .slice qz2 lz2 dz2, .bool x2, .bool y2, .bool e2], .int .i64 0]) ∧ Hid (JRep w' (.agg #[.bool s2, .slice p2 k2 c2, .slice q2 l2 d2, .bool sz2, .slice pz2 kz2 cz2, .slice qz2 lz2 dz2, .bool x2, .bool y2, .bool e2]) r) ∧ Below W.heap.size W w'))
  (HA : Hid (∀ W (s2 : Bool) (p2 : Option Addr) (k2 c2 : Nat) (q2 : Option Addr) (l2 d2 : Nat) (sz2 : Bool) (pz2 : Option Addr) (kz2 cz2 : Nat) (qz2 : Option Addr) (lz2 dz2 : Nat) (x2 : Bool) (y2 : Bool) (e2 : Bool), JRep W (.agg #[.bool s2, .slice p2 k2 c2, .slice q2 l2 d2, .bool sz2, .slice pz2 kz2 cz2, .slice qz2 lz2 dz2, .bool x2, .bool y2, .bool e2]) r → Calls Tryz.prog 50 #[.agg #[.bool s2, .slice p2 k2 c2, .slice q2 l2 d2, .bool sz2, .slice pz2 kz2 cz2, .slice qz2 lz2 dz2, .bool x2, .bool y2, .bool e2]] W fun e w' => ∃ s5 p5 k5 c5 q5 l5 d5 sz5 pz5 kz5 cz5 qz5 lz5 dz5 x5 y5, e = .returned (.agg #[.bool s5, .slice p5 k5 c5, .slice q5 l5 d5, .bool sz5, .slice pz5 kz5 cz5, .slice qz5 lz5 dz5, .bool x5, .bool y5]) ∧ Hid (GRep w' (.agg #[.bool s5, .slice p5 k5 c5, .slice q5 l5 d5, .bool sz5, .slice pz5 kz5 cz5, .slice qz5 lz5 dz5, .bool x5, .bool y5]) D) ∧ Below W.heap.size W w')) :
  Calls Tryz.prog 23 #[.agg #[.bool s1, .slice p1 k1 c1, .slice q1 l1 d1, .bool sz1, .slice pz1 kz1 cz1, .slice qz1 lz1 dz1, .bool x1, .bool y1], .int .i64 n, .int .i64 p] w fun e w' => ∃ s5 p5 k5 c5 q5 l5 d5 sz5 pz5 kz5 cz5 qz5 lz5 dz5 x5 y5, e = .returned (.tuple #[.agg #[.bool s5, .slice p5 k5 c5, .slice q5 l5 d5, .bool sz5, .slice pz5 kz5 cz5, .slice qz5 lz5 dz5, .bool x5, .bool y5], .int .i64 0]) ∧ Hid (GRep w' (.agg #[.bool s5, .slice p5 k5 c5, .slice q5 l5 d5, .bool sz5, .slice pz5 kz5 cz5, .slice qz5 lz5 dz5, .bool x5, .bool y5]) D) ∧ Below w.heap.size w w' := by
 go_enter Tryz.func23, Tryz.ntmps23
 go_wp2_with fail
 generalize hA : World.alloc _ _ = W0
 have HV := hid (pre2_o hA nd8 nd8)
 clear hA
 refine (HO.out _ HV.out.2.2).mono ?_
 rintro e w1 ⟨s2, p2, k2, c2, q2, l2, d2, sz2, pz2, kz2, cz2, qz2, lz2, dz2, x2, y2, e2, rfl, hJ, hB1⟩
 have hj := JRep.parts s2 p2 k2 c2 q2 l2 d2 sz2 pz2 kz2 cz2 qz2 lz2 dz2 x2 y2 e2 hJ.out
 rw [hr] at hj
 obtain ⟨hl, hh, rfl, rfl, rfl⟩ := hj
 clear hJ
 have HLL := hid hl
 have HHH := hid hh
 clear hl hh
 have HE := hid (And.intro (HV.out.2.1.below hB1) (HV.out.2.2.trans (hB1.mono HV.out.2.2.size)))
 clear hB1 HV
 go_upto_region 2 with fail
 have HX := hid (pre1 w1 [.bool s2, .slice p2 k2 c2, .slice q2 l2 d2, .bool sz2, .slice pz2 kz2 cz2, .slice qz2 lz2 dz2, .bool x2, .bool y2, .bool true] 61 nd9)
 have hlt : w.heap.size + 1 < w1.heap.size := HE.out.1.lt
 replace HLL := hid (HLL.out.below HX.out.2)
 replace HHH := hid (HHH.out.below HX.out.2)
 generalize w1.alloc (.cells #[.bool s2, .slice p2 k2 c2, .slice q2 l2 d2, .bool sz2, .slice pz2 kz2 cz2, .slice qz2 lz2 dz2, .bool x2, .bool y2, .bool true] 61) = W1 at *
 have HX1 := hid (And.intro HX.out.1 (And.intro (HE.out.1.below HX.out.2) (HE.out.2.trans (HX.out.2.mono HE.out.2.size))))
 clear HX HE
 generalize w1.heap.size = B1 at *
 obtain ⟨m0, m1, m2, m3, m4, m5, m6, m7, m8, _⟩ := HX1.out.1.cells9
 go_wp2_with fail
 refine (HA.out _ s2 p2 k2 c2 q2 l2 d2 sz2 pz2 kz2 cz2 qz2 lz2 dz2 x2 y2 true (by rw [hr]; exact ⟨_, _, _, _, _, _, _, _, _, _, _, _, _, _, _, _, _, rfl, HLL.out, HHH.out, rfl, rfl, rfl⟩)).mono ?_
 rintro e w2 ⟨s5, p5, k5, c5, q5, l5, d5, sz5, pz5, kz5, cz5, qz5, lz5, dz5, x5, y5, rfl, hG, hB2⟩
 replace HX1 := hid (And.intro (HX1.out.2.1.below hB2) (And.intro hG.out (HX1.out.2.2.trans (hB2.mono HX1.out.2.2.size))))
 clear hB2 hG m0 m1 m2 m3 m4 m5 m6 m7 m8
 obtain ⟨g0, g1, g2, g3, g4, g5, g6, g7, f0, f1, f2, f3, f4, f5, f6, f7⟩ := HX1.out.1.cells8
 go_wp2_with fail
 exact jRoot_fin rfl rfl HX1.out.1 rfl HX1.out.2.1 HX1.out.2.2 (by omega)
theorem jRoot_off (s1 : Bool) (p1 : Option Addr) (k1 c1 : Nat) (q1 : Option Addr) (l1 d1 : Nat) (sz1 : Bool) (pz1 : Option Addr) (kz1 cz1 : Nat) (qz1 : Option Addr) (lz1 dz1 : Nat) (x1 : Bool) (y1 : Bool) (n p : Int) (ta tb : Bool × Nat × Nat) (r : (Bool × Nat × Nat) × (Bool × Nat × Nat) × Bool × Bool × Bool) (ra rb : Bool × Nat × Nat) (c : Int) (D : (Bool × Nat × Nat) × (Bool × Nat × Nat) × Bool × Bool) (w : World) (hr : r = (ta, tb, false, false, false)) (hn : decide (n < 2) = false) (hm : decide (8 < n) = false) (he : (Int.tmod n 2 == 0) = false)
  (HO : Hid (∀ W, Below w.heap.size w W → Calls Tryz.prog 33 #[.agg #[.bool s1, .slice p1 k1 c1, .slice q1 l1 d1, .bool sz1, .slice pz1 kz1 cz1, .slice qz1 lz1 dz1, .bool x1, .bool y1], .int .i64 p] W fun e w' => ∃ s2 p2 k2 c2 q2 l2 d2 sz2 pz2 kz2 cz2 qz2 lz2 dz2 x2 y2 e2, e = .returned (.tuple #[.agg #[.bool s2, .slice p2 k2 c2, .slice q2 l2 d2, .bool sz2, .slice pz2 kz2 cz2, .slice qz2 lz2 dz2, .bool x2, .bool y2, .bool e2], .int .i64 0]) ∧ Hid (JRep w' (.agg #[.bool s2, .slice p2 k2 c2, .slice q2 l2 d2, .bool sz2, .slice pz2 kz2 cz2, .slice qz2 lz2 dz2, .bool x2, .bool y2, .bool e2]) r) ∧ Below W.heap.size W w'))
  (HB : Hid (∀ W (s2 : Bool) (p2 : Option Addr) (k2 c2 : Nat) (q2 : Option Addr) (l2 d2 : Nat), QNorm W (.agg #[.bool s2, .slice p2 k2 c2, .slice q2 l2 d2]) ta → Calls Tryz.prog 66 #[.agg #[.bool s2, .slice p2 k2 c2, .slice q2 l2 d2], .int .i64 n, .int .i64 p] W fun e w' => ∃ s4 p4 k4 c4 q4 l4 d4, e = .returned (.agg #[.bool s4, .slice p4 k4 c4, .slice q4 l4 d4]) ∧ Hid (QNorm w' (.agg #[.bool s4, .slice p4 k4 c4, .slice q4 l4 d4]) ra) ∧ Below W.heap.size W w'))
  (HU : Hid (∀ W (s2 : Bool) (p2 : Option Addr) (k2 c2 : Nat) (q2 : Option Addr) (l2 d2 : Nat), QNorm W (.agg #[.bool s2, .slice p2 k2 c2, .slice q2 l2 d2]) tb → Calls Tryz.prog 67 #[.agg #[.bool s2, .slice p2 k2 c2, .slice q2 l2 d2], .int .i64 n, .int .i64 p] W fun e w' => ∃ s4 p4 k4 c4 q4 l4 d4, e = .returned (.agg #[.bool s4, .slice p4 k4 c4, .slice q4 l4 d4]) ∧ Hid (QNorm w' (.agg #[.bool s4, .slice p4 k4 c4, .slice q4 l4 d4]) rb) ∧ Below W.heap.size W w'))
  (HD : Hid (∀ W (s2 : Bool) (p2 : Option Addr) (k2 c2 : Nat) (q2 : Option Addr) (l2 d2 : Nat) (sz2 : Bool) (pz2 : Option Addr) (kz2 cz2 : Nat) (qz2 : Option Addr) (lz2 dz2 : Nat) (x2 : Bool) (y2 : Bool) (e2 : Bool), JRep W (.agg #[.bool s2, .slice p2 k2 c2, .slice q2 l2 d2, .bool sz2, .slice pz2 kz2 cz2, .slice qz2 lz2 dz2, .bool x2, .bool y2, .bool e2]) (ra, rb, false, false, false) → Calls Tryz.prog 46 #[.agg #[.bool s2, .slice p2 k2 c2, .slice q2 l2 d2, .bool sz2, .slice pz2 kz2 cz2, .slice qz2 lz2 dz2, .bool x2, .bool y2, .bool e2]] W fun e w' => ∃ s5 p5 k5 c5 q5 l5 d5 sz5 pz5 kz5 cz5 qz5 lz5 dz5 x5 y5, e = .returned (.tuple #[.agg #[.bool s5, .slice p5 k5 c5, .slice q5 l5 d5, .bool sz5, .slice pz5 kz5 cz5, .slice qz5 lz5 dz5, .bool x5, .bool y5], .int .i64 c]) ∧ Hid (GRep w' (.agg #[.bool s5, .slice p5 k5 c5, .slice q5 l5 d5, .bool sz5, .slice pz5 kz5 cz5, .slice qz5 lz5 dz5, .bool x5, .bool y5]) D) ∧ Below W.heap.size W w')) :
  Calls Tryz.prog 23 #[.agg #[.bool s1, .slice p1 k1 c1, .slice q1 l1 d1, .bool sz1, .slice pz1 kz1 cz1, .slice qz1 lz1 dz1, .bool x1, .bool y1], .int .i64 n, .int .i64 p] w fun e w' => ∃ s5 p5 k5 c5 q5 l5 d5 sz5 pz5 kz5 cz5 qz5 lz5 dz5 x5 y5, e = .returned (.tuple #[.agg #[.bool s5, .slice p5 k5 c5, .slice q5 l5 d5, .bool sz5, .slice pz5 kz5 cz5, .slice qz5 lz5 dz5, .bool x5, .bool y5], .int .i64 c]) ∧ Hid (GRep w' (.agg #[.bool s5, .slice p5 k5 c5, .slice q5 l5 d5, .bool sz5, .slice pz5 kz5 cz5, .slice qz5 lz5 dz5, .bool x5, .bool y5]) D) ∧ Below w.heap.size w w' := by
 go_enter Tryz.func23, Tryz.ntmps23
 go_wp2_with fail
 generalize hA : World.alloc _ _ = W0
 have HV := hid (pre2_o hA nd8 nd8)
 clear hA
 refine (HO.out _ HV.out.2.2).mono ?_
 rintro e w1 ⟨s2, p2, k2, c2, q2, l2, d2, sz2, pz2, kz2, cz2, qz2, lz2, dz2, x2, y2, e2, rfl, hJ, hB1⟩
 have hj := JRep.parts s2 p2 k2 c2 q2 l2 d2 sz2 pz2 kz2 cz2 qz2 lz2 dz2 x2 y2 e2 hJ.out
 rw [hr] at hj
 obtain ⟨hl, hh, rfl, rfl, rfl⟩ := hj
 clear hJ
 have HLL := hid hl
 have HHH := hid hh
 clear hl hh
 have HE := hid (And.intro (HV.out.2.1.below hB1) (HV.out.2.2.trans (hB1.mono HV.out.2.2.size)))
 clear hB1 HV
 go_upto_region 2 with fail
 have HX := hid (pre1 w1 [.bool s2, .slice p2 k2 c2, .slice q2 l2 d2, .bool sz2, .slice pz2 kz2 cz2, .slice qz2 lz2 dz2, .bool false, .bool false, .bool false] 61 nd9)
 have hlt : w.heap.size + 1 < w1.heap.size := HE.out.1.lt
 replace HLL := hid (HLL.out.below HX.out.2)
 replace HHH := hid (HHH.out.below HX.out.2)
 generalize w1.alloc (.cells #[.bool s2, .slice p2 k2 c2, .slice q2 l2 d2, .bool sz2, .slice pz2 kz2 cz2, .slice qz2 lz2 dz2, .bool false, .bool false, .bool false] 61) = W1 at *
 have HX1 := hid (And.intro HX.out.1 (And.intro (HE.out.1.below HX.out.2) (HE.out.2.trans (HX.out.2.mono HE.out.2.size))))
 clear HX HE
 generalize w1.heap.size = B1 at *
 obtain ⟨m0, m1, m2, m3, m4, m5, m6, m7, m8, _⟩ := HX1.out.1.cells9
 go_wp2_with fail
 refine (HB.out _ s2 p2 k2 c2 q2 l2 d2 HLL.out).mono ?_
 rintro e w3 ⟨s4, p4, k4, c4, q4, l4, d4, rfl, hF1, hB1⟩
 replace HX1 := hid (And.intro (HX1.out.1.below hB1) (And.intro (HX1.out.2.1.below hB1) (HX1.out.2.2.trans (hB1.mono HX1.out.2.2.size))))
 replace HHH := hid (HHH.out.below hB1)
 clear hB1 m0 m1 m2 m3 m4 m5 m6 m7 m8
 obtain ⟨m0, m1, m2, m3, m4, m5, m6, m7, m8, f0, f1, f2, f3, f4, f5, f6, f7, f8⟩ := HX1.out.1.cells9
 go_upto_region 12 with fail
 generalize hW1 : World.setCell _ _ _ = v1
 have hX : Box v1 B1 #[.bool s4, .slice p4 k4 c4, .slice q4 l4 d4, .bool sz2, .slice pz2 kz2 cz2, .slice qz2 lz2 dz2, .bool false, .bool false, .bool false] := by rw [← hW1]; exact Box.stores_at (m := [.bool s2, .slice p2 k2 c2, .slice q2 l2 d2, .bool sz2, .slice pz2 kz2 cz2, .slice qz2 lz2 dz2, .bool false, .bool false, .bool false]) (k := 0) (l := [.bool s4, .slice p4 k4 c4, .slice q4 l4 d4]) HX1.out.1 nd3
 have hY : Box v1 (w.heap.size + 1) _ := Box.of_eq (Box.stores_other (k := 0) (l := [.bool s4, .slice p4 k4 c4, .slice q4 l4 d4]) HX1.out.2.1 (by omega)) hW1
 have hZ : Below w.heap.size w v1 := by rw [← hW1]; exact Below.stores (k := 0) (l := [.bool s4, .slice p4 k4 c4, .slice q4 l4 d4]) HX1.out.2.2 (by omega)
 have hQ : QNorm v1 (.agg #[.bool s4, .slice p4 k4 c4, .slice q4 l4 d4]) ra := by rw [← hW1]; exact QNorm.stores (k := 0) (l := [.bool s4, .slice p4 k4 c4, .slice q4 l4 d4]) hF1.out HX1.out.1 nd3
 have hO := QNorm.stores (k := 0) (l := [.bool s4, .slice p4 k4 c4, .slice q4 l4 d4]) HHH.out HX1.out.1 nd3
 replace HX1 := hid (And.intro hX (And.intro hY hZ))
 replace HLL := hid hQ
 replace HHH := hid (show QNorm v1 _ _ by rw [← hW1]; exact hO)
 clear hX hY hZ hQ hO hW1 f0 f1 f2 f3 f4 f5 f6 f7 f8 hF1 m0 m1 m2 m3 m4 m5 m6 m7 m8
 obtain ⟨m0, m1, m2, m3, m4, m5, m6, m7, m8, _⟩ := HX1.out.1.cells9
 go_wp2_with fail
 refine (HU.out _ sz2 pz2 kz2 cz2 qz2 lz2 dz2 HHH.out).mono ?_
 rintro e w3 ⟨s5, p5, k5, c5, q5, l5, d5, rfl, hF1, hB1⟩
 replace HX1 := hid (And.intro (HX1.out.1.below hB1) (And.intro (HX1.out.2.1.below hB1) (HX1.out.2.2.trans (hB1.mono HX1.out.2.2.size))))
 replace HLL := hid (HLL.out.below hB1)
 clear hB1 m0 m1 m2 m3 m4 m5 m6 m7 m8
 obtain ⟨m0, m1, m2, m3, m4, m5, m6, m7, m8, f0, f1, f2, f3, f4, f5, f6, f7, f8⟩ := HX1.out.1.cells9
 go_upto_region 14 with fail
 generalize hW1 : World.setCell _ _ _ = v2
 have hX : Box v2 B1 #[.bool s4, .slice p4 k4 c4, .slice q4 l4 d4, .bool s5, .slice p5 k5 c5, .slice q5 l5 d5, .bool false, .bool false, .bool false] := by rw [← hW1]; exact Box.stores_at (m := [.bool s4, .slice p4 k4 c4, .slice q4 l4 d4, .bool sz2, .slice pz2 kz2 cz2, .slice qz2 lz2 dz2, .bool false, .bool false, .bool false]) (k := 3) (l := [.bool s5, .slice p5 k5 c5, .slice q5 l5 d5]) HX1.out.1 nd3
 have hY : Box v2 (w.heap.size + 1) _ := Box.of_eq (Box.stores_other (k := 3) (l := [.bool s5, .slice p5 k5 c5, .slice q5 l5 d5]) HX1.out.2.1 (by omega)) hW1
 have hZ : Below w.heap.size w v2 := by rw [← hW1]; exact Below.stores (k := 3) (l := [.bool s5, .slice p5 k5 c5, .slice q5 l5 d5]) HX1.out.2.2 (by omega)
 have hQ : QNorm v2 (.agg #[.bool s5, .slice p5 k5 c5, .slice q5 l5 d5]) rb := by rw [← hW1]; exact QNorm.stores (k := 3) (l := [.bool s5, .slice p5 k5 c5, .slice q5 l5 d5]) hF1.out HX1.out.1 nd3
 have hO := QNorm.stores (k := 3) (l := [.bool s5, .slice p5 k5 c5, .slice q5 l5 d5]) HLL.out HX1.out.1 nd3
 replace HX1 := hid (And.intro hX (And.intro hY hZ))
 replace HHH := hid hQ
 replace HLL := hid (show QNorm v2 _ _ by rw [← hW1]; exact hO)
 clear hX hY hZ hQ hO hW1 f0 f1 f2 f3 f4 f5 f6 f7 f8 hF1 m0 m1 m2 m3 m4 m5 m6 m7 m8
 obtain ⟨m0, m1, m2, m3, m4, m5, m6, m7, m8, _⟩ := HX1.out.1.cells9
 go_wp2_with fail
 refine (HD.out _ s4 p4 k4 c4 q4 l4 d4 s5 p5 k5 c5 q5 l5 d5 false false false ⟨_, _, _, _, _, _, _, _, _, _, _, _, _, _, _, _, _, rfl, HLL.out, HHH.out, rfl, rfl, rfl⟩).mono ?_
 rintro e w4 ⟨s5, p5, k5, c5, q5, l5, d5, sz5, pz5, kz5, cz5, qz5, lz5, dz5, x5, y5, rfl, hG, hB2⟩
 replace HX1 := hid (And.intro (HX1.out.2.1.below hB2) (And.intro hG.out (HX1.out.2.2.trans (hB2.mono HX1.out.2.2.size))))
 clear hB2 hG m0 m1 m2 m3 m4 m5 m6 m7 m8
 obtain ⟨g0, g1, g2, g3, g4, g5, g6, g7, f0, f1, f2, f3, f4, f5, f6, f7⟩ := HX1.out.1.cells8
 go_wp2_with fail
 exact jRoot_fin rfl rfl HX1.out.1 rfl HX1.out.2.1 HX1.out.2.2 (by omega)
theorem jRoot_oft (s1 : Bool) (p1 : Option Addr) (k1 c1 : Nat) (q1 : Option Addr) (l1 d1 : Nat) (sz1 : Bool) (pz1 : Option Addr) (kz1 cz1 : Nat) (qz1 : Option Addr) (lz1 dz1 : Nat) (x1 : Bool) (y1 : Bool) (n p : Int) (ta tb : Bool × Nat × Nat) (r : (Bool × Nat × Nat) × (Bool × Nat × Nat) × Bool × Bool × Bool) (ra : Bool × Nat × Nat) (c : Int) (D : (Bool × Nat × Nat) × (Bool × Nat × Nat) × Bool × Bool) (w : World) (hr : r = (ta, tb, false, true, false)) (hn : decide (n < 2) = false) (hm : decide (8 < n) = false) (he : (Int.tmod n 2 == 0) = false)
  (HO : Hid (∀ W, Below w.heap.size w W → Calls Tryz.prog 33 #[.agg #[.bool s1, .slice p1 k1 c1, .slice q1 l1 d1, .bool sz1, .slice pz1 kz1 cz1, .slice qz1 lz1 dz1, .bool x1, .bool y1], .int .i64 p] W fun e w' => ∃ s2 p2 k2 c2 q2 l2 d2 sz2 pz2 kz2 cz2 qz2 lz2 dz2 x2 y2 e2, e = .returned (.tuple #[.agg #[.bool s2, .slice p2 k2 c2, .slice q2 l2 d2, .bool sz2, .slice pz2 kz2 cz2, .slice qz2 lz2 dz2, .bool x2, .bool y2, .bool e2], .int .i64 0]) ∧ Hid (JRep w' (.agg #[.bool s2, .slice p2 k2 c2, .slice q2 l2 d2, .bool sz2, .slice pz2 kz2 cz2, .slice qz2 lz2 dz2, .bool x2, .bool y2, .bool e2]) r) ∧ Below W.heap.size W w'))
  (HB : Hid (∀ W (s2 : Bool) (p2 : Option Addr) (k2 c2 : Nat) (q2 : Option Addr) (l2 d2 : Nat), QNorm W (.agg #[.bool s2, .slice p2 k2 c2, .slice q2 l2 d2]) ta → Calls Tryz.prog 66 #[.agg #[.bool s2, .slice p2 k2 c2, .slice q2 l2 d2], .int .i64 n, .int .i64 p] W fun e w' => ∃ s4 p4 k4 c4 q4 l4 d4, e = .returned (.agg #[.bool s4, .slice p4 k4 c4, .slice q4 l4 d4]) ∧ Hid (QNorm w' (.agg #[.bool s4, .slice p4 k4 c4, .slice q4 l4 d4]) ra) ∧ Below W.heap.size W w'))
  (HD : Hid (∀ W (s2 : Bool) (p2 : Option Addr) (k2 c2 : Nat) (q2 : Option Addr) (l2 d2 : Nat) (sz2 : Bool) (pz2 : Option Addr) (kz2 cz2 : Nat) (qz2 : Option Addr) (lz2 dz2 : Nat) (x2 : Bool) (y2 : Bool) (e2 : Bool), JRep W (.agg #[.bool s2, .slice p2 k2 c2, .slice q2 l2 d2, .bool sz2, .slice pz2 kz2 cz2, .slice qz2 lz2 dz2, .bool x2, .bool y2, .bool e2]) (ra, tb, false, true, false) → Calls Tryz.prog 46 #[.agg #[.bool s2, .slice p2 k2 c2, .slice q2 l2 d2, .bool sz2, .slice pz2 kz2 cz2, .slice qz2 lz2 dz2, .bool x2, .bool y2, .bool e2]] W fun e w' => ∃ s5 p5 k5 c5 q5 l5 d5 sz5 pz5 kz5 cz5 qz5 lz5 dz5 x5 y5, e = .returned (.tuple #[.agg #[.bool s5, .slice p5 k5 c5, .slice q5 l5 d5, .bool sz5, .slice pz5 kz5 cz5, .slice qz5 lz5 dz5, .bool x5, .bool y5], .int .i64 c]) ∧ Hid (GRep w' (.agg #[.bool s5, .slice p5 k5 c5, .slice q5 l5 d5, .bool sz5, .slice pz5 kz5 cz5, .slice qz5 lz5 dz5, .bool x5, .bool y5]) D) ∧ Below W.heap.size W w')) :
  Calls Tryz.prog 23 #[.agg #[.bool s1, .slice p1 k1 c1, .slice q1 l1 d1, .bool sz1, .slice pz1 kz1 cz1, .slice qz1 lz1 dz1, .bool x1, .bool y1], .int .i64 n, .int .i64 p] w fun e w' => ∃ s5 p5 k5 c5 q5 l5 d5 sz5 pz5 kz5 cz5 qz5 lz5 dz5 x5 y5, e = .returned (.tuple #[.agg #[.bool s5, .slice p5 k5 c5, .slice q5 l5 d5, .bool sz5, .slice pz5 kz5 cz5, .slice qz5 lz5 dz5, .bool x5, .bool y5], .int .i64 c]) ∧ Hid (GRep w' (.agg #[.bool s5, .slice p5 k5 c5, .slice q5 l5 d5, .bool sz5, .slice pz5 kz5 cz5, .slice qz5 lz5 dz5, .bool x5, .bool y5]) D) ∧ Below w.heap.size w w' := by
 go_enter Tryz.func23, Tryz.ntmps23
 go_wp2_with fail
 generalize hA : World.alloc _ _ = W0
 have HV := hid (pre2_o hA nd8 nd8)
 clear hA
 refine (HO.out _ HV.out.2.2).mono ?_
 rintro e w1 ⟨s2, p2, k2, c2, q2, l2, d2, sz2, pz2, kz2, cz2, qz2, lz2, dz2, x2, y2, e2, rfl, hJ, hB1⟩
 have hj := JRep.parts s2 p2 k2 c2 q2 l2 d2 sz2 pz2 kz2 cz2 qz2 lz2 dz2 x2 y2 e2 hJ.out
 rw [hr] at hj
 obtain ⟨hl, hh, rfl, rfl, rfl⟩ := hj
 clear hJ
 have HLL := hid hl
 have HHH := hid hh
 clear hl hh
 have HE := hid (And.intro (HV.out.2.1.below hB1) (HV.out.2.2.trans (hB1.mono HV.out.2.2.size)))
 clear hB1 HV
 go_upto_region 2 with fail
 have HX := hid (pre1 w1 [.bool s2, .slice p2 k2 c2, .slice q2 l2 d2, .bool sz2, .slice pz2 kz2 cz2, .slice qz2 lz2 dz2, .bool false, .bool true, .bool false] 61 nd9)
 have hlt : w.heap.size + 1 < w1.heap.size := HE.out.1.lt
 replace HLL := hid (HLL.out.below HX.out.2)
 replace HHH := hid (HHH.out.below HX.out.2)
 generalize w1.alloc (.cells #[.bool s2, .slice p2 k2 c2, .slice q2 l2 d2, .bool sz2, .slice pz2 kz2 cz2, .slice qz2 lz2 dz2, .bool false, .bool true, .bool false] 61) = W1 at *
 have HX1 := hid (And.intro HX.out.1 (And.intro (HE.out.1.below HX.out.2) (HE.out.2.trans (HX.out.2.mono HE.out.2.size))))
 clear HX HE
 generalize w1.heap.size = B1 at *
 obtain ⟨m0, m1, m2, m3, m4, m5, m6, m7, m8, _⟩ := HX1.out.1.cells9
 go_wp2_with fail
 refine (HB.out _ s2 p2 k2 c2 q2 l2 d2 HLL.out).mono ?_
 rintro e w3 ⟨s4, p4, k4, c4, q4, l4, d4, rfl, hF1, hB1⟩
 replace HX1 := hid (And.intro (HX1.out.1.below hB1) (And.intro (HX1.out.2.1.below hB1) (HX1.out.2.2.trans (hB1.mono HX1.out.2.2.size))))
 replace HHH := hid (HHH.out.below hB1)
 clear hB1 m0 m1 m2 m3 m4 m5 m6 m7 m8
 obtain ⟨m0, m1, m2, m3, m4, m5, m6, m7, m8, f0, f1, f2, f3, f4, f5, f6, f7, f8⟩ := HX1.out.1.cells9
 go_upto_region 12 with fail
 generalize hW1 : World.setCell _ _ _ = v1
 have hX : Box v1 B1 #[.bool s4, .slice p4 k4 c4, .slice q4 l4 d4, .bool sz2, .slice pz2 kz2 cz2, .slice qz2 lz2 dz2, .bool false, .bool true, .bool false] := by rw [← hW1]; exact Box.stores_at (m := [.bool s2, .slice p2 k2 c2, .slice q2 l2 d2, .bool sz2, .slice pz2 kz2 cz2, .slice qz2 lz2 dz2, .bool false, .bool true, .bool false]) (k := 0) (l := [.bool s4, .slice p4 k4 c4, .slice q4 l4 d4]) HX1.out.1 nd3
 have hY : Box v1 (w.heap.size + 1) _ := Box.of_eq (Box.stores_other (k := 0) (l := [.bool s4, .slice p4 k4 c4, .slice q4 l4 d4]) HX1.out.2.1 (by omega)) hW1
 have hZ : Below w.heap.size w v1 := by rw [← hW1]; exact Below.stores (k := 0) (l := [.bool s4, .slice p4 k4 c4, .slice q4 l4 d4]) HX1.out.2.2 (by omega)
 have hQ : QNorm v1 (.agg #[.bool s4, .slice p4 k4 c4, .slice q4 l4 d4]) ra := by rw [← hW1]; exact QNorm.stores (k := 0) (l := [.bool s4, .slice p4 k4 c4, .slice q4 l4 d4]) hF1.out HX1.out.1 nd3
 have hO := QNorm.stores (k := 0) (l := [.bool s4, .slice p4 k4 c4, .slice q4 l4 d4]) HHH.out HX1.out.1 nd3
 replace HX1 := hid (And.intro hX (And.intro hY hZ))
 replace HLL := hid hQ
 replace HHH := hid (show QNorm v1 _ _ by rw [← hW1]; exact hO)
 clear hX hY hZ hQ hO hW1 f0 f1 f2 f3 f4 f5 f6 f7 f8 hF1 m0 m1 m2 m3 m4 m5 m6 m7 m8
 obtain ⟨m0, m1, m2, m3, m4, m5, m6, m7, m8, _⟩ := HX1.out.1.cells9
 go_wp2_with fail
 refine (HD.out _ s4 p4 k4 c4 q4 l4 d4 sz2 pz2 kz2 cz2 qz2 lz2 dz2 false true false ⟨_, _, _, _, _, _, _, _, _, _, _, _, _, _, _, _, _, rfl, HLL.out, HHH.out, rfl, rfl, rfl⟩).mono ?_
 rintro e w4 ⟨s5, p5, k5, c5, q5, l5, d5, sz5, pz5, kz5, cz5, qz5, lz5, dz5, x5, y5, rfl, hG, hB2⟩
 replace HX1 := hid (And.intro (HX1.out.2.1.below hB2) (And.intro hG.out (HX1.out.2.2.trans (hB2.mono HX1.out.2.2.size))))
 clear hB2 hG m0 m1 m2 m3 m4 m5 m6 m7 m8
 obtain ⟨g0, g1, g2, g3, g4, g5, g6, g7, f0, f1, f2, f3, f4, f5, f6, f7⟩ := HX1.out.1.cells8
 go_wp2_with fail
 exact jRoot_fin rfl rfl HX1.out.1 rfl HX1.out.2.1 HX1.out.2.2 (by omega)
theorem jRoot_otf (s1 : Bool) (p1 : Option Addr) (k1 c1 : Nat) (q1 : Option Addr) (l1 d1 : Nat) (sz1 : Bool) (pz1 : Option Addr) (kz1 cz1 : Nat) (qz1 : Option Addr) (lz1 dz1 : Nat) (x1 : Bool) (y1 : Bool) (n p : Int) (ta tb : Bool × Nat × Nat) (r : (Bool × Nat × Nat) × (Bool × Nat × Nat) × Bool × Bool × Bool) (rb : Bool × Nat × Nat) (c : Int) (D : (Bool × Nat × Nat) × (Bool × Nat × Nat) × Bool × Bool) (w : World) (hr : r = (ta, tb, true, false, false)) (hn : decide (n < 2) = false) (hm : decide (8 < n) = false) (he : (Int.tmod n 2 == 0) = false)
  (HO : Hid (∀ W, Below w.heap.size w W → Calls Tryz.prog 33 #[.agg #[.bool s1, .slice p1 k1 c1, .slice q1 l1 d1, .bool sz1, .slice pz1 kz1 cz1, .slice qz1 lz1 dz1, .bool x1, .bool y1], .int .i64 p] W fun e w' => ∃ s2 p2 k2 c2 q2 l2 d2 sz2 pz2 kz2 cz2 qz2 lz2 dz2 x2 y2 e2, e = .returned (.tuple #[.agg #[.bool s2, .slice p2 k2 c2, .slice q2 l2 d2, .bool sz2, .slice pz2 kz2 cz2, .slice qz2 lz2 dz2, .bool x2, .bool y2, .bool e2], .int .i64 0]) ∧ Hid (JRep w' (.agg #[.bool s2, .slice p2 k2 c2, .slice q2 l2 d2, .bool sz2, .slice pz2 kz2 cz2, .slice qz2 lz2 dz2, .bool x2, .bool y2, .bool e2]) r) ∧ Below W.heap.size W w'))
  (HU : Hid (∀ W (s2 : Bool) (p2 : Option Addr) (k2 c2 : Nat) (q2 : Option Addr) (l2 d2 : Nat), QNorm W (.agg #[.bool s2, .slice p2 k2 c2, .slice q2 l2 d2]) tb → Calls Tryz.prog 67 #[.agg #[.bool s2, .slice p2 k2 c2, .slice q2 l2 d2], .int .i64 n, .int .i64 p] W fun e w' => ∃ s4 p4 k4 c4 q4 l4 d4, e = .returned (.agg #[.bool s4, .slice p4 k4 c4, .slice q4 l4 d4]) ∧ Hid (QNorm w' (.agg #[.bool s4, .slice p4 k4 c4, .slice q4 l4 d4]) rb) ∧ Below W.heap.size W w'))
  (HD : Hid (∀ W (s2 : Bool) (p2 : Option Addr) (k2 c2 : Nat) (q2 : Option Addr) (l2 d2 : Nat) (sz2 : Bool) (pz2 : Option Addr) (kz2 cz2 : Nat) (qz2 : Option Addr) (lz2 dz2 : Nat) (x2 : Bool) (y2 : Bool) (e2 : Bool), JRep W (.agg #[.bool s2, .slice p2 k2 c2, .slice q2 l2 d2, .bool sz2, .slice pz2 kz2 cz2, .slice qz2 lz2 dz2, .bool x2, .bool y2, .bool e2]) (ta, rb, true, false, false) → Calls Tryz.prog 46 #[.agg #[.bool s2, .slice p2 k2 c2, .slice q2 l2 d2, .bool sz2, .slice pz2 kz2 cz2, .slice qz2 lz2 dz2, .bool x2, .bool y2, .bool e2]] W fun e w' => ∃ s5 p5 k5 c5 q5 l5 d5 sz5 pz5 kz5 cz5 qz5 lz5 dz5 x5 y5, e = .returned (.tuple #[.agg #[.bool s5, .slice p5 k5 c5, .slice q5 l5 d5, .bool sz5, .slice pz5 kz5 cz5, .slice qz5 lz5 dz5, .bool x5, .bool y5], .int .i64 c]) ∧ Hid (GRep w' (.agg #[.bool s5, .slice p5 k5 c5, .slice q5 l5 d5, .bool sz5, .slice pz5 kz5 cz5, .slice qz5 lz5 dz5, .bool x5, .bool y5]) D) ∧ Below W.heap.size W w')) :
  Calls Tryz.prog 23 #[.agg #[.bool s1, .slice p1 k1 c1, .slice q1 l1 d1, .bool sz1, .slice pz1 kz1 cz1, .slice qz1 lz1 dz1, .bool x1, .bool y1], .int .i64 n, .int .i64 p] w fun e w' => ∃ s5 p5 k5 c5 q5 l5 d5 sz5 pz5 kz5 cz5 qz5 lz5 dz5 x5 y5, e = .returned (.tuple #[.agg #[.bool s5, .slice p5 k5 c5, .slice q5 l5 d5, .bool sz5, .slice pz5 kz5 cz5, .slice qz5 lz5 dz5, .bool x5, .bool y5], .int .i64 c]) ∧ Hid (GRep w' (.agg #[.bool s5, .slice p5 k5 c5, .slice q5 l5 d5, .bool sz5, .slice pz5 kz5 cz5, .slice qz5 lz5 dz5, .bool x5, .bool y5]) D) ∧ Below w.heap.size w w' := by
 go_enter Tryz.func23, Tryz.ntmps23
 go_wp2_with fail
 generalize hA : World.alloc _ _ = W0
 have HV := hid (pre2_o hA nd8 nd8)
 clear hA
 refine (HO.out _ HV.out.2.2).mono ?_
 rintro e w1 ⟨s2, p2, k2, c2, q2, l2, d2, sz2, pz2, kz2, cz2, qz2, lz2, dz2, x2, y2, e2, rfl, hJ, hB1⟩
 have hj := JRep.parts s2 p2 k2 c2 q2 l2 d2 sz2 pz2 kz2 cz2 qz2 lz2 dz2 x2 y2 e2 hJ.out
 rw [hr] at hj
 obtain ⟨hl, hh, rfl, rfl, rfl⟩ := hj
 clear hJ
 have HLL := hid hl
 have HHH := hid hh
 clear hl hh
 have HE := hid (And.intro (HV.out.2.1.below hB1) (HV.out.2.2.trans (hB1.mono HV.out.2.2.size)))
 clear hB1 HV
 go_upto_region 2 with fail
 have HX := hid (pre1 w1 [.bool s2, .slice p2 k2 c2, .slice q2 l2 d2, .bool sz2, .slice pz2 kz2 cz2, .slice qz2 lz2 dz2, .bool true, .bool false, .bool false] 61 nd9)
 have hlt : w.heap.size + 1 < w1.heap.size := HE.out.1.lt
 replace HLL := hid (HLL.out.below HX.out.2)
 replace HHH := hid (HHH.out.below HX.out.2)
 generalize w1.alloc (.cells #[.bool s2, .slice p2 k2 c2, .slice q2 l2 d2, .bool sz2, .slice pz2 kz2 cz2, .slice qz2 lz2 dz2, .bool true, .bool false, .bool false] 61) = W1 at *
 have HX1 := hid (And.intro HX.out.1 (And.intro (HE.out.1.below HX.out.2) (HE.out.2.trans (HX.out.2.mono HE.out.2.size))))
 clear HX HE
 generalize w1.heap.size = B1 at *
 obtain ⟨m0, m1, m2, m3, m4, m5, m6, m7, m8, _⟩ := HX1.out.1.cells9
 go_wp2_with fail
 refine (HU.out _ sz2 pz2 kz2 cz2 qz2 lz2 dz2 HHH.out).mono ?_
 rintro e w3 ⟨s5, p5, k5, c5, q5, l5, d5, rfl, hF1, hB1⟩
 replace HX1 := hid (And.intro (HX1.out.1.below hB1) (And.intro (HX1.out.2.1.below hB1) (HX1.out.2.2.trans (hB1.mono HX1.out.2.2.size))))
 replace HLL := hid (HLL.out.below hB1)
 clear hB1 m0 m1 m2 m3 m4 m5 m6 m7 m8
 obtain ⟨m0, m1, m2, m3, m4, m5, m6, m7, m8, f0, f1, f2, f3, f4, f5, f6, f7, f8⟩ := HX1.out.1.cells9
 go_upto_region 14 with fail
 generalize hW1 : World.setCell _ _ _ = v2
 have hX : Box v2 B1 #[.bool s2, .slice p2 k2 c2, .slice q2 l2 d2, .bool s5, .slice p5 k5 c5, .slice q5 l5 d5, .bool true, .bool false, .bool false] := by rw [← hW1]; exact Box.stores_at (m := [.bool s2, .slice p2 k2 c2, .slice q2 l2 d2, .bool sz2, .slice pz2 kz2 cz2, .slice qz2 lz2 dz2, .bool true, .bool false, .bool false]) (k := 3) (l := [.bool s5, .slice p5 k5 c5, .slice q5 l5 d5]) HX1.out.1 nd3
 have hY : Box v2 (w.heap.size + 1) _ := Box.of_eq (Box.stores_other (k := 3) (l := [.bool s5, .slice p5 k5 c5, .slice q5 l5 d5]) HX1.out.2.1 (by omega)) hW1
 have hZ : Below w.heap.size w v2 := by rw [← hW1]; exact Below.stores (k := 3) (l := [.bool s5, .slice p5 k5 c5, .slice q5 l5 d5]) HX1.out.2.2 (by omega)
 have hQ : QNorm v2 (.agg #[.bool s5, .slice p5 k5 c5, .slice q5 l5 d5]) rb := by rw [← hW1]; exact QNorm.stores (k := 3) (l := [.bool s5, .slice p5 k5 c5, .slice q5 l5 d5]) hF1.out HX1.out.1 nd3
 have hO := QNorm.stores (k := 3) (l := [.bool s5, .slice p5 k5 c5, .slice q5 l5 d5]) HLL.out HX1.out.1 nd3
 replace HX1 := hid (And.intro hX (And.intro hY hZ))
 replace HHH := hid hQ
 replace HLL := hid (show QNorm v2 _ _ by rw [← hW1]; exact hO)
 clear hX hY hZ hQ hO hW1 f0 f1 f2 f3 f4 f5 f6 f7 f8 hF1 m0 m1 m2 m3 m4 m5 m6 m7 m8
 obtain ⟨m0, m1, m2, m3, m4, m5, m6, m7, m8, _⟩ := HX1.out.1.cells9
 go_wp2_with fail
 refine (HD.out _ s2 p2 k2 c2 q2 l2 d2 s5 p5 k5 c5 q5 l5 d5 true false false ⟨_, _, _, _, _, _, _, _, _, _, _, _, _, _, _, _, _, rfl, HLL.out, HHH.out, rfl, rfl, rfl⟩).mono ?_
 rintro e w4 ⟨s5, p5, k5, c5, q5, l5, d5, sz5, pz5, kz5, cz5, qz5, lz5, dz5, x5, y5, rfl, hG, hB2⟩
 replace HX1 := hid (And.intro (HX1.out.2.1.below hB2) (And.intro hG.out (HX1.out.2.2.trans (hB2.mono HX1.out.2.2.size))))
 clear hB2 hG m0 m1 m2 m3 m4 m5 m6 m7 m8
 obtain ⟨g0, g1, g2, g3, g4, g5, g6, g7, f0, f1, f2, f3, f4, f5, f6, f7⟩ := HX1.out.1.cells8
 go_wp2_with fail
 exact jRoot_fin rfl rfl HX1.out.1 rfl HX1.out.2.1 HX1.out.2.2 (by omega)
theorem jRoot_ott (s1 : Bool) (p1 : Option Addr) (k1 c1 : Nat) (q1 : Option Addr) (l1 d1 : Nat) (sz1 : Bool) (pz1 : Option Addr) (kz1 cz1 : Nat) (qz1 : Option Addr) (lz1 dz1 : Nat) (x1 : Bool) (y1 : Bool) (n p : Int) (ta tb : Bool × Nat × Nat) (r : (Bool × Nat × Nat) × (Bool × Nat × Nat) × Bool × Bool × Bool) (c : Int) (D : (Bool × Nat × Nat) × (Bool × Nat × Nat) × Bool × Bool) (w : World) (hr : r = (ta, tb, true, true, false)) (hn : decide (n < 2) = false) (hm : decide (8 < n) = false) (he : (Int.tmod n 2 == 0) = false)
  (HO : Hid (∀ W, Below w.heap.size w W → Calls Tryz.prog 33 #[.agg #[.bool s1, .slice p1 k1 c1, .slice q1 l1 d1, .bool sz1, .slice pz1 kz1 cz1, .slice qz1 lz1 dz1, .bool x1, .bool y1], .int .i64 p] W fun e w' => ∃ s2 p2 k2 c2 q2 l2 d2 sz2 pz2 kz2 cz2 qz2 lz2 dz2 x2 y2 e2, e = .returned (.tuple #[.agg #[.bool s2, .slice p2 k2 c2, .slice q2 l2 d2, .bool sz2, .slice pz2 kz2 cz2, .slice qz2 lz2 dz2, .bool x2, .bool y2, .bool e2], .int .i64 0]) ∧ Hid (JRep w' (.agg #[.bool s2, .slice p2 k2 c2, .slice q2 l2 d2, .bool sz2, .slice pz2 kz2 cz2, .slice qz2 lz2 dz2, .bool x2, .bool y2, .bool e2]) r) ∧ Below W.heap.size W w'))
  (HD : Hid (∀ W (s2 : Bool) (p2 : Option Addr) (k2 c2 : Nat) (q2 : Option Addr) (l2 d2 : Nat) (sz2 : Bool) (pz2 : Option Addr) (kz2 cz2 : Nat) (qz2 : Option Addr) (lz2 dz2 : Nat) (x2 : Bool) (y2 : Bool) (e2 : Bool), JRep W (.agg #[.bool s2, .slice p2 k2 c2, .slice q2 l2 d2, .bool sz2, .slice pz2 kz2 cz2, .slice qz2 lz2 dz2, .bool x2, .bool y2, .bool e2]) (ta, tb, true, true, false) → Calls Tryz.prog 46 #[.agg #[.bool s2, .slice p2 k2 c2, .slice q2 l2 d2, .bool sz2, .slice pz2 kz2 cz2, .slice qz2 lz2 dz2, .bool x2, .bool y2, .bool e2]] W fun e w' => ∃ s5 p5 k5 c5 q5 l5 d5 sz5 pz5 kz5 cz5 qz5 lz5 dz5 x5 y5, e = .returned (.tuple #[.agg #[.bool s5, .slice p5 k5 c5, .slice q5 l5 d5, .bool sz5, .slice pz5 kz5 cz5, .slice qz5 lz5 dz5, .bool x5, .bool y5], .int .i64 c]) ∧ Hid (GRep w' (.agg #[.bool s5, .slice p5 k5 c5, .slice q5 l5 d5, .bool sz5, .slice pz5 kz5 cz5, .slice qz5 lz5 dz5, .bool x5, .bool y5]) D) ∧ Below W.heap.size W w')) :
  Calls Tryz.prog 23 #[.agg #[.bool s1, .slice p1 k1 c1, .slice q1 l1 d1, .bool sz1, .slice pz1 kz1 cz1, .slice qz1 lz1 dz1, .bool x1, .bool y1], .int .i64 n, .int .i64 p] w fun e w' => ∃ s5 p5 k5 c5 q5 l5 d5 sz5 pz5 kz5 cz5 qz5 lz5 dz5 x5 y5, e = .returned (.tuple #[.agg #[.bool s5, .slice p5 k5 c5, .slice q5 l5 d5, .bool sz5, .slice pz5 kz5 cz5, .slice qz5 lz5 dz5, .bool x5, .bool y5], .int .i64 c]) ∧ Hid (GRep w' (.agg #[.bool s5, .slice p5 k5 c5, .slice q5 l5 d5, .bool sz5, .slice pz5 kz5 cz5, .slice qz5 lz5 dz5, .bool x5, .bool y5]) D) ∧ Below w.heap.size w w' := by
 go_enter Tryz.func23, Tryz.ntmps23
 go_wp2_with fail
 generalize hA : World.alloc _ _ = W0
 have HV := hid (pre2_o hA nd8 nd8)
 clear hA
 refine (HO.out _ HV.out.2.2).mono ?_
 rintro e w1 ⟨s2, p2, k2, c2, q2, l2, d2, sz2, pz2, kz2, cz2, qz2, lz2, dz2, x2, y2, e2, rfl, hJ, hB1⟩
 have hj := JRep.parts s2 p2 k2 c2 q2 l2 d2 sz2 pz2 kz2 cz2 qz2 lz2 dz2 x2 y2 e2 hJ.out
 rw [hr] at hj
 obtain ⟨hl, hh, rfl, rfl, rfl⟩ := hj
 clear hJ
 have HLL := hid hl
 have HHH := hid hh
 clear hl hh
 have HE := hid (And.intro (HV.out.2.1.below hB1) (HV.out.2.2.trans (hB1.mono HV.out.2.2.size)))
 clear hB1 HV
 go_upto_region 2 with fail
 have HX := hid (pre1 w1 [.bool s2, .slice p2 k2 c2, .slice q2 l2 d2, .bool sz2, .slice pz2 kz2 cz2, .slice qz2 lz2 dz2, .bool true, .bool true, .bool false] 61 nd9)
 have hlt : w.heap.size + 1 < w1.heap.size := HE.out.1.lt
 replace HLL := hid (HLL.out.below HX.out.2)
 replace HHH := hid (HHH.out.below HX.out.2)
 generalize w1.alloc (.cells #[.bool s2, .slice p2 k2 c2, .slice q2 l2 d2, .bool sz2, .slice pz2 kz2 cz2, .slice qz2 lz2 dz2, .bool true, .bool true, .bool false] 61) = W1 at *
 have HX1 := hid (And.intro HX.out.1 (And.intro (HE.out.1.below HX.out.2) (HE.out.2.trans (HX.out.2.mono HE.out.2.size))))
 clear HX HE
 generalize w1.heap.size = B1 at *
 obtain ⟨m0, m1, m2, m3, m4, m5, m6, m7, m8, _⟩ := HX1.out.1.cells9
 go_wp2_with fail
 refine (HD.out _ s2 p2 k2 c2 q2 l2 d2 sz2 pz2 kz2 cz2 qz2 lz2 dz2 true true false ⟨_, _, _, _, _, _, _, _, _, _, _, _, _, _, _, _, _, rfl, HLL.out, HHH.out, rfl, rfl, rfl⟩).mono ?_
 rintro e w4 ⟨s5, p5, k5, c5, q5, l5, d5, sz5, pz5, kz5, cz5, qz5, lz5, dz5, x5, y5, rfl, hG, hB2⟩
 replace HX1 := hid (And.intro (HX1.out.2.1.below hB2) (And.intro hG.out (HX1.out.2.2.trans (hB2.mono HX1.out.2.2.size))))
 clear hB2 hG m0 m1 m2 m3 m4 m5 m6 m7 m8
 obtain ⟨g0, g1, g2, g3, g4, g5, g6, g7, f0, f1, f2, f3, f4, f5, f6, f7⟩ := HX1.out.1.cells8
 go_wp2_with fail
 exact jRoot_fin rfl rfl HX1.out.1 rfl HX1.out.2.1 HX1.out.2.2 (by omega)
theorem jRoot_eff (s1 : Bool) (p1 : Option Addr) (k1 c1 : Nat) (q1 : Option Addr) (l1 d1 : Nat) (sz1 : Bool) (pz1 : Option Addr) (kz1 cz1 : Nat) (qz1 : Option Addr) (lz1 dz1 : Nat) (x1 : Bool) (y1 : Bool) (n p : Int) (ta tb : Bool × Nat × Nat) (r : (Bool × Nat × Nat) × (Bool × Nat × Nat) × Bool × Bool × Bool) (ra rb : Bool × Nat × Nat) (c : Int) (D : (Bool × Nat × Nat) × (Bool × Nat × Nat) × Bool × Bool) (w : World) (hr : r = (ta, tb, false, false, false)) (hn : decide (n < 2) = false) (hm : decide (8 < n) = false) (he : (Int.tmod n 2 == 0) = true)
  (HO : Hid (∀ W, Below w.heap.size w W → Calls Tryz.prog 33 #[.agg #[.bool s1, .slice p1 k1 c1, .slice q1 l1 d1, .bool sz1, .slice pz1 kz1 cz1, .slice qz1 lz1 dz1, .bool x1, .bool y1], .int .i64 p] W fun e w' => ∃ s2 p2 k2 c2 q2 l2 d2 sz2 pz2 kz2 cz2 qz2 lz2 dz2 x2 y2 e2, e = .returned (.tuple #[.agg #[.bool s2, .slice p2 k2 c2, .slice q2 l2 d2, .bool sz2, .slice pz2 kz2 cz2, .slice qz2 lz2 dz2, .bool x2, .bool y2, .bool e2], .int .i64 0]) ∧ Hid (JRep w' (.agg #[.bool s2, .slice p2 k2 c2, .slice q2 l2 d2, .bool sz2, .slice pz2 kz2 cz2, .slice qz2 lz2 dz2, .bool x2, .bool y2, .bool e2]) r) ∧ Below W.heap.size W w'))
  (g : Int) (HG : Hid (∀ W (s2 : Bool) (p2 : Option Addr) (k2 c2 : Nat) (q2 : Option Addr) (l2 d2 : Nat), QNorm W (.agg #[.bool s2, .slice p2 k2 c2, .slice q2 l2 d2]) ta → Calls Tryz.prog 65 #[.agg #[.bool s2, .slice p2 k2 c2, .slice q2 l2 d2]] W fun e w' => e = .returned (.int .i64 g) ∧ Below W.heap.size W w')) (hg : decide (g < 0) = false)
  (HB : Hid (∀ W (s2 : Bool) (p2 : Option Addr) (k2 c2 : Nat) (q2 : Option Addr) (l2 d2 : Nat), QNorm W (.agg #[.bool s2, .slice p2 k2 c2, .slice q2 l2 d2]) ta → Calls Tryz.prog 66 #[.agg #[.bool s2, .slice p2 k2 c2, .slice q2 l2 d2], .int .i64 n, .int .i64 p] W fun e w' => ∃ s4 p4 k4 c4 q4 l4 d4, e = .returned (.agg #[.bool s4, .slice p4 k4 c4, .slice q4 l4 d4]) ∧ Hid (QNorm w' (.agg #[.bool s4, .slice p4 k4 c4, .slice q4 l4 d4]) ra) ∧ Below W.heap.size W w'))
  (HU : Hid (∀ W (s2 : Bool) (p2 : Option Addr) (k2 c2 : Nat) (q2 : Option Addr) (l2 d2 : Nat), QNorm W (.agg #[.bool s2, .slice p2 k2 c2, .slice q2 l2 d2]) tb → Calls Tryz.prog 67 #[.agg #[.bool s2, .slice p2 k2 c2, .slice q2 l2 d2], .int .i64 n, .int .i64 p] W fun e w' => ∃ s4 p4 k4 c4 q4 l4 d4, e = .returned (.agg #[.bool s4, .slice p4 k4 c4, .slice q4 l4 d4]) ∧ Hid (QNorm w' (.agg #[.bool s4, .slice p4 k4 c4, .slice q4 l4 d4]) rb) ∧ Below W.heap.size W w'))
  (HD : Hid (∀ W (s2 : Bool) (p2 : Option Addr) (k2 c2 : Nat) (q2 : Option Addr) (l2 d2 : Nat) (sz2 : Bool) (pz2 : Option Addr) (kz2 cz2 : Nat) (qz2 : Option Addr) (lz2 dz2 : Nat) (x2 : Bool) (y2 : Bool) (e2 : Bool), JRep W (.agg #[.bool s2, .slice p2 k2 c2, .slice q2 l2 d2, .bool sz2, .slice pz2 kz2 cz2, .slice qz2 lz2 dz2, .bool x2, .bool y2, .bool e2]) (ra, rb, false, false, false) → Calls Tryz.prog 46 #[.agg #[.bool s2, .slice p2 k2 c2, .slice q2 l2 d2, .bool sz2, .slice pz2 kz2 cz2, .slice qz2 lz2 dz2, .bool x2, .bool y2, .bool e2]] W fun e w' => ∃ s5 p5 k5 c5 q5 l5 d5 sz5 pz5 kz5 cz5 qz5 lz5 dz5 x5 y5, e = .returned (.tuple #[.agg #[.bool s5, .slice p5 k5 c5, .slice q5 l5 d5, .bool sz5, .slice pz5 kz5 cz5, .slice qz5 lz5 dz5, .bool x5, .bool y5], .int .i64 c]) ∧ Hid (GRep w' (.agg #[.bool s5, .slice p5 k5 c5, .slice q5 l5 d5, .bool sz5, .slice pz5 kz5 cz5, .slice qz5 lz5 dz5, .bool x5, .bool y5]) D) ∧ Below W.heap.size W w')) :
  Calls Tryz.prog 23 #[.agg #[.bool s1, .slice p1 k1 c1, .slice q1 l1 d1, .bool sz1, .slice pz1 kz1 cz1, .slice qz1 lz1 dz1, .bool x1, .bool y1], .int .i64 n, .int .i64 p] w fun e w' => ∃ s5 p5 k5 c5 q5 l5 d5 sz5 pz5 kz5 cz5 qz5 lz5 dz5 x5 y5, e = .returned (.tuple #[.agg #[.bool s5, .slice p5 k5 c5, .slice q5 l5 d5, .bool sz5, .slice pz5 kz5 cz5, .slice qz5 lz5 dz5, .bool x5, .bool y5], .int .i64 c]) ∧ Hid (GRep w' (.agg #[.bool s5, .slice p5 k5 c5, .slice q5 l5 d5, .bool sz5, .slice pz5 kz5 cz5, .slice qz5 lz5 dz5, .bool x5, .bool y5]) D) ∧ Below w.heap.size w w' := by
 go_enter Tryz.func23, Tryz.ntmps23
 go_wp2_with fail
 generalize hA : World.alloc _ _ = W0
 have HV := hid (pre2_o hA nd8 nd8)
 clear hA
 refine (HO.out _ HV.out.2.2).mono ?_
 rintro e w1 ⟨s2, p2, k2, c2, q2, l2, d2, sz2, pz2, kz2, cz2, qz2, lz2, dz2, x2, y2, e2, rfl, hJ, hB1⟩
 have hj := JRep.parts s2 p2 k2 c2 q2 l2 d2 sz2 pz2 kz2 cz2 qz2 lz2 dz2 x2 y2 e2 hJ.out
 rw [hr] at hj
 obtain ⟨hl, hh, rfl, rfl, rfl⟩ := hj
 clear hJ
 have HLL := hid hl
 have HHH := hid hh
 clear hl hh
 have HE := hid (And.intro (HV.out.2.1.below hB1) (HV.out.2.2.trans (hB1.mono HV.out.2.2.size)))
 clear hB1 HV
 go_upto_region 2 with fail
 have HX := hid (pre1 w1 [.bool s2, .slice p2 k2 c2, .slice q2 l2 d2, .bool sz2, .slice pz2 kz2 cz2, .slice qz2 lz2 dz2, .bool false, .bool false, .bool false] 61 nd9)
 have hlt : w.heap.size + 1 < w1.heap.size := HE.out.1.lt
 replace HLL := hid (HLL.out.below HX.out.2)
 replace HHH := hid (HHH.out.below HX.out.2)
 generalize w1.alloc (.cells #[.bool s2, .slice p2 k2 c2, .slice q2 l2 d2, .bool sz2, .slice pz2 kz2 cz2, .slice qz2 lz2 dz2, .bool false, .bool false, .bool false] 61) = W1 at *
 have HX1 := hid (And.intro HX.out.1 (And.intro (HE.out.1.below HX.out.2) (HE.out.2.trans (HX.out.2.mono HE.out.2.size))))
 clear HX HE
 generalize w1.heap.size = B1 at *
 obtain ⟨m0, m1, m2, m3, m4, m5, m6, m7, m8, _⟩ := HX1.out.1.cells9
 go_wp2_with fail
 refine (HG.out _ s2 p2 k2 c2 q2 l2 d2 HLL.out).mono ?_
 rintro e w2 ⟨rfl, hB2⟩
 replace HX1 := hid (And.intro (HX1.out.1.below hB2) (And.intro (HX1.out.2.1.below hB2) (HX1.out.2.2.trans (hB2.mono HX1.out.2.2.size))))
 replace HLL := hid (HLL.out.below hB2)
 replace HHH := hid (HHH.out.below hB2)
 clear hB2 m0 m1 m2 m3 m4 m5 m6 m7 m8
 obtain ⟨m0, m1, m2, m3, m4, m5, m6, m7, m8, _⟩ := HX1.out.1.cells9
 go_wp2_with fail
 refine (HB.out _ s2 p2 k2 c2 q2 l2 d2 HLL.out).mono ?_
 rintro e w3 ⟨s4, p4, k4, c4, q4, l4, d4, rfl, hF1, hB1⟩
 replace HX1 := hid (And.intro (HX1.out.1.below hB1) (And.intro (HX1.out.2.1.below hB1) (HX1.out.2.2.trans (hB1.mono HX1.out.2.2.size))))
 replace HHH := hid (HHH.out.below hB1)
 clear hB1 m0 m1 m2 m3 m4 m5 m6 m7 m8
 obtain ⟨m0, m1, m2, m3, m4, m5, m6, m7, m8, f0, f1, f2, f3, f4, f5, f6, f7, f8⟩ := HX1.out.1.cells9
 go_upto_region 12 with fail
 generalize hW1 : World.setCell _ _ _ = v1
 have hX : Box v1 B1 #[.bool s4, .slice p4 k4 c4, .slice q4 l4 d4, .bool sz2, .slice pz2 kz2 cz2, .slice qz2 lz2 dz2, .bool false, .bool false, .bool false] := by rw [← hW1]; exact Box.stores_at (m := [.bool s2, .slice p2 k2 c2, .slice q2 l2 d2, .bool sz2, .slice pz2 kz2 cz2, .slice qz2 lz2 dz2, .bool false, .bool false, .bool false]) (k := 0) (l := [.bool s4, .slice p4 k4 c4, .slice q4 l4 d4]) HX1.out.1 nd3
 have hY : Box v1 (w.heap.size + 1) _ := Box.of_eq (Box.stores_other (k := 0) (l := [.bool s4, .slice p4 k4 c4, .slice q4 l4 d4]) HX1.out.2.1 (by omega)) hW1
 have hZ : Below w.heap.size w v1 := by rw [← hW1]; exact Below.stores (k := 0) (l := [.bool s4, .slice p4 k4 c4, .slice q4 l4 d4]) HX1.out.2.2 (by omega)
 have hQ : QNorm v1 (.agg #[.bool s4, .slice p4 k4 c4, .slice q4 l4 d4]) ra := by rw [← hW1]; exact QNorm.stores (k := 0) (l := [.bool s4, .slice p4 k4 c4, .slice q4 l4 d4]) hF1.out HX1.out.1 nd3
 have hO := QNorm.stores (k := 0) (l := [.bool s4, .slice p4 k4 c4, .slice q4 l4 d4]) HHH.out HX1.out.1 nd3
 replace HX1 := hid (And.intro hX (And.intro hY hZ))
 replace HLL := hid hQ
 replace HHH := hid (show QNorm v1 _ _ by rw [← hW1]; exact hO)
 clear hX hY hZ hQ hO hW1 f0 f1 f2 f3 f4 f5 f6 f7 f8 hF1 m0 m1 m2 m3 m4 m5 m6 m7 m8
 obtain ⟨m0, m1, m2, m3, m4, m5, m6, m7, m8, _⟩ := HX1.out.1.cells9
 go_wp2_with fail
 refine (HU.out _ sz2 pz2 kz2 cz2 qz2 lz2 dz2 HHH.out).mono ?_
 rintro e w3 ⟨s5, p5, k5, c5, q5, l5, d5, rfl, hF1, hB1⟩
 replace HX1 := hid (And.intro (HX1.out.1.below hB1) (And.intro (HX1.out.2.1.below hB1) (HX1.out.2.2.trans (hB1.mono HX1.out.2.2.size))))
 replace HLL := hid (HLL.out.below hB1)
 clear hB1 m0 m1 m2 m3 m4 m5 m6 m7 m8
 obtain ⟨m0, m1, m2, m3, m4, m5, m6, m7, m8, f0, f1, f2, f3, f4, f5, f6, f7, f8⟩ := HX1.out.1.cells9
 go_upto_region 14 with fail
 generalize hW1 : World.setCell _ _ _ = v2
 have hX : Box v2 B1 #[.bool s4, .slice p4 k4 c4, .slice q4 l4 d4, .bool s5, .slice p5 k5 c5, .slice q5 l5 d5, .bool false, .bool false, .bool false] := by rw [← hW1]; exact Box.stores_at (m := [.bool s4, .slice p4 k4 c4, .slice q4 l4 d4, .bool sz2, .slice pz2 kz2 cz2, .slice qz2 lz2 dz2, .bool false, .bool false, .bool false]) (k := 3) (l := [.bool s5, .slice p5 k5 c5, .slice q5 l5 d5]) HX1.out.1 nd3
 have hY : Box v2 (w.heap.size + 1) _ := Box.of_eq (Box.stores_other (k := 3) (l := [.bool s5, .slice p5 k5 c5, .slice q5 l5 d5]) HX1.out.2.1 (by omega)) hW1
 have hZ : Below w.heap.size w v2 := by rw [← hW1]; exact Below.stores (k := 3) (l := [.bool s5, .slice p5 k5 c5, .slice q5 l5 d5]) HX1.out.2.2 (by omega)
 have hQ : QNorm v2 (.agg #[.bool s5, .slice p5 k5 c5, .slice q5 l5 d5]) rb := by rw [← hW1]; exact QNorm.stores (k := 3) (l := [.bool s5, .slice p5 k5 c5, .slice q5 l5 d5]) hF1.out HX1.out.1 nd3
 have hO := QNorm.stores (k := 3) (l := [.bool s5, .slice p5 k5 c5, .slice q5 l5 d5]) HLL.out HX1.out.1 nd3
 replace HX1 := hid (And.intro hX (And.intro hY hZ))
 replace HHH := hid hQ
 replace HLL := hid (show QNorm v2 _ _ by rw [← hW1]; exact hO)
 clear hX hY hZ hQ hO hW1 f0 f1 f2 f3 f4 f5 f6 f7 f8 hF1 m0 m1 m2 m3 m4 m5 m6 m7 m8
 obtain ⟨m0, m1, m2, m3, m4, m5, m6, m7, m8, _⟩ := HX1.out.1.cells9
 go_wp2_with fail
 refine (HD.out _ s4 p4 k4 c4 q4 l4 d4 s5 p5 k5 c5 q5 l5 d5 false false false ⟨_, _, _, _, _, _, _, _, _, _, _, _, _, _, _, _, _, rfl, HLL.out, HHH.out, rfl, rfl, rfl⟩).mono ?_
 rintro e w4 ⟨s5, p5, k5, c5, q5, l5, d5, sz5, pz5, kz5, cz5, qz5, lz5, dz5, x5, y5, rfl, hG, hB2⟩
 replace HX1 := hid (And.intro (HX1.out.2.1.below hB2) (And.intro hG.out (HX1.out.2.2.trans (hB2.mono HX1.out.2.2.size))))
 clear hB2 hG m0 m1 m2 m3 m4 m5 m6 m7 m8
 obtain ⟨g0, g1, g2, g3, g4, g5, g6, g7, f0, f1, f2, f3, f4, f5, f6, f7⟩ := HX1.out.1.cells8
 go_wp2_with fail
 exact jRoot_fin rfl rfl HX1.out.1 rfl HX1.out.2.1 HX1.out.2.2 (by omega)
theorem jRoot_eft (s1 : Bool) (p1 : Option Addr) (k1 c1 : Nat) (q1 : Option Addr) (l1 d1 : Nat) (sz1 : Bool) (pz1 : Option Addr) (kz1 cz1 : Nat) (qz1 : Option Addr) (lz1 dz1 : Nat) (x1 : Bool) (y1 : Bool) (n p : Int) (ta tb : Bool × Nat × Nat) (r : (Bool × Nat × Nat) × (Bool × Nat × Nat) × Bool × Bool × Bool) (ra : Bool × Nat × Nat) (c : Int) (D : (Bool × Nat × Nat) × (Bool × Nat × Nat) × Bool × Bool) (w : World) (hr : r = (ta, tb, false, true, false)) (hn : decide (n < 2) = false) (hm : decide (8 < n) = false) (he : (Int.tmod n 2 == 0) = true)
  (HO : Hid (∀ W, Below w.heap.size w W → Calls Tryz.prog 33 #[.agg #[.bool s1, .slice p1 k1 c1, .slice q1 l1 d1, .bool sz1, .slice pz1 kz1 cz1, .slice qz1 lz1 dz1, .bool x1, .bool y1], .int .i64 p] W fun e w' => ∃ s2 p2 k2 c2 q2 l2 d2 sz2 pz2 kz2 cz2 qz2 lz2 dz2 x2 y2 e2, e = .returned (.tuple #[.agg #[.bool s2, .slice p2 k2 c2, .slice q2 l2 d2, .bool sz2, .slice pz2 kz2 cz2, .slice qz2 lz2 dz2, .bool x2, .bool y2, .bool e2], .int .i64 0]) ∧ Hid (JRep w' (.agg #[.bool s2, .slice p2 k2 c2, .slice q2 l2 d2, .bool sz2, .slice pz2 kz2 cz2, .slice qz2 lz2 dz2, .bool x2, .bool y2, .bool e2]) r) ∧ Below W.heap.size W w'))
  (g : Int) (HG : Hid (∀ W (s2 : Bool) (p2 : Option Addr) (k2 c2 : Nat) (q2 : Option Addr) (l2 d2 : Nat), QNorm W (.agg #[.bool s2, .slice p2 k2 c2, .slice q2 l2 d2]) ta → Calls Tryz.prog 65 #[.agg #[.bool s2, .slice p2 k2 c2, .slice q2 l2 d2]] W fun e w' => e = .returned (.int .i64 g) ∧ Below W.heap.size W w')) (hg : decide (g < 0) = false)
  (HB : Hid (∀ W (s2 : Bool) (p2 : Option Addr) (k2 c2 : Nat) (q2 : Option Addr) (l2 d2 : Nat), QNorm W (.agg #[.bool s2, .slice p2 k2 c2, .slice q2 l2 d2]) ta → Calls Tryz.prog 66 #[.agg #[.bool s2, .slice p2 k2 c2, .slice q2 l2 d2], .int .i64 n, .int .i64 p] W fun e w' => ∃ s4 p4 k4 c4 q4 l4 d4, e = .returned (.agg #[.bool s4, .slice p4 k4 c4, .slice q4 l4 d4]) ∧ Hid (QNorm w' (.agg #[.bool s4, .slice p4 k4 c4, .slice q4 l4 d4]) ra) ∧ Below W.heap.size W w'))
  (HD : Hid (∀ W (s2 : Bool) (p2 : Option Addr) (k2 c2 : Nat) (q2 : Option Addr) (l2 d2 : Nat) (sz2 : Bool) (pz2 : Option Addr) (kz2 cz2 : Nat) (qz2 : Option Addr) (lz2 dz2 : Nat) (x2 : Bool) (y2 : Bool) (e2 : Bool), JRep W (.agg #[.bool s2, .slice p2 k2 c2, .slice q2 l2 d2, .bool sz2, .slice pz2 kz2 cz2, .slice qz2 lz2 dz2, .bool x2, .bool y2, .bool e2]) (ra, tb, false, true, false) → Calls Tryz.prog 46 #[.agg #[.bool s2, .slice p2 k2 c2, .slice q2 l2 d2, .bool sz2, .slice pz2 kz2 cz2, .slice qz2 lz2 dz2, .bool x2, .bool y2, .bool e2]] W fun e w' => ∃ s5 p5 k5 c5 q5 l5 d5 sz5 pz5 kz5 cz5 qz5 lz5 dz5 x5 y5, e = .returned (.tuple #[.agg #[.bool s5, .slice p5 k5 c5, .slice q5 l5 d5, .bool sz5, .slice pz5 kz5 cz5, .slice qz5 lz5 dz5, .bool x5, .bool y5], .int .i64 c]) ∧ Hid (GRep w' (.agg #[.bool s5, .slice p5 k5 c5, .slice q5 l5 d5, .bool sz5, .slice pz5 kz5 cz5, .slice qz5 lz5 dz5, .bool x5, .bool y5]) D) ∧ Below W.heap.size W w')) :
  Calls Tryz.prog 23 #[.agg #[.bool s1, .slice p1 k1 c1, .slice q1 l1 d1, .bool sz1, .slice pz1 kz1 cz1, .slice qz1 lz1 dz1, .bool x1, .bool y1], .int .i64 n, .int .i64 p] w fun e w' => ∃ s5 p5 k5 c5 q5 l5 d5 sz5 pz5 kz5 cz5 qz5 lz5 dz5 x5 y5, e = .returned (.tuple #[.agg #[.bool s5, .slice p5 k5 c5, .slice q5 l5 d5, .bool sz5, .slice pz5 kz5 cz5, .slice qz5 lz5 dz5, .bool x5, .bool y5], .int .i64 c]) ∧ Hid (GRep w' (.agg #[.bool s5, .slice p5 k5 c5, .slice q5 l5 d5, .bool sz5, .slice pz5 kz5 cz5, .slice qz5 lz5 dz5, .bool x5, .bool y5]) D) ∧ Below w.heap.size w w' := by
 go_enter Tryz.func23, Tryz.ntmps23
 go_wp2_with fail
 generalize hA : World.alloc _ _ = W0
 have HV := hid (pre2_o hA nd8 nd8)
 clear hA
 refine (HO.out _ HV.out.2.2).mono ?_
 rintro e w1 ⟨s2, p2, k2, c2, q2, l2, d2, sz2, pz2, kz2, cz2, qz2, lz2, dz2, x2, y2, e2, rfl, hJ, hB1⟩
 have hj := JRep.parts s2 p2 k2 c2 q2 l2 d2 sz2 pz2 kz2 cz2 qz2 lz2 dz2 x2 y2 e2 hJ.out
 rw [hr] at hj
 obtain ⟨hl, hh, rfl, rfl, rfl⟩ := hj
 clear hJ
 have HLL := hid hl
 have HHH := hid hh
 clear hl hh
 have HE := hid (And.intro (HV.out.2.1.below hB1) (HV.out.2.2.trans (hB1.mono HV.out.2.2.size)))
 clear hB1 HV
 go_upto_region 2 with fail
 have HX := hid (pre1 w1 [.bool s2, .slice p2 k2 c2, .slice q2 l2 d2, .bool sz2, .slice pz2 kz2 cz2, .slice qz2 lz2 dz2, .bool false, .bool true, .bool false] 61 nd9)
 have hlt : w.heap.size + 1 < w1.heap.size := HE.out.1.lt
 replace HLL := hid (HLL.out.below HX.out.2)
 replace HHH := hid (HHH.out.below HX.out.2)
 generalize w1.alloc (.cells #[.bool s2, .slice p2 k2 c2, .slice q2 l2 d2, .bool sz2, .slice pz2 kz2 cz2, .slice qz2 lz2 dz2, .bool false, .bool true, .bool false] 61) = W1 at *
 have HX1 := hid (And.intro HX.out.1 (And.intro (HE.out.1.below HX.out.2) (HE.out.2.trans (HX.out.2.mono HE.out.2.size))))
 clear HX HE
 generalize w1.heap.size = B1 at *
 obtain ⟨m0, m1, m2, m3, m4, m5, m6, m7, m8, _⟩ := HX1.out.1.cells9
 go_wp2_with fail
 refine (HG.out _ s2 p2 k2 c2 q2 l2 d2 HLL.out).mono ?_
 rintro e w2 ⟨rfl, hB2⟩
 replace HX1 := hid (And.intro (HX1.out.1.below hB2) (And.intro (HX1.out.2.1.below hB2) (HX1.out.2.2.trans (hB2.mono HX1.out.2.2.size))))
 replace HLL := hid (HLL.out.below hB2)
 replace HHH := hid (HHH.out.below hB2)
 clear hB2 m0 m1 m2 m3 m4 m5 m6 m7 m8
 obtain ⟨m0, m1, m2, m3, m4, m5, m6, m7, m8, _⟩ := HX1.out.1.cells9
 go_wp2_with fail
 refine (HB.out _ s2 p2 k2 c2 q2 l2 d2 HLL.out).mono ?_
 rintro e w3 ⟨s4, p4, k4, c4, q4, l4, d4, rfl, hF1, hB1⟩
 replace HX1 := hid (And.intro (HX1.out.1.below hB1) (And.intro (HX1.out.2.1.below hB1) (HX1.out.2.2.trans (hB1.mono HX1.out.2.2.size))))
 replace HHH := hid (HHH.out.below hB1)
 clear hB1 m0 m1 m2 m3 m4 m5 m6 m7 m8
 obtain ⟨m0, m1, m2, m3, m4, m5, m6, m7, m8, f0, f1, f2, f3, f4, f5, f6, f7, f8⟩ := HX1.out.1.cells9
 go_upto_region 12 with fail
 generalize hW1 : World.setCell _ _ _ = v1
 have hX : Box v1 B1 #[.bool s4, .slice p4 k4 c4, .slice q4 l4 d4, .bool sz2, .slice pz2 kz2 cz2, .slice qz2 lz2 dz2, .bool false, .bool true, .bool false] := by rw [← hW1]; exact Box.stores_at (m := [.bool s2, .slice p2 k2 c2, .slice q2 l2 d2, .bool sz2, .slice pz2 kz2 cz2, .slice qz2 lz2 dz2, .bool false, .bool true, .bool false]) (k := 0) (l := [.bool s4, .slice p4 k4 c4, .slice q4 l4 d4]) HX1.out.1 nd3
 have hY : Box v1 (w.heap.size + 1) _ := Box.of_eq (Box.stores_other (k := 0) (l := [.bool s4, .slice p4 k4 c4, .slice q4 l4 d4]) HX1.out.2.1 (by omega)) hW1
 have hZ : Below w.heap.size w v1 := by rw [← hW1]; exact Below.stores (k := 0) (l := [.bool s4, .slice p4 k4 c4, .slice q4 l4 d4]) HX1.out.2.2 (by omega)
 have hQ : QNorm v1 (.agg #[.bool s4, .slice p4 k4 c4, .slice q4 l4 d4]) ra := by rw [← hW1]; exact QNorm.stores (k := 0) (l := [.bool s4, .slice p4 k4 c4, .slice q4 l4 d4]) hF1.out HX1.out.1 nd3
 have hO := QNorm.stores (k := 0) (l := [.bool s4, .slice p4 k4 c4, .slice q4 l4 d4]) HHH.out HX1.out.1 nd3
 replace HX1 := hid (And.intro hX (And.intro hY hZ))
 replace HLL := hid hQ
 replace HHH := hid (show QNorm v1 _ _ by rw [← hW1]; exact hO)
 clear hX hY hZ hQ hO hW1 f0 f1 f2 f3 f4 f5 f6 f7 f8 hF1 m0 m1 m2 m3 m4 m5 m6 m7 m8
 obtain ⟨m0, m1, m2, m3, m4, m5, m6, m7, m8, _⟩ := HX1.out.1.cells9
 go_wp2_with fail
 refine (HD.out _ s4 p4 k4 c4 q4 l4 d4 sz2 pz2 kz2 cz2 qz2 lz2 dz2 false true false ⟨_, _, _, _, _, _, _, _, _, _, _, _, _, _, _, _, _, rfl, HLL.out, HHH.out, rfl, rfl, rfl⟩).mono ?_
 rintro e w4 ⟨s5, p5, k5, c5, q5, l5, d5, sz5, pz5, kz5, cz5, qz5, lz5, dz5, x5, y5, rfl, hG, hB2⟩
 replace HX1 := hid (And.intro (HX1.out.2.1.below hB2) (And.intro hG.out (HX1.out.2.2.trans (hB2.mono HX1.out.2.2.size))))
 clear hB2 hG m0 m1 m2 m3 m4 m5 m6 m7 m8
 obtain ⟨g0, g1, g2, g3, g4, g5, g6, g7, f0, f1, f2, f3, f4, f5, f6, f7⟩ := HX1.out.1.cells8
 go_wp2_with fail
 exact jRoot_fin rfl rfl HX1.out.1 rfl HX1.out.2.1 HX1.out.2.2 (by omega)
theorem jRoot_ef_dom (s1 : Bool) (p1 : Option Addr) (k1 c1 : Nat) (q1 : Option Addr) (l1 d1 : Nat) (sz1 : Bool) (pz1 : Option Addr) (kz1 cz1 : Nat) (qz1 : Option Addr) (lz1 dz1 : Nat) (x1 : Bool) (y1 : Bool) (n p : Int) (ta tb : Bool × Nat × Nat) (y : Bool) (r : (Bool × Nat × Nat) × (Bool × Nat × Nat) × Bool × Bool × Bool) (w : World) (hr : r = (ta, tb, false, y, false)) (hn : decide (n < 2) = false) (hm : decide (8 < n) = false) (he : (Int.tmod n 2 == 0) = true)
  (HO : Hid (∀ W, Below w.heap.size w W → Calls Tryz.prog 33 #[.agg #[.bool s1, .slice p1 k1 c1, .slice q1 l1 d1, .bool sz1, .slice pz1 kz1 cz1, .slice qz1 lz1 dz1, .bool x1, .bool y1], .int .i64 p] W fun e w' => ∃ s2 p2 k2 c2 q2 l2 d2 sz2 pz2 kz2 cz2 qz2 lz2 dz2 x2 y2 e2, e = .returned (.tuple #[.agg #[.bool s2, .slice p2 k2 c2, .slice q2 l2 d2, .bool sz2, .slice pz2 kz2 cz2, .slice qz2 lz2 dz2, .bool x2, .bool y2, .bool e2], .int .i64 0]) ∧ Hid (JRep w' (.agg #[.bool s2, .slice p2 k2 c2, .slice q2 l2 d2, .bool sz2, .slice pz2 kz2 cz2, .slice qz2 lz2 dz2, .bool x2, .bool y2, .bool e2]) r) ∧ Below W.heap.size W w'))
  (g : Int) (HG : Hid (∀ W (s2 : Bool) (p2 : Option Addr) (k2 c2 : Nat) (q2 : Option Addr) (l2 d2 : Nat), QNorm W (.agg #[.bool s2, .slice p2 k2 c2, .slice q2 l2 d2]) ta → Calls Tryz.prog 65 #[.agg #[.bool s2, .slice p2 k2 c2, .slice q2 l2 d2]] W fun e w' => e = .returned (.int .i64 g) ∧ Below W.heap.size W w')) (hg : decide (g < 0) = true) :
  Calls Tryz.prog 23 #[.agg #[.bool s1, .slice p1 k1 c1, .slice q1 l1 d1, .bool sz1, .slice pz1 kz1 cz1, .slice qz1 lz1 dz1, .bool x1, .bool y1], .int .i64 n, .int .i64 p] w fun e w' => ∃ s5 p5 k5 c5 q5 l5 d5 sz5 pz5 kz5 cz5 qz5 lz5 dz5 x5 y5, e = .returned (.tuple #[.agg #[.bool s5, .slice p5 k5 c5, .slice q5 l5 d5, .bool sz5, .slice pz5 kz5 cz5, .slice qz5 lz5 dz5, .bool x5, .bool y5], .int .i64 5]) ∧ Hid (GRep w' (.agg #[.bool s5, .slice p5 k5 c5, .slice q5 l5 d5, .bool sz5, .slice pz5 kz5 cz5, .slice qz5 lz5 dz5, .bool x5, .bool y5]) gzero) ∧ Below w.heap.size w w' := by
 go_enter Tryz.func23, Tryz.ntmps23
 go_wp2_with fail
 generalize hA : World.alloc _ _ = W0
 have HV := hid (pre2_o hA nd8 nd8)
 clear hA
 refine (HO.out _ HV.out.2.2).mono ?_
 rintro e w1 ⟨s2, p2, k2, c2, q2, l2, d2, sz2, pz2, kz2, cz2, qz2, lz2, dz2, x2, y2, e2, rfl, hJ, hB1⟩
 have hj := JRep.parts s2 p2 k2 c2 q2 l2 d2 sz2 pz2 kz2 cz2 qz2 lz2 dz2 x2 y2 e2 hJ.out
 rw [hr] at hj
 obtain ⟨hl, hh, rfl, rfl, rfl⟩ := hj
 clear hJ
 have HLL := hid hl
 have HHH := hid hh
 clear hl hh
 have HE := hid (And.intro (HV.out.2.1.below hB1) (HV.out.2.2.trans (hB1.mono HV.out.2.2.size)))
 clear hB1 HV
 go_upto_region 2 with fail
 have HX := hid (pre1 w1 [.bool s2, .slice p2 k2 c2, .slice q2 l2 d2, .bool sz2, .slice pz2 kz2 cz2, .slice qz2 lz2 dz2, .bool false, .bool y2, .bool false] 61 nd9)
 have hlt : w.heap.size + 1 < w1.heap.size := HE.out.1.lt
 replace HLL := hid (HLL.out.below HX.out.2)
 replace HHH := hid (HHH.out.below HX.out.2)
 generalize w1.alloc (.cells #[.bool s2, .slice p2 k2 c2, .slice q2 l2 d2, .bool sz2, .slice pz2 kz2 cz2, .slice qz2 lz2 dz2, .bool false, .bool y2, .bool false] 61) = W1 at *
 have HX1 := hid (And.intro HX.out.1 (And.intro (HE.out.1.below HX.out.2) (HE.out.2.trans (HX.out.2.mono HE.out.2.size))))
 clear HX HE
 generalize w1.heap.size = B1 at *
 obtain ⟨m0, m1, m2, m3, m4, m5, m6, m7, m8, _⟩ := HX1.out.1.cells9
 go_wp2_with fail
 refine (HG.out _ s2 p2 k2 c2 q2 l2 d2 HLL.out).mono ?_
 rintro e w2 ⟨rfl, hB2⟩
 replace HX1 := hid (And.intro (HX1.out.1.below hB2) (And.intro (HX1.out.2.1.below hB2) (HX1.out.2.2.trans (hB2.mono HX1.out.2.2.size))))
 replace HLL := hid (HLL.out.below hB2)
 replace HHH := hid (HHH.out.below hB2)
 clear hB2 m0 m1 m2 m3 m4 m5 m6 m7 m8
 obtain ⟨g0, g1, g2, g3, g4, g5, g6, g7, f0, f1, f2, f3, f4, f5, f6, f7⟩ := HX1.out.2.1.cells8
 go_wp2_with fail
 exact jRoot_fin rfl rfl HX1.out.2.1 rfl (GRep.zero _) HX1.out.2.2 (by omega)
theorem jRoot_et_dom (s1 : Bool) (p1 : Option Addr) (k1 c1 : Nat) (q1 : Option Addr) (l1 d1 : Nat) (sz1 : Bool) (pz1 : Option Addr) (kz1 cz1 : Nat) (qz1 : Option Addr) (lz1 dz1 : Nat) (x1 : Bool) (y1 : Bool) (n p : Int) (ta tb : Bool × Nat × Nat) (y : Bool) (r : (Bool × Nat × Nat) × (Bool × Nat × Nat) × Bool × Bool × Bool) (w : World) (hr : r = (ta, tb, true, y, false)) (hn : decide (n < 2) = false) (hm : decide (8 < n) = false) (he : (Int.tmod n 2 == 0) = true)
  (HO : Hid (∀ W, Below w.heap.size w W → Calls Tryz.prog 33 #[.agg #[.bool s1, .slice p1 k1 c1, .slice q1 l1 d1, .bool sz1, .slice pz1 kz1 cz1, .slice qz1 lz1 dz1, .bool x1, .bool y1], .int .i64 p] W fun e w' => ∃ s2 p2 k2 c2 q2 l2 d2 sz2 pz2 kz2 cz2 qz2 lz2 dz2 x2 y2 e2, e = .returned (.tuple #[.agg #[.bool s2, .slice p2 k2 c2, .slice q2 l2 d2, .bool sz2, .slice pz2 kz2 cz2, .slice qz2 lz2 dz2, .bool x2, .bool y2, .bool e2], .int .i64 0]) ∧ Hid (JRep w' (.agg #[.bool s2, .slice p2 k2 c2, .slice q2 l2 d2, .bool sz2, .slice pz2 kz2 cz2, .slice qz2 lz2 dz2, .bool x2, .bool y2, .bool e2]) r) ∧ Below W.heap.size W w')) :
  Calls Tryz.prog 23 #[.agg #[.bool s1, .slice p1 k1 c1, .slice q1 l1 d1, .bool sz1, .slice pz1 kz1 cz1, .slice qz1 lz1 dz1, .bool x1, .bool y1], .int .i64 n, .int .i64 p] w fun e w' => ∃ s5 p5 k5 c5 q5 l5 d5 sz5 pz5 kz5 cz5 qz5 lz5 dz5 x5 y5, e = .returned (.tuple #[.agg #[.bool s5, .slice p5 k5 c5, .slice q5 l5 d5, .bool sz5, .slice pz5 kz5 cz5, .slice qz5 lz5 dz5, .bool x5, .bool y5], .int .i64 5]) ∧ Hid (GRep w' (.agg #[.bool s5, .slice p5 k5 c5, .slice q5 l5 d5, .bool sz5, .slice pz5 kz5 cz5, .slice qz5 lz5 dz5, .bool x5, .bool y5]) gzero) ∧ Below w.heap.size w w' := by
 go_enter Tryz.func23, Tryz.ntmps23
 go_wp2_with fail
 generalize hA : World.alloc _ _ = W0
 have HV := hid (pre2_o hA nd8 nd8)
 clear hA
 refine (HO.out _ HV.out.2.2).mono ?_
 rintro e w1 ⟨s2, p2, k2, c2, q2, l2, d2, sz2, pz2, kz2, cz2, qz2, lz2, dz2, x2, y2, e2, rfl, hJ, hB1⟩
 have hj := JRep.parts s2 p2 k2 c2 q2 l2 d2 sz2 pz2 kz2 cz2 qz2 lz2 dz2 x2 y2 e2 hJ.out
 rw [hr] at hj
 obtain ⟨hl, hh, rfl, rfl, rfl⟩ := hj
 clear hJ
 have HLL := hid hl
 have HHH := hid hh
 clear hl hh
 have HE := hid (And.intro (HV.out.2.1.below hB1) (HV.out.2.2.trans (hB1.mono HV.out.2.2.size)))
 clear hB1 HV
 go_upto_region 2 with fail
 have HX := hid (pre1 w1 [.bool s2, .slice p2 k2 c2, .slice q2 l2 d2, .bool sz2, .slice pz2 kz2 cz2, .slice qz2 lz2 dz2, .bool true, .bool y2, .bool false] 61 nd9)
 have hlt : w.heap.size + 1 < w1.heap.size := HE.out.1.lt
 replace HLL := hid (HLL.out.below HX.out.2)
 replace HHH := hid (HHH.out.below HX.out.2)
 generalize w1.alloc (.cells #[.bool s2, .slice p2 k2 c2, .slice q2 l2 d2, .bool sz2, .slice pz2 kz2 cz2, .slice qz2 lz2 dz2, .bool true, .bool y2, .bool false] 61) = W1 at *
 have HX1 := hid (And.intro HX.out.1 (And.intro (HE.out.1.below HX.out.2) (HE.out.2.trans (HX.out.2.mono HE.out.2.size))))
 clear HX HE
 generalize w1.heap.size = B1 at *
 obtain ⟨m0, m1, m2, m3, m4, m5, m6, m7, m8, _⟩ := HX1.out.1.cells9
 obtain ⟨g0, g1, g2, g3, g4, g5, g6, g7, f0, f1, f2, f3, f4, f5, f6, f7⟩ := HX1.out.2.1.cells8
 go_wp2_with fail
 exact jRoot_fin rfl rfl HX1.out.2.1 rfl (GRep.zero _) HX1.out.2.2 (by omega)
end Go.Proofs.YtheojajaefjecaaGreatDoor
