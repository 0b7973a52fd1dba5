/- What an operation on two intervals begins with, of the reference. Plus of the reference. -/
import Derived.Test.YtpdpabpdejmdbaaGreatDoorRndJ
set_option maxHeartbeats 4000000
set_option maxRecDepth 100000
namespace Go.Proofs.YtpdpabpdejmdbaaGreatDoor
open Go.RowKit Dg
theorem jTwo_ret {W : World} {B C : Nat} {a0 a1 a2 a3 a4 a5 a6 a7 a8 b0 b1 b2 b3 b4 b5 b6 b7 b8 ev : Value} {tm : Array Value} {R : Ending → World → Prop} (h2 : tm[6]?.getD undef = .pointer (some ⟨B, 0, none⟩)) (h3 : tm[7]?.getD undef = .pointer (some ⟨C, 0, none⟩)) (h4 : tm[8]?.getD undef = ev) (hV : Box W B #[a0, a1, a2, a3, a4, a5, a6, a7, a8]) (hV' : Box W C #[b0, b1, b2, b3, b4, b5, b6, b7, b8]) (hR : R (.returned (.tuple #[.agg #[a0, a1, a2, a3, a4, a5, a6, a7, a8], .agg #[b0, b1, b2, b3, b4, b5, b6, b7, b8], ev])) W) :
  bodyPost Tryz.prog Tryz.f92 R .ret { tmps := tm, defers := [] } W := by
 obtain ⟨g0, g1, g2, g3, g4, g5, g6, g7, g8, _⟩ := hV.cells9
 obtain ⟨f0, f1, f2, f3, f4, f5, f6, f7, f8, _⟩ := hV'.cells9
 exact bodyPost_ret (v := .tuple #[.agg #[a0, a1, a2, a3, a4, a5, a6, a7, a8], .agg #[b0, b1, b2, b3, b4, b5, b6, b7, b8], ev]) (by simp [results, Tryz.results92, go_sem, h2, h3, h4, g0, g1, g2, g3, g4, g5, g6, g7, g8, f0, f1, f2, f3, f4, f5, f6, f7, f8]) rfl hR
theorem jTwo_l1 (s1 : Bool) (p1 : Option Addr) (k1 c1 : Nat) (q1 : Option Addr) (l1 d1 : Nat) (sz1 : Bool) (pz1 : Option Addr) (kz1 cz1 : Nat) (qz1 : Option Addr) (lz1 dz1 : Nat) (x1 : Bool) (y1 : Bool) (s2 : Bool) (p2 : Option Addr) (k2 c2 : Nat) (q2 : Option Addr) (l2 d2 : Nat) (sz2 : Bool) (pz2 : Option Addr) (kz2 cz2 : Nat) (qz2 : Option Addr) (lz2 dz2 : Nat) (x2 : Bool) (y2 : Bool) (a b : Bool × Nat × Nat) (p : Int) (w : World) (ha : NRep w (.agg #[.bool s1, .slice p1 k1 c1, .slice q1 l1 d1]) a) (hb : NRep w (.agg #[.bool sz1, .slice pz1 kz1 cz1, .slice qz1 lz1 dz1]) b) (h : ilarge (a, b, x1, y1) = true) :
  Calls Tryz.prog 92 #[.agg #[.bool s1, .slice p1 k1 c1, .slice q1 l1 d1, .bool sz1, .slice pz1 kz1 cz1, .slice qz1 lz1 dz1, .bool x1, .bool y1], .agg #[.bool s2, .slice p2 k2 c2, .slice q2 l2 d2, .bool sz2, .slice pz2 kz2 cz2, .slice qz2 lz2 dz2, .bool x2, .bool y2], .int .i64 p] w fun e w' => e = .returned (.tuple #[.agg #[.bool false, .slice none 0 0, .slice none 0 0, .bool false, .slice none 0 0, .slice none 0 0, .bool false, .bool false, .bool false], .agg #[.bool false, .slice none 0 0, .slice none 0 0, .bool false, .slice none 0 0, .slice none 0 0, .bool false, .bool false, .bool false], .int .i64 1]) ∧ Below w.heap.size w w' := by
 have HL := hid (fun (W : World) (hW : Below w.heap.size w W) => jLarge_any s1 p1 k1 c1 q1 l1 d1 sz1 pz1 kz1 cz1 qz1 lz1 dz1 x1 y1 a b W (ha.below hW) (hb.below hW))
 rw [h] at HL
 clear ha hb h
 go_enter Tryz.func92, Tryz.ntmps92
 go_wp2_with fail
 have HV := hid (pre4 w [.bool s1, .slice p1 k1 c1, .slice q1 l1 d1, .bool sz1, .slice pz1 kz1 cz1, .slice qz1 lz1 dz1, .bool x1, .bool y1] [.bool s2, .slice p2 k2 c2, .slice q2 l2 d2, .bool sz2, .slice pz2 kz2 cz2, .slice qz2 lz2 dz2, .bool x2, .bool y2] [.bool false, .slice none 0 0, .slice none 0 0, .bool false, .slice none 0 0, .slice none 0 0, .bool false, .bool false, .bool false] [.bool false, .slice none 0 0, .slice none 0 0, .bool false, .slice none 0 0, .slice none 0 0, .bool false, .bool false, .bool false] 26 26 73 73 nd8 nd8 nd_J nd_J)
 generalize (((w.alloc (.cells #[.bool s1, .slice p1 k1 c1, .slice q1 l1 d1, .bool sz1, .slice pz1 kz1 cz1, .slice qz1 lz1 dz1, .bool x1, .bool y1] 26)).alloc (.cells #[.bool s2, .slice p2 k2 c2, .slice q2 l2 d2, .bool sz2, .slice pz2 kz2 cz2, .slice qz2 lz2 dz2, .bool x2, .bool y2] 26)).alloc (.cells #[.bool false, .slice none 0 0, .slice none 0 0, .bool false, .slice none 0 0, .slice none 0 0, .bool false, .bool false, .bool false] 73)).alloc (.cells #[.bool false, .slice none 0 0, .slice none 0 0, .bool false, .slice none 0 0, .slice none 0 0, .bool false, .bool false, .bool false] 73) = W0 at *
 refine (HL.out _ HV.out.2.2.2.2).mono ?_
 rintro e w1 ⟨rfl, hB1⟩
 have HE := hid (And.intro (HV.out.1.below hB1) (And.intro (HV.out.2.1.below hB1) (And.intro (HV.out.2.2.1.below hB1) (And.intro (HV.out.2.2.2.1.below hB1) (HV.out.2.2.2.2.trans (hB1.mono HV.out.2.2.2.2.size))))))
 clear hB1
 obtain ⟨g0, g1, g2, g3, g4, g5, g6, g7, g8, n0, n1, n2, n3, n4, n5, n6, n7, n8⟩ := HE.out.2.2.1.cells9
 obtain ⟨h0, h1, h2, h3, h4, h5, h6, h7, h8, o0, o1, o2, o3, o4, o5, o6, o7, o8⟩ := HE.out.2.2.2.1.cells9
 go_wp2_with fail
 exact jTwo_ret rfl rfl rfl (Box.stores_other (k := 0) (l := [.bool false, .slice none 0 0, .slice none 0 0, .bool false, .slice none 0 0, .slice none 0 0, .bool false, .bool false, .bool false]) (HE.out.2.2.1.stores [.bool false, .slice none 0 0, .slice none 0 0, .bool false, .slice none 0 0, .slice none 0 0, .bool false, .bool false, .bool false] rfl nd_J) (by omega)) ((Box.stores_other (k := 0) (l := [.bool false, .slice none 0 0, .slice none 0 0, .bool false, .slice none 0 0, .slice none 0 0, .bool false, .bool false, .bool false]) HE.out.2.2.2.1 (by omega)).stores [.bool false, .slice none 0 0, .slice none 0 0, .bool false, .slice none 0 0, .slice none 0 0, .bool false, .bool false, .bool false] rfl nd_J) ⟨rfl, Below.stores (k := 0) (l := [.bool false, .slice none 0 0, .slice none 0 0, .bool false, .slice none 0 0, .slice none 0 0, .bool false, .bool false, .bool false]) (Below.stores (k := 0) (l := [.bool false, .slice none 0 0, .slice none 0 0, .bool false, .slice none 0 0, .slice none 0 0, .bool false, .bool false, .bool false]) HE.out.2.2.2.2 (by omega)) (by omega)⟩
theorem jTwo_l2 (s1 : Bool) (p1 : Option Addr) (k1 c1 : Nat) (q1 : Option Addr) (l1 d1 : Nat) (sz1 : Bool) (pz1 : Option Addr) (kz1 cz1 : Nat) (qz1 : Option Addr) (lz1 dz1 : Nat) (x1 : Bool) (y1 : Bool) (s2 : Bool) (p2 : Option Addr) (k2 c2 : Nat) (q2 : Option Addr) (l2 d2 : Nat) (sz2 : Bool) (pz2 : Option Addr) (kz2 cz2 : Nat) (qz2 : Option Addr) (lz2 dz2 : Nat) (x2 : Bool) (y2 : Bool) (a b a' b' : Bool × Nat × Nat) (p : Int) (w : World) (ha : NRep w (.agg #[.bool s1, .slice p1 k1 c1, .slice q1 l1 d1]) a) (hb : NRep w (.agg #[.bool sz1, .slice pz1 kz1 cz1, .slice qz1 lz1 dz1]) b) (ha' : NRep w (.agg #[.bool s2, .slice p2 k2 c2, .slice q2 l2 d2]) a') (hb' : NRep w (.agg #[.bool sz2, .slice pz2 kz2 cz2, .slice qz2 lz2 dz2]) b') (h : ilarge (a, b, x1, y1) = false) (h' : ilarge (a', b', x2, y2) = true) :
  Calls Tryz.prog 92 #[.agg #[.bool s1, .slice p1 k1 c1, .slice q1 l1 d1, .bool sz1, .slice pz1 kz1 cz1, .slice qz1 lz1 dz1, .bool x1, .bool y1], .agg #[.bool s2, .slice p2 k2 c2, .slice q2 l2 d2, .bool sz2, .slice pz2 kz2 cz2, .slice qz2 lz2 dz2, .bool x2, .bool y2], .int .i64 p] w fun e w' => e = .returned (.tuple #[.agg #[.bool false, .slice none 0 0, .slice none 0 0, .bool false, .slice none 0 0, .slice none 0 0, .bool false, .bool false, .bool false], .agg #[.bool false, .slice none 0 0, .slice none 0 0, .bool false, .slice none 0 0, .slice none 0 0, .bool false, .bool false, .bool false], .int .i64 1]) ∧ Below w.heap.size w w' := by
 have HL := hid (fun (W : World) (hW : Below w.heap.size w W) => jLarge_any s1 p1 k1 c1 q1 l1 d1 sz1 pz1 kz1 cz1 qz1 lz1 dz1 x1 y1 a b W (ha.below hW) (hb.below hW))
 have HL2 := hid (fun (W : World) (hW : Below w.heap.size w W) => jLarge_any s2 p2 k2 c2 q2 l2 d2 sz2 pz2 kz2 cz2 qz2 lz2 dz2 x2 y2 a' b' W (ha'.below hW) (hb'.below hW))
 rw [h] at HL
 rw [h'] at HL2
 clear ha hb ha' hb' h h'
 go_enter Tryz.func92, Tryz.ntmps92
 go_wp2_with fail
 have HV := hid (pre4 w [.bool s1, .slice p1 k1 c1, .slice q1 l1 d1, .bool sz1, .slice pz1 kz1 cz1, .slice qz1 lz1 dz1, .bool x1, .bool y1] [.bool s2, .slice p2 k2 c2, .slice q2 l2 d2, .bool sz2, .slice pz2 kz2 cz2, .slice qz2 lz2 dz2, .bool x2, .bool y2] [.bool false, .slice none 0 0, .slice none 0 0, .bool false, .slice none 0 0, .slice none 0 0, .bool false, .bool false, .bool false] [.bool false, .slice none 0 0, .slice none 0 0, .bool false, .slice none 0 0, .slice none 0 0, .bool false, .bool false, .bool false] 26 26 73 73 nd8 nd8 nd_J nd_J)
 generalize (((w.alloc (.cells #[.bool s1, .slice p1 k1 c1, .slice q1 l1 d1, .bool sz1, .slice pz1 kz1 cz1, .slice qz1 lz1 dz1, .bool x1, .bool y1] 26)).alloc (.cells #[.bool s2, .slice p2 k2 c2, .slice q2 l2 d2, .bool sz2, .slice pz2 kz2 cz2, .slice qz2 lz2 dz2, .bool x2, .bool y2] 26)).alloc (.cells #[.bool false, .slice none 0 0, .slice none 0 0, .bool false, .slice none 0 0, .slice none 0 0, .bool false, .bool false, .bool false] 73)).alloc (.cells #[.bool false, .slice none 0 0, .slice none 0 0, .bool false, .slice none 0 0, .slice none 0 0, .bool false, .bool false, .bool false] 73) = W0 at *
 refine (HL.out _ HV.out.2.2.2.2).mono ?_
 rintro e w1 ⟨rfl, hB1⟩
 have HE := hid (And.intro (HV.out.1.below hB1) (And.intro (HV.out.2.1.below hB1) (And.intro (HV.out.2.2.1.below hB1) (And.intro (HV.out.2.2.2.1.below hB1) (HV.out.2.2.2.2.trans (hB1.mono HV.out.2.2.2.2.size))))))
 clear hB1
 obtain ⟨m0, m1, m2, m3, m4, m5, m6, m7, _⟩ := HE.out.2.1.cells8
 go_wp2_with fail
 refine (HL2.out _ HE.out.2.2.2.2).mono ?_
 rintro e w2 ⟨rfl, hB2⟩
 have HE2 := hid (And.intro (HE.out.1.below hB2) (And.intro (HE.out.2.1.below hB2) (And.intro (HE.out.2.2.1.below hB2) (And.intro (HE.out.2.2.2.1.below hB2) (HE.out.2.2.2.2.trans (hB2.mono HE.out.2.2.2.2.size))))))
 clear hB2 m0 m1 m2 m3 m4 m5 m6 m7
 obtain ⟨g0, g1, g2, g3, g4, g5, g6, g7, g8, n0, n1, n2, n3, n4, n5, n6, n7, n8⟩ := HE2.out.2.2.1.cells9
 obtain ⟨h0, h1, h2, h3, h4, h5, h6, h7, h8, o0, o1, o2, o3, o4, o5, o6, o7, o8⟩ := HE2.out.2.2.2.1.cells9
 go_wp2_with fail
 exact jTwo_ret rfl rfl rfl (Box.stores_other (k := 0) (l := [.bool false, .slice none 0 0, .slice none 0 0, .bool false, .slice none 0 0, .slice none 0 0, .bool false, .bool false, .bool false]) (HE2.out.2.2.1.stores [.bool false, .slice none 0 0, .slice none 0 0, .bool false, .slice none 0 0, .slice none 0 0, .bool false, .bool false, .bool false] rfl nd_J) (by omega)) ((Box.stores_other (k := 0) (l := [.bool false, .slice none 0 0, .slice none 0 0, .bool false, .slice none 0 0, .slice none 0 0, .bool false, .bool false, .bool false]) HE2.out.2.2.2.1 (by omega)).stores [.bool false, .slice none 0 0, .slice none 0 0, .bool false, .slice none 0 0, .slice none 0 0, .bool false, .bool false, .bool false] rfl nd_J) ⟨rfl, Below.stores (k := 0) (l := [.bool false, .slice none 0 0, .slice none 0 0, .bool false, .slice none 0 0, .slice none 0 0, .bool false, .bool false, .bool false]) (Below.stores (k := 0) (l := [.bool false, .slice none 0 0, .slice none 0 0, .bool false, .slice none 0 0, .slice none 0 0, .bool false, .bool false, .bool false]) HE2.out.2.2.2.2 (by omega)) (by omega)⟩
theorem jTwo_arg (s1 : Bool) (p1 : Option Addr) (k1 c1 : Nat) (q1 : Option Addr) (l1 d1 : Nat) (sz1 : Bool) (pz1 : Option Addr) (kz1 cz1 : Nat) (qz1 : Option Addr) (lz1 dz1 : Nat) (x1 : Bool) (y1 : Bool) (s2 : Bool) (p2 : Option Addr) (k2 c2 : Nat) (q2 : Option Addr) (l2 d2 : Nat) (sz2 : Bool) (pz2 : Option Addr) (kz2 cz2 : Nat) (qz2 : Option Addr) (lz2 dz2 : Nat) (x2 : Bool) (y2 : Bool) (a b a' b' : Bool × Nat × Nat) (p : Int) (w : World) (ha : NRep w (.agg #[.bool s1, .slice p1 k1 c1, .slice q1 l1 d1]) a) (hb : NRep w (.agg #[.bool sz1, .slice pz1 kz1 cz1, .slice qz1 lz1 dz1]) b) (ha' : NRep w (.agg #[.bool s2, .slice p2 k2 c2, .slice q2 l2 d2]) a') (hb' : NRep w (.agg #[.bool sz2, .slice pz2 kz2 cz2, .slice qz2 lz2 dz2]) b') (h : ilarge (a, b, x1, y1) = false) (h' : ilarge (a', b', x2, y2) = false) (hp : prec p = false) :
  Calls Tryz.prog 92 #[.agg #[.bool s1, .slice p1 k1 c1, .slice q1 l1 d1, .bool sz1, .slice pz1 kz1 cz1, .slice qz1 lz1 dz1, .bool x1, .bool y1], .agg #[.bool s2, .slice p2 k2 c2, .slice q2 l2 d2, .bool sz2, .slice pz2 kz2 cz2, .slice qz2 lz2 dz2, .bool x2, .bool y2], .int .i64 p] w fun e w' => e = .returned (.tuple #[.agg #[.bool false, .slice none 0 0, .slice none 0 0, .bool false, .slice none 0 0, .slice none 0 0, .bool false, .bool false, .bool false], .agg #[.bool false, .slice none 0 0, .slice none 0 0, .bool false, .slice none 0 0, .slice none 0 0, .bool false, .bool false, .bool false], .int .i64 2]) ∧ Below w.heap.size w w' := by
 have HL := hid (fun (W : World) (hW : Below w.heap.size w W) => jLarge_any s1 p1 k1 c1 q1 l1 d1 sz1 pz1 kz1 cz1 qz1 lz1 dz1 x1 y1 a b W (ha.below hW) (hb.below hW))
 have HL2 := hid (fun (W : World) (hW : Below w.heap.size w W) => jLarge_any s2 p2 k2 c2 q2 l2 d2 sz2 pz2 kz2 cz2 qz2 lz2 dz2 x2 y2 a' b' W (ha'.below hW) (hb'.below hW))
 rw [h] at HL
 rw [h'] at HL2
 have hq : p < 0 ∨ (¬ p < 0 ∧ 128 < p) := by
  unfold prec at hp
  rw [Bool.and_eq_false_iff, decide_eq_false_iff_not, decide_eq_false_iff_not] at hp
  omega
 clear ha hb ha' hb' h h' hp
 rcases hq with hq | ⟨hq, hq2⟩
 ·have f1 : decide (p < 0) = true := decide_eq_true hq
  clear hq
  go_enter Tryz.func92, Tryz.ntmps92
  go_wp2_with fail
  have HV := hid (pre4 w [.bool s1, .slice p1 k1 c1, .slice q1 l1 d1, .bool sz1, .slice pz1 kz1 cz1, .slice qz1 lz1 dz1, .bool x1, .bool y1] [.bool s2, .slice p2 k2 c2, .slice q2 l2 d2, .bool sz2, .slice pz2 kz2 cz2, .slice qz2 lz2 dz2, .bool x2, .bool y2] [.bool false, .slice none 0 0, .slice none 0 0, .bool false, .slice none 0 0, .slice none 0 0, .bool false, .bool false, .bool false] [.bool false, .slice none 0 0, .slice none 0 0, .bool false, .slice none 0 0, .slice none 0 0, .bool false, .bool false, .bool false] 26 26 73 73 nd8 nd8 nd_J nd_J)
  generalize (((w.alloc (.cells #[.bool s1, .slice p1 k1 c1, .slice q1 l1 d1, .bool sz1, .slice pz1 kz1 cz1, .slice qz1 lz1 dz1, .bool x1, .bool y1] 26)).alloc (.cells #[.bool s2, .slice p2 k2 c2, .slice q2 l2 d2, .bool sz2, .slice pz2 kz2 cz2, .slice qz2 lz2 dz2, .bool x2, .bool y2] 26)).alloc (.cells #[.bool false, .slice none 0 0, .slice none 0 0, .bool false, .slice none 0 0, .slice none 0 0, .bool false, .bool false, .bool false] 73)).alloc (.cells #[.bool false, .slice none 0 0, .slice none 0 0, .bool false, .slice none 0 0, .slice none 0 0, .bool false, .bool false, .bool false] 73) = W0 at *
  refine (HL.out _ HV.out.2.2.2.2).mono ?_
  rintro e w1 ⟨rfl, hB1⟩
  have HE := hid (And.intro (HV.out.1.below hB1) (And.intro (HV.out.2.1.below hB1) (And.intro (HV.out.2.2.1.below hB1) (And.intro (HV.out.2.2.2.1.below hB1) (HV.out.2.2.2.2.trans (hB1.mono HV.out.2.2.2.2.size))))))
  clear hB1
  obtain ⟨m0, m1, m2, m3, m4, m5, m6, m7, _⟩ := HE.out.2.1.cells8
  go_wp2_with fail
  refine (HL2.out _ HE.out.2.2.2.2).mono ?_
  rintro e w2 ⟨rfl, hB2⟩
  have HE2 := hid (And.intro (HE.out.1.below hB2) (And.intro (HE.out.2.1.below hB2) (And.intro (HE.out.2.2.1.below hB2) (And.intro (HE.out.2.2.2.1.below hB2) (HE.out.2.2.2.2.trans (hB2.mono HE.out.2.2.2.2.size))))))
  clear hB2 m0 m1 m2 m3 m4 m5 m6 m7
  obtain ⟨g0, g1, g2, g3, g4, g5, g6, g7, g8, n0, n1, n2, n3, n4, n5, n6, n7, n8⟩ := HE2.out.2.2.1.cells9
  obtain ⟨h0, h1, h2, h3, h4, h5, h6, h7, h8, o0, o1, o2, o3, o4, o5, o6, o7, o8⟩ := HE2.out.2.2.2.1.cells9
  go_wp2_with fail
  exact jTwo_ret rfl rfl rfl (Box.stores_other (k := 0) (l := [.bool false, .slice none 0 0, .slice none 0 0, .bool false, .slice none 0 0, .slice none 0 0, .bool false, .bool false, .bool false]) (HE2.out.2.2.1.stores [.bool false, .slice none 0 0, .slice none 0 0, .bool false, .slice none 0 0, .slice none 0 0, .bool false, .bool false, .bool false] rfl nd_J) (by omega)) ((Box.stores_other (k := 0) (l := [.bool false, .slice none 0 0, .slice none 0 0, .bool false, .slice none 0 0, .slice none 0 0, .bool false, .bool false, .bool false]) HE2.out.2.2.2.1 (by omega)).stores [.bool false, .slice none 0 0, .slice none 0 0, .bool false, .slice none 0 0, .slice none 0 0, .bool false, .bool false, .bool false] rfl nd_J) ⟨rfl, Below.stores (k := 0) (l := [.bool false, .slice none 0 0, .slice none 0 0, .bool false, .slice none 0 0, .slice none 0 0, .bool false, .bool false, .bool false]) (Below.stores (k := 0) (l := [.bool false, .slice none 0 0, .slice none 0 0, .bool false, .slice none 0 0, .slice none 0 0, .bool false, .bool false, .bool false]) HE2.out.2.2.2.2 (by omega)) (by omega)⟩
 ·have f1 : decide (p < 0) = false := decide_eq_false hq
  have f2 : decide (128 < p) = true := decide_eq_true hq2
  clear hq hq2
  go_enter Tryz.func92, Tryz.ntmps92
  go_wp2_with fail
  have HV := hid (pre4 w [.bool s1, .slice p1 k1 c1, .slice q1 l1 d1, .bool sz1, .slice pz1 kz1 cz1, .slice qz1 lz1 dz1, .bool x1, .bool y1] [.bool s2, .slice p2 k2 c2, .slice q2 l2 d2, .bool sz2, .slice pz2 kz2 cz2, .slice qz2 lz2 dz2, .bool x2, .bool y2] [.bool false, .slice none 0 0, .slice none 0 0, .bool false, .slice none 0 0, .slice none 0 0, .bool false, .bool false, .bool false] [.bool false, .slice none 0 0, .slice none 0 0, .bool false, .slice none 0 0, .slice none 0 0, .bool false, .bool false, .bool false] 26 26 73 73 nd8 nd8 nd_J nd_J)
  generalize (((w.alloc (.cells #[.bool s1, .slice p1 k1 c1, .slice q1 l1 d1, .bool sz1, .slice pz1 kz1 cz1, .slice qz1 lz1 dz1, .bool x1, .bool y1] 26)).alloc (.cells #[.bool s2, .slice p2 k2 c2, .slice q2 l2 d2, .bool sz2, .slice pz2 kz2 cz2, .slice qz2 lz2 dz2, .bool x2, .bool y2] 26)).alloc (.cells #[.bool false, .slice none 0 0, .slice none 0 0, .bool false, .slice none 0 0, .slice none 0 0, .bool false, .bool false, .bool false] 73)).alloc (.cells #[.bool false, .slice none 0 0, .slice none 0 0, .bool false, .slice none 0 0, .slice none 0 0, .bool false, .bool false, .bool false] 73) = W0 at *
  refine (HL.out _ HV.out.2.2.2.2).mono ?_
  rintro e w1 ⟨rfl, hB1⟩
  have HE := hid (And.intro (HV.out.1.below hB1) (And.intro (HV.out.2.1.below hB1) (And.intro (HV.out.2.2.1.below hB1) (And.intro (HV.out.2.2.2.1.below hB1) (HV.out.2.2.2.2.trans (hB1.mono HV.out.2.2.2.2.size))))))
  clear hB1
  obtain ⟨m0, m1, m2, m3, m4, m5, m6, m7, _⟩ := HE.out.2.1.cells8
  go_wp2_with fail
  refine (HL2.out _ HE.out.2.2.2.2).mono ?_
  rintro e w2 ⟨rfl, hB2⟩
  have HE2 := hid (And.intro (HE.out.1.below hB2) (And.intro (HE.out.2.1.below hB2) (And.intro (HE.out.2.2.1.below hB2) (And.intro (HE.out.2.2.2.1.below hB2) (HE.out.2.2.2.2.trans (hB2.mono HE.out.2.2.2.2.size))))))
  clear hB2 m0 m1 m2 m3 m4 m5 m6 m7
  obtain ⟨g0, g1, g2, g3, g4, g5, g6, g7, g8, n0, n1, n2, n3, n4, n5, n6, n7, n8⟩ := HE2.out.2.2.1.cells9
  obtain ⟨h0, h1, h2, h3, h4, h5, h6, h7, h8, o0, o1, o2, o3, o4, o5, o6, o7, o8⟩ := HE2.out.2.2.2.1.cells9
  go_wp2_with fail
  exact jTwo_ret rfl rfl rfl (Box.stores_other (k := 0) (l := [.bool false, .slice none 0 0, .slice none 0 0, .bool false, .slice none 0 0, .slice none 0 0, .bool false, .bool false, .bool false]) (HE2.out.2.2.1.stores [.bool false, .slice none 0 0, .slice none 0 0, .bool false, .slice none 0 0, .slice none 0 0, .bool false, .bool false, .bool false] rfl nd_J) (by omega)) ((Box.stores_other (k := 0) (l := [.bool false, .slice none 0 0, .slice none 0 0, .bool false, .slice none 0 0, .slice none 0 0, .bool false, .bool false, .bool false]) HE2.out.2.2.2.1 (by omega)).stores [.bool false, .slice none 0 0, .slice none 0 0, .bool false, .slice none 0 0, .slice none 0 0, .bool false, .bool false, .bool false] rfl nd_J) ⟨rfl, Below.stores (k := 0) (l := [.bool false, .slice none 0 0, .slice none 0 0, .bool false, .slice none 0 0, .slice none 0 0, .bool false, .bool false, .bool false]) (Below.stores (k := 0) (l := [.bool false, .slice none 0 0, .slice none 0 0, .bool false, .slice none 0 0, .slice none 0 0, .bool false, .bool false, .bool false]) HE2.out.2.2.2.2 (by omega)) (by omega)⟩
theorem jTwo_ok (s1 : Bool) (p1 : Option Addr) (k1 c1 : Nat) (q1 : Option Addr) (l1 d1 : Nat) (sz1 : Bool) (pz1 : Option Addr) (kz1 cz1 : Nat) (qz1 : Option Addr) (lz1 dz1 : Nat) (x1 : Bool) (y1 : Bool) (s2 : Bool) (p2 : Option Addr) (k2 c2 : Nat) (q2 : Option Addr) (l2 d2 : Nat) (sz2 : Bool) (pz2 : Option Addr) (kz2 cz2 : Nat) (qz2 : Option Addr) (lz2 dz2 : Nat) (x2 : Bool) (y2 : Bool) (a b a' b' : Bool × Nat × Nat) (p : Int) (w : World) (ha : NRep w (.agg #[.bool s1, .slice p1 k1 c1, .slice q1 l1 d1]) a) (hb : NRep w (.agg #[.bool sz1, .slice pz1 kz1 cz1, .slice qz1 lz1 dz1]) b) (ha' : NRep w (.agg #[.bool s2, .slice p2 k2 c2, .slice q2 l2 d2]) a') (hb' : NRep w (.agg #[.bool sz2, .slice pz2 kz2 cz2, .slice qz2 lz2 dz2]) b') (h1 : large a.2.1 a.2.2 = false) (h2 : large b.2.1 b.2.2 = false) (h3 : large a'.2.1 a'.2.2 = false) (h4 : large b'.2.1 b'.2.2 = false) (h0 : 0 ≤ p) (h128 : p ≤ 128) :
  Calls Tryz.prog 92 #[.agg #[.bool s1, .slice p1 k1 c1, .slice q1 l1 d1, .bool sz1, .slice pz1 kz1 cz1, .slice qz1 lz1 dz1, .bool x1, .bool y1], .agg #[.bool s2, .slice p2 k2 c2, .slice q2 l2 d2, .bool sz2, .slice pz2 kz2 cz2, .slice qz2 lz2 dz2, .bool x2, .bool y2], .int .i64 p] w fun e w' => ∃ s3 p3 k3 c3 q3 l3 d3 sz3 pz3 kz3 cz3 qz3 lz3 dz3 x3 y3 e3 s4 p4 k4 c4 q4 l4 d4 sz4 pz4 kz4 cz4 qz4 lz4 dz4 x4 y4 e4, e = .returned (.tuple #[.agg #[.bool s3, .slice p3 k3 c3, .slice q3 l3 d3, .bool sz3, .slice pz3 kz3 cz3, .slice qz3 lz3 dz3, .bool x3, .bool y3, .bool e3], .agg #[.bool s4, .slice p4 k4 c4, .slice q4 l4 d4, .bool sz4, .slice pz4 kz4 cz4, .slice qz4 lz4 dz4, .bool x4, .bool y4, .bool e4], .int .i64 0]) ∧ Hid (JRep w' (.agg #[.bool s3, .slice p3 k3 c3, .slice q3 l3 d3, .bool sz3, .slice pz3 kz3 cz3, .slice qz3 lz3 dz3, .bool x3, .bool y3, .bool e3]) (jof (a, b, x1, y1))) ∧ Hid (JRep w' (.agg #[.bool s4, .slice p4 k4 c4, .slice q4 l4 d4, .bool sz4, .slice pz4 kz4 cz4, .slice qz4 lz4 dz4, .bool x4, .bool y4, .bool e4]) (jof (a', b', x2, y2))) ∧ Below w.heap.size w w' := by
 have HL := hid (fun (W : World) (hW : Below w.heap.size w W) => jLarge_any s1 p1 k1 c1 q1 l1 d1 sz1 pz1 kz1 cz1 qz1 lz1 dz1 x1 y1 a b W (ha.below hW) (hb.below hW))
 have HL2 := hid (fun (W : World) (hW : Below w.heap.size w W) => jLarge_any s2 p2 k2 c2 q2 l2 d2 sz2 pz2 kz2 cz2 qz2 lz2 dz2 x2 y2 a' b' W (ha'.below hW) (hb'.below hW))
 have hf : ilarge (a, b, x1, y1) = false := by
  show (large a.2.1 a.2.2 || large b.2.1 b.2.2) = false
  rw [h1, h2]; rfl
 have hf' : ilarge (a', b', x2, y2) = false := by
  show (large a'.2.1 a'.2.2 || large b'.2.1 b'.2.2) = false
  rw [h3, h4]; rfl
 rw [hf] at HL
 rw [hf'] at HL2
 have HO := hid (fun (W : World) (hW : Below w.heap.size w W) => jOf_any s1 p1 k1 c1 q1 l1 d1 sz1 pz1 kz1 cz1 qz1 lz1 dz1 x1 y1 a b W (ha.below hW) (hb.below hW) h1 h2)
 have HO2 := hid (fun (W : World) (hW : Below w.heap.size w W) => jOf_any s2 p2 k2 c2 q2 l2 d2 sz2 pz2 kz2 cz2 qz2 lz2 dz2 x2 y2 a' b' W (ha'.below hW) (hb'.below hW) h3 h4)
 obtain ⟨r, hr⟩ : ∃ r, r = jof (a, b, x1, y1) := ⟨_, rfl⟩
 rw [← hr] at HO ⊢
 obtain ⟨t, ht⟩ : ∃ r, r = jof (a', b', x2, y2) := ⟨_, rfl⟩
 rw [← ht] at HO2 ⊢
 have f1 : decide (p < 0) = false := decide_eq_false (by omega)
 have f2 : decide (128 < p) = false := decide_eq_false (by omega)
 clear ha hb ha' hb' h1 h2 h3 h4 hf hf' hr ht h0 h128
 go_enter Tryz.func92, Tryz.ntmps92
 go_wp2_with fail
 have HV := hid (pre4 w [.bool s1, .slice p1 k1 c1, .slice q1 l1 d1, .bool sz1, .slice pz1 kz1 cz1, .slice qz1 lz1 dz1, .bool x1, .bool y1] [.bool s2, .slice p2 k2 c2, .slice q2 l2 d2, .bool sz2, .slice pz2 kz2 cz2, .slice qz2 lz2 dz2, .bool x2, .bool y2] [.bool false, .slice none 0 0, .slice none 0 0, .bool false, .slice none 0 0, .slice none 0 0, .bool false, .bool false, .bool false] [.bool false, .slice none 0 0, .slice none 0 0, .bool false, .slice none 0 0, .slice none 0 0, .bool false, .bool false, .bool false] 26 26 73 73 nd8 nd8 nd_J nd_J)
 generalize (((w.alloc (.cells #[.bool s1, .slice p1 k1 c1, .slice q1 l1 d1, .bool sz1, .slice pz1 kz1 cz1, .slice qz1 lz1 dz1, .bool x1, .bool y1] 26)).alloc (.cells #[.bool s2, .slice p2 k2 c2, .slice q2 l2 d2, .bool sz2, .slice pz2 kz2 cz2, .slice qz2 lz2 dz2, .bool x2, .bool y2] 26)).alloc (.cells #[.bool false, .slice none 0 0, .slice none 0 0, .bool false, .slice none 0 0, .slice none 0 0, .bool false, .bool false, .bool false] 73)).alloc (.cells #[.bool false, .slice none 0 0, .slice none 0 0, .bool false, .slice none 0 0, .slice none 0 0, .bool false, .bool false, .bool false] 73) = W0 at *
 refine (HL.out _ HV.out.2.2.2.2).mono ?_
 rintro e w1 ⟨rfl, hB1⟩
 have HE := hid (And.intro (HV.out.1.below hB1) (And.intro (HV.out.2.1.below hB1) (And.intro (HV.out.2.2.1.below hB1) (And.intro (HV.out.2.2.2.1.below hB1) (HV.out.2.2.2.2.trans (hB1.mono HV.out.2.2.2.2.size))))))
 clear hB1
 obtain ⟨m0, m1, m2, m3, m4, m5, m6, m7, _⟩ := HE.out.2.1.cells8
 go_wp2_with fail
 refine (HL2.out _ HE.out.2.2.2.2).mono ?_
 rintro e w2 ⟨rfl, hB2⟩
 have HE2 := hid (And.intro (HE.out.1.below hB2) (And.intro (HE.out.2.1.below hB2) (And.intro (HE.out.2.2.1.below hB2) (And.intro (HE.out.2.2.2.1.below hB2) (HE.out.2.2.2.2.trans (hB2.mono HE.out.2.2.2.2.size))))))
 clear hB2 m0 m1 m2 m3 m4 m5 m6 m7
 have HQ := hid (QQ.i2 (cs := [.bool s1, .slice p1 k1 c1, .slice q1 l1 d1, .bool sz1, .slice pz1 kz1 cz1, .slice qz1 lz1 dz1, .bool x1, .bool y1]) (cs' := [.bool s2, .slice p2 k2 c2, .slice q2 l2 d2, .bool sz2, .slice pz2 kz2 cz2, .slice qz2 lz2 dz2, .bool x2, .bool y2]) HE2.out.1 HE2.out.2.1 HE2.out.2.2.2.2)
 have HS := hid (fun (w' : World) (hb : QQ w [(w.heap.size, [.bool s1, .slice p1 k1 c1, .slice q1 l1 d1, .bool sz1, .slice pz1 kz1 cz1, .slice qz1 lz1 dz1, .bool x1, .bool y1]), (w.heap.size + 1, [.bool s2, .slice p2 k2 c2, .slice q2 l2 d2, .bool sz2, .slice pz2 kz2 cz2, .slice qz2 lz2 dz2, .bool x2, .bool y2])] w') => hb.s_8_8)
 have HN : Hid (Apart [(w.heap.size, [.bool s1, .slice p1 k1 c1, .slice q1 l1 d1, .bool sz1, .slice pz1 kz1 cz1, .slice qz1 lz1 dz1, .bool x1, .bool y1]), (w.heap.size + 1, [.bool s2, .slice p2 k2 c2, .slice q2 l2 d2, .bool sz2, .slice pz2 kz2 cz2, .slice qz2 lz2 dz2, .bool x2, .bool y2])] (w.heap.size + 1 + 1)) := hid (ne2 (by omega) (by omega))
 have HN2 : Hid (Apart [(w.heap.size, [.bool s1, .slice p1 k1 c1, .slice q1 l1 d1, .bool sz1, .slice pz1 kz1 cz1, .slice qz1 lz1 dz1, .bool x1, .bool y1]), (w.heap.size + 1, [.bool s2, .slice p2 k2 c2, .slice q2 l2 d2, .bool sz2, .slice pz2 kz2 cz2, .slice qz2 lz2 dz2, .bool x2, .bool y2])] (w.heap.size + 1 + 1 + 1)) := hid (ne2 (by omega) (by omega))
 have HI : Hid (w.heap.size ≤ w.heap.size + 1 + 1) := hid (by omega)
 have HI2 : Hid (w.heap.size ≤ w.heap.size + 1 + 1 + 1) := hid (by omega)
 go_wp2_with fail
 go_region_held3 (fun w' => w'.cell? ⟨w.heap.size, 0, none⟩ = some (.bool s1) ∧ w'.cell? ⟨w.heap.size, 1, none⟩ = some (.slice p1 k1 c1) ∧ w'.cell? ⟨w.heap.size, 2, none⟩ = some (.slice q1 l1 d1) ∧ w'.cell? ⟨w.heap.size, 3, none⟩ = some (.bool sz1) ∧ w'.cell? ⟨w.heap.size, 4, none⟩ = some (.slice pz1 kz1 cz1) ∧ w'.cell? ⟨w.heap.size, 5, none⟩ = some (.slice qz1 lz1 dz1) ∧ w'.cell? ⟨w.heap.size, 6, none⟩ = some (.bool x1) ∧ w'.cell? ⟨w.heap.size, 7, none⟩ = some (.bool y1) ∧ w'.cell? ⟨w.heap.size + 1, 0, none⟩ = some (.bool s2) ∧ w'.cell? ⟨w.heap.size + 1, 1, none⟩ = some (.slice p2 k2 c2) ∧ w'.cell? ⟨w.heap.size + 1, 2, none⟩ = some (.slice q2 l2 d2) ∧ w'.cell? ⟨w.heap.size + 1, 3, none⟩ = some (.bool sz2) ∧ w'.cell? ⟨w.heap.size + 1, 4, none⟩ = some (.slice pz2 kz2 cz2) ∧ w'.cell? ⟨w.heap.size + 1, 5, none⟩ = some (.slice qz2 lz2 dz2) ∧ w'.cell? ⟨w.heap.size + 1, 6, none⟩ = some (.bool x2) ∧ w'.cell? ⟨w.heap.size + 1, 7, none⟩ = some (.bool y2) ∧ Hid (QQ w [(w.heap.size, [.bool s1, .slice p1 k1 c1, .slice q1 l1 d1, .bool sz1, .slice pz1 kz1 cz1, .slice qz1 lz1 dz1, .bool x1, .bool y1]), (w.heap.size + 1, [.bool s2, .slice p2 k2 c2, .slice q2 l2 d2, .bool sz2, .slice pz2 kz2 cz2, .slice qz2 lz2 dz2, .bool x2, .bool y2])] w'))
  (first | (refine HS.out _ ?_; first | (with_reducible exact HQ.out.drew) | (with_reducible assumption) | (with_reducible refine QQ.st9 ?_ HN.out HI.out; assumption) | (with_reducible refine QQ.st9 ?_ HN2.out HI2.out; first | assumption | (with_reducible refine QQ.st9 ?_ HN.out HI.out; assumption))))
  (first
   | (go_at_call_of 121 p1; refine (HO.out _ HQ.out.drew.bel).mono ?_; rintro e wa ⟨s3, p3, k3, c3, q3, l3, d3, sz3, pz3, kz3, cz3, qz3, lz3, dz3, x3, y3, e3, rfl, hE1, hB1⟩; have hQ1 := HQ.out.drew.call hB1; have hU1 := (HE2.out.2.2.1.drew).below hB1; have hV1 := (HE2.out.2.2.2.1.drew).below hB1)
   | (go_at_call_of 121 p2; refine (HO2.out _ hQ1.bel).mono ?_; rintro e wb ⟨s4, p4, k4, c4, q4, l4, d4, sz4, pz4, kz4, cz4, qz4, lz4, dz4, x4, y4, e4, rfl, hE2, hB2⟩; have hQ2 := hQ1.call hB2; have hU2 := hU1.below hB2; have hV2 := hV1.below hB2; obtain ⟨g0, g1, g2, g3, g4, g5, g6, g7, g8, n0, n1, n2, n3, n4, n5, n6, n7, n8⟩ := hU2.cells9; obtain ⟨h0, h1, h2, h3, h4, h5, h6, h7, h8, o0, o1, o2, o3, o4, o5, o6, o7, o8⟩ := hV2.cells9))
 rename_i hHeld
 clear hHeld
 generalize hW : World.setCell _ _ _ = w5
 have hV3 : Box (stores wb (w.heap.size + 1 + 1) 0 [.bool s3, .slice p3 k3 c3, .slice q3 l3 d3, .bool sz3, .slice pz3 kz3 cz3, .slice qz3 lz3 dz3, .bool x3, .bool y3, .bool e3]) (w.heap.size + 1 + 1 + 1) _ := Box.stores_other (k := 0) (l := [.bool s3, .slice p3 k3 c3, .slice q3 l3 d3, .bool sz3, .slice pz3 kz3 cz3, .slice qz3 lz3 dz3, .bool x3, .bool y3, .bool e3]) hV2 (by omega)
 have hU5 : Box w5 (w.heap.size + 1 + 1) #[.bool s3, .slice p3 k3 c3, .slice q3 l3 d3, .bool sz3, .slice pz3 kz3 cz3, .slice qz3 lz3 dz3, .bool x3, .bool y3, .bool e3] := by rw [← hW]; exact Box.stores_other (k := 0) (l := [.bool s4, .slice p4 k4 c4, .slice q4 l4 d4, .bool sz4, .slice pz4 kz4 cz4, .slice qz4 lz4 dz4, .bool x4, .bool y4, .bool e4]) (hU2.stores [.bool s3, .slice p3 k3 c3, .slice q3 l3 d3, .bool sz3, .slice pz3 kz3 cz3, .slice qz3 lz3 dz3, .bool x3, .bool y3, .bool e3] rfl nd_J) (by omega)
 have hV5 : Box w5 (w.heap.size + 1 + 1 + 1) #[.bool s4, .slice p4 k4 c4, .slice q4 l4 d4, .bool sz4, .slice pz4 kz4 cz4, .slice qz4 lz4 dz4, .bool x4, .bool y4, .bool e4] := by rw [← hW]; exact hV3.stores [.bool s4, .slice p4 k4 c4, .slice q4 l4 d4, .bool sz4, .slice pz4 kz4 cz4, .slice qz4 lz4 dz4, .bool x4, .bool y4, .bool e4] rfl nd_J
 have hE5 : JRep w5 (.agg #[.bool s3, .slice p3 k3 c3, .slice q3 l3 d3, .bool sz3, .slice pz3 kz3 cz3, .slice qz3 lz3 dz3, .bool x3, .bool y3, .bool e3]) r := by rw [← hW]; exact JRep.stores (k := 0) (l := [.bool s4, .slice p4 k4 c4, .slice q4 l4 d4, .bool sz4, .slice pz4 kz4 cz4, .slice qz4 lz4 dz4, .bool x4, .bool y4, .bool e4]) (JRep.stores (k := 0) (l := [.bool s3, .slice p3 k3 c3, .slice q3 l3 d3, .bool sz3, .slice pz3 kz3 cz3, .slice qz3 lz3 dz3, .bool x3, .bool y3, .bool e3]) (hE1.out.below hB2) hU2 nd_J) hV3 nd_J
 have hF5 : JRep w5 (.agg #[.bool s4, .slice p4 k4 c4, .slice q4 l4 d4, .bool sz4, .slice pz4 kz4 cz4, .slice qz4 lz4 dz4, .bool x4, .bool y4, .bool e4]) t := by rw [← hW]; exact JRep.stores (k := 0) (l := [.bool s4, .slice p4 k4 c4, .slice q4 l4 d4, .bool sz4, .slice pz4 kz4 cz4, .slice qz4 lz4 dz4, .bool x4, .bool y4, .bool e4]) (JRep.stores (k := 0) (l := [.bool s3, .slice p3 k3 c3, .slice q3 l3 d3, .bool sz3, .slice pz3 kz3 cz3, .slice qz3 lz3 dz3, .bool x3, .bool y3, .bool e3]) hE2.out hU2 nd_J) hV3 nd_J
 have hB5 : Below w.heap.size w w5 := by rw [← hW]; exact Below.stores (k := 0) (l := [.bool s4, .slice p4 k4 c4, .slice q4 l4 d4, .bool sz4, .slice pz4 kz4 cz4, .slice qz4 lz4 dz4, .bool x4, .bool y4, .bool e4]) (Below.stores (k := 0) (l := [.bool s3, .slice p3 k3 c3, .slice q3 l3 d3, .bool sz3, .slice pz3 kz3 cz3, .slice qz3 lz3 dz3, .bool x3, .bool y3, .bool e3]) hQ2.bel (by omega)) (by omega)
 have HE5 := hid (And.intro hU5 (And.intro hV5 (And.intro hE5 (And.intro hF5 hB5))))
 clear hW hV3 hU5 hV5 hE5 hF5 hB5 hQ1 hQ2 hU1 hU2 hV1 hV2 hB1 hB2 hE1 hE2 g0 g1 g2 g3 g4 g5 g6 g7 g8 n0 n1 n2 n3 n4 n5 n6 n7 n8 h0 h1 h2 h3 h4 h5 h6 h7 h8 o0 o1 o2 o3 o4 o5 o6 o7 o8
 go_wp2_with fail
 exact jTwo_ret rfl rfl rfl HE5.out.1 HE5.out.2.1 ⟨s3, p3, k3, c3, q3, l3, d3, sz3, pz3, kz3, cz3, qz3, lz3, dz3, x3, y3, e3, s4, p4, k4, c4, q4, l4, d4, sz4, pz4, kz4, cz4, qz4, lz4, dz4, x4, y4, e4, rfl, hid HE5.out.2.2.1, hid HE5.out.2.2.2.1, HE5.out.2.2.2.2⟩
end Go.Proofs.YtpdpabpdejmdbaaGreatDoor
namespace Go.Proofs.YtpdpabpdejmdbaaGreatDoor
open Go.RowKit Dg
theorem pre4_of {w W0 : World} {l1 l2 l3 l4 : List Value} {t1 t2 t3 t4 : Nat} (h : (((w.alloc (.cells l1.toArray t1)).alloc (.cells l2.toArray t2)).alloc (.cells l3.toArray t3)).alloc (.cells l4.toArray t4) = W0) (h1 : NDs l1) (h2 : NDs l2) (h3 : NDs l3) (h4 : NDs l4) :
  Box W0 w.heap.size l1.toArray ∧ Box W0 (w.heap.size + 1) l2.toArray ∧ Box W0 (w.heap.size + 1 + 1) l3.toArray ∧ Box W0 (w.heap.size + 1 + 1 + 1) l4.toArray ∧ Below w.heap.size w W0 := by
 subst h
 exact pre4 w l1 l2 l3 l4 t1 t2 t3 t4 h1 h2 h3 h4
theorem jPlus_ret {W : World} {B : Nat} {a0 a1 a2 a3 a4 a5 a6 a7 a8 : Value} {tm : Array Value} {R : Ending → World → Prop} (h2 : tm[4]?.getD undef = .pointer (some ⟨B, 0, none⟩)) (hV : Box W B #[a0, a1, a2, a3, a4, a5, a6, a7, a8]) (hR : R (.returned (.agg #[a0, a1, a2, a3, a4, a5, a6, a7, a8])) W) :
  bodyPost Tryz.prog Tryz.f119 R .ret { tmps := tm, defers := [] } W := by
 obtain ⟨g0, g1, g2, g3, g4, g5, g6, g7, g8, _⟩ := hV.cells9
 exact bodyPost_ret (v := .agg #[a0, a1, a2, a3, a4, a5, a6, a7, a8]) (by simp [results, Tryz.results119, go_sem, h2, g0, g1, g2, g3, g4, g5, g6, g7, g8]) rfl hR
theorem jPlus_tt (s1 : Bool) (p1 : Option Addr) (k1 c1 : Nat) (q1 : Option Addr) (l1 d1 : Nat) (sz1 : Bool) (pz1 : Option Addr) (kz1 cz1 : Nat) (qz1 : Option Addr) (lz1 dz1 : Nat) (x1 y1 : Bool) (s2 : Bool) (p2 : Option Addr) (k2 c2 : Nat) (q2 : Option Addr) (l2 d2 : Nat) (sz2 : Bool) (pz2 : Option Addr) (kz2 cz2 : Nat) (qz2 : Option Addr) (lz2 dz2 : Nat) (x2 y2 : Bool) (w : World) (hX : (x1 || x2) = true) (hY : (y1 || y2) = true) :
  Calls Tryz.prog 119 #[.agg #[.bool s1, .slice p1 k1 c1, .slice q1 l1 d1, .bool sz1, .slice pz1 kz1 cz1, .slice qz1 lz1 dz1, .bool x1, .bool y1, .bool false], .agg #[.bool s2, .slice p2 k2 c2, .slice q2 l2 d2, .bool sz2, .slice pz2 kz2 cz2, .slice qz2 lz2 dz2, .bool x2, .bool y2, .bool false]] w fun e w' => ∃ s3 p3 k3 c3 q3 l3 d3 sz3 pz3 kz3 cz3 qz3 lz3 dz3 x3 y3 e3, e = .returned (.agg #[.bool s3, .slice p3 k3 c3, .slice q3 l3 d3, .bool sz3, .slice pz3 kz3 cz3, .slice qz3 lz3 dz3, .bool x3, .bool y3, .bool e3]) ∧ Hid (JRep w' (.agg #[.bool s3, .slice p3 k3 c3, .slice q3 l3 d3, .bool sz3, .slice pz3 kz3 cz3, .slice qz3 lz3 dz3, .bool x3, .bool y3, .bool e3]) ((false, 0, 0), (false, 0, 0), true, true, false)) ∧ Below w.heap.size w w' := by
 cases x1 <;> cases x2 <;> cases y1 <;> cases y2
 all_goals first | exact absurd hX (by decide) | exact absurd hY (by decide) | skip
 all_goals
  clear hX hY
  go_enter Tryz.func119, Tryz.ntmps119
  go_upto_region 4 with fail
  generalize hA : World.alloc _ _ = W0
  have HV := hid (pre4_of hA nd_J nd_J nd_J nd_J)
  clear hA
  obtain ⟨u0, u1, u2, u3, u4, u5, u6, u7, u8, _⟩ := HV.out.2.2.2.1.cells9
  obtain ⟨g0, g1, g2, g3, g4, g5, g6, g7, g8, f0, f1, f2, f3, f4, f5, f6, f7, f8⟩ := HV.out.2.2.1.cells9
  go_wp2_with fail
  exact jPlus_ret rfl (HV.out.2.2.1.stores [.bool false, .slice none 0 0, .slice none 0 0, .bool false, .slice none 0 0, .slice none 0 0, .bool true, .bool true, .bool false] rfl nd_J) ⟨_, _, _, _, _, _, _, _, _, _, _, _, _, _, _, _, _, rfl, hid (JRep.stores (k := 0) (l := [.bool false, .slice none 0 0, .slice none 0 0, .bool false, .slice none 0 0, .slice none 0 0, .bool true, .bool true, .bool false]) ⟨_, _, _, _, _, _, _, _, _, _, _, _, _, _, _, _, _, rfl, QNorm.zero _, QNorm.zero _, rfl, rfl, rfl⟩ HV.out.2.2.1 nd_J), Below.stores (k := 0) (l := [.bool false, .slice none 0 0, .slice none 0 0, .bool false, .slice none 0 0, .slice none 0 0, .bool true, .bool true, .bool false]) HV.out.2.2.2.2 (by omega)⟩
theorem jPlus_tf (s1 : Bool) (p1 : Option Addr) (k1 c1 : Nat) (q1 : Option Addr) (l1 d1 : Nat) (sz1 : Bool) (pz1 : Option Addr) (kz1 cz1 : Nat) (qz1 : Option Addr) (lz1 dz1 : Nat) (x1 y1 : Bool) (s2 : Bool) (p2 : Option Addr) (k2 c2 : Nat) (q2 : Option Addr) (l2 d2 : Nat) (sz2 : Bool) (pz2 : Option Addr) (kz2 cz2 : Nat) (qz2 : Option Addr) (lz2 dz2 : Nat) (x2 y2 : Bool) (a b : (Bool × Nat × Nat) × (Bool × Nat × Nat) × Bool × Bool × Bool) (w : World) (hX : (x1 || x2) = true) (hY : (y1 || y2) = false)
  (hh : ∀ W, Below w.heap.size w W → Calls Tryz.prog 167 #[.agg #[.bool sz1, .slice pz1 kz1 cz1, .slice qz1 lz1 dz1], .agg #[.bool sz2, .slice pz2 kz2 cz2, .slice qz2 lz2 dz2]] W fun e w' => ∃ s4 p4 k4 c4 q4 l4 d4, e = .returned (.agg #[.bool s4, .slice p4 k4 c4, .slice q4 l4 d4]) ∧ Hid (QNorm w' (.agg #[.bool s4, .slice p4 k4 c4, .slice q4 l4 d4]) (fadd a.2.1 b.2.1)) ∧ Below W.heap.size W w') :
  Calls Tryz.prog 119 #[.agg #[.bool s1, .slice p1 k1 c1, .slice q1 l1 d1, .bool sz1, .slice pz1 kz1 cz1, .slice qz1 lz1 dz1, .bool x1, .bool y1, .bool false], .agg #[.bool s2, .slice p2 k2 c2, .slice q2 l2 d2, .bool sz2, .slice pz2 kz2 cz2, .slice qz2 lz2 dz2, .bool x2, .bool y2, .bool false]] w fun e w' => ∃ s3 p3 k3 c3 q3 l3 d3 sz3 pz3 kz3 cz3 qz3 lz3 dz3 x3 y3 e3, e = .returned (.agg #[.bool s3, .slice p3 k3 c3, .slice q3 l3 d3, .bool sz3, .slice pz3 kz3 cz3, .slice qz3 lz3 dz3, .bool x3, .bool y3, .bool e3]) ∧ Hid (JRep w' (.agg #[.bool s3, .slice p3 k3 c3, .slice q3 l3 d3, .bool sz3, .slice pz3 kz3 cz3, .slice qz3 lz3 dz3, .bool x3, .bool y3, .bool e3]) ((false, 0, 0), (fadd a.2.1 b.2.1), true, false, false)) ∧ Below w.heap.size w w' := by
 have HH := hid hh
 obtain ⟨rb, hrb⟩ : ∃ r, r = (fadd a.2.1 b.2.1) := ⟨_, rfl⟩
 rw [← hrb] at HH ⊢
 clear hrb hh
 cases x1 <;> cases x2 <;> cases y1 <;> cases y2
 all_goals first | exact absurd hX (by decide) | exact absurd hY (by decide) | skip
 all_goals
  clear hX hY
  go_enter Tryz.func119, Tryz.ntmps119
  go_upto_region 4 with fail
  generalize hA : World.alloc _ _ = W0
  have HV := hid (pre4_of hA nd_J nd_J nd_J nd_J)
  clear hA
  obtain ⟨m0, m1, m2, m3, m4, m5, m6, m7, m8, _⟩ := HV.out.1.cells9
  obtain ⟨n0, n1, n2, n3, n4, n5, n6, n7, n8, _⟩ := HV.out.2.1.cells9
  obtain ⟨u0, u1, u2, u3, u4, u5, u6, u7, u8, f0, f1, f2, f3, f4, f5, f6, f7, f8⟩ := HV.out.2.2.2.1.cells9
  go_wp2_with fail
  refine (HH.out _ HV.out.2.2.2.2).mono ?_
  rintro e w1 ⟨s5, p5, k5, c5, q5, l5, d5, rfl, hF1, hB1⟩
  clear m0 m1 m2 m3 m4 m5 m6 m7 m8 n0 n1 n2 n3 n4 n5 n6 n7 n8 u0 u1 u2 u3 u4 u5 u6 u7 u8 f0 f1 f2 f3 f4 f5 f6 f7 f8
  have Hi1 := hid (HV.out.1.below hB1)
  have Hk1 := hid (HV.out.2.1.below hB1)
  have Hr1 := hid (HV.out.2.2.1.below hB1)
  have Ho1 := hid (HV.out.2.2.2.1.below hB1)
  have Hb1 := hid (HV.out.2.2.2.2.trans (hB1.mono HV.out.2.2.2.2.size))
  clear hB1
  obtain ⟨m0, m1, m2, m3, m4, m5, m6, m7, m8, _⟩ := Hi1.out.cells9
  obtain ⟨n0, n1, n2, n3, n4, n5, n6, n7, n8, _⟩ := Hk1.out.cells9
  obtain ⟨u0, u1, u2, u3, u4, u5, u6, u7, u8, f0, f1, f2, f3, f4, f5, f6, f7, f8⟩ := Ho1.out.cells9
  go_upto_region 8 with fail
  generalize hW1 : World.setCell _ _ _ = y1
  have Hx1 := hid (show Box y1 (w.heap.size + 1 + 1 + 1) #[.bool false, .slice none 0 0, .slice none 0 0, .bool s5, .slice p5 k5 c5, .slice q5 l5 d5, .bool true, .bool false, .bool false] by rw [← hW1]; exact Box.stores_at (m := [.bool false, .slice none 0 0, .slice none 0 0, .bool false, .slice none 0 0, .slice none 0 0, .bool true, .bool false, .bool false]) (k := 3) (l := [.bool s5, .slice p5 k5 c5, .slice q5 l5 d5]) Ho1.out nd3)
  have Hxi1 := hid (Box.of_eq (Box.stores_other (k := 3) (l := [.bool s5, .slice p5 k5 c5, .slice q5 l5 d5]) Hi1.out (by omega)) hW1)
  have Hxk1 := hid (Box.of_eq (Box.stores_other (k := 3) (l := [.bool s5, .slice p5 k5 c5, .slice q5 l5 d5]) Hk1.out (by omega)) hW1)
  have Hxr1 := hid (Box.of_eq (Box.stores_other (k := 3) (l := [.bool s5, .slice p5 k5 c5, .slice q5 l5 d5]) Hr1.out (by omega)) hW1)
  have Hxb1 := hid (show Below w.heap.size w y1 by rw [← hW1]; exact Below.stores (k := 3) (l := [.bool s5, .slice p5 k5 c5, .slice q5 l5 d5]) Hb1.out (by omega))
  have Hxq1 := hid (show QNorm y1 (.agg #[.bool s5, .slice p5 k5 c5, .slice q5 l5 d5]) rb by rw [← hW1]; exact QNorm.stores (k := 3) (l := [.bool s5, .slice p5 k5 c5, .slice q5 l5 d5]) hF1.out Ho1.out nd3)
  clear hW1 hF1 m0 m1 m2 m3 m4 m5 m6 m7 m8 n0 n1 n2 n3 n4 n5 n6 n7 n8 u0 u1 u2 u3 u4 u5 u6 u7 u8 f0 f1 f2 f3 f4 f5 f6 f7 f8
  obtain ⟨u0, u1, u2, u3, u4, u5, u6, u7, u8, _⟩ := Hx1.out.cells9
  obtain ⟨g0, g1, g2, g3, g4, g5, g6, g7, g8, f0, f1, f2, f3, f4, f5, f6, f7, f8⟩ := Hxr1.out.cells9
  go_wp2_with fail
  exact jPlus_ret rfl (Hxr1.out.stores [.bool false, .slice none 0 0, .slice none 0 0, .bool s5, .slice p5 k5 c5, .slice q5 l5 d5, .bool true, .bool false, .bool false] rfl nd_J) ⟨_, _, _, _, _, _, _, _, _, _, _, _, _, _, _, _, _, rfl, hid (JRep.stores (k := 0) (l := [.bool false, .slice none 0 0, .slice none 0 0, .bool s5, .slice p5 k5 c5, .slice q5 l5 d5, .bool true, .bool false, .bool false]) ⟨_, _, _, _, _, _, _, _, _, _, _, _, _, _, _, _, _, rfl, QNorm.zero _, Hxq1.out, rfl, rfl, rfl⟩ Hxr1.out nd_J), Below.stores (k := 0) (l := [.bool false, .slice none 0 0, .slice none 0 0, .bool s5, .slice p5 k5 c5, .slice q5 l5 d5, .bool true, .bool false, .bool false]) Hxb1.out (by omega)⟩
theorem jPlus_ft (s1 : Bool) (p1 : Option Addr) (k1 c1 : Nat) (q1 : Option Addr) (l1 d1 : Nat) (sz1 : Bool) (pz1 : Option Addr) (kz1 cz1 : Nat) (qz1 : Option Addr) (lz1 dz1 : Nat) (x1 y1 : Bool) (s2 : Bool) (p2 : Option Addr) (k2 c2 : Nat) (q2 : Option Addr) (l2 d2 : Nat) (sz2 : Bool) (pz2 : Option Addr) (kz2 cz2 : Nat) (qz2 : Option Addr) (lz2 dz2 : Nat) (x2 y2 : Bool) (a b : (Bool × Nat × Nat) × (Bool × Nat × Nat) × Bool × Bool × Bool) (w : World) (hX : (x1 || x2) = false) (hY : (y1 || y2) = true)
  (hl : ∀ W, Below w.heap.size w W → Calls Tryz.prog 167 #[.agg #[.bool s1, .slice p1 k1 c1, .slice q1 l1 d1], .agg #[.bool s2, .slice p2 k2 c2, .slice q2 l2 d2]] W fun e w' => ∃ s4 p4 k4 c4 q4 l4 d4, e = .returned (.agg #[.bool s4, .slice p4 k4 c4, .slice q4 l4 d4]) ∧ Hid (QNorm w' (.agg #[.bool s4, .slice p4 k4 c4, .slice q4 l4 d4]) (fadd a.1 b.1)) ∧ Below W.heap.size W w') :
  Calls Tryz.prog 119 #[.agg #[.bool s1, .slice p1 k1 c1, .slice q1 l1 d1, .bool sz1, .slice pz1 kz1 cz1, .slice qz1 lz1 dz1, .bool x1, .bool y1, .bool false], .agg #[.bool s2, .slice p2 k2 c2, .slice q2 l2 d2, .bool sz2, .slice pz2 kz2 cz2, .slice qz2 lz2 dz2, .bool x2, .bool y2, .bool false]] w fun e w' => ∃ s3 p3 k3 c3 q3 l3 d3 sz3 pz3 kz3 cz3 qz3 lz3 dz3 x3 y3 e3, e = .returned (.agg #[.bool s3, .slice p3 k3 c3, .slice q3 l3 d3, .bool sz3, .slice pz3 kz3 cz3, .slice qz3 lz3 dz3, .bool x3, .bool y3, .bool e3]) ∧ Hid (JRep w' (.agg #[.bool s3, .slice p3 k3 c3, .slice q3 l3 d3, .bool sz3, .slice pz3 kz3 cz3, .slice qz3 lz3 dz3, .bool x3, .bool y3, .bool e3]) ((fadd a.1 b.1), (false, 0, 0), false, true, false)) ∧ Below w.heap.size w w' := by
 have HL := hid hl
 obtain ⟨ra, hra⟩ : ∃ r, r = (fadd a.1 b.1) := ⟨_, rfl⟩
 rw [← hra] at HL ⊢
 clear hra hl
 cases x1 <;> cases x2 <;> cases y1 <;> cases y2
 all_goals first | exact absurd hX (by decide) | exact absurd hY (by decide) | skip
 all_goals
  clear hX hY
  go_enter Tryz.func119, Tryz.ntmps119
  go_upto_region 4 with fail
  generalize hA : World.alloc _ _ = W0
  have HV := hid (pre4_of hA nd_J nd_J nd_J nd_J)
  clear hA
  obtain ⟨m0, m1, m2, m3, m4, m5, m6, m7, m8, _⟩ := HV.out.1.cells9
  obtain ⟨n0, n1, n2, n3, n4, n5, n6, n7, n8, _⟩ := HV.out.2.1.cells9
  obtain ⟨u0, u1, u2, u3, u4, u5, u6, u7, u8, f0, f1, f2, f3, f4, f5, f6, f7, f8⟩ := HV.out.2.2.2.1.cells9
  go_wp2_with fail
  refine (HL.out _ HV.out.2.2.2.2).mono ?_
  rintro e w1 ⟨s4, p4, k4, c4, q4, l4, d4, rfl, hF1, hB1⟩
  clear m0 m1 m2 m3 m4 m5 m6 m7 m8 n0 n1 n2 n3 n4 n5 n6 n7 n8 u0 u1 u2 u3 u4 u5 u6 u7 u8 f0 f1 f2 f3 f4 f5 f6 f7 f8
  have Hi1 := hid (HV.out.1.below hB1)
  have Hk1 := hid (HV.out.2.1.below hB1)
  have Hr1 := hid (HV.out.2.2.1.below hB1)
  have Ho1 := hid (HV.out.2.2.2.1.below hB1)
  have Hb1 := hid (HV.out.2.2.2.2.trans (hB1.mono HV.out.2.2.2.2.size))
  clear hB1
  obtain ⟨m0, m1, m2, m3, m4, m5, m6, m7, m8, _⟩ := Hi1.out.cells9
  obtain ⟨n0, n1, n2, n3, n4, n5, n6, n7, n8, _⟩ := Hk1.out.cells9
  obtain ⟨u0, u1, u2, u3, u4, u5, u6, u7, u8, f0, f1, f2, f3, f4, f5, f6, f7, f8⟩ := Ho1.out.cells9
  go_upto_region 8 with fail
  generalize hW1 : World.setCell _ _ _ = y1
  have Hx1 := hid (show Box y1 (w.heap.size + 1 + 1 + 1) #[.bool s4, .slice p4 k4 c4, .slice q4 l4 d4, .bool false, .slice none 0 0, .slice none 0 0, .bool false, .bool true, .bool false] by rw [← hW1]; exact Box.stores_at (m := [.bool false, .slice none 0 0, .slice none 0 0, .bool false, .slice none 0 0, .slice none 0 0, .bool false, .bool true, .bool false]) (k := 0) (l := [.bool s4, .slice p4 k4 c4, .slice q4 l4 d4]) Ho1.out nd3)
  have Hxi1 := hid (Box.of_eq (Box.stores_other (k := 0) (l := [.bool s4, .slice p4 k4 c4, .slice q4 l4 d4]) Hi1.out (by omega)) hW1)
  have Hxk1 := hid (Box.of_eq (Box.stores_other (k := 0) (l := [.bool s4, .slice p4 k4 c4, .slice q4 l4 d4]) Hk1.out (by omega)) hW1)
  have Hxr1 := hid (Box.of_eq (Box.stores_other (k := 0) (l := [.bool s4, .slice p4 k4 c4, .slice q4 l4 d4]) Hr1.out (by omega)) hW1)
  have Hxb1 := hid (show Below w.heap.size w y1 by rw [← hW1]; exact Below.stores (k := 0) (l := [.bool s4, .slice p4 k4 c4, .slice q4 l4 d4]) Hb1.out (by omega))
  have Hxq1 := hid (show QNorm y1 (.agg #[.bool s4, .slice p4 k4 c4, .slice q4 l4 d4]) ra by rw [← hW1]; exact QNorm.stores (k := 0) (l := [.bool s4, .slice p4 k4 c4, .slice q4 l4 d4]) hF1.out Ho1.out nd3)
  clear hW1 hF1 m0 m1 m2 m3 m4 m5 m6 m7 m8 n0 n1 n2 n3 n4 n5 n6 n7 n8 u0 u1 u2 u3 u4 u5 u6 u7 u8 f0 f1 f2 f3 f4 f5 f6 f7 f8
  obtain ⟨u0, u1, u2, u3, u4, u5, u6, u7, u8, _⟩ := Hx1.out.cells9
  obtain ⟨g0, g1, g2, g3, g4, g5, g6, g7, g8, f0, f1, f2, f3, f4, f5, f6, f7, f8⟩ := Hxr1.out.cells9
  go_wp2_with fail
  exact jPlus_ret rfl (Hxr1.out.stores [.bool s4, .slice p4 k4 c4, .slice q4 l4 d4, .bool false, .slice none 0 0, .slice none 0 0, .bool false, .bool true, .bool false] rfl nd_J) ⟨_, _, _, _, _, _, _, _, _, _, _, _, _, _, _, _, _, rfl, hid (JRep.stores (k := 0) (l := [.bool s4, .slice p4 k4 c4, .slice q4 l4 d4, .bool false, .slice none 0 0, .slice none 0 0, .bool false, .bool true, .bool false]) ⟨_, _, _, _, _, _, _, _, _, _, _, _, _, _, _, _, _, rfl, Hxq1.out, QNorm.zero _, rfl, rfl, rfl⟩ Hxr1.out nd_J), Below.stores (k := 0) (l := [.bool s4, .slice p4 k4 c4, .slice q4 l4 d4, .bool false, .slice none 0 0, .slice none 0 0, .bool false, .bool true, .bool false]) Hxb1.out (by omega)⟩
theorem jPlus_ff (s1 : Bool) (p1 : Option Addr) (k1 c1 : Nat) (q1 : Option Addr) (l1 d1 : Nat) (sz1 : Bool) (pz1 : Option Addr) (kz1 cz1 : Nat) (qz1 : Option Addr) (lz1 dz1 : Nat) (x1 y1 : Bool) (s2 : Bool) (p2 : Option Addr) (k2 c2 : Nat) (q2 : Option Addr) (l2 d2 : Nat) (sz2 : Bool) (pz2 : Option Addr) (kz2 cz2 : Nat) (qz2 : Option Addr) (lz2 dz2 : Nat) (x2 y2 : Bool) (a b : (Bool × Nat × Nat) × (Bool × Nat × Nat) × Bool × Bool × Bool) (w : World) (hX : (x1 || x2) = false) (hY : (y1 || y2) = false)
  (hl : ∀ W, Below w.heap.size w W → Calls Tryz.prog 167 #[.agg #[.bool s1, .slice p1 k1 c1, .slice q1 l1 d1], .agg #[.bool s2, .slice p2 k2 c2, .slice q2 l2 d2]] W fun e w' => ∃ s4 p4 k4 c4 q4 l4 d4, e = .returned (.agg #[.bool s4, .slice p4 k4 c4, .slice q4 l4 d4]) ∧ Hid (QNorm w' (.agg #[.bool s4, .slice p4 k4 c4, .slice q4 l4 d4]) (fadd a.1 b.1)) ∧ Below W.heap.size W w')
  (hh : ∀ W, Below w.heap.size w W → Calls Tryz.prog 167 #[.agg #[.bool sz1, .slice pz1 kz1 cz1, .slice qz1 lz1 dz1], .agg #[.bool sz2, .slice pz2 kz2 cz2, .slice qz2 lz2 dz2]] W fun e w' => ∃ s4 p4 k4 c4 q4 l4 d4, e = .returned (.agg #[.bool s4, .slice p4 k4 c4, .slice q4 l4 d4]) ∧ Hid (QNorm w' (.agg #[.bool s4, .slice p4 k4 c4, .slice q4 l4 d4]) (fadd a.2.1 b.2.1)) ∧ Below W.heap.size W w') :
  Calls Tryz.prog 119 #[.agg #[.bool s1, .slice p1 k1 c1, .slice q1 l1 d1, .bool sz1, .slice pz1 kz1 cz1, .slice qz1 lz1 dz1, .bool x1, .bool y1, .bool false], .agg #[.bool s2, .slice p2 k2 c2, .slice q2 l2 d2, .bool sz2, .slice pz2 kz2 cz2, .slice qz2 lz2 dz2, .bool x2, .bool y2, .bool false]] w fun e w' => ∃ s3 p3 k3 c3 q3 l3 d3 sz3 pz3 kz3 cz3 qz3 lz3 dz3 x3 y3 e3, e = .returned (.agg #[.bool s3, .slice p3 k3 c3, .slice q3 l3 d3, .bool sz3, .slice pz3 kz3 cz3, .slice qz3 lz3 dz3, .bool x3, .bool y3, .bool e3]) ∧ Hid (JRep w' (.agg #[.bool s3, .slice p3 k3 c3, .slice q3 l3 d3, .bool sz3, .slice pz3 kz3 cz3, .slice qz3 lz3 dz3, .bool x3, .bool y3, .bool e3]) ((fadd a.1 b.1), (fadd a.2.1 b.2.1), false, false, false)) ∧ Below w.heap.size w w' := by
 have HL := hid hl
 obtain ⟨ra, hra⟩ : ∃ r, r = (fadd a.1 b.1) := ⟨_, rfl⟩
 rw [← hra] at HL ⊢
 clear hra hl
 have HH := hid hh
 obtain ⟨rb, hrb⟩ : ∃ r, r = (fadd a.2.1 b.2.1) := ⟨_, rfl⟩
 rw [← hrb] at HH ⊢
 clear hrb hh
 cases x1 <;> cases x2 <;> cases y1 <;> cases y2
 all_goals first | exact absurd hX (by decide) | exact absurd hY (by decide) | skip
 all_goals
  clear hX hY
  go_enter Tryz.func119, Tryz.ntmps119
  go_upto_region 4 with fail
  generalize hA : World.alloc _ _ = W0
  have HV := hid (pre4_of hA nd_J nd_J nd_J nd_J)
  clear hA
  obtain ⟨m0, m1, m2, m3, m4, m5, m6, m7, m8, _⟩ := HV.out.1.cells9
  obtain ⟨n0, n1, n2, n3, n4, n5, n6, n7, n8, _⟩ := HV.out.2.1.cells9
  obtain ⟨u0, u1, u2, u3, u4, u5, u6, u7, u8, f0, f1, f2, f3, f4, f5, f6, f7, f8⟩ := HV.out.2.2.2.1.cells9
  go_wp2_with fail
  refine (HL.out _ HV.out.2.2.2.2).mono ?_
  rintro e w1 ⟨s4, p4, k4, c4, q4, l4, d4, rfl, hF1, hB1⟩
  clear m0 m1 m2 m3 m4 m5 m6 m7 m8 n0 n1 n2 n3 n4 n5 n6 n7 n8 u0 u1 u2 u3 u4 u5 u6 u7 u8 f0 f1 f2 f3 f4 f5 f6 f7 f8
  have Hi1 := hid (HV.out.1.below hB1)
  have Hk1 := hid (HV.out.2.1.below hB1)
  have Hr1 := hid (HV.out.2.2.1.below hB1)
  have Ho1 := hid (HV.out.2.2.2.1.below hB1)
  have Hb1 := hid (HV.out.2.2.2.2.trans (hB1.mono HV.out.2.2.2.2.size))
  clear hB1
  obtain ⟨m0, m1, m2, m3, m4, m5, m6, m7, m8, _⟩ := Hi1.out.cells9
  obtain ⟨n0, n1, n2, n3, n4, n5, n6, n7, n8, _⟩ := Hk1.out.cells9
  obtain ⟨u0, u1, u2, u3, u4, u5, u6, u7, u8, f0, f1, f2, f3, f4, f5, f6, f7, f8⟩ := Ho1.out.cells9
  go_upto_region 6 with fail
  generalize hW1 : World.setCell _ _ _ = y1
  have Hx1 := hid (show Box y1 (w.heap.size + 1 + 1 + 1) #[.bool s4, .slice p4 k4 c4, .slice q4 l4 d4, .bool false, .slice none 0 0, .slice none 0 0, .bool false, .bool false, .bool false] by rw [← hW1]; exact Box.stores_at (m := [.bool false, .slice none 0 0, .slice none 0 0, .bool false, .slice none 0 0, .slice none 0 0, .bool false, .bool false, .bool false]) (k := 0) (l := [.bool s4, .slice p4 k4 c4, .slice q4 l4 d4]) Ho1.out nd3)
  have Hxi1 := hid (Box.of_eq (Box.stores_other (k := 0) (l := [.bool s4, .slice p4 k4 c4, .slice q4 l4 d4]) Hi1.out (by omega)) hW1)
  have Hxk1 := hid (Box.of_eq (Box.stores_other (k := 0) (l := [.bool s4, .slice p4 k4 c4, .slice q4 l4 d4]) Hk1.out (by omega)) hW1)
  have Hxr1 := hid (Box.of_eq (Box.stores_other (k := 0) (l := [.bool s4, .slice p4 k4 c4, .slice q4 l4 d4]) Hr1.out (by omega)) hW1)
  have Hxb1 := hid (show Below w.heap.size w y1 by rw [← hW1]; exact Below.stores (k := 0) (l := [.bool s4, .slice p4 k4 c4, .slice q4 l4 d4]) Hb1.out (by omega))
  have Hxq1 := hid (show QNorm y1 (.agg #[.bool s4, .slice p4 k4 c4, .slice q4 l4 d4]) ra by rw [← hW1]; exact QNorm.stores (k := 0) (l := [.bool s4, .slice p4 k4 c4, .slice q4 l4 d4]) hF1.out Ho1.out nd3)
  clear hW1 hF1 m0 m1 m2 m3 m4 m5 m6 m7 m8 n0 n1 n2 n3 n4 n5 n6 n7 n8 u0 u1 u2 u3 u4 u5 u6 u7 u8 f0 f1 f2 f3 f4 f5 f6 f7 f8
  obtain ⟨m0, m1, m2, m3, m4, m5, m6, m7, m8, _⟩ := Hxi1.out.cells9
  obtain ⟨n0, n1, n2, n3, n4, n5, n6, n7, n8, _⟩ := Hxk1.out.cells9
  obtain ⟨u0, u1, u2, u3, u4, u5, u6, u7, u8, f0, f1, f2, f3, f4, f5, f6, f7, f8⟩ := Hx1.out.cells9
  go_wp2_with fail
  refine (HH.out _ Hxb1.out).mono ?_
  rintro e w2 ⟨s5, p5, k5, c5, q5, l5, d5, rfl, hF2, hB2⟩
  clear m0 m1 m2 m3 m4 m5 m6 m7 m8 n0 n1 n2 n3 n4 n5 n6 n7 n8 u0 u1 u2 u3 u4 u5 u6 u7 u8 f0 f1 f2 f3 f4 f5 f6 f7 f8
  have Hi2 := hid (Hxi1.out.below hB2)
  have Hk2 := hid (Hxk1.out.below hB2)
  have Hr2 := hid (Hxr1.out.below hB2)
  have Ho2 := hid (Hx1.out.below hB2)
  have Hb2 := hid (Hxb1.out.trans (hB2.mono Hxb1.out.size))
  have HM2 := hid (QNorm.below Hxq1.out hB2)
  clear hB2
  obtain ⟨m0, m1, m2, m3, m4, m5, m6, m7, m8, _⟩ := Hi2.out.cells9
  obtain ⟨n0, n1, n2, n3, n4, n5, n6, n7, n8, _⟩ := Hk2.out.cells9
  obtain ⟨u0, u1, u2, u3, u4, u5, u6, u7, u8, f0, f1, f2, f3, f4, f5, f6, f7, f8⟩ := Ho2.out.cells9
  go_upto_region 8 with fail
  generalize hW2 : World.setCell _ _ _ = y2
  have Hx2 := hid (show Box y2 (w.heap.size + 1 + 1 + 1) #[.bool s4, .slice p4 k4 c4, .slice q4 l4 d4, .bool s5, .slice p5 k5 c5, .slice q5 l5 d5, .bool false, .bool false, .bool false] by rw [← hW2]; exact Box.stores_at (m := [.bool s4, .slice p4 k4 c4, .slice q4 l4 d4, .bool false, .slice none 0 0, .slice none 0 0, .bool false, .bool false, .bool false]) (k := 3) (l := [.bool s5, .slice p5 k5 c5, .slice q5 l5 d5]) Ho2.out nd3)
  have Hxi2 := hid (Box.of_eq (Box.stores_other (k := 3) (l := [.bool s5, .slice p5 k5 c5, .slice q5 l5 d5]) Hi2.out (by omega)) hW2)
  have Hxk2 := hid (Box.of_eq (Box.stores_other (k := 3) (l := [.bool s5, .slice p5 k5 c5, .slice q5 l5 d5]) Hk2.out (by omega)) hW2)
  have Hxr2 := hid (Box.of_eq (Box.stores_other (k := 3) (l := [.bool s5, .slice p5 k5 c5, .slice q5 l5 d5]) Hr2.out (by omega)) hW2)
  have Hxb2 := hid (show Below w.heap.size w y2 by rw [← hW2]; exact Below.stores (k := 3) (l := [.bool s5, .slice p5 k5 c5, .slice q5 l5 d5]) Hb2.out (by omega))
  have Hxq2 := hid (show QNorm y2 (.agg #[.bool s5, .slice p5 k5 c5, .slice q5 l5 d5]) rb by rw [← hW2]; exact QNorm.stores (k := 3) (l := [.bool s5, .slice p5 k5 c5, .slice q5 l5 d5]) hF2.out Ho2.out nd3)
  have Hxm2 := hid (show QNorm y2 (.agg #[.bool s4, .slice p4 k4 c4, .slice q4 l4 d4]) ra by rw [← hW2]; exact QNorm.stores (k := 3) (l := [.bool s5, .slice p5 k5 c5, .slice q5 l5 d5]) HM2.out Ho2.out nd3)
  clear hW2 hF2 m0 m1 m2 m3 m4 m5 m6 m7 m8 n0 n1 n2 n3 n4 n5 n6 n7 n8 u0 u1 u2 u3 u4 u5 u6 u7 u8 f0 f1 f2 f3 f4 f5 f6 f7 f8
  obtain ⟨u0, u1, u2, u3, u4, u5, u6, u7, u8, _⟩ := Hx2.out.cells9
  obtain ⟨g0, g1, g2, g3, g4, g5, g6, g7, g8, f0, f1, f2, f3, f4, f5, f6, f7, f8⟩ := Hxr2.out.cells9
  go_wp2_with fail
  exact jPlus_ret rfl (Hxr2.out.stores [.bool s4, .slice p4 k4 c4, .slice q4 l4 d4, .bool s5, .slice p5 k5 c5, .slice q5 l5 d5, .bool false, .bool false, .bool false] rfl nd_J) ⟨_, _, _, _, _, _, _, _, _, _, _, _, _, _, _, _, _, rfl, hid (JRep.stores (k := 0) (l := [.bool s4, .slice p4 k4 c4, .slice q4 l4 d4, .bool s5, .slice p5 k5 c5, .slice q5 l5 d5, .bool false, .bool false, .bool false]) ⟨_, _, _, _, _, _, _, _, _, _, _, _, _, _, _, _, _, rfl, Hxm2.out, Hxq2.out, rfl, rfl, rfl⟩ Hxr2.out nd_J), Below.stores (k := 0) (l := [.bool s4, .slice p4 k4 c4, .slice q4 l4 d4, .bool s5, .slice p5 k5 c5, .slice q5 l5 d5, .bool false, .bool false, .bool false]) Hxb2.out (by omega)⟩
theorem jPlus_e1 (s1 : Bool) (p1 : Option Addr) (k1 c1 : Nat) (q1 : Option Addr) (l1 d1 : Nat) (sz1 : Bool) (pz1 : Option Addr) (kz1 cz1 : Nat) (qz1 : Option Addr) (lz1 dz1 : Nat) (x1 y1 : Bool) (s2 : Bool) (p2 : Option Addr) (k2 c2 : Nat) (q2 : Option Addr) (l2 d2 : Nat) (sz2 : Bool) (pz2 : Option Addr) (kz2 cz2 : Nat) (qz2 : Option Addr) (lz2 dz2 : Nat) (x2 y2 : Bool) (e2 : Bool) (w : World) :
  Calls Tryz.prog 119 #[.agg #[.bool s1, .slice p1 k1 c1, .slice q1 l1 d1, .bool sz1, .slice pz1 kz1 cz1, .slice qz1 lz1 dz1, .bool x1, .bool y1, .bool true], .agg #[.bool s2, .slice p2 k2 c2, .slice q2 l2 d2, .bool sz2, .slice pz2 kz2 cz2, .slice qz2 lz2 dz2, .bool x2, .bool y2, .bool e2]] w fun e w' => ∃ s3 p3 k3 c3 q3 l3 d3 sz3 pz3 kz3 cz3 qz3 lz3 dz3 x3 y3 e3, e = .returned (.agg #[.bool s3, .slice p3 k3 c3, .slice q3 l3 d3, .bool sz3, .slice pz3 kz3 cz3, .slice qz3 lz3 dz3, .bool x3, .bool y3, .bool e3]) ∧ Hid (JRep w' (.agg #[.bool s3, .slice p3 k3 c3, .slice q3 l3 d3, .bool sz3, .slice pz3 kz3 cz3, .slice qz3 lz3 dz3, .bool x3, .bool y3, .bool e3]) jnone) ∧ Below w.heap.size w w' := by
 go_enter Tryz.func119, Tryz.ntmps119
 go_wp2_with fail
 have HV := hid (pre3 w [.bool s1, .slice p1 k1 c1, .slice q1 l1 d1, .bool sz1, .slice pz1 kz1 cz1, .slice qz1 lz1 dz1, .bool x1, .bool y1, .bool true] [.bool s2, .slice p2 k2 c2, .slice q2 l2 d2, .bool sz2, .slice pz2 kz2 cz2, .slice qz2 lz2 dz2, .bool x2, .bool y2, .bool e2] [.bool false, .slice none 0 0, .slice none 0 0, .bool false, .slice none 0 0, .slice none 0 0, .bool false, .bool false, .bool false] 73 73 73 nd_J nd_J nd_J)
 generalize ((w.alloc (.cells #[.bool s1, .slice p1 k1 c1, .slice q1 l1 d1, .bool sz1, .slice pz1 kz1 cz1, .slice qz1 lz1 dz1, .bool x1, .bool y1, .bool true] 73)).alloc (.cells #[.bool s2, .slice p2 k2 c2, .slice q2 l2 d2, .bool sz2, .slice pz2 kz2 cz2, .slice qz2 lz2 dz2, .bool x2, .bool y2, .bool e2] 73)).alloc (.cells #[.bool false, .slice none 0 0, .slice none 0 0, .bool false, .slice none 0 0, .slice none 0 0, .bool false, .bool false, .bool false] 73) = W0 at *
 refine (jNone_any W0).mono ?_
 rintro e w3 ⟨rfl, hB3⟩
 have HE3 := hid (And.intro (HV.out.2.2.1.below hB3) (HV.out.2.2.2.trans (hB3.mono HV.out.2.2.2.size)))
 clear hB3
 obtain ⟨g0, g1, g2, g3, g4, g5, g6, g7, g8, n0, n1, n2, n3, n4, n5, n6, n7, n8⟩ := HE3.out.1.cells9
 go_wp2_with fail
 exact jPlus_ret rfl (HE3.out.1.stores [.bool false, .slice none 0 0, .slice none 0 0, .bool false, .slice none 0 0, .slice none 0 0, .bool false, .bool false, .bool true] rfl nd_J) ⟨_, _, _, _, _, _, _, _, _, _, _, _, _, _, _, _, _, rfl, hid (JRep.stores (k := 0) (l := [.bool false, .slice none 0 0, .slice none 0 0, .bool false, .slice none 0 0, .slice none 0 0, .bool false, .bool false, .bool true]) ⟨_, _, _, _, _, _, _, _, _, _, _, _, _, _, _, _, _, rfl, QNorm.zero _, QNorm.zero _, rfl, rfl, rfl⟩ HE3.out.1 nd_J), Below.stores (k := 0) (l := [.bool false, .slice none 0 0, .slice none 0 0, .bool false, .slice none 0 0, .slice none 0 0, .bool false, .bool false, .bool true]) HE3.out.2 (by omega)⟩
theorem jPlus_e2 (s1 : Bool) (p1 : Option Addr) (k1 c1 : Nat) (q1 : Option Addr) (l1 d1 : Nat) (sz1 : Bool) (pz1 : Option Addr) (kz1 cz1 : Nat) (qz1 : Option Addr) (lz1 dz1 : Nat) (x1 y1 : Bool) (s2 : Bool) (p2 : Option Addr) (k2 c2 : Nat) (q2 : Option Addr) (l2 d2 : Nat) (sz2 : Bool) (pz2 : Option Addr) (kz2 cz2 : Nat) (qz2 : Option Addr) (lz2 dz2 : Nat) (x2 y2 : Bool) (w : World) :
  Calls Tryz.prog 119 #[.agg #[.bool s1, .slice p1 k1 c1, .slice q1 l1 d1, .bool sz1, .slice pz1 kz1 cz1, .slice qz1 lz1 dz1, .bool x1, .bool y1, .bool false], .agg #[.bool s2, .slice p2 k2 c2, .slice q2 l2 d2, .bool sz2, .slice pz2 kz2 cz2, .slice qz2 lz2 dz2, .bool x2, .bool y2, .bool true]] w fun e w' => ∃ s3 p3 k3 c3 q3 l3 d3 sz3 pz3 kz3 cz3 qz3 lz3 dz3 x3 y3 e3, e = .returned (.agg #[.bool s3, .slice p3 k3 c3, .slice q3 l3 d3, .bool sz3, .slice pz3 kz3 cz3, .slice qz3 lz3 dz3, .bool x3, .bool y3, .bool e3]) ∧ Hid (JRep w' (.agg #[.bool s3, .slice p3 k3 c3, .slice q3 l3 d3, .bool sz3, .slice pz3 kz3 cz3, .slice qz3 lz3 dz3, .bool x3, .bool y3, .bool e3]) jnone) ∧ Below w.heap.size w w' := by
 go_enter Tryz.func119, Tryz.ntmps119
 go_wp2_with fail
 have HV := hid (pre3 w [.bool s1, .slice p1 k1 c1, .slice q1 l1 d1, .bool sz1, .slice pz1 kz1 cz1, .slice qz1 lz1 dz1, .bool x1, .bool y1, .bool false] [.bool s2, .slice p2 k2 c2, .slice q2 l2 d2, .bool sz2, .slice pz2 kz2 cz2, .slice qz2 lz2 dz2, .bool x2, .bool y2, .bool true] [.bool false, .slice none 0 0, .slice none 0 0, .bool false, .slice none 0 0, .slice none 0 0, .bool false, .bool false, .bool false] 73 73 73 nd_J nd_J nd_J)
 generalize ((w.alloc (.cells #[.bool s1, .slice p1 k1 c1, .slice q1 l1 d1, .bool sz1, .slice pz1 kz1 cz1, .slice qz1 lz1 dz1, .bool x1, .bool y1, .bool false] 73)).alloc (.cells #[.bool s2, .slice p2 k2 c2, .slice q2 l2 d2, .bool sz2, .slice pz2 kz2 cz2, .slice qz2 lz2 dz2, .bool x2, .bool y2, .bool true] 73)).alloc (.cells #[.bool false, .slice none 0 0, .slice none 0 0, .bool false, .slice none 0 0, .slice none 0 0, .bool false, .bool false, .bool false] 73) = W0 at *
 refine (jNone_any W0).mono ?_
 rintro e w3 ⟨rfl, hB3⟩
 have HE3 := hid (And.intro (HV.out.2.2.1.below hB3) (HV.out.2.2.2.trans (hB3.mono HV.out.2.2.2.size)))
 clear hB3
 obtain ⟨g0, g1, g2, g3, g4, g5, g6, g7, g8, n0, n1, n2, n3, n4, n5, n6, n7, n8⟩ := HE3.out.1.cells9
 go_wp2_with fail
 exact jPlus_ret rfl (HE3.out.1.stores [.bool false, .slice none 0 0, .slice none 0 0, .bool false, .slice none 0 0, .slice none 0 0, .bool false, .bool false, .bool true] rfl nd_J) ⟨_, _, _, _, _, _, _, _, _, _, _, _, _, _, _, _, _, rfl, hid (JRep.stores (k := 0) (l := [.bool false, .slice none 0 0, .slice none 0 0, .bool false, .slice none 0 0, .slice none 0 0, .bool false, .bool false, .bool true]) ⟨_, _, _, _, _, _, _, _, _, _, _, _, _, _, _, _, _, rfl, QNorm.zero _, QNorm.zero _, rfl, rfl, rfl⟩ HE3.out.1 nd_J), Below.stores (k := 0) (l := [.bool false, .slice none 0 0, .slice none 0 0, .bool false, .slice none 0 0, .slice none 0 0, .bool false, .bool false, .bool true]) HE3.out.2 (by omega)⟩
end Go.Proofs.YtpdpabpdejmdbaaGreatDoor
