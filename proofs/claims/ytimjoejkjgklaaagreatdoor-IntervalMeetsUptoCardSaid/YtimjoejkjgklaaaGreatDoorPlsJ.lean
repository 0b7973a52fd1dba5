/- What an operation on two intervals begins with, of the reference. Plus of the reference. -/
import Derived.Test.YtimjoejkjgklaaaGreatDoorRndI
import Derived.Test.YtimjoejkjgklaaaGreatDoorIsJ
set_option maxHeartbeats 4000000
set_option maxRecDepth 100000
namespace Go.Proofs.YtimjoejkjgklaaaGreatDoor
open Go.RowKit Dg
theorem jTwo_ret {W : World} {B C : Nat} {a0 a1 a2 a3 a4 a5 a6 a7 a8 b0 b1 b2 b3 b4 b5 b6 b7 b8 ev : Value} {tm : Array Value} {R : Ending → World → Prop} (h2 : tm[6]?.getD undef = .pointer (some ⟨B, 0, none⟩)) (h3 : tm[7]?.getD undef = .pointer (some ⟨C, 0, none⟩)) (h4 : tm[8]?.getD undef = ev) (hV : Box W B #[a0, a1, a2, a3, a4, a5, a6, a7, a8]) (hV' : Box W C #[b0, b1, b2, b3, b4, b5, b6, b7, b8]) (hR : R (.returned (.tuple #[.agg #[a0, a1, a2, a3, a4, a5, a6, a7, a8], .agg #[b0, b1, b2, b3, b4, b5, b6, b7, b8], ev])) W) :
  bodyPost Tryz.prog Tryz.f60 R .ret { tmps := tm, defers := [] } W := by
 obtain ⟨g0, g1, g2, g3, g4, g5, g6, g7, g8, _⟩ := hV.cells9
 obtain ⟨f0, f1, f2, f3, f4, f5, f6, f7, f8, _⟩ := hV'.cells9
 exact bodyPost_ret (v := .tuple #[.agg #[a0, a1, a2, a3, a4, a5, a6, a7, a8], .agg #[b0, b1, b2, b3, b4, b5, b6, b7, b8], ev]) (by simp [results, Tryz.results60, go_sem, h2, h3, h4, g0, g1, g2, g3, g4, g5, g6, g7, g8, f0, f1, f2, f3, f4, f5, f6, f7, f8]) rfl hR
theorem jTwo_l1 (s1 : Bool) (p1 : Option Addr) (k1 c1 : Nat) (q1 : Option Addr) (l1 d1 : Nat) (sz1 : Bool) (pz1 : Option Addr) (kz1 cz1 : Nat) (qz1 : Option Addr) (lz1 dz1 : Nat) (x1 : Bool) (y1 : Bool) (s2 : Bool) (p2 : Option Addr) (k2 c2 : Nat) (q2 : Option Addr) (l2 d2 : Nat) (sz2 : Bool) (pz2 : Option Addr) (kz2 cz2 : Nat) (qz2 : Option Addr) (lz2 dz2 : Nat) (x2 : Bool) (y2 : Bool) (a b : Bool × Nat × Nat) (p : Int) (w : World) (ha : NRep w (.agg #[.bool s1, .slice p1 k1 c1, .slice q1 l1 d1]) a) (hb : NRep w (.agg #[.bool sz1, .slice pz1 kz1 cz1, .slice qz1 lz1 dz1]) b) (h : ilarge (a, b, x1, y1) = true) :
  Calls Tryz.prog 60 #[.agg #[.bool s1, .slice p1 k1 c1, .slice q1 l1 d1, .bool sz1, .slice pz1 kz1 cz1, .slice qz1 lz1 dz1, .bool x1, .bool y1], .agg #[.bool s2, .slice p2 k2 c2, .slice q2 l2 d2, .bool sz2, .slice pz2 kz2 cz2, .slice qz2 lz2 dz2, .bool x2, .bool y2], .int .i64 p] w fun e w' => e = .returned (.tuple #[.agg #[.bool false, .slice none 0 0, .slice none 0 0, .bool false, .slice none 0 0, .slice none 0 0, .bool false, .bool false, .bool false], .agg #[.bool false, .slice none 0 0, .slice none 0 0, .bool false, .slice none 0 0, .slice none 0 0, .bool false, .bool false, .bool false], .int .i64 1]) ∧ Below w.heap.size w w' := by
 have HL := hid (fun (W : World) (hW : Below w.heap.size w W) => jLarge_any s1 p1 k1 c1 q1 l1 d1 sz1 pz1 kz1 cz1 qz1 lz1 dz1 x1 y1 a b W (ha.below hW) (hb.below hW))
 rw [h] at HL
 clear ha hb h
 go_enter Tryz.func60, Tryz.ntmps60
 go_wp2_with fail
 generalize hA : World.alloc _ _ = W0
 have HV := hid (pre4_o hA nd8 nd8 nd_J nd_J)
 clear hA
 refine (HL.out _ HV.out.2.2.2.2).mono ?_
 rintro e w1 ⟨rfl, hB1⟩
 have HE := hid (And.intro (HV.out.1.below hB1) (And.intro (HV.out.2.1.below hB1) (And.intro (HV.out.2.2.1.below hB1) (And.intro (HV.out.2.2.2.1.below hB1) (HV.out.2.2.2.2.trans (hB1.mono HV.out.2.2.2.2.size))))))
 clear hB1
 obtain ⟨g0, g1, g2, g3, g4, g5, g6, g7, g8, n0, n1, n2, n3, n4, n5, n6, n7, n8⟩ := HE.out.2.2.1.cells9
 obtain ⟨h0, h1, h2, h3, h4, h5, h6, h7, h8, o0, o1, o2, o3, o4, o5, o6, o7, o8⟩ := HE.out.2.2.2.1.cells9
 go_wp2_with fail
 exact jTwo_ret rfl rfl rfl (Box.stores_other (k := 0) (l := [.bool false, .slice none 0 0, .slice none 0 0, .bool false, .slice none 0 0, .slice none 0 0, .bool false, .bool false, .bool false]) (HE.out.2.2.1.stores [.bool false, .slice none 0 0, .slice none 0 0, .bool false, .slice none 0 0, .slice none 0 0, .bool false, .bool false, .bool false] rfl nd_J) (by omega)) ((Box.stores_other (k := 0) (l := [.bool false, .slice none 0 0, .slice none 0 0, .bool false, .slice none 0 0, .slice none 0 0, .bool false, .bool false, .bool false]) HE.out.2.2.2.1 (by omega)).stores [.bool false, .slice none 0 0, .slice none 0 0, .bool false, .slice none 0 0, .slice none 0 0, .bool false, .bool false, .bool false] rfl nd_J) ⟨rfl, Below.stores (k := 0) (l := [.bool false, .slice none 0 0, .slice none 0 0, .bool false, .slice none 0 0, .slice none 0 0, .bool false, .bool false, .bool false]) (Below.stores (k := 0) (l := [.bool false, .slice none 0 0, .slice none 0 0, .bool false, .slice none 0 0, .slice none 0 0, .bool false, .bool false, .bool false]) HE.out.2.2.2.2 (by omega)) (by omega)⟩
theorem jTwo_l2 (s1 : Bool) (p1 : Option Addr) (k1 c1 : Nat) (q1 : Option Addr) (l1 d1 : Nat) (sz1 : Bool) (pz1 : Option Addr) (kz1 cz1 : Nat) (qz1 : Option Addr) (lz1 dz1 : Nat) (x1 : Bool) (y1 : Bool) (s2 : Bool) (p2 : Option Addr) (k2 c2 : Nat) (q2 : Option Addr) (l2 d2 : Nat) (sz2 : Bool) (pz2 : Option Addr) (kz2 cz2 : Nat) (qz2 : Option Addr) (lz2 dz2 : Nat) (x2 : Bool) (y2 : Bool) (a b a' b' : Bool × Nat × Nat) (p : Int) (w : World) (ha : NRep w (.agg #[.bool s1, .slice p1 k1 c1, .slice q1 l1 d1]) a) (hb : NRep w (.agg #[.bool sz1, .slice pz1 kz1 cz1, .slice qz1 lz1 dz1]) b) (ha' : NRep w (.agg #[.bool s2, .slice p2 k2 c2, .slice q2 l2 d2]) a') (hb' : NRep w (.agg #[.bool sz2, .slice pz2 kz2 cz2, .slice qz2 lz2 dz2]) b') (h : ilarge (a, b, x1, y1) = false) (h' : ilarge (a', b', x2, y2) = true) :
  Calls Tryz.prog 60 #[.agg #[.bool s1, .slice p1 k1 c1, .slice q1 l1 d1, .bool sz1, .slice pz1 kz1 cz1, .slice qz1 lz1 dz1, .bool x1, .bool y1], .agg #[.bool s2, .slice p2 k2 c2, .slice q2 l2 d2, .bool sz2, .slice pz2 kz2 cz2, .slice qz2 lz2 dz2, .bool x2, .bool y2], .int .i64 p] w fun e w' => e = .returned (.tuple #[.agg #[.bool false, .slice none 0 0, .slice none 0 0, .bool false, .slice none 0 0, .slice none 0 0, .bool false, .bool false, .bool false], .agg #[.bool false, .slice none 0 0, .slice none 0 0, .bool false, .slice none 0 0, .slice none 0 0, .bool false, .bool false, .bool false], .int .i64 1]) ∧ Below w.heap.size w w' := by
 have HL := hid (fun (W : World) (hW : Below w.heap.size w W) => jLarge_any s1 p1 k1 c1 q1 l1 d1 sz1 pz1 kz1 cz1 qz1 lz1 dz1 x1 y1 a b W (ha.below hW) (hb.below hW))
 have HL2 := hid (fun (W : World) (hW : Below w.heap.size w W) => jLarge_any s2 p2 k2 c2 q2 l2 d2 sz2 pz2 kz2 cz2 qz2 lz2 dz2 x2 y2 a' b' W (ha'.below hW) (hb'.below hW))
 rw [h] at HL
 rw [h'] at HL2
 clear ha hb ha' hb' h h'
 go_enter Tryz.func60, Tryz.ntmps60
 go_wp2_with fail
 generalize hA : World.alloc _ _ = W0
 have HV := hid (pre4_o hA nd8 nd8 nd_J nd_J)
 clear hA
 refine (HL.out _ HV.out.2.2.2.2).mono ?_
 rintro e w1 ⟨rfl, hB1⟩
 have HE := hid (And.intro (HV.out.1.below hB1) (And.intro (HV.out.2.1.below hB1) (And.intro (HV.out.2.2.1.below hB1) (And.intro (HV.out.2.2.2.1.below hB1) (HV.out.2.2.2.2.trans (hB1.mono HV.out.2.2.2.2.size))))))
 clear hB1
 obtain ⟨m0, m1, m2, m3, m4, m5, m6, m7, _⟩ := HE.out.2.1.cells8
 go_wp2_with fail
 refine (HL2.out _ HE.out.2.2.2.2).mono ?_
 rintro e w2 ⟨rfl, hB2⟩
 have HE2 := hid (And.intro (HE.out.1.below hB2) (And.intro (HE.out.2.1.below hB2) (And.intro (HE.out.2.2.1.below hB2) (And.intro (HE.out.2.2.2.1.below hB2) (HE.out.2.2.2.2.trans (hB2.mono HE.out.2.2.2.2.size))))))
 clear hB2 m0 m1 m2 m3 m4 m5 m6 m7
 obtain ⟨g0, g1, g2, g3, g4, g5, g6, g7, g8, n0, n1, n2, n3, n4, n5, n6, n7, n8⟩ := HE2.out.2.2.1.cells9
 obtain ⟨h0, h1, h2, h3, h4, h5, h6, h7, h8, o0, o1, o2, o3, o4, o5, o6, o7, o8⟩ := HE2.out.2.2.2.1.cells9
 go_wp2_with fail
 exact jTwo_ret rfl rfl rfl (Box.stores_other (k := 0) (l := [.bool false, .slice none 0 0, .slice none 0 0, .bool false, .slice none 0 0, .slice none 0 0, .bool false, .bool false, .bool false]) (HE2.out.2.2.1.stores [.bool false, .slice none 0 0, .slice none 0 0, .bool false, .slice none 0 0, .slice none 0 0, .bool false, .bool false, .bool false] rfl nd_J) (by omega)) ((Box.stores_other (k := 0) (l := [.bool false, .slice none 0 0, .slice none 0 0, .bool false, .slice none 0 0, .slice none 0 0, .bool false, .bool false, .bool false]) HE2.out.2.2.2.1 (by omega)).stores [.bool false, .slice none 0 0, .slice none 0 0, .bool false, .slice none 0 0, .slice none 0 0, .bool false, .bool false, .bool false] rfl nd_J) ⟨rfl, Below.stores (k := 0) (l := [.bool false, .slice none 0 0, .slice none 0 0, .bool false, .slice none 0 0, .slice none 0 0, .bool false, .bool false, .bool false]) (Below.stores (k := 0) (l := [.bool false, .slice none 0 0, .slice none 0 0, .bool false, .slice none 0 0, .slice none 0 0, .bool false, .bool false, .bool false]) HE2.out.2.2.2.2 (by omega)) (by omega)⟩
theorem jTwo_ok (s1 : Bool) (p1 : Option Addr) (k1 c1 : Nat) (q1 : Option Addr) (l1 d1 : Nat) (sz1 : Bool) (pz1 : Option Addr) (kz1 cz1 : Nat) (qz1 : Option Addr) (lz1 dz1 : Nat) (x1 : Bool) (y1 : Bool) (s2 : Bool) (p2 : Option Addr) (k2 c2 : Nat) (q2 : Option Addr) (l2 d2 : Nat) (sz2 : Bool) (pz2 : Option Addr) (kz2 cz2 : Nat) (qz2 : Option Addr) (lz2 dz2 : Nat) (x2 : Bool) (y2 : Bool) (a b a' b' : Bool × Nat × Nat) (p : Int) (w : World) (ha : NRep w (.agg #[.bool s1, .slice p1 k1 c1, .slice q1 l1 d1]) a) (hb : NRep w (.agg #[.bool sz1, .slice pz1 kz1 cz1, .slice qz1 lz1 dz1]) b) (ha' : NRep w (.agg #[.bool s2, .slice p2 k2 c2, .slice q2 l2 d2]) a') (hb' : NRep w (.agg #[.bool sz2, .slice pz2 kz2 cz2, .slice qz2 lz2 dz2]) b') (h1 : large a.2.1 a.2.2 = false) (h2 : large b.2.1 b.2.2 = false) (h3 : large a'.2.1 a'.2.2 = false) (h4 : large b'.2.1 b'.2.2 = false) (h0 : 0 ≤ p) (h128 : p ≤ 128) :
  Calls Tryz.prog 60 #[.agg #[.bool s1, .slice p1 k1 c1, .slice q1 l1 d1, .bool sz1, .slice pz1 kz1 cz1, .slice qz1 lz1 dz1, .bool x1, .bool y1], .agg #[.bool s2, .slice p2 k2 c2, .slice q2 l2 d2, .bool sz2, .slice pz2 kz2 cz2, .slice qz2 lz2 dz2, .bool x2, .bool y2], .int .i64 p] w fun e w' => ∃ s3 p3 k3 c3 q3 l3 d3 sz3 pz3 kz3 cz3 qz3 lz3 dz3 x3 y3 e3 s4 p4 k4 c4 q4 l4 d4 sz4 pz4 kz4 cz4 qz4 lz4 dz4 x4 y4 e4, e = .returned (.tuple #[.agg #[.bool s3, .slice p3 k3 c3, .slice q3 l3 d3, .bool sz3, .slice pz3 kz3 cz3, .slice qz3 lz3 dz3, .bool x3, .bool y3, .bool e3], .agg #[.bool s4, .slice p4 k4 c4, .slice q4 l4 d4, .bool sz4, .slice pz4 kz4 cz4, .slice qz4 lz4 dz4, .bool x4, .bool y4, .bool e4], .int .i64 0]) ∧ Hid (JRep w' (.agg #[.bool s3, .slice p3 k3 c3, .slice q3 l3 d3, .bool sz3, .slice pz3 kz3 cz3, .slice qz3 lz3 dz3, .bool x3, .bool y3, .bool e3]) (jof (a, b, x1, y1))) ∧ Hid (JRep w' (.agg #[.bool s4, .slice p4 k4 c4, .slice q4 l4 d4, .bool sz4, .slice pz4 kz4 cz4, .slice qz4 lz4 dz4, .bool x4, .bool y4, .bool e4]) (jof (a', b', x2, y2))) ∧ Below w.heap.size w w' := by
 have HL := hid (fun (W : World) (hW : Below w.heap.size w W) => jLarge_any s1 p1 k1 c1 q1 l1 d1 sz1 pz1 kz1 cz1 qz1 lz1 dz1 x1 y1 a b W (ha.below hW) (hb.below hW))
 have HL2 := hid (fun (W : World) (hW : Below w.heap.size w W) => jLarge_any s2 p2 k2 c2 q2 l2 d2 sz2 pz2 kz2 cz2 qz2 lz2 dz2 x2 y2 a' b' W (ha'.below hW) (hb'.below hW))
 have hf : ilarge (a, b, x1, y1) = false := by
  show (large a.2.1 a.2.2 || large b.2.1 b.2.2) = false
  rw [h1, h2]; rfl
 have hf' : ilarge (a', b', x2, y2) = false := by
  show (large a'.2.1 a'.2.2 || large b'.2.1 b'.2.2) = false
  rw [h3, h4]; rfl
 rw [hf] at HL
 rw [hf'] at HL2
 have HO := hid (fun (W : World) (hW : Below w.heap.size w W) => jOf_any s1 p1 k1 c1 q1 l1 d1 sz1 pz1 kz1 cz1 qz1 lz1 dz1 x1 y1 a b W (ha.below hW) (hb.below hW) h1 h2)
 have HO2 := hid (fun (W : World) (hW : Below w.heap.size w W) => jOf_any s2 p2 k2 c2 q2 l2 d2 sz2 pz2 kz2 cz2 qz2 lz2 dz2 x2 y2 a' b' W (ha'.below hW) (hb'.below hW) h3 h4)
 obtain ⟨r, hr⟩ : ∃ r, r = jof (a, b, x1, y1) := ⟨_, rfl⟩
 rw [← hr] at HO ⊢
 obtain ⟨t, ht⟩ : ∃ r, r = jof (a', b', x2, y2) := ⟨_, rfl⟩
 rw [← ht] at HO2 ⊢
 have f1 : decide (p < 0) = false := decide_eq_false (by omega)
 have f2 : decide (128 < p) = false := decide_eq_false (by omega)
 clear ha hb ha' hb' h1 h2 h3 h4 hf hf' hr ht h0 h128
 go_enter Tryz.func60, Tryz.ntmps60
 go_wp2_with fail
 generalize hA : World.alloc _ _ = W0
 have HV := hid (pre4_o hA nd8 nd8 nd_J nd_J)
 clear hA
 refine (HL.out _ HV.out.2.2.2.2).mono ?_
 rintro e w1 ⟨rfl, hB1⟩
 have HE := hid (And.intro (HV.out.1.below hB1) (And.intro (HV.out.2.1.below hB1) (And.intro (HV.out.2.2.1.below hB1) (And.intro (HV.out.2.2.2.1.below hB1) (HV.out.2.2.2.2.trans (hB1.mono HV.out.2.2.2.2.size))))))
 clear hB1
 obtain ⟨m0, m1, m2, m3, m4, m5, m6, m7, _⟩ := HE.out.2.1.cells8
 go_wp2_with fail
 refine (HL2.out _ HE.out.2.2.2.2).mono ?_
 rintro e w2 ⟨rfl, hB2⟩
 have HE2 := hid (And.intro (HE.out.1.below hB2) (And.intro (HE.out.2.1.below hB2) (And.intro (HE.out.2.2.1.below hB2) (And.intro (HE.out.2.2.2.1.below hB2) (HE.out.2.2.2.2.trans (hB2.mono HE.out.2.2.2.2.size))))))
 clear hB2 m0 m1 m2 m3 m4 m5 m6 m7
 have HQ := hid (QQ.i2 (cs := [.bool s1, .slice p1 k1 c1, .slice q1 l1 d1, .bool sz1, .slice pz1 kz1 cz1, .slice qz1 lz1 dz1, .bool x1, .bool y1]) (cs' := [.bool s2, .slice p2 k2 c2, .slice q2 l2 d2, .bool sz2, .slice pz2 kz2 cz2, .slice qz2 lz2 dz2, .bool x2, .bool y2]) HE2.out.1 HE2.out.2.1 HE2.out.2.2.2.2)
 have HS := hid (fun (w' : World) (hb : QQ w [(w.heap.size, [.bool s1, .slice p1 k1 c1, .slice q1 l1 d1, .bool sz1, .slice pz1 kz1 cz1, .slice qz1 lz1 dz1, .bool x1, .bool y1]), (w.heap.size + 1, [.bool s2, .slice p2 k2 c2, .slice q2 l2 d2, .bool sz2, .slice pz2 kz2 cz2, .slice qz2 lz2 dz2, .bool x2, .bool y2])] w') => hb.s_8_8)
 have HN : Hid (Apart [(w.heap.size, [.bool s1, .slice p1 k1 c1, .slice q1 l1 d1, .bool sz1, .slice pz1 kz1 cz1, .slice qz1 lz1 dz1, .bool x1, .bool y1]), (w.heap.size + 1, [.bool s2, .slice p2 k2 c2, .slice q2 l2 d2, .bool sz2, .slice pz2 kz2 cz2, .slice qz2 lz2 dz2, .bool x2, .bool y2])] (w.heap.size + 1 + 1)) := hid (ne2 (by omega) (by omega))
 have HN2 : Hid (Apart [(w.heap.size, [.bool s1, .slice p1 k1 c1, .slice q1 l1 d1, .bool sz1, .slice pz1 kz1 cz1, .slice qz1 lz1 dz1, .bool x1, .bool y1]), (w.heap.size + 1, [.bool s2, .slice p2 k2 c2, .slice q2 l2 d2, .bool sz2, .slice pz2 kz2 cz2, .slice qz2 lz2 dz2, .bool x2, .bool y2])] (w.heap.size + 1 + 1 + 1)) := hid (ne2 (by omega) (by omega))
 have HI : Hid (w.heap.size ≤ w.heap.size + 1 + 1) := hid (by omega)
 have HI2 : Hid (w.heap.size ≤ w.heap.size + 1 + 1 + 1) := hid (by omega)
 go_wp2_with fail
 go_region_held3 (fun w' => w'.cell? ⟨w.heap.size, 0, none⟩ = some (.bool s1) ∧ w'.cell? ⟨w.heap.size, 1, none⟩ = some (.slice p1 k1 c1) ∧ w'.cell? ⟨w.heap.size, 2, none⟩ = some (.slice q1 l1 d1) ∧ w'.cell? ⟨w.heap.size, 3, none⟩ = some (.bool sz1) ∧ w'.cell? ⟨w.heap.size, 4, none⟩ = some (.slice pz1 kz1 cz1) ∧ w'.cell? ⟨w.heap.size, 5, none⟩ = some (.slice qz1 lz1 dz1) ∧ w'.cell? ⟨w.heap.size, 6, none⟩ = some (.bool x1) ∧ w'.cell? ⟨w.heap.size, 7, none⟩ = some (.bool y1) ∧ w'.cell? ⟨w.heap.size + 1, 0, none⟩ = some (.bool s2) ∧ w'.cell? ⟨w.heap.size + 1, 1, none⟩ = some (.slice p2 k2 c2) ∧ w'.cell? ⟨w.heap.size + 1, 2, none⟩ = some (.slice q2 l2 d2) ∧ w'.cell? ⟨w.heap.size + 1, 3, none⟩ = some (.bool sz2) ∧ w'.cell? ⟨w.heap.size + 1, 4, none⟩ = some (.slice pz2 kz2 cz2) ∧ w'.cell? ⟨w.heap.size + 1, 5, none⟩ = some (.slice qz2 lz2 dz2) ∧ w'.cell? ⟨w.heap.size + 1, 6, none⟩ = some (.bool x2) ∧ w'.cell? ⟨w.heap.size + 1, 7, none⟩ = some (.bool y2) ∧ Hid (QQ w [(w.heap.size, [.bool s1, .slice p1 k1 c1, .slice q1 l1 d1, .bool sz1, .slice pz1 kz1 cz1, .slice qz1 lz1 dz1, .bool x1, .bool y1]), (w.heap.size + 1, [.bool s2, .slice p2 k2 c2, .slice q2 l2 d2, .bool sz2, .slice pz2 kz2 cz2, .slice qz2 lz2 dz2, .bool x2, .bool y2])] w'))
  (first | (refine HS.out _ ?_; first | (with_reducible exact HQ.out.drew) | (with_reducible assumption) | (with_reducible refine QQ.st9 ?_ HN.out HI.out; assumption) | (with_reducible refine QQ.st9 ?_ HN2.out HI2.out; first | assumption | (with_reducible refine QQ.st9 ?_ HN.out HI.out; assumption))))
  (first
   | (go_at_call_of 84 p1; refine (HO.out _ HQ.out.drew.bel).mono ?_; rintro e wa ⟨s3, p3, k3, c3, q3, l3, d3, sz3, pz3, kz3, cz3, qz3, lz3, dz3, x3, y3, e3, rfl, hE1, hB1⟩; have hQ1 := HQ.out.drew.call hB1; have hU1 := (HE2.out.2.2.1.drew).below hB1; have hV1 := (HE2.out.2.2.2.1.drew).below hB1)
   | (go_at_call_of 84 p2; refine (HO2.out _ hQ1.bel).mono ?_; rintro e wb ⟨s4, p4, k4, c4, q4, l4, d4, sz4, pz4, kz4, cz4, qz4, lz4, dz4, x4, y4, e4, rfl, hE2, hB2⟩; have hQ2 := hQ1.call hB2; have hU2 := hU1.below hB2; have hV2 := hV1.below hB2; obtain ⟨g0, g1, g2, g3, g4, g5, g6, g7, g8, n0, n1, n2, n3, n4, n5, n6, n7, n8⟩ := hU2.cells9; obtain ⟨h0, h1, h2, h3, h4, h5, h6, h7, h8, o0, o1, o2, o3, o4, o5, o6, o7, o8⟩ := hV2.cells9))
 rename_i hHeld
 clear hHeld
 generalize hW : World.setCell _ _ _ = w5
 have hV3 : Box (stores wb (w.heap.size + 1 + 1) 0 [.bool s3, .slice p3 k3 c3, .slice q3 l3 d3, .bool sz3, .slice pz3 kz3 cz3, .slice qz3 lz3 dz3, .bool x3, .bool y3, .bool e3]) (w.heap.size + 1 + 1 + 1) _ := Box.stores_other (k := 0) (l := [.bool s3, .slice p3 k3 c3, .slice q3 l3 d3, .bool sz3, .slice pz3 kz3 cz3, .slice qz3 lz3 dz3, .bool x3, .bool y3, .bool e3]) hV2 (by omega)
 have hU5 : Box w5 (w.heap.size + 1 + 1) #[.bool s3, .slice p3 k3 c3, .slice q3 l3 d3, .bool sz3, .slice pz3 kz3 cz3, .slice qz3 lz3 dz3, .bool x3, .bool y3, .bool e3] := by rw [← hW]; exact Box.stores_other (k := 0) (l := [.bool s4, .slice p4 k4 c4, .slice q4 l4 d4, .bool sz4, .slice pz4 kz4 cz4, .slice qz4 lz4 dz4, .bool x4, .bool y4, .bool e4]) (hU2.stores [.bool s3, .slice p3 k3 c3, .slice q3 l3 d3, .bool sz3, .slice pz3 kz3 cz3, .slice qz3 lz3 dz3, .bool x3, .bool y3, .bool e3] rfl nd_J) (by omega)
 have hV5 : Box w5 (w.heap.size + 1 + 1 + 1) #[.bool s4, .slice p4 k4 c4, .slice q4 l4 d4, .bool sz4, .slice pz4 kz4 cz4, .slice qz4 lz4 dz4, .bool x4, .bool y4, .bool e4] := by rw [← hW]; exact hV3.stores [.bool s4, .slice p4 k4 c4, .slice q4 l4 d4, .bool sz4, .slice pz4 kz4 cz4, .slice qz4 lz4 dz4, .bool x4, .bool y4, .bool e4] rfl nd_J
 have hE5 : JRep w5 (.agg #[.bool s3, .slice p3 k3 c3, .slice q3 l3 d3, .bool sz3, .slice pz3 kz3 cz3, .slice qz3 lz3 dz3, .bool x3, .bool y3, .bool e3]) r := by rw [← hW]; exact JRep.stores (k := 0) (l := [.bool s4, .slice p4 k4 c4, .slice q4 l4 d4, .bool sz4, .slice pz4 kz4 cz4, .slice qz4 lz4 dz4, .bool x4, .bool y4, .bool e4]) (JRep.stores (k := 0) (l := [.bool s3, .slice p3 k3 c3, .slice q3 l3 d3, .bool sz3, .slice pz3 kz3 cz3, .slice qz3 lz3 dz3, .bool x3, .bool y3, .bool e3]) (hE1.out.below hB2) hU2 nd_J) hV3 nd_J
 have hF5 : JRep w5 (.agg #[.bool s4, .slice p4 k4 c4, .slice q4 l4 d4, .bool sz4, .slice pz4 kz4 cz4, .slice qz4 lz4 dz4, .bool x4, .bool y4, .bool e4]) t := by rw [← hW]; exact JRep.stores (k := 0) (l := [.bool s4, .slice p4 k4 c4, .slice q4 l4 d4, .bool sz4, .slice pz4 kz4 cz4, .slice qz4 lz4 dz4, .bool x4, .bool y4, .bool e4]) (JRep.stores (k := 0) (l := [.bool s3, .slice p3 k3 c3, .slice q3 l3 d3, .bool sz3, .slice pz3 kz3 cz3, .slice qz3 lz3 dz3, .bool x3, .bool y3, .bool e3]) hE2.out hU2 nd_J) hV3 nd_J
 have hB5 : Below w.heap.size w w5 := by rw [← hW]; exact Below.stores (k := 0) (l := [.bool s4, .slice p4 k4 c4, .slice q4 l4 d4, .bool sz4, .slice pz4 kz4 cz4, .slice qz4 lz4 dz4, .bool x4, .bool y4, .bool e4]) (Below.stores (k := 0) (l := [.bool s3, .slice p3 k3 c3, .slice q3 l3 d3, .bool sz3, .slice pz3 kz3 cz3, .slice qz3 lz3 dz3, .bool x3, .bool y3, .bool e3]) hQ2.bel (by omega)) (by omega)
 have HE5 := hid (And.intro hU5 (And.intro hV5 (And.intro hE5 (And.intro hF5 hB5))))
 clear hW hV3 hU5 hV5 hE5 hF5 hB5 hQ1 hQ2 hU1 hU2 hV1 hV2 hB1 hB2 hE1 hE2 g0 g1 g2 g3 g4 g5 g6 g7 g8 n0 n1 n2 n3 n4 n5 n6 n7 n8 h0 h1 h2 h3 h4 h5 h6 h7 h8 o0 o1 o2 o3 o4 o5 o6 o7 o8
 go_wp2_with fail
 exact jTwo_ret rfl rfl rfl HE5.out.1 HE5.out.2.1 ⟨s3, p3, k3, c3, q3, l3, d3, sz3, pz3, kz3, cz3, qz3, lz3, dz3, x3, y3, e3, s4, p4, k4, c4, q4, l4, d4, sz4, pz4, kz4, cz4, qz4, lz4, dz4, x4, y4, e4, rfl, hid HE5.out.2.2.1, hid HE5.out.2.2.2.1, HE5.out.2.2.2.2⟩
end Go.Proofs.YtimjoejkjgklaaaGreatDoor
namespace Go.Proofs.YtimjoejkjgklaaaGreatDoor
open Go.RowKit Dg
theorem pre4_of {w W0 : World} {l1 l2 l3 l4 : List Value} {t1 t2 t3 t4 : Nat} (h : (((w.alloc (.cells l1.toArray t1)).alloc (.cells l2.toArray t2)).alloc (.cells l3.toArray t3)).alloc (.cells l4.toArray t4) = W0) (h1 : NDs l1) (h2 : NDs l2) (h3 : NDs l3) (h4 : NDs l4) :
  Box W0 w.heap.size l1.toArray ∧ Box W0 (w.heap.size + 1) l2.toArray ∧ Box W0 (w.heap.size + 1 + 1) l3.toArray ∧ Box W0 (w.heap.size + 1 + 1 + 1) l4.toArray ∧ Below w.heap.size w W0 := by
 subst h
 exact pre4 w l1 l2 l3 l4 t1 t2 t3 t4 h1 h2 h3 h4
end Go.Proofs.YtimjoejkjgklaaaGreatDoor
