/- Lower and Upper of the reference. Lower and Upper of the reference, by their values. Min and Max of the reference. The law IntervalLimits. -/
import Derived.Test.YtimjoejkjgklaaaGreatDoorPlsJ
import Derived.Test.YtimjoejkjgklaaaGreatDoorOrd
import Derived.Test.YtimjoejkjgklaaaGreatDoorLimM
import Derived.Test.YtimjoejkjgklaaaGreatDoorAwake
set_option maxHeartbeats 8000000
set_option maxRecDepth 100000
namespace Go.Proofs.YtimjoejkjgklaaaGreatDoor
open Go.RowKit Dg
theorem jLower_ret {W : World} {B : Nat} {a0 a1 a2 a3 a4 a5 a6 a7 a8 : Value} {tm : Array Value} {R : Ending → World → Prop} (h2 : tm[4]?.getD undef = .pointer (some ⟨B, 0, none⟩)) (hV : Box W B #[a0, a1, a2, a3, a4, a5, a6, a7, a8]) (hR : R (.returned (.agg #[a0, a1, a2, a3, a4, a5, a6, a7, a8])) W) :
  bodyPost Tryz.prog Tryz.f61 R .ret { tmps := tm, defers := [] } W := by
 obtain ⟨g0, g1, g2, g3, g4, g5, g6, g7, g8, _⟩ := hV.cells9
 exact bodyPost_ret (v := .agg #[a0, a1, a2, a3, a4, a5, a6, a7, a8]) (by simp [results, Tryz.results61, go_sem, h2, g0, g1, g2, g3, g4, g5, g6, g7, g8]) rfl hR
theorem jLower_ttt (s1 : Bool) (p1 : Option Addr) (k1 c1 : Nat) (q1 : Option Addr) (l1 d1 : Nat) (sz1 : Bool) (pz1 : Option Addr) (kz1 cz1 : Nat) (qz1 : Option Addr) (lz1 dz1 : Nat) (x1 : Bool) (s2 : Bool) (p2 : Option Addr) (k2 c2 : Nat) (q2 : Option Addr) (l2 d2 : Nat) (sz2 : Bool) (pz2 : Option Addr) (kz2 cz2 : Nat) (qz2 : Option Addr) (lz2 dz2 : Nat) (x2 : Bool) (_a b : (Bool × Nat × Nat) × (Bool × Nat × Nat) × Bool × Bool × Bool) (w : World) (hX : (x1 || x2) = true)
  (hh : ∀ W, Below w.heap.size w W → QNorm W (.agg #[.bool sz2, .slice pz2 kz2 cz2, .slice qz2 lz2 dz2]) b.2.1) :
  Calls Tryz.prog 61 #[.agg #[.bool s1, .slice p1 k1 c1, .slice q1 l1 d1, .bool sz1, .slice pz1 kz1 cz1, .slice qz1 lz1 dz1, .bool x1, .bool true, .bool false], .agg #[.bool s2, .slice p2 k2 c2, .slice q2 l2 d2, .bool sz2, .slice pz2 kz2 cz2, .slice qz2 lz2 dz2, .bool x2, .bool true, .bool false]] w fun e w' => ∃ s3 p3 k3 c3 q3 l3 d3 sz3 pz3 kz3 cz3 qz3 lz3 dz3 x3 y3 e3, e = .returned (.agg #[.bool s3, .slice p3 k3 c3, .slice q3 l3 d3, .bool sz3, .slice pz3 kz3 cz3, .slice qz3 lz3 dz3, .bool x3, .bool y3, .bool e3]) ∧ Hid (JRep w' (.agg #[.bool s3, .slice p3 k3 c3, .slice q3 l3 d3, .bool sz3, .slice pz3 kz3 cz3, .slice qz3 lz3 dz3, .bool x3, .bool y3, .bool e3]) ((false, 0, 0), b.2.1, true, true, false)) ∧ Below w.heap.size w w' := by
 have HH := hid hh
 obtain ⟨rb, hrb⟩ : ∃ r, r = b.2.1 := ⟨_, rfl⟩
 rw [← hrb] at HH ⊢
 clear hrb hh
 cases x1 <;> cases x2
 all_goals first | exact absurd hX (by decide) | skip
 all_goals
  clear hX
  go_enter Tryz.func61, Tryz.ntmps61
  go_upto_region 4 with fail
  generalize hA : World.alloc _ _ = W0
  have HV := hid (pre4_of hA nd_J nd_J nd_J nd_J)
  clear hA
  obtain ⟨m0, m1, m2, m3, m4, m5, m6, m7, m8, _⟩ := HV.out.1.cells9
  obtain ⟨n0, n1, n2, n3, n4, n5, n6, n7, n8, _⟩ := HV.out.2.1.cells9
  obtain ⟨u0, u1, u2, u3, u4, u5, u6, u7, u8, f0, f1, f2, f3, f4, f5, f6, f7, f8⟩ := HV.out.2.2.2.1.cells9
  have hF1 := hid (HH.out _ HV.out.2.2.2.2)
  go_upto_region 11 with fail
  generalize hW1 : World.setCell _ _ _ = y1
  have Hx1 := hid (show Box y1 (w.heap.size + 1 + 1 + 1) #[.bool false, .slice none 0 0, .slice none 0 0, .bool sz2, .slice pz2 kz2 cz2, .slice qz2 lz2 dz2, .bool true, .bool true, .bool false] by rw [← hW1]; exact Box.stores_at (m := [.bool false, .slice none 0 0, .slice none 0 0, .bool false, .slice none 0 0, .slice none 0 0, .bool true, .bool true, .bool false]) (k := 3) (l := [.bool sz2, .slice pz2 kz2 cz2, .slice qz2 lz2 dz2]) HV.out.2.2.2.1 nd3)
  have Hxi1 := hid (Box.of_eq (Box.stores_other (k := 3) (l := [.bool sz2, .slice pz2 kz2 cz2, .slice qz2 lz2 dz2]) HV.out.1 (by omega)) hW1)
  have Hxk1 := hid (Box.of_eq (Box.stores_other (k := 3) (l := [.bool sz2, .slice pz2 kz2 cz2, .slice qz2 lz2 dz2]) HV.out.2.1 (by omega)) hW1)
  have Hxr1 := hid (Box.of_eq (Box.stores_other (k := 3) (l := [.bool sz2, .slice pz2 kz2 cz2, .slice qz2 lz2 dz2]) HV.out.2.2.1 (by omega)) hW1)
  have Hxb1 := hid (show Below w.heap.size w y1 by rw [← hW1]; exact Below.stores (k := 3) (l := [.bool sz2, .slice pz2 kz2 cz2, .slice qz2 lz2 dz2]) HV.out.2.2.2.2 (by omega))
  have Hxq1 := hid (show QNorm y1 (.agg #[.bool sz2, .slice pz2 kz2 cz2, .slice qz2 lz2 dz2]) rb by rw [← hW1]; exact QNorm.stores (k := 3) (l := [.bool sz2, .slice pz2 kz2 cz2, .slice qz2 lz2 dz2]) hF1.out HV.out.2.2.2.1 nd3)
  clear hW1 hF1 m0 m1 m2 m3 m4 m5 m6 m7 m8 n0 n1 n2 n3 n4 n5 n6 n7 n8 u0 u1 u2 u3 u4 u5 u6 u7 u8 f0 f1 f2 f3 f4 f5 f6 f7 f8
  obtain ⟨u0, u1, u2, u3, u4, u5, u6, u7, u8, _⟩ := Hx1.out.cells9
  obtain ⟨g0, g1, g2, g3, g4, g5, g6, g7, g8, f0, f1, f2, f3, f4, f5, f6, f7, f8⟩ := Hxr1.out.cells9
  go_wp2_with fail
  exact jLower_ret rfl (Hxr1.out.stores [.bool false, .slice none 0 0, .slice none 0 0, .bool sz2, .slice pz2 kz2 cz2, .slice qz2 lz2 dz2, .bool true, .bool true, .bool false] rfl nd_J) ⟨_, _, _, _, _, _, _, _, _, _, _, _, _, _, _, _, _, rfl, hid (JRep.stores (k := 0) (l := [.bool false, .slice none 0 0, .slice none 0 0, .bool sz2, .slice pz2 kz2 cz2, .slice qz2 lz2 dz2, .bool true, .bool true, .bool false]) ⟨_, _, _, _, _, _, _, _, _, _, _, _, _, _, _, _, _, rfl, QNorm.zero _, Hxq1.out, rfl, rfl, rfl⟩ Hxr1.out nd_J), Below.stores (k := 0) (l := [.bool false, .slice none 0 0, .slice none 0 0, .bool sz2, .slice pz2 kz2 cz2, .slice qz2 lz2 dz2, .bool true, .bool true, .bool false]) Hxb1.out (by omega)⟩
theorem jLower_ttf (s1 : Bool) (p1 : Option Addr) (k1 c1 : Nat) (q1 : Option Addr) (l1 d1 : Nat) (sz1 : Bool) (pz1 : Option Addr) (kz1 cz1 : Nat) (qz1 : Option Addr) (lz1 dz1 : Nat) (x1 : Bool) (s2 : Bool) (p2 : Option Addr) (k2 c2 : Nat) (q2 : Option Addr) (l2 d2 : Nat) (sz2 : Bool) (pz2 : Option Addr) (kz2 cz2 : Nat) (qz2 : Option Addr) (lz2 dz2 : Nat) (x2 : Bool) (_a b : (Bool × Nat × Nat) × (Bool × Nat × Nat) × Bool × Bool × Bool) (w : World) (hX : (x1 || x2) = true)
  (hh : ∀ W, Below w.heap.size w W → QNorm W (.agg #[.bool sz2, .slice pz2 kz2 cz2, .slice qz2 lz2 dz2]) b.2.1) :
  Calls Tryz.prog 61 #[.agg #[.bool s1, .slice p1 k1 c1, .slice q1 l1 d1, .bool sz1, .slice pz1 kz1 cz1, .slice qz1 lz1 dz1, .bool x1, .bool true, .bool false], .agg #[.bool s2, .slice p2 k2 c2, .slice q2 l2 d2, .bool sz2, .slice pz2 kz2 cz2, .slice qz2 lz2 dz2, .bool x2, .bool false, .bool false]] w fun e w' => ∃ s3 p3 k3 c3 q3 l3 d3 sz3 pz3 kz3 cz3 qz3 lz3 dz3 x3 y3 e3, e = .returned (.agg #[.bool s3, .slice p3 k3 c3, .slice q3 l3 d3, .bool sz3, .slice pz3 kz3 cz3, .slice qz3 lz3 dz3, .bool x3, .bool y3, .bool e3]) ∧ Hid (JRep w' (.agg #[.bool s3, .slice p3 k3 c3, .slice q3 l3 d3, .bool sz3, .slice pz3 kz3 cz3, .slice qz3 lz3 dz3, .bool x3, .bool y3, .bool e3]) ((false, 0, 0), b.2.1, true, false, false)) ∧ Below w.heap.size w w' := by
 have HH := hid hh
 obtain ⟨rb, hrb⟩ : ∃ r, r = b.2.1 := ⟨_, rfl⟩
 rw [← hrb] at HH ⊢
 clear hrb hh
 cases x1 <;> cases x2
 all_goals first | exact absurd hX (by decide) | skip
 all_goals
  clear hX
  go_enter Tryz.func61, Tryz.ntmps61
  go_upto_region 4 with fail
  generalize hA : World.alloc _ _ = W0
  have HV := hid (pre4_of hA nd_J nd_J nd_J nd_J)
  clear hA
  obtain ⟨m0, m1, m2, m3, m4, m5, m6, m7, m8, _⟩ := HV.out.1.cells9
  obtain ⟨n0, n1, n2, n3, n4, n5, n6, n7, n8, _⟩ := HV.out.2.1.cells9
  obtain ⟨u0, u1, u2, u3, u4, u5, u6, u7, u8, f0, f1, f2, f3, f4, f5, f6, f7, f8⟩ := HV.out.2.2.2.1.cells9
  have hF1 := hid (HH.out _ HV.out.2.2.2.2)
  go_upto_region 11 with fail
  generalize hW1 : World.setCell _ _ _ = y1
  have Hx1 := hid (show Box y1 (w.heap.size + 1 + 1 + 1) #[.bool false, .slice none 0 0, .slice none 0 0, .bool sz2, .slice pz2 kz2 cz2, .slice qz2 lz2 dz2, .bool true, .bool false, .bool false] by rw [← hW1]; exact Box.stores_at (m := [.bool false, .slice none 0 0, .slice none 0 0, .bool false, .slice none 0 0, .slice none 0 0, .bool true, .bool false, .bool false]) (k := 3) (l := [.bool sz2, .slice pz2 kz2 cz2, .slice qz2 lz2 dz2]) HV.out.2.2.2.1 nd3)
  have Hxi1 := hid (Box.of_eq (Box.stores_other (k := 3) (l := [.bool sz2, .slice pz2 kz2 cz2, .slice qz2 lz2 dz2]) HV.out.1 (by omega)) hW1)
  have Hxk1 := hid (Box.of_eq (Box.stores_other (k := 3) (l := [.bool sz2, .slice pz2 kz2 cz2, .slice qz2 lz2 dz2]) HV.out.2.1 (by omega)) hW1)
  have Hxr1 := hid (Box.of_eq (Box.stores_other (k := 3) (l := [.bool sz2, .slice pz2 kz2 cz2, .slice qz2 lz2 dz2]) HV.out.2.2.1 (by omega)) hW1)
  have Hxb1 := hid (show Below w.heap.size w y1 by rw [← hW1]; exact Below.stores (k := 3) (l := [.bool sz2, .slice pz2 kz2 cz2, .slice qz2 lz2 dz2]) HV.out.2.2.2.2 (by omega))
  have Hxq1 := hid (show QNorm y1 (.agg #[.bool sz2, .slice pz2 kz2 cz2, .slice qz2 lz2 dz2]) rb by rw [← hW1]; exact QNorm.stores (k := 3) (l := [.bool sz2, .slice pz2 kz2 cz2, .slice qz2 lz2 dz2]) hF1.out HV.out.2.2.2.1 nd3)
  clear hW1 hF1 m0 m1 m2 m3 m4 m5 m6 m7 m8 n0 n1 n2 n3 n4 n5 n6 n7 n8 u0 u1 u2 u3 u4 u5 u6 u7 u8 f0 f1 f2 f3 f4 f5 f6 f7 f8
  obtain ⟨u0, u1, u2, u3, u4, u5, u6, u7, u8, _⟩ := Hx1.out.cells9
  obtain ⟨g0, g1, g2, g3, g4, g5, g6, g7, g8, f0, f1, f2, f3, f4, f5, f6, f7, f8⟩ := Hxr1.out.cells9
  go_wp2_with fail
  exact jLower_ret rfl (Hxr1.out.stores [.bool false, .slice none 0 0, .slice none 0 0, .bool sz2, .slice pz2 kz2 cz2, .slice qz2 lz2 dz2, .bool true, .bool false, .bool false] rfl nd_J) ⟨_, _, _, _, _, _, _, _, _, _, _, _, _, _, _, _, _, rfl, hid (JRep.stores (k := 0) (l := [.bool false, .slice none 0 0, .slice none 0 0, .bool sz2, .slice pz2 kz2 cz2, .slice qz2 lz2 dz2, .bool true, .bool false, .bool false]) ⟨_, _, _, _, _, _, _, _, _, _, _, _, _, _, _, _, _, rfl, QNorm.zero _, Hxq1.out, rfl, rfl, rfl⟩ Hxr1.out nd_J), Below.stores (k := 0) (l := [.bool false, .slice none 0 0, .slice none 0 0, .bool sz2, .slice pz2 kz2 cz2, .slice qz2 lz2 dz2, .bool true, .bool false, .bool false]) Hxb1.out (by omega)⟩
theorem jLower_tft (s1 : Bool) (p1 : Option Addr) (k1 c1 : Nat) (q1 : Option Addr) (l1 d1 : Nat) (sz1 : Bool) (pz1 : Option Addr) (kz1 cz1 : Nat) (qz1 : Option Addr) (lz1 dz1 : Nat) (x1 : Bool) (s2 : Bool) (p2 : Option Addr) (k2 c2 : Nat) (q2 : Option Addr) (l2 d2 : Nat) (sz2 : Bool) (pz2 : Option Addr) (kz2 cz2 : Nat) (qz2 : Option Addr) (lz2 dz2 : Nat) (x2 : Bool) (a _b : (Bool × Nat × Nat) × (Bool × Nat × Nat) × Bool × Bool × Bool) (w : World) (hX : (x1 || x2) = true)
  (hh : ∀ W, Below w.heap.size w W → QNorm W (.agg #[.bool sz1, .slice pz1 kz1 cz1, .slice qz1 lz1 dz1]) a.2.1) :
  Calls Tryz.prog 61 #[.agg #[.bool s1, .slice p1 k1 c1, .slice q1 l1 d1, .bool sz1, .slice pz1 kz1 cz1, .slice qz1 lz1 dz1, .bool x1, .bool false, .bool false], .agg #[.bool s2, .slice p2 k2 c2, .slice q2 l2 d2, .bool sz2, .slice pz2 kz2 cz2, .slice qz2 lz2 dz2, .bool x2, .bool true, .bool false]] w fun e w' => ∃ s3 p3 k3 c3 q3 l3 d3 sz3 pz3 kz3 cz3 qz3 lz3 dz3 x3 y3 e3, e = .returned (.agg #[.bool s3, .slice p3 k3 c3, .slice q3 l3 d3, .bool sz3, .slice pz3 kz3 cz3, .slice qz3 lz3 dz3, .bool x3, .bool y3, .bool e3]) ∧ Hid (JRep w' (.agg #[.bool s3, .slice p3 k3 c3, .slice q3 l3 d3, .bool sz3, .slice pz3 kz3 cz3, .slice qz3 lz3 dz3, .bool x3, .bool y3, .bool e3]) ((false, 0, 0), a.2.1, true, false, false)) ∧ Below w.heap.size w w' := by
 have HH := hid hh
 obtain ⟨rb, hrb⟩ : ∃ r, r = a.2.1 := ⟨_, rfl⟩
 rw [← hrb] at HH ⊢
 clear hrb hh
 cases x1 <;> cases x2
 all_goals first | exact absurd hX (by decide) | skip
 all_goals
  clear hX
  go_enter Tryz.func61, Tryz.ntmps61
  go_upto_region 4 with fail
  generalize hA : World.alloc _ _ = W0
  have HV := hid (pre4_of hA nd_J nd_J nd_J nd_J)
  clear hA
  obtain ⟨m0, m1, m2, m3, m4, m5, m6, m7, m8, _⟩ := HV.out.1.cells9
  obtain ⟨n0, n1, n2, n3, n4, n5, n6, n7, n8, _⟩ := HV.out.2.1.cells9
  obtain ⟨u0, u1, u2, u3, u4, u5, u6, u7, u8, f0, f1, f2, f3, f4, f5, f6, f7, f8⟩ := HV.out.2.2.2.1.cells9
  have hF1 := hid (HH.out _ HV.out.2.2.2.2)
  go_upto_region 11 with fail
  generalize hW1 : World.setCell _ _ _ = y1
  have Hx1 := hid (show Box y1 (w.heap.size + 1 + 1 + 1) #[.bool false, .slice none 0 0, .slice none 0 0, .bool sz1, .slice pz1 kz1 cz1, .slice qz1 lz1 dz1, .bool true, .bool false, .bool false] by rw [← hW1]; exact Box.stores_at (m := [.bool false, .slice none 0 0, .slice none 0 0, .bool false, .slice none 0 0, .slice none 0 0, .bool true, .bool false, .bool false]) (k := 3) (l := [.bool sz1, .slice pz1 kz1 cz1, .slice qz1 lz1 dz1]) HV.out.2.2.2.1 nd3)
  have Hxi1 := hid (Box.of_eq (Box.stores_other (k := 3) (l := [.bool sz1, .slice pz1 kz1 cz1, .slice qz1 lz1 dz1]) HV.out.1 (by omega)) hW1)
  have Hxk1 := hid (Box.of_eq (Box.stores_other (k := 3) (l := [.bool sz1, .slice pz1 kz1 cz1, .slice qz1 lz1 dz1]) HV.out.2.1 (by omega)) hW1)
  have Hxr1 := hid (Box.of_eq (Box.stores_other (k := 3) (l := [.bool sz1, .slice pz1 kz1 cz1, .slice qz1 lz1 dz1]) HV.out.2.2.1 (by omega)) hW1)
  have Hxb1 := hid (show Below w.heap.size w y1 by rw [← hW1]; exact Below.stores (k := 3) (l := [.bool sz1, .slice pz1 kz1 cz1, .slice qz1 lz1 dz1]) HV.out.2.2.2.2 (by omega))
  have Hxq1 := hid (show QNorm y1 (.agg #[.bool sz1, .slice pz1 kz1 cz1, .slice qz1 lz1 dz1]) rb by rw [← hW1]; exact QNorm.stores (k := 3) (l := [.bool sz1, .slice pz1 kz1 cz1, .slice qz1 lz1 dz1]) hF1.out HV.out.2.2.2.1 nd3)
  clear hW1 hF1 m0 m1 m2 m3 m4 m5 m6 m7 m8 n0 n1 n2 n3 n4 n5 n6 n7 n8 u0 u1 u2 u3 u4 u5 u6 u7 u8 f0 f1 f2 f3 f4 f5 f6 f7 f8
  obtain ⟨u0, u1, u2, u3, u4, u5, u6, u7, u8, _⟩ := Hx1.out.cells9
  obtain ⟨g0, g1, g2, g3, g4, g5, g6, g7, g8, f0, f1, f2, f3, f4, f5, f6, f7, f8⟩ := Hxr1.out.cells9
  go_wp2_with fail
  exact jLower_ret rfl (Hxr1.out.stores [.bool false, .slice none 0 0, .slice none 0 0, .bool sz1, .slice pz1 kz1 cz1, .slice qz1 lz1 dz1, .bool true, .bool false, .bool false] rfl nd_J) ⟨_, _, _, _, _, _, _, _, _, _, _, _, _, _, _, _, _, rfl, hid (JRep.stores (k := 0) (l := [.bool false, .slice none 0 0, .slice none 0 0, .bool sz1, .slice pz1 kz1 cz1, .slice qz1 lz1 dz1, .bool true, .bool false, .bool false]) ⟨_, _, _, _, _, _, _, _, _, _, _, _, _, _, _, _, _, rfl, QNorm.zero _, Hxq1.out, rfl, rfl, rfl⟩ Hxr1.out nd_J), Below.stores (k := 0) (l := [.bool false, .slice none 0 0, .slice none 0 0, .bool sz1, .slice pz1 kz1 cz1, .slice qz1 lz1 dz1, .bool true, .bool false, .bool false]) Hxb1.out (by omega)⟩
theorem jLower_tff (s1 : Bool) (p1 : Option Addr) (k1 c1 : Nat) (q1 : Option Addr) (l1 d1 : Nat) (sz1 : Bool) (pz1 : Option Addr) (kz1 cz1 : Nat) (qz1 : Option Addr) (lz1 dz1 : Nat) (x1 : Bool) (s2 : Bool) (p2 : Option Addr) (k2 c2 : Nat) (q2 : Option Addr) (l2 d2 : Nat) (sz2 : Bool) (pz2 : Option Addr) (kz2 cz2 : Nat) (qz2 : Option Addr) (lz2 dz2 : Nat) (x2 : Bool) (a b : (Bool × Nat × Nat) × (Bool × Nat × Nat) × Bool × Bool × Bool) (w : World) (hX : (x1 || x2) = true)
  (hh : ∀ W, Below w.heap.size w W → Calls Tryz.prog 115 #[.agg #[.bool sz1, .slice pz1 kz1 cz1, .slice qz1 lz1 dz1], .agg #[.bool sz2, .slice pz2 kz2 cz2, .slice qz2 lz2 dz2]] W fun e w' => ∃ s4 p4 k4 c4 q4 l4 d4, e = .returned (.agg #[.bool s4, .slice p4 k4 c4, .slice q4 l4 d4]) ∧ Hid (QNorm w' (.agg #[.bool s4, .slice p4 k4 c4, .slice q4 l4 d4]) (qmin a.2.1 b.2.1)) ∧ Below W.heap.size W w') :
  Calls Tryz.prog 61 #[.agg #[.bool s1, .slice p1 k1 c1, .slice q1 l1 d1, .bool sz1, .slice pz1 kz1 cz1, .slice qz1 lz1 dz1, .bool x1, .bool false, .bool false], .agg #[.bool s2, .slice p2 k2 c2, .slice q2 l2 d2, .bool sz2, .slice pz2 kz2 cz2, .slice qz2 lz2 dz2, .bool x2, .bool false, .bool false]] w fun e w' => ∃ s3 p3 k3 c3 q3 l3 d3 sz3 pz3 kz3 cz3 qz3 lz3 dz3 x3 y3 e3, e = .returned (.agg #[.bool s3, .slice p3 k3 c3, .slice q3 l3 d3, .bool sz3, .slice pz3 kz3 cz3, .slice qz3 lz3 dz3, .bool x3, .bool y3, .bool e3]) ∧ Hid (JRep w' (.agg #[.bool s3, .slice p3 k3 c3, .slice q3 l3 d3, .bool sz3, .slice pz3 kz3 cz3, .slice qz3 lz3 dz3, .bool x3, .bool y3, .bool e3]) ((false, 0, 0), (qmin a.2.1 b.2.1), true, false, false)) ∧ Below w.heap.size w w' := by
 have HH := hid hh
 obtain ⟨rb, hrb⟩ : ∃ r, r = (qmin a.2.1 b.2.1) := ⟨_, rfl⟩
 rw [← hrb] at HH ⊢
 clear hrb hh
 cases x1 <;> cases x2
 all_goals first | exact absurd hX (by decide) | skip
 all_goals
  clear hX
  go_enter Tryz.func61, Tryz.ntmps61
  go_upto_region 4 with fail
  generalize hA : World.alloc _ _ = W0
  have HV := hid (pre4_of hA nd_J nd_J nd_J nd_J)
  clear hA
  obtain ⟨m0, m1, m2, m3, m4, m5, m6, m7, m8, _⟩ := HV.out.1.cells9
  obtain ⟨n0, n1, n2, n3, n4, n5, n6, n7, n8, _⟩ := HV.out.2.1.cells9
  obtain ⟨u0, u1, u2, u3, u4, u5, u6, u7, u8, f0, f1, f2, f3, f4, f5, f6, f7, f8⟩ := HV.out.2.2.2.1.cells9
  go_wp2_with fail
  refine (HH.out _ HV.out.2.2.2.2).mono ?_
  rintro e w1 ⟨s5, p5, k5, c5, q5, l5, d5, rfl, hF1, hB1⟩
  clear m0 m1 m2 m3 m4 m5 m6 m7 m8 n0 n1 n2 n3 n4 n5 n6 n7 n8 u0 u1 u2 u3 u4 u5 u6 u7 u8 f0 f1 f2 f3 f4 f5 f6 f7 f8
  have Hi1 := hid (HV.out.1.below hB1)
  have Hk1 := hid (HV.out.2.1.below hB1)
  have Hr1 := hid (HV.out.2.2.1.below hB1)
  have Ho1 := hid (HV.out.2.2.2.1.below hB1)
  have Hb1 := hid (HV.out.2.2.2.2.trans (hB1.mono HV.out.2.2.2.2.size))
  clear hB1
  obtain ⟨m0, m1, m2, m3, m4, m5, m6, m7, m8, _⟩ := Hi1.out.cells9
  obtain ⟨n0, n1, n2, n3, n4, n5, n6, n7, n8, _⟩ := Hk1.out.cells9
  obtain ⟨u0, u1, u2, u3, u4, u5, u6, u7, u8, f0, f1, f2, f3, f4, f5, f6, f7, f8⟩ := Ho1.out.cells9
  go_upto_region 11 with fail
  generalize hW1 : World.setCell _ _ _ = y1
  have Hx1 := hid (show Box y1 (w.heap.size + 1 + 1 + 1) #[.bool false, .slice none 0 0, .slice none 0 0, .bool s5, .slice p5 k5 c5, .slice q5 l5 d5, .bool true, .bool false, .bool false] by rw [← hW1]; exact Box.stores_at (m := [.bool false, .slice none 0 0, .slice none 0 0, .bool false, .slice none 0 0, .slice none 0 0, .bool true, .bool false, .bool false]) (k := 3) (l := [.bool s5, .slice p5 k5 c5, .slice q5 l5 d5]) Ho1.out nd3)
  have Hxi1 := hid (Box.of_eq (Box.stores_other (k := 3) (l := [.bool s5, .slice p5 k5 c5, .slice q5 l5 d5]) Hi1.out (by omega)) hW1)
  have Hxk1 := hid (Box.of_eq (Box.stores_other (k := 3) (l := [.bool s5, .slice p5 k5 c5, .slice q5 l5 d5]) Hk1.out (by omega)) hW1)
  have Hxr1 := hid (Box.of_eq (Box.stores_other (k := 3) (l := [.bool s5, .slice p5 k5 c5, .slice q5 l5 d5]) Hr1.out (by omega)) hW1)
  have Hxb1 := hid (show Below w.heap.size w y1 by rw [← hW1]; exact Below.stores (k := 3) (l := [.bool s5, .slice p5 k5 c5, .slice q5 l5 d5]) Hb1.out (by omega))
  have Hxq1 := hid (show QNorm y1 (.agg #[.bool s5, .slice p5 k5 c5, .slice q5 l5 d5]) rb by rw [← hW1]; exact QNorm.stores (k := 3) (l := [.bool s5, .slice p5 k5 c5, .slice q5 l5 d5]) hF1.out Ho1.out nd3)
  clear hW1 hF1 m0 m1 m2 m3 m4 m5 m6 m7 m8 n0 n1 n2 n3 n4 n5 n6 n7 n8 u0 u1 u2 u3 u4 u5 u6 u7 u8 f0 f1 f2 f3 f4 f5 f6 f7 f8
  obtain ⟨u0, u1, u2, u3, u4, u5, u6, u7, u8, _⟩ := Hx1.out.cells9
  obtain ⟨g0, g1, g2, g3, g4, g5, g6, g7, g8, f0, f1, f2, f3, f4, f5, f6, f7, f8⟩ := Hxr1.out.cells9
  go_wp2_with fail
  exact jLower_ret rfl (Hxr1.out.stores [.bool false, .slice none 0 0, .slice none 0 0, .bool s5, .slice p5 k5 c5, .slice q5 l5 d5, .bool true, .bool false, .bool false] rfl nd_J) ⟨_, _, _, _, _, _, _, _, _, _, _, _, _, _, _, _, _, rfl, hid (JRep.stores (k := 0) (l := [.bool false, .slice none 0 0, .slice none 0 0, .bool s5, .slice p5 k5 c5, .slice q5 l5 d5, .bool true, .bool false, .bool false]) ⟨_, _, _, _, _, _, _, _, _, _, _, _, _, _, _, _, _, rfl, QNorm.zero _, Hxq1.out, rfl, rfl, rfl⟩ Hxr1.out nd_J), Below.stores (k := 0) (l := [.bool false, .slice none 0 0, .slice none 0 0, .bool s5, .slice p5 k5 c5, .slice q5 l5 d5, .bool true, .bool false, .bool false]) Hxb1.out (by omega)⟩
theorem jLower_ftt (s1 : Bool) (p1 : Option Addr) (k1 c1 : Nat) (q1 : Option Addr) (l1 d1 : Nat) (sz1 : Bool) (pz1 : Option Addr) (kz1 cz1 : Nat) (qz1 : Option Addr) (lz1 dz1 : Nat) (x1 : Bool) (s2 : Bool) (p2 : Option Addr) (k2 c2 : Nat) (q2 : Option Addr) (l2 d2 : Nat) (sz2 : Bool) (pz2 : Option Addr) (kz2 cz2 : Nat) (qz2 : Option Addr) (lz2 dz2 : Nat) (x2 : Bool) (a b : (Bool × Nat × Nat) × (Bool × Nat × Nat) × Bool × Bool × Bool) (w : World) (hX : (x1 || x2) = false)
  (hl : ∀ W, Below w.heap.size w W → Calls Tryz.prog 115 #[.agg #[.bool s1, .slice p1 k1 c1, .slice q1 l1 d1], .agg #[.bool s2, .slice p2 k2 c2, .slice q2 l2 d2]] W fun e w' => ∃ s4 p4 k4 c4 q4 l4 d4, e = .returned (.agg #[.bool s4, .slice p4 k4 c4, .slice q4 l4 d4]) ∧ Hid (QNorm w' (.agg #[.bool s4, .slice p4 k4 c4, .slice q4 l4 d4]) (qmin a.1 b.1)) ∧ Below W.heap.size W w')
  (hh : ∀ W, Below w.heap.size w W → QNorm W (.agg #[.bool sz2, .slice pz2 kz2 cz2, .slice qz2 lz2 dz2]) b.2.1) :
  Calls Tryz.prog 61 #[.agg #[.bool s1, .slice p1 k1 c1, .slice q1 l1 d1, .bool sz1, .slice pz1 kz1 cz1, .slice qz1 lz1 dz1, .bool x1, .bool true, .bool false], .agg #[.bool s2, .slice p2 k2 c2, .slice q2 l2 d2, .bool sz2, .slice pz2 kz2 cz2, .slice qz2 lz2 dz2, .bool x2, .bool true, .bool false]] w fun e w' => ∃ s3 p3 k3 c3 q3 l3 d3 sz3 pz3 kz3 cz3 qz3 lz3 dz3 x3 y3 e3, e = .returned (.agg #[.bool s3, .slice p3 k3 c3, .slice q3 l3 d3, .bool sz3, .slice pz3 kz3 cz3, .slice qz3 lz3 dz3, .bool x3, .bool y3, .bool e3]) ∧ Hid (JRep w' (.agg #[.bool s3, .slice p3 k3 c3, .slice q3 l3 d3, .bool sz3, .slice pz3 kz3 cz3, .slice qz3 lz3 dz3, .bool x3, .bool y3, .bool e3]) ((qmin a.1 b.1), b.2.1, false, true, false)) ∧ Below w.heap.size w w' := by
 have HL := hid hl
 obtain ⟨ra, hra⟩ : ∃ r, r = (qmin a.1 b.1) := ⟨_, rfl⟩
 rw [← hra] at HL ⊢
 clear hra hl
 have HH := hid hh
 obtain ⟨rb, hrb⟩ : ∃ r, r = b.2.1 := ⟨_, rfl⟩
 rw [← hrb] at HH ⊢
 clear hrb hh
 cases x1 <;> cases x2
 all_goals first | exact absurd hX (by decide) | skip
 all_goals
  clear hX
  go_enter Tryz.func61, Tryz.ntmps61
  go_upto_region 4 with fail
  generalize hA : World.alloc _ _ = W0
  have HV := hid (pre4_of hA nd_J nd_J nd_J nd_J)
  clear hA
  obtain ⟨m0, m1, m2, m3, m4, m5, m6, m7, m8, _⟩ := HV.out.1.cells9
  obtain ⟨n0, n1, n2, n3, n4, n5, n6, n7, n8, _⟩ := HV.out.2.1.cells9
  obtain ⟨u0, u1, u2, u3, u4, u5, u6, u7, u8, f0, f1, f2, f3, f4, f5, f6, f7, f8⟩ := HV.out.2.2.2.1.cells9
  go_wp2_with fail
  refine (HL.out _ HV.out.2.2.2.2).mono ?_
  rintro e w1 ⟨s4, p4, k4, c4, q4, l4, d4, rfl, hF1, hB1⟩
  clear m0 m1 m2 m3 m4 m5 m6 m7 m8 n0 n1 n2 n3 n4 n5 n6 n7 n8 u0 u1 u2 u3 u4 u5 u6 u7 u8 f0 f1 f2 f3 f4 f5 f6 f7 f8
  have Hi1 := hid (HV.out.1.below hB1)
  have Hk1 := hid (HV.out.2.1.below hB1)
  have Hr1 := hid (HV.out.2.2.1.below hB1)
  have Ho1 := hid (HV.out.2.2.2.1.below hB1)
  have Hb1 := hid (HV.out.2.2.2.2.trans (hB1.mono HV.out.2.2.2.2.size))
  clear hB1
  obtain ⟨m0, m1, m2, m3, m4, m5, m6, m7, m8, _⟩ := Hi1.out.cells9
  obtain ⟨n0, n1, n2, n3, n4, n5, n6, n7, n8, _⟩ := Hk1.out.cells9
  obtain ⟨u0, u1, u2, u3, u4, u5, u6, u7, u8, f0, f1, f2, f3, f4, f5, f6, f7, f8⟩ := Ho1.out.cells9
  go_upto_region 7 with fail
  generalize hW1 : World.setCell _ _ _ = y1
  have Hx1 := hid (show Box y1 (w.heap.size + 1 + 1 + 1) #[.bool s4, .slice p4 k4 c4, .slice q4 l4 d4, .bool false, .slice none 0 0, .slice none 0 0, .bool false, .bool true, .bool false] by rw [← hW1]; exact Box.stores_at (m := [.bool false, .slice none 0 0, .slice none 0 0, .bool false, .slice none 0 0, .slice none 0 0, .bool false, .bool true, .bool false]) (k := 0) (l := [.bool s4, .slice p4 k4 c4, .slice q4 l4 d4]) Ho1.out nd3)
  have Hxi1 := hid (Box.of_eq (Box.stores_other (k := 0) (l := [.bool s4, .slice p4 k4 c4, .slice q4 l4 d4]) Hi1.out (by omega)) hW1)
  have Hxk1 := hid (Box.of_eq (Box.stores_other (k := 0) (l := [.bool s4, .slice p4 k4 c4, .slice q4 l4 d4]) Hk1.out (by omega)) hW1)
  have Hxr1 := hid (Box.of_eq (Box.stores_other (k := 0) (l := [.bool s4, .slice p4 k4 c4, .slice q4 l4 d4]) Hr1.out (by omega)) hW1)
  have Hxb1 := hid (show Below w.heap.size w y1 by rw [← hW1]; exact Below.stores (k := 0) (l := [.bool s4, .slice p4 k4 c4, .slice q4 l4 d4]) Hb1.out (by omega))
  have Hxq1 := hid (show QNorm y1 (.agg #[.bool s4, .slice p4 k4 c4, .slice q4 l4 d4]) ra by rw [← hW1]; exact QNorm.stores (k := 0) (l := [.bool s4, .slice p4 k4 c4, .slice q4 l4 d4]) hF1.out Ho1.out nd3)
  clear hW1 hF1 m0 m1 m2 m3 m4 m5 m6 m7 m8 n0 n1 n2 n3 n4 n5 n6 n7 n8 u0 u1 u2 u3 u4 u5 u6 u7 u8 f0 f1 f2 f3 f4 f5 f6 f7 f8
  obtain ⟨m0, m1, m2, m3, m4, m5, m6, m7, m8, _⟩ := Hxi1.out.cells9
  obtain ⟨n0, n1, n2, n3, n4, n5, n6, n7, n8, _⟩ := Hxk1.out.cells9
  obtain ⟨u0, u1, u2, u3, u4, u5, u6, u7, u8, f0, f1, f2, f3, f4, f5, f6, f7, f8⟩ := Hx1.out.cells9
  have hF2 := hid (HH.out _ Hxb1.out)
  go_upto_region 11 with fail
  generalize hW2 : World.setCell _ _ _ = y2
  have Hx2 := hid (show Box y2 (w.heap.size + 1 + 1 + 1) #[.bool s4, .slice p4 k4 c4, .slice q4 l4 d4, .bool sz2, .slice pz2 kz2 cz2, .slice qz2 lz2 dz2, .bool false, .bool true, .bool false] by rw [← hW2]; exact Box.stores_at (m := [.bool s4, .slice p4 k4 c4, .slice q4 l4 d4, .bool false, .slice none 0 0, .slice none 0 0, .bool false, .bool true, .bool false]) (k := 3) (l := [.bool sz2, .slice pz2 kz2 cz2, .slice qz2 lz2 dz2]) Hx1.out nd3)
  have Hxi2 := hid (Box.of_eq (Box.stores_other (k := 3) (l := [.bool sz2, .slice pz2 kz2 cz2, .slice qz2 lz2 dz2]) Hxi1.out (by omega)) hW2)
  have Hxk2 := hid (Box.of_eq (Box.stores_other (k := 3) (l := [.bool sz2, .slice pz2 kz2 cz2, .slice qz2 lz2 dz2]) Hxk1.out (by omega)) hW2)
  have Hxr2 := hid (Box.of_eq (Box.stores_other (k := 3) (l := [.bool sz2, .slice pz2 kz2 cz2, .slice qz2 lz2 dz2]) Hxr1.out (by omega)) hW2)
  have Hxb2 := hid (show Below w.heap.size w y2 by rw [← hW2]; exact Below.stores (k := 3) (l := [.bool sz2, .slice pz2 kz2 cz2, .slice qz2 lz2 dz2]) Hxb1.out (by omega))
  have Hxq2 := hid (show QNorm y2 (.agg #[.bool sz2, .slice pz2 kz2 cz2, .slice qz2 lz2 dz2]) rb by rw [← hW2]; exact QNorm.stores (k := 3) (l := [.bool sz2, .slice pz2 kz2 cz2, .slice qz2 lz2 dz2]) hF2.out Hx1.out nd3)
  have Hxm2 := hid (show QNorm y2 (.agg #[.bool s4, .slice p4 k4 c4, .slice q4 l4 d4]) ra by rw [← hW2]; exact QNorm.stores (k := 3) (l := [.bool sz2, .slice pz2 kz2 cz2, .slice qz2 lz2 dz2]) Hxq1.out Hx1.out nd3)
  clear hW2 hF2 m0 m1 m2 m3 m4 m5 m6 m7 m8 n0 n1 n2 n3 n4 n5 n6 n7 n8 u0 u1 u2 u3 u4 u5 u6 u7 u8 f0 f1 f2 f3 f4 f5 f6 f7 f8
  obtain ⟨u0, u1, u2, u3, u4, u5, u6, u7, u8, _⟩ := Hx2.out.cells9
  obtain ⟨g0, g1, g2, g3, g4, g5, g6, g7, g8, f0, f1, f2, f3, f4, f5, f6, f7, f8⟩ := Hxr2.out.cells9
  go_wp2_with fail
  exact jLower_ret rfl (Hxr2.out.stores [.bool s4, .slice p4 k4 c4, .slice q4 l4 d4, .bool sz2, .slice pz2 kz2 cz2, .slice qz2 lz2 dz2, .bool false, .bool true, .bool false] rfl nd_J) ⟨_, _, _, _, _, _, _, _, _, _, _, _, _, _, _, _, _, rfl, hid (JRep.stores (k := 0) (l := [.bool s4, .slice p4 k4 c4, .slice q4 l4 d4, .bool sz2, .slice pz2 kz2 cz2, .slice qz2 lz2 dz2, .bool false, .bool true, .bool false]) ⟨_, _, _, _, _, _, _, _, _, _, _, _, _, _, _, _, _, rfl, Hxm2.out, Hxq2.out, rfl, rfl, rfl⟩ Hxr2.out nd_J), Below.stores (k := 0) (l := [.bool s4, .slice p4 k4 c4, .slice q4 l4 d4, .bool sz2, .slice pz2 kz2 cz2, .slice qz2 lz2 dz2, .bool false, .bool true, .bool false]) Hxb2.out (by omega)⟩
theorem jLower_ftf (s1 : Bool) (p1 : Option Addr) (k1 c1 : Nat) (q1 : Option Addr) (l1 d1 : Nat) (sz1 : Bool) (pz1 : Option Addr) (kz1 cz1 : Nat) (qz1 : Option Addr) (lz1 dz1 : Nat) (x1 : Bool) (s2 : Bool) (p2 : Option Addr) (k2 c2 : Nat) (q2 : Option Addr) (l2 d2 : Nat) (sz2 : Bool) (pz2 : Option Addr) (kz2 cz2 : Nat) (qz2 : Option Addr) (lz2 dz2 : Nat) (x2 : Bool) (a b : (Bool × Nat × Nat) × (Bool × Nat × Nat) × Bool × Bool × Bool) (w : World) (hX : (x1 || x2) = false)
  (hl : ∀ W, Below w.heap.size w W → Calls Tryz.prog 115 #[.agg #[.bool s1, .slice p1 k1 c1, .slice q1 l1 d1], .agg #[.bool s2, .slice p2 k2 c2, .slice q2 l2 d2]] W fun e w' => ∃ s4 p4 k4 c4 q4 l4 d4, e = .returned (.agg #[.bool s4, .slice p4 k4 c4, .slice q4 l4 d4]) ∧ Hid (QNorm w' (.agg #[.bool s4, .slice p4 k4 c4, .slice q4 l4 d4]) (qmin a.1 b.1)) ∧ Below W.heap.size W w')
  (hh : ∀ W, Below w.heap.size w W → QNorm W (.agg #[.bool sz2, .slice pz2 kz2 cz2, .slice qz2 lz2 dz2]) b.2.1) :
  Calls Tryz.prog 61 #[.agg #[.bool s1, .slice p1 k1 c1, .slice q1 l1 d1, .bool sz1, .slice pz1 kz1 cz1, .slice qz1 lz1 dz1, .bool x1, .bool true, .bool false], .agg #[.bool s2, .slice p2 k2 c2, .slice q2 l2 d2, .bool sz2, .slice pz2 kz2 cz2, .slice qz2 lz2 dz2, .bool x2, .bool false, .bool false]] w fun e w' => ∃ s3 p3 k3 c3 q3 l3 d3 sz3 pz3 kz3 cz3 qz3 lz3 dz3 x3 y3 e3, e = .returned (.agg #[.bool s3, .slice p3 k3 c3, .slice q3 l3 d3, .bool sz3, .slice pz3 kz3 cz3, .slice qz3 lz3 dz3, .bool x3, .bool y3, .bool e3]) ∧ Hid (JRep w' (.agg #[.bool s3, .slice p3 k3 c3, .slice q3 l3 d3, .bool sz3, .slice pz3 kz3 cz3, .slice qz3 lz3 dz3, .bool x3, .bool y3, .bool e3]) ((qmin a.1 b.1), b.2.1, false, false, false)) ∧ Below w.heap.size w w' := by
 have HL := hid hl
 obtain ⟨ra, hra⟩ : ∃ r, r = (qmin a.1 b.1) := ⟨_, rfl⟩
 rw [← hra] at HL ⊢
 clear hra hl
 have HH := hid hh
 obtain ⟨rb, hrb⟩ : ∃ r, r = b.2.1 := ⟨_, rfl⟩
 rw [← hrb] at HH ⊢
 clear hrb hh
 cases x1 <;> cases x2
 all_goals first | exact absurd hX (by decide) | skip
 all_goals
  clear hX
  go_enter Tryz.func61, Tryz.ntmps61
  go_upto_region 4 with fail
  generalize hA : World.alloc _ _ = W0
  have HV := hid (pre4_of hA nd_J nd_J nd_J nd_J)
  clear hA
  obtain ⟨m0, m1, m2, m3, m4, m5, m6, m7, m8, _⟩ := HV.out.1.cells9
  obtain ⟨n0, n1, n2, n3, n4, n5, n6, n7, n8, _⟩ := HV.out.2.1.cells9
  obtain ⟨u0, u1, u2, u3, u4, u5, u6, u7, u8, f0, f1, f2, f3, f4, f5, f6, f7, f8⟩ := HV.out.2.2.2.1.cells9
  go_wp2_with fail
  refine (HL.out _ HV.out.2.2.2.2).mono ?_
  rintro e w1 ⟨s4, p4, k4, c4, q4, l4, d4, rfl, hF1, hB1⟩
  clear m0 m1 m2 m3 m4 m5 m6 m7 m8 n0 n1 n2 n3 n4 n5 n6 n7 n8 u0 u1 u2 u3 u4 u5 u6 u7 u8 f0 f1 f2 f3 f4 f5 f6 f7 f8
  have Hi1 := hid (HV.out.1.below hB1)
  have Hk1 := hid (HV.out.2.1.below hB1)
  have Hr1 := hid (HV.out.2.2.1.below hB1)
  have Ho1 := hid (HV.out.2.2.2.1.below hB1)
  have Hb1 := hid (HV.out.2.2.2.2.trans (hB1.mono HV.out.2.2.2.2.size))
  clear hB1
  obtain ⟨m0, m1, m2, m3, m4, m5, m6, m7, m8, _⟩ := Hi1.out.cells9
  obtain ⟨n0, n1, n2, n3, n4, n5, n6, n7, n8, _⟩ := Hk1.out.cells9
  obtain ⟨u0, u1, u2, u3, u4, u5, u6, u7, u8, f0, f1, f2, f3, f4, f5, f6, f7, f8⟩ := Ho1.out.cells9
  go_upto_region 7 with fail
  generalize hW1 : World.setCell _ _ _ = y1
  have Hx1 := hid (show Box y1 (w.heap.size + 1 + 1 + 1) #[.bool s4, .slice p4 k4 c4, .slice q4 l4 d4, .bool false, .slice none 0 0, .slice none 0 0, .bool false, .bool false, .bool false] by rw [← hW1]; exact Box.stores_at (m := [.bool false, .slice none 0 0, .slice none 0 0, .bool false, .slice none 0 0, .slice none 0 0, .bool false, .bool false, .bool false]) (k := 0) (l := [.bool s4, .slice p4 k4 c4, .slice q4 l4 d4]) Ho1.out nd3)
  have Hxi1 := hid (Box.of_eq (Box.stores_other (k := 0) (l := [.bool s4, .slice p4 k4 c4, .slice q4 l4 d4]) Hi1.out (by omega)) hW1)
  have Hxk1 := hid (Box.of_eq (Box.stores_other (k := 0) (l := [.bool s4, .slice p4 k4 c4, .slice q4 l4 d4]) Hk1.out (by omega)) hW1)
  have Hxr1 := hid (Box.of_eq (Box.stores_other (k := 0) (l := [.bool s4, .slice p4 k4 c4, .slice q4 l4 d4]) Hr1.out (by omega)) hW1)
  have Hxb1 := hid (show Below w.heap.size w y1 by rw [← hW1]; exact Below.stores (k := 0) (l := [.bool s4, .slice p4 k4 c4, .slice q4 l4 d4]) Hb1.out (by omega))
  have Hxq1 := hid (show QNorm y1 (.agg #[.bool s4, .slice p4 k4 c4, .slice q4 l4 d4]) ra by rw [← hW1]; exact QNorm.stores (k := 0) (l := [.bool s4, .slice p4 k4 c4, .slice q4 l4 d4]) hF1.out Ho1.out nd3)
  clear hW1 hF1 m0 m1 m2 m3 m4 m5 m6 m7 m8 n0 n1 n2 n3 n4 n5 n6 n7 n8 u0 u1 u2 u3 u4 u5 u6 u7 u8 f0 f1 f2 f3 f4 f5 f6 f7 f8
  obtain ⟨m0, m1, m2, m3, m4, m5, m6, m7, m8, _⟩ := Hxi1.out.cells9
  obtain ⟨n0, n1, n2, n3, n4, n5, n6, n7, n8, _⟩ := Hxk1.out.cells9
  obtain ⟨u0, u1, u2, u3, u4, u5, u6, u7, u8, f0, f1, f2, f3, f4, f5, f6, f7, f8⟩ := Hx1.out.cells9
  have hF2 := hid (HH.out _ Hxb1.out)
  go_upto_region 11 with fail
  generalize hW2 : World.setCell _ _ _ = y2
  have Hx2 := hid (show Box y2 (w.heap.size + 1 + 1 + 1) #[.bool s4, .slice p4 k4 c4, .slice q4 l4 d4, .bool sz2, .slice pz2 kz2 cz2, .slice qz2 lz2 dz2, .bool false, .bool false, .bool false] by rw [← hW2]; exact Box.stores_at (m := [.bool s4, .slice p4 k4 c4, .slice q4 l4 d4, .bool false, .slice none 0 0, .slice none 0 0, .bool false, .bool false, .bool false]) (k := 3) (l := [.bool sz2, .slice pz2 kz2 cz2, .slice qz2 lz2 dz2]) Hx1.out nd3)
  have Hxi2 := hid (Box.of_eq (Box.stores_other (k := 3) (l := [.bool sz2, .slice pz2 kz2 cz2, .slice qz2 lz2 dz2]) Hxi1.out (by omega)) hW2)
  have Hxk2 := hid (Box.of_eq (Box.stores_other (k := 3) (l := [.bool sz2, .slice pz2 kz2 cz2, .slice qz2 lz2 dz2]) Hxk1.out (by omega)) hW2)
  have Hxr2 := hid (Box.of_eq (Box.stores_other (k := 3) (l := [.bool sz2, .slice pz2 kz2 cz2, .slice qz2 lz2 dz2]) Hxr1.out (by omega)) hW2)
  have Hxb2 := hid (show Below w.heap.size w y2 by rw [← hW2]; exact Below.stores (k := 3) (l := [.bool sz2, .slice pz2 kz2 cz2, .slice qz2 lz2 dz2]) Hxb1.out (by omega))
  have Hxq2 := hid (show QNorm y2 (.agg #[.bool sz2, .slice pz2 kz2 cz2, .slice qz2 lz2 dz2]) rb by rw [← hW2]; exact QNorm.stores (k := 3) (l := [.bool sz2, .slice pz2 kz2 cz2, .slice qz2 lz2 dz2]) hF2.out Hx1.out nd3)
  have Hxm2 := hid (show QNorm y2 (.agg #[.bool s4, .slice p4 k4 c4, .slice q4 l4 d4]) ra by rw [← hW2]; exact QNorm.stores (k := 3) (l := [.bool sz2, .slice pz2 kz2 cz2, .slice qz2 lz2 dz2]) Hxq1.out Hx1.out nd3)
  clear hW2 hF2 m0 m1 m2 m3 m4 m5 m6 m7 m8 n0 n1 n2 n3 n4 n5 n6 n7 n8 u0 u1 u2 u3 u4 u5 u6 u7 u8 f0 f1 f2 f3 f4 f5 f6 f7 f8
  obtain ⟨u0, u1, u2, u3, u4, u5, u6, u7, u8, _⟩ := Hx2.out.cells9
  obtain ⟨g0, g1, g2, g3, g4, g5, g6, g7, g8, f0, f1, f2, f3, f4, f5, f6, f7, f8⟩ := Hxr2.out.cells9
  go_wp2_with fail
  exact jLower_ret rfl (Hxr2.out.stores [.bool s4, .slice p4 k4 c4, .slice q4 l4 d4, .bool sz2, .slice pz2 kz2 cz2, .slice qz2 lz2 dz2, .bool false, .bool false, .bool false] rfl nd_J) ⟨_, _, _, _, _, _, _, _, _, _, _, _, _, _, _, _, _, rfl, hid (JRep.stores (k := 0) (l := [.bool s4, .slice p4 k4 c4, .slice q4 l4 d4, .bool sz2, .slice pz2 kz2 cz2, .slice qz2 lz2 dz2, .bool false, .bool false, .bool false]) ⟨_, _, _, _, _, _, _, _, _, _, _, _, _, _, _, _, _, rfl, Hxm2.out, Hxq2.out, rfl, rfl, rfl⟩ Hxr2.out nd_J), Below.stores (k := 0) (l := [.bool s4, .slice p4 k4 c4, .slice q4 l4 d4, .bool sz2, .slice pz2 kz2 cz2, .slice qz2 lz2 dz2, .bool false, .bool false, .bool false]) Hxb2.out (by omega)⟩
theorem jLower_fft (s1 : Bool) (p1 : Option Addr) (k1 c1 : Nat) (q1 : Option Addr) (l1 d1 : Nat) (sz1 : Bool) (pz1 : Option Addr) (kz1 cz1 : Nat) (qz1 : Option Addr) (lz1 dz1 : Nat) (x1 : Bool) (s2 : Bool) (p2 : Option Addr) (k2 c2 : Nat) (q2 : Option Addr) (l2 d2 : Nat) (sz2 : Bool) (pz2 : Option Addr) (kz2 cz2 : Nat) (qz2 : Option Addr) (lz2 dz2 : Nat) (x2 : Bool) (a b : (Bool × Nat × Nat) × (Bool × Nat × Nat) × Bool × Bool × Bool) (w : World) (hX : (x1 || x2) = false)
  (hl : ∀ W, Below w.heap.size w W → Calls Tryz.prog 115 #[.agg #[.bool s1, .slice p1 k1 c1, .slice q1 l1 d1], .agg #[.bool s2, .slice p2 k2 c2, .slice q2 l2 d2]] W fun e w' => ∃ s4 p4 k4 c4 q4 l4 d4, e = .returned (.agg #[.bool s4, .slice p4 k4 c4, .slice q4 l4 d4]) ∧ Hid (QNorm w' (.agg #[.bool s4, .slice p4 k4 c4, .slice q4 l4 d4]) (qmin a.1 b.1)) ∧ Below W.heap.size W w')
  (hh : ∀ W, Below w.heap.size w W → QNorm W (.agg #[.bool sz1, .slice pz1 kz1 cz1, .slice qz1 lz1 dz1]) a.2.1) :
  Calls Tryz.prog 61 #[.agg #[.bool s1, .slice p1 k1 c1, .slice q1 l1 d1, .bool sz1, .slice pz1 kz1 cz1, .slice qz1 lz1 dz1, .bool x1, .bool false, .bool false], .agg #[.bool s2, .slice p2 k2 c2, .slice q2 l2 d2, .bool sz2, .slice pz2 kz2 cz2, .slice qz2 lz2 dz2, .bool x2, .bool true, .bool false]] w fun e w' => ∃ s3 p3 k3 c3 q3 l3 d3 sz3 pz3 kz3 cz3 qz3 lz3 dz3 x3 y3 e3, e = .returned (.agg #[.bool s3, .slice p3 k3 c3, .slice q3 l3 d3, .bool sz3, .slice pz3 kz3 cz3, .slice qz3 lz3 dz3, .bool x3, .bool y3, .bool e3]) ∧ Hid (JRep w' (.agg #[.bool s3, .slice p3 k3 c3, .slice q3 l3 d3, .bool sz3, .slice pz3 kz3 cz3, .slice qz3 lz3 dz3, .bool x3, .bool y3, .bool e3]) ((qmin a.1 b.1), a.2.1, false, false, false)) ∧ Below w.heap.size w w' := by
 have HL := hid hl
 obtain ⟨ra, hra⟩ : ∃ r, r = (qmin a.1 b.1) := ⟨_, rfl⟩
 rw [← hra] at HL ⊢
 clear hra hl
 have HH := hid hh
 obtain ⟨rb, hrb⟩ : ∃ r, r = a.2.1 := ⟨_, rfl⟩
 rw [← hrb] at HH ⊢
 clear hrb hh
 cases x1 <;> cases x2
 all_goals first | exact absurd hX (by decide) | skip
 all_goals
  clear hX
  go_enter Tryz.func61, Tryz.ntmps61
  go_upto_region 4 with fail
  generalize hA : World.alloc _ _ = W0
  have HV := hid (pre4_of hA nd_J nd_J nd_J nd_J)
  clear hA
  obtain ⟨m0, m1, m2, m3, m4, m5, m6, m7, m8, _⟩ := HV.out.1.cells9
  obtain ⟨n0, n1, n2, n3, n4, n5, n6, n7, n8, _⟩ := HV.out.2.1.cells9
  obtain ⟨u0, u1, u2, u3, u4, u5, u6, u7, u8, f0, f1, f2, f3, f4, f5, f6, f7, f8⟩ := HV.out.2.2.2.1.cells9
  go_wp2_with fail
  refine (HL.out _ HV.out.2.2.2.2).mono ?_
  rintro e w1 ⟨s4, p4, k4, c4, q4, l4, d4, rfl, hF1, hB1⟩
  clear m0 m1 m2 m3 m4 m5 m6 m7 m8 n0 n1 n2 n3 n4 n5 n6 n7 n8 u0 u1 u2 u3 u4 u5 u6 u7 u8 f0 f1 f2 f3 f4 f5 f6 f7 f8
  have Hi1 := hid (HV.out.1.below hB1)
  have Hk1 := hid (HV.out.2.1.below hB1)
  have Hr1 := hid (HV.out.2.2.1.below hB1)
  have Ho1 := hid (HV.out.2.2.2.1.below hB1)
  have Hb1 := hid (HV.out.2.2.2.2.trans (hB1.mono HV.out.2.2.2.2.size))
  clear hB1
  obtain ⟨m0, m1, m2, m3, m4, m5, m6, m7, m8, _⟩ := Hi1.out.cells9
  obtain ⟨n0, n1, n2, n3, n4, n5, n6, n7, n8, _⟩ := Hk1.out.cells9
  obtain ⟨u0, u1, u2, u3, u4, u5, u6, u7, u8, f0, f1, f2, f3, f4, f5, f6, f7, f8⟩ := Ho1.out.cells9
  go_upto_region 7 with fail
  generalize hW1 : World.setCell _ _ _ = y1
  have Hx1 := hid (show Box y1 (w.heap.size + 1 + 1 + 1) #[.bool s4, .slice p4 k4 c4, .slice q4 l4 d4, .bool false, .slice none 0 0, .slice none 0 0, .bool false, .bool false, .bool false] by rw [← hW1]; exact Box.stores_at (m := [.bool false, .slice none 0 0, .slice none 0 0, .bool false, .slice none 0 0, .slice none 0 0, .bool false, .bool false, .bool false]) (k := 0) (l := [.bool s4, .slice p4 k4 c4, .slice q4 l4 d4]) Ho1.out nd3)
  have Hxi1 := hid (Box.of_eq (Box.stores_other (k := 0) (l := [.bool s4, .slice p4 k4 c4, .slice q4 l4 d4]) Hi1.out (by omega)) hW1)
  have Hxk1 := hid (Box.of_eq (Box.stores_other (k := 0) (l := [.bool s4, .slice p4 k4 c4, .slice q4 l4 d4]) Hk1.out (by omega)) hW1)
  have Hxr1 := hid (Box.of_eq (Box.stores_other (k := 0) (l := [.bool s4, .slice p4 k4 c4, .slice q4 l4 d4]) Hr1.out (by omega)) hW1)
  have Hxb1 := hid (show Below w.heap.size w y1 by rw [← hW1]; exact Below.stores (k := 0) (l := [.bool s4, .slice p4 k4 c4, .slice q4 l4 d4]) Hb1.out (by omega))
  have Hxq1 := hid (show QNorm y1 (.agg #[.bool s4, .slice p4 k4 c4, .slice q4 l4 d4]) ra by rw [← hW1]; exact QNorm.stores (k := 0) (l := [.bool s4, .slice p4 k4 c4, .slice q4 l4 d4]) hF1.out Ho1.out nd3)
  clear hW1 hF1 m0 m1 m2 m3 m4 m5 m6 m7 m8 n0 n1 n2 n3 n4 n5 n6 n7 n8 u0 u1 u2 u3 u4 u5 u6 u7 u8 f0 f1 f2 f3 f4 f5 f6 f7 f8
  obtain ⟨m0, m1, m2, m3, m4, m5, m6, m7, m8, _⟩ := Hxi1.out.cells9
  obtain ⟨n0, n1, n2, n3, n4, n5, n6, n7, n8, _⟩ := Hxk1.out.cells9
  obtain ⟨u0, u1, u2, u3, u4, u5, u6, u7, u8, f0, f1, f2, f3, f4, f5, f6, f7, f8⟩ := Hx1.out.cells9
  have hF2 := hid (HH.out _ Hxb1.out)
  go_upto_region 11 with fail
  generalize hW2 : World.setCell _ _ _ = y2
  have Hx2 := hid (show Box y2 (w.heap.size + 1 + 1 + 1) #[.bool s4, .slice p4 k4 c4, .slice q4 l4 d4, .bool sz1, .slice pz1 kz1 cz1, .slice qz1 lz1 dz1, .bool false, .bool false, .bool false] by rw [← hW2]; exact Box.stores_at (m := [.bool s4, .slice p4 k4 c4, .slice q4 l4 d4, .bool false, .slice none 0 0, .slice none 0 0, .bool false, .bool false, .bool false]) (k := 3) (l := [.bool sz1, .slice pz1 kz1 cz1, .slice qz1 lz1 dz1]) Hx1.out nd3)
  have Hxi2 := hid (Box.of_eq (Box.stores_other (k := 3) (l := [.bool sz1, .slice pz1 kz1 cz1, .slice qz1 lz1 dz1]) Hxi1.out (by omega)) hW2)
  have Hxk2 := hid (Box.of_eq (Box.stores_other (k := 3) (l := [.bool sz1, .slice pz1 kz1 cz1, .slice qz1 lz1 dz1]) Hxk1.out (by omega)) hW2)
  have Hxr2 := hid (Box.of_eq (Box.stores_other (k := 3) (l := [.bool sz1, .slice pz1 kz1 cz1, .slice qz1 lz1 dz1]) Hxr1.out (by omega)) hW2)
  have Hxb2 := hid (show Below w.heap.size w y2 by rw [← hW2]; exact Below.stores (k := 3) (l := [.bool sz1, .slice pz1 kz1 cz1, .slice qz1 lz1 dz1]) Hxb1.out (by omega))
  have Hxq2 := hid (show QNorm y2 (.agg #[.bool sz1, .slice pz1 kz1 cz1, .slice qz1 lz1 dz1]) rb by rw [← hW2]; exact QNorm.stores (k := 3) (l := [.bool sz1, .slice pz1 kz1 cz1, .slice qz1 lz1 dz1]) hF2.out Hx1.out nd3)
  have Hxm2 := hid (show QNorm y2 (.agg #[.bool s4, .slice p4 k4 c4, .slice q4 l4 d4]) ra by rw [← hW2]; exact QNorm.stores (k := 3) (l := [.bool sz1, .slice pz1 kz1 cz1, .slice qz1 lz1 dz1]) Hxq1.out Hx1.out nd3)
  clear hW2 hF2 m0 m1 m2 m3 m4 m5 m6 m7 m8 n0 n1 n2 n3 n4 n5 n6 n7 n8 u0 u1 u2 u3 u4 u5 u6 u7 u8 f0 f1 f2 f3 f4 f5 f6 f7 f8
  obtain ⟨u0, u1, u2, u3, u4, u5, u6, u7, u8, _⟩ := Hx2.out.cells9
  obtain ⟨g0, g1, g2, g3, g4, g5, g6, g7, g8, f0, f1, f2, f3, f4, f5, f6, f7, f8⟩ := Hxr2.out.cells9
  go_wp2_with fail
  exact jLower_ret rfl (Hxr2.out.stores [.bool s4, .slice p4 k4 c4, .slice q4 l4 d4, .bool sz1, .slice pz1 kz1 cz1, .slice qz1 lz1 dz1, .bool false, .bool false, .bool false] rfl nd_J) ⟨_, _, _, _, _, _, _, _, _, _, _, _, _, _, _, _, _, rfl, hid (JRep.stores (k := 0) (l := [.bool s4, .slice p4 k4 c4, .slice q4 l4 d4, .bool sz1, .slice pz1 kz1 cz1, .slice qz1 lz1 dz1, .bool false, .bool false, .bool false]) ⟨_, _, _, _, _, _, _, _, _, _, _, _, _, _, _, _, _, rfl, Hxm2.out, Hxq2.out, rfl, rfl, rfl⟩ Hxr2.out nd_J), Below.stores (k := 0) (l := [.bool s4, .slice p4 k4 c4, .slice q4 l4 d4, .bool sz1, .slice pz1 kz1 cz1, .slice qz1 lz1 dz1, .bool false, .bool false, .bool false]) Hxb2.out (by omega)⟩
theorem jLower_fff (s1 : Bool) (p1 : Option Addr) (k1 c1 : Nat) (q1 : Option Addr) (l1 d1 : Nat) (sz1 : Bool) (pz1 : Option Addr) (kz1 cz1 : Nat) (qz1 : Option Addr) (lz1 dz1 : Nat) (x1 : Bool) (s2 : Bool) (p2 : Option Addr) (k2 c2 : Nat) (q2 : Option Addr) (l2 d2 : Nat) (sz2 : Bool) (pz2 : Option Addr) (kz2 cz2 : Nat) (qz2 : Option Addr) (lz2 dz2 : Nat) (x2 : Bool) (a b : (Bool × Nat × Nat) × (Bool × Nat × Nat) × Bool × Bool × Bool) (w : World) (hX : (x1 || x2) = false)
  (hl : ∀ W, Below w.heap.size w W → Calls Tryz.prog 115 #[.agg #[.bool s1, .slice p1 k1 c1, .slice q1 l1 d1], .agg #[.bool s2, .slice p2 k2 c2, .slice q2 l2 d2]] W fun e w' => ∃ s4 p4 k4 c4 q4 l4 d4, e = .returned (.agg #[.bool s4, .slice p4 k4 c4, .slice q4 l4 d4]) ∧ Hid (QNorm w' (.agg #[.bool s4, .slice p4 k4 c4, .slice q4 l4 d4]) (qmin a.1 b.1)) ∧ Below W.heap.size W w')
  (hh : ∀ W, Below w.heap.size w W → Calls Tryz.prog 115 #[.agg #[.bool sz1, .slice pz1 kz1 cz1, .slice qz1 lz1 dz1], .agg #[.bool sz2, .slice pz2 kz2 cz2, .slice qz2 lz2 dz2]] W fun e w' => ∃ s4 p4 k4 c4 q4 l4 d4, e = .returned (.agg #[.bool s4, .slice p4 k4 c4, .slice q4 l4 d4]) ∧ Hid (QNorm w' (.agg #[.bool s4, .slice p4 k4 c4, .slice q4 l4 d4]) (qmin a.2.1 b.2.1)) ∧ Below W.heap.size W w') :
  Calls Tryz.prog 61 #[.agg #[.bool s1, .slice p1 k1 c1, .slice q1 l1 d1, .bool sz1, .slice pz1 kz1 cz1, .slice qz1 lz1 dz1, .bool x1, .bool false, .bool false], .agg #[.bool s2, .slice p2 k2 c2, .slice q2 l2 d2, .bool sz2, .slice pz2 kz2 cz2, .slice qz2 lz2 dz2, .bool x2, .bool false, .bool false]] w fun e w' => ∃ s3 p3 k3 c3 q3 l3 d3 sz3 pz3 kz3 cz3 qz3 lz3 dz3 x3 y3 e3, e = .returned (.agg #[.bool s3, .slice p3 k3 c3, .slice q3 l3 d3, .bool sz3, .slice pz3 kz3 cz3, .slice qz3 lz3 dz3, .bool x3, .bool y3, .bool e3]) ∧ Hid (JRep w' (.agg #[.bool s3, .slice p3 k3 c3, .slice q3 l3 d3, .bool sz3, .slice pz3 kz3 cz3, .slice qz3 lz3 dz3, .bool x3, .bool y3, .bool e3]) ((qmin a.1 b.1), (qmin a.2.1 b.2.1), false, false, false)) ∧ Below w.heap.size w w' := by
 have HL := hid hl
 obtain ⟨ra, hra⟩ : ∃ r, r = (qmin a.1 b.1) := ⟨_, rfl⟩
 rw [← hra] at HL ⊢
 clear hra hl
 have HH := hid hh
 obtain ⟨rb, hrb⟩ : ∃ r, r = (qmin a.2.1 b.2.1) := ⟨_, rfl⟩
 rw [← hrb] at HH ⊢
 clear hrb hh
 cases x1 <;> cases x2
 all_goals first | exact absurd hX (by decide) | skip
 all_goals
  clear hX
  go_enter Tryz.func61, Tryz.ntmps61
  go_upto_region 4 with fail
  generalize hA : World.alloc _ _ = W0
  have HV := hid (pre4_of hA nd_J nd_J nd_J nd_J)
  clear hA
  obtain ⟨m0, m1, m2, m3, m4, m5, m6, m7, m8, _⟩ := HV.out.1.cells9
  obtain ⟨n0, n1, n2, n3, n4, n5, n6, n7, n8, _⟩ := HV.out.2.1.cells9
  obtain ⟨u0, u1, u2, u3, u4, u5, u6, u7, u8, f0, f1, f2, f3, f4, f5, f6, f7, f8⟩ := HV.out.2.2.2.1.cells9
  go_wp2_with fail
  refine (HL.out _ HV.out.2.2.2.2).mono ?_
  rintro e w1 ⟨s4, p4, k4, c4, q4, l4, d4, rfl, hF1, hB1⟩
  clear m0 m1 m2 m3 m4 m5 m6 m7 m8 n0 n1 n2 n3 n4 n5 n6 n7 n8 u0 u1 u2 u3 u4 u5 u6 u7 u8 f0 f1 f2 f3 f4 f5 f6 f7 f8
  have Hi1 := hid (HV.out.1.below hB1)
  have Hk1 := hid (HV.out.2.1.below hB1)
  have Hr1 := hid (HV.out.2.2.1.below hB1)
  have Ho1 := hid (HV.out.2.2.2.1.below hB1)
  have Hb1 := hid (HV.out.2.2.2.2.trans (hB1.mono HV.out.2.2.2.2.size))
  clear hB1
  obtain ⟨m0, m1, m2, m3, m4, m5, m6, m7, m8, _⟩ := Hi1.out.cells9
  obtain ⟨n0, n1, n2, n3, n4, n5, n6, n7, n8, _⟩ := Hk1.out.cells9
  obtain ⟨u0, u1, u2, u3, u4, u5, u6, u7, u8, f0, f1, f2, f3, f4, f5, f6, f7, f8⟩ := Ho1.out.cells9
  go_upto_region 7 with fail
  generalize hW1 : World.setCell _ _ _ = y1
  have Hx1 := hid (show Box y1 (w.heap.size + 1 + 1 + 1) #[.bool s4, .slice p4 k4 c4, .slice q4 l4 d4, .bool false, .slice none 0 0, .slice none 0 0, .bool false, .bool false, .bool false] by rw [← hW1]; exact Box.stores_at (m := [.bool false, .slice none 0 0, .slice none 0 0, .bool false, .slice none 0 0, .slice none 0 0, .bool false, .bool false, .bool false]) (k := 0) (l := [.bool s4, .slice p4 k4 c4, .slice q4 l4 d4]) Ho1.out nd3)
  have Hxi1 := hid (Box.of_eq (Box.stores_other (k := 0) (l := [.bool s4, .slice p4 k4 c4, .slice q4 l4 d4]) Hi1.out (by omega)) hW1)
  have Hxk1 := hid (Box.of_eq (Box.stores_other (k := 0) (l := [.bool s4, .slice p4 k4 c4, .slice q4 l4 d4]) Hk1.out (by omega)) hW1)
  have Hxr1 := hid (Box.of_eq (Box.stores_other (k := 0) (l := [.bool s4, .slice p4 k4 c4, .slice q4 l4 d4]) Hr1.out (by omega)) hW1)
  have Hxb1 := hid (show Below w.heap.size w y1 by rw [← hW1]; exact Below.stores (k := 0) (l := [.bool s4, .slice p4 k4 c4, .slice q4 l4 d4]) Hb1.out (by omega))
  have Hxq1 := hid (show QNorm y1 (.agg #[.bool s4, .slice p4 k4 c4, .slice q4 l4 d4]) ra by rw [← hW1]; exact QNorm.stores (k := 0) (l := [.bool s4, .slice p4 k4 c4, .slice q4 l4 d4]) hF1.out Ho1.out nd3)
  clear hW1 hF1 m0 m1 m2 m3 m4 m5 m6 m7 m8 n0 n1 n2 n3 n4 n5 n6 n7 n8 u0 u1 u2 u3 u4 u5 u6 u7 u8 f0 f1 f2 f3 f4 f5 f6 f7 f8
  obtain ⟨m0, m1, m2, m3, m4, m5, m6, m7, m8, _⟩ := Hxi1.out.cells9
  obtain ⟨n0, n1, n2, n3, n4, n5, n6, n7, n8, _⟩ := Hxk1.out.cells9
  obtain ⟨u0, u1, u2, u3, u4, u5, u6, u7, u8, f0, f1, f2, f3, f4, f5, f6, f7, f8⟩ := Hx1.out.cells9
  go_wp2_with fail
  refine (HH.out _ Hxb1.out).mono ?_
  rintro e w2 ⟨s5, p5, k5, c5, q5, l5, d5, rfl, hF2, hB2⟩
  clear m0 m1 m2 m3 m4 m5 m6 m7 m8 n0 n1 n2 n3 n4 n5 n6 n7 n8 u0 u1 u2 u3 u4 u5 u6 u7 u8 f0 f1 f2 f3 f4 f5 f6 f7 f8
  have Hi2 := hid (Hxi1.out.below hB2)
  have Hk2 := hid (Hxk1.out.below hB2)
  have Hr2 := hid (Hxr1.out.below hB2)
  have Ho2 := hid (Hx1.out.below hB2)
  have Hb2 := hid (Hxb1.out.trans (hB2.mono Hxb1.out.size))
  have HM2 := hid (QNorm.below Hxq1.out hB2)
  clear hB2
  obtain ⟨m0, m1, m2, m3, m4, m5, m6, m7, m8, _⟩ := Hi2.out.cells9
  obtain ⟨n0, n1, n2, n3, n4, n5, n6, n7, n8, _⟩ := Hk2.out.cells9
  obtain ⟨u0, u1, u2, u3, u4, u5, u6, u7, u8, f0, f1, f2, f3, f4, f5, f6, f7, f8⟩ := Ho2.out.cells9
  go_upto_region 11 with fail
  generalize hW2 : World.setCell _ _ _ = y2
  have Hx2 := hid (show Box y2 (w.heap.size + 1 + 1 + 1) #[.bool s4, .slice p4 k4 c4, .slice q4 l4 d4, .bool s5, .slice p5 k5 c5, .slice q5 l5 d5, .bool false, .bool false, .bool false] by rw [← hW2]; exact Box.stores_at (m := [.bool s4, .slice p4 k4 c4, .slice q4 l4 d4, .bool false, .slice none 0 0, .slice none 0 0, .bool false, .bool false, .bool false]) (k := 3) (l := [.bool s5, .slice p5 k5 c5, .slice q5 l5 d5]) Ho2.out nd3)
  have Hxi2 := hid (Box.of_eq (Box.stores_other (k := 3) (l := [.bool s5, .slice p5 k5 c5, .slice q5 l5 d5]) Hi2.out (by omega)) hW2)
  have Hxk2 := hid (Box.of_eq (Box.stores_other (k := 3) (l := [.bool s5, .slice p5 k5 c5, .slice q5 l5 d5]) Hk2.out (by omega)) hW2)
  have Hxr2 := hid (Box.of_eq (Box.stores_other (k := 3) (l := [.bool s5, .slice p5 k5 c5, .slice q5 l5 d5]) Hr2.out (by omega)) hW2)
  have Hxb2 := hid (show Below w.heap.size w y2 by rw [← hW2]; exact Below.stores (k := 3) (l := [.bool s5, .slice p5 k5 c5, .slice q5 l5 d5]) Hb2.out (by omega))
  have Hxq2 := hid (show QNorm y2 (.agg #[.bool s5, .slice p5 k5 c5, .slice q5 l5 d5]) rb by rw [← hW2]; exact QNorm.stores (k := 3) (l := [.bool s5, .slice p5 k5 c5, .slice q5 l5 d5]) hF2.out Ho2.out nd3)
  have Hxm2 := hid (show QNorm y2 (.agg #[.bool s4, .slice p4 k4 c4, .slice q4 l4 d4]) ra by rw [← hW2]; exact QNorm.stores (k := 3) (l := [.bool s5, .slice p5 k5 c5, .slice q5 l5 d5]) HM2.out Ho2.out nd3)
  clear hW2 hF2 m0 m1 m2 m3 m4 m5 m6 m7 m8 n0 n1 n2 n3 n4 n5 n6 n7 n8 u0 u1 u2 u3 u4 u5 u6 u7 u8 f0 f1 f2 f3 f4 f5 f6 f7 f8
  obtain ⟨u0, u1, u2, u3, u4, u5, u6, u7, u8, _⟩ := Hx2.out.cells9
  obtain ⟨g0, g1, g2, g3, g4, g5, g6, g7, g8, f0, f1, f2, f3, f4, f5, f6, f7, f8⟩ := Hxr2.out.cells9
  go_wp2_with fail
  exact jLower_ret rfl (Hxr2.out.stores [.bool s4, .slice p4 k4 c4, .slice q4 l4 d4, .bool s5, .slice p5 k5 c5, .slice q5 l5 d5, .bool false, .bool false, .bool false] rfl nd_J) ⟨_, _, _, _, _, _, _, _, _, _, _, _, _, _, _, _, _, rfl, hid (JRep.stores (k := 0) (l := [.bool s4, .slice p4 k4 c4, .slice q4 l4 d4, .bool s5, .slice p5 k5 c5, .slice q5 l5 d5, .bool false, .bool false, .bool false]) ⟨_, _, _, _, _, _, _, _, _, _, _, _, _, _, _, _, _, rfl, Hxm2.out, Hxq2.out, rfl, rfl, rfl⟩ Hxr2.out nd_J), Below.stores (k := 0) (l := [.bool s4, .slice p4 k4 c4, .slice q4 l4 d4, .bool s5, .slice p5 k5 c5, .slice q5 l5 d5, .bool false, .bool false, .bool false]) Hxb2.out (by omega)⟩
theorem jLower_e1 (s1 : Bool) (p1 : Option Addr) (k1 c1 : Nat) (q1 : Option Addr) (l1 d1 : Nat) (sz1 : Bool) (pz1 : Option Addr) (kz1 cz1 : Nat) (qz1 : Option Addr) (lz1 dz1 : Nat) (x1 y1 : Bool) (s2 : Bool) (p2 : Option Addr) (k2 c2 : Nat) (q2 : Option Addr) (l2 d2 : Nat) (sz2 : Bool) (pz2 : Option Addr) (kz2 cz2 : Nat) (qz2 : Option Addr) (lz2 dz2 : Nat) (x2 y2 : Bool) (e2 : Bool) (w : World) :
  Calls Tryz.prog 61 #[.agg #[.bool s1, .slice p1 k1 c1, .slice q1 l1 d1, .bool sz1, .slice pz1 kz1 cz1, .slice qz1 lz1 dz1, .bool x1, .bool y1, .bool true], .agg #[.bool s2, .slice p2 k2 c2, .slice q2 l2 d2, .bool sz2, .slice pz2 kz2 cz2, .slice qz2 lz2 dz2, .bool x2, .bool y2, .bool e2]] w fun e w' => ∃ s3 p3 k3 c3 q3 l3 d3 sz3 pz3 kz3 cz3 qz3 lz3 dz3 x3 y3 e3, e = .returned (.agg #[.bool s3, .slice p3 k3 c3, .slice q3 l3 d3, .bool sz3, .slice pz3 kz3 cz3, .slice qz3 lz3 dz3, .bool x3, .bool y3, .bool e3]) ∧ Hid (JRep w' (.agg #[.bool s3, .slice p3 k3 c3, .slice q3 l3 d3, .bool sz3, .slice pz3 kz3 cz3, .slice qz3 lz3 dz3, .bool x3, .bool y3, .bool e3]) jnone) ∧ Below w.heap.size w w' := by
 go_enter Tryz.func61, Tryz.ntmps61
 go_wp2_with fail
 have HV := hid (pre3 w [.bool s1, .slice p1 k1 c1, .slice q1 l1 d1, .bool sz1, .slice pz1 kz1 cz1, .slice qz1 lz1 dz1, .bool x1, .bool y1, .bool true] [.bool s2, .slice p2 k2 c2, .slice q2 l2 d2, .bool sz2, .slice pz2 kz2 cz2, .slice qz2 lz2 dz2, .bool x2, .bool y2, .bool e2] [.bool false, .slice none 0 0, .slice none 0 0, .bool false, .slice none 0 0, .slice none 0 0, .bool false, .bool false, .bool false] 66 66 66 nd_J nd_J nd_J)
 generalize ((w.alloc (.cells #[.bool s1, .slice p1 k1 c1, .slice q1 l1 d1, .bool sz1, .slice pz1 kz1 cz1, .slice qz1 lz1 dz1, .bool x1, .bool y1, .bool true] 66)).alloc (.cells #[.bool s2, .slice p2 k2 c2, .slice q2 l2 d2, .bool sz2, .slice pz2 kz2 cz2, .slice qz2 lz2 dz2, .bool x2, .bool y2, .bool e2] 66)).alloc (.cells #[.bool false, .slice none 0 0, .slice none 0 0, .bool false, .slice none 0 0, .slice none 0 0, .bool false, .bool false, .bool false] 66) = W0 at *
 refine (jNone_any W0).mono ?_
 rintro e w3 ⟨rfl, hB3⟩
 have HE3 := hid (And.intro (HV.out.2.2.1.below hB3) (HV.out.2.2.2.trans (hB3.mono HV.out.2.2.2.size)))
 clear hB3
 obtain ⟨g0, g1, g2, g3, g4, g5, g6, g7, g8, n0, n1, n2, n3, n4, n5, n6, n7, n8⟩ := HE3.out.1.cells9
 go_wp2_with fail
 exact jLower_ret rfl (HE3.out.1.stores [.bool false, .slice none 0 0, .slice none 0 0, .bool false, .slice none 0 0, .slice none 0 0, .bool false, .bool false, .bool true] rfl nd_J) ⟨_, _, _, _, _, _, _, _, _, _, _, _, _, _, _, _, _, rfl, hid (JRep.stores (k := 0) (l := [.bool false, .slice none 0 0, .slice none 0 0, .bool false, .slice none 0 0, .slice none 0 0, .bool false, .bool false, .bool true]) ⟨_, _, _, _, _, _, _, _, _, _, _, _, _, _, _, _, _, rfl, QNorm.zero _, QNorm.zero _, rfl, rfl, rfl⟩ HE3.out.1 nd_J), Below.stores (k := 0) (l := [.bool false, .slice none 0 0, .slice none 0 0, .bool false, .slice none 0 0, .slice none 0 0, .bool false, .bool false, .bool true]) HE3.out.2 (by omega)⟩
theorem jLower_e2 (s1 : Bool) (p1 : Option Addr) (k1 c1 : Nat) (q1 : Option Addr) (l1 d1 : Nat) (sz1 : Bool) (pz1 : Option Addr) (kz1 cz1 : Nat) (qz1 : Option Addr) (lz1 dz1 : Nat) (x1 y1 : Bool) (s2 : Bool) (p2 : Option Addr) (k2 c2 : Nat) (q2 : Option Addr) (l2 d2 : Nat) (sz2 : Bool) (pz2 : Option Addr) (kz2 cz2 : Nat) (qz2 : Option Addr) (lz2 dz2 : Nat) (x2 y2 : Bool) (w : World) :
  Calls Tryz.prog 61 #[.agg #[.bool s1, .slice p1 k1 c1, .slice q1 l1 d1, .bool sz1, .slice pz1 kz1 cz1, .slice qz1 lz1 dz1, .bool x1, .bool y1, .bool false], .agg #[.bool s2, .slice p2 k2 c2, .slice q2 l2 d2, .bool sz2, .slice pz2 kz2 cz2, .slice qz2 lz2 dz2, .bool x2, .bool y2, .bool true]] w fun e w' => ∃ s3 p3 k3 c3 q3 l3 d3 sz3 pz3 kz3 cz3 qz3 lz3 dz3 x3 y3 e3, e = .returned (.agg #[.bool s3, .slice p3 k3 c3, .slice q3 l3 d3, .bool sz3, .slice pz3 kz3 cz3, .slice qz3 lz3 dz3, .bool x3, .bool y3, .bool e3]) ∧ Hid (JRep w' (.agg #[.bool s3, .slice p3 k3 c3, .slice q3 l3 d3, .bool sz3, .slice pz3 kz3 cz3, .slice qz3 lz3 dz3, .bool x3, .bool y3, .bool e3]) jnone) ∧ Below w.heap.size w w' := by
 go_enter Tryz.func61, Tryz.ntmps61
 go_wp2_with fail
 have HV := hid (pre3 w [.bool s1, .slice p1 k1 c1, .slice q1 l1 d1, .bool sz1, .slice pz1 kz1 cz1, .slice qz1 lz1 dz1, .bool x1, .bool y1, .bool false] [.bool s2, .slice p2 k2 c2, .slice q2 l2 d2, .bool sz2, .slice pz2 kz2 cz2, .slice qz2 lz2 dz2, .bool x2, .bool y2, .bool true] [.bool false, .slice none 0 0, .slice none 0 0, .bool false, .slice none 0 0, .slice none 0 0, .bool false, .bool false, .bool false] 66 66 66 nd_J nd_J nd_J)
 generalize ((w.alloc (.cells #[.bool s1, .slice p1 k1 c1, .slice q1 l1 d1, .bool sz1, .slice pz1 kz1 cz1, .slice qz1 lz1 dz1, .bool x1, .bool y1, .bool false] 66)).alloc (.cells #[.bool s2, .slice p2 k2 c2, .slice q2 l2 d2, .bool sz2, .slice pz2 kz2 cz2, .slice qz2 lz2 dz2, .bool x2, .bool y2, .bool true] 66)).alloc (.cells #[.bool false, .slice none 0 0, .slice none 0 0, .bool false, .slice none 0 0, .slice none 0 0, .bool false, .bool false, .bool false] 66) = W0 at *
 refine (jNone_any W0).mono ?_
 rintro e w3 ⟨rfl, hB3⟩
 have HE3 := hid (And.intro (HV.out.2.2.1.below hB3) (HV.out.2.2.2.trans (hB3.mono HV.out.2.2.2.size)))
 clear hB3
 obtain ⟨g0, g1, g2, g3, g4, g5, g6, g7, g8, n0, n1, n2, n3, n4, n5, n6, n7, n8⟩ := HE3.out.1.cells9
 go_wp2_with fail
 exact jLower_ret rfl (HE3.out.1.stores [.bool false, .slice none 0 0, .slice none 0 0, .bool false, .slice none 0 0, .slice none 0 0, .bool false, .bool false, .bool true] rfl nd_J) ⟨_, _, _, _, _, _, _, _, _, _, _, _, _, _, _, _, _, rfl, hid (JRep.stores (k := 0) (l := [.bool false, .slice none 0 0, .slice none 0 0, .bool false, .slice none 0 0, .slice none 0 0, .bool false, .bool false, .bool true]) ⟨_, _, _, _, _, _, _, _, _, _, _, _, _, _, _, _, _, rfl, QNorm.zero _, QNorm.zero _, rfl, rfl, rfl⟩ HE3.out.1 nd_J), Below.stores (k := 0) (l := [.bool false, .slice none 0 0, .slice none 0 0, .bool false, .slice none 0 0, .slice none 0 0, .bool false, .bool false, .bool true]) HE3.out.2 (by omega)⟩
end Go.Proofs.YtimjoejkjgklaaaGreatDoor
namespace Go.Proofs.YtimjoejkjgklaaaGreatDoor
open Go.RowKit Dg
theorem jLower_any (s1 : Bool) (p1 : Option Addr) (k1 c1 : Nat) (q1 : Option Addr) (l1 d1 : Nat) (sz1 : Bool) (pz1 : Option Addr) (kz1 cz1 : Nat) (qz1 : Option Addr) (lz1 dz1 : Nat) (x1 : Bool) (y1 : Bool) (e1 : Bool) (s2 : Bool) (p2 : Option Addr) (k2 c2 : Nat) (q2 : Option Addr) (l2 d2 : Nat) (sz2 : Bool) (pz2 : Option Addr) (kz2 cz2 : Nat) (qz2 : Option Addr) (lz2 dz2 : Nat) (x2 : Bool) (y2 : Bool) (e2 : Bool) (r t : (Bool × Nat × Nat) × (Bool × Nat × Nat) × Bool × Bool × Bool) (w : World) (h : JRep w (.agg #[.bool s1, .slice p1 k1 c1, .slice q1 l1 d1, .bool sz1, .slice pz1 kz1 cz1, .slice qz1 lz1 dz1, .bool x1, .bool y1, .bool e1]) r) (h' : JRep w (.agg #[.bool s2, .slice p2 k2 c2, .slice q2 l2 d2, .bool sz2, .slice pz2 kz2 cz2, .slice qz2 lz2 dz2, .bool x2, .bool y2, .bool e2]) t) (hr : JGood r) (ht : JGood t) :
  Calls Tryz.prog 61 #[.agg #[.bool s1, .slice p1 k1 c1, .slice q1 l1 d1, .bool sz1, .slice pz1 kz1 cz1, .slice qz1 lz1 dz1, .bool x1, .bool y1, .bool e1], .agg #[.bool s2, .slice p2 k2 c2, .slice q2 l2 d2, .bool sz2, .slice pz2 kz2 cz2, .slice qz2 lz2 dz2, .bool x2, .bool y2, .bool e2]] w fun e w' => ∃ s3 p3 k3 c3 q3 l3 d3 sz3 pz3 kz3 cz3 qz3 lz3 dz3 x3 y3 e3, e = .returned (.agg #[.bool s3, .slice p3 k3 c3, .slice q3 l3 d3, .bool sz3, .slice pz3 kz3 cz3, .slice qz3 lz3 dz3, .bool x3, .bool y3, .bool e3]) ∧ Hid (JRep w' (.agg #[.bool s3, .slice p3 k3 c3, .slice q3 l3 d3, .bool sz3, .slice pz3 kz3 cz3, .slice qz3 lz3 dz3, .bool x3, .bool y3, .bool e3]) (jlow r t)) ∧ Below w.heap.size w w' := by
 obtain ⟨h1, h2, hi, hj, he⟩ := JRep.parts s1 p1 k1 c1 q1 l1 d1 sz1 pz1 kz1 cz1 qz1 lz1 dz1 x1 y1 e1 h
 obtain ⟨g1, g2, hi', hj', he'⟩ := JRep.parts s2 p2 k2 c2 q2 l2 d2 sz2 pz2 kz2 cz2 qz2 lz2 dz2 x2 y2 e2 h'
 clear h h'
 rcases hr.shape with rfl | ⟨A, B, x, y, hA, hB, _, rfl⟩
 ·have hz : e1 = true := he
  subst hz
  exact jLower_e1 s1 p1 k1 c1 q1 l1 d1 sz1 pz1 kz1 cz1 qz1 lz1 dz1 x1 y1 s2 p2 k2 c2 q2 l2 d2 sz2 pz2 kz2 cz2 qz2 lz2 dz2 x2 y2 e2 w
 ·have hz : e1 = false := he
  subst hz
  rcases ht.shape with rfl | ⟨A', B', x', y', hA', hB', _, rfl⟩
  ·have hz : e2 = true := he'
   subst hz
   exact jLower_e2 s1 p1 k1 c1 q1 l1 d1 sz1 pz1 kz1 cz1 qz1 lz1 dz1 x1 y1 s2 p2 k2 c2 q2 l2 d2 sz2 pz2 kz2 cz2 qz2 lz2 dz2 x2 y2 w
  ·have hz : e2 = false := he'
   have hx : x1 = x := hi
   have hy : y1 = y := hj
   have hx' : x2 = x' := hi'
   have hy' : y2 = y' := hj'
   subst hz hx hy hx' hy'
   have hl : x1 = false → x2 = false → ∀ W, Below w.heap.size w W → Calls Tryz.prog 115 #[.agg #[.bool s1, .slice p1 k1 c1, .slice q1 l1 d1], .agg #[.bool s2, .slice p2 k2 c2, .slice q2 l2 d2]] W fun e w' => ∃ s4 p4 k4 c4 q4 l4 d4, e = .returned (.agg #[.bool s4, .slice p4 k4 c4, .slice q4 l4 d4]) ∧ Hid (QNorm w' (.agg #[.bool s4, .slice p4 k4 c4, .slice q4 l4 d4]) (qmin (if x1 then (false, 0, 0) else A) (if x2 then (false, 0, 0) else A'))) ∧ Below W.heap.size W w' := by
    intro u v W hW
    subst u v
    exact jLeast_any s1 p1 k1 c1 q1 l1 d1 s2 p2 k2 c2 q2 l2 d2 A A' W (h1.below hW) (g1.below hW) (hA rfl).ok (hA' rfl).ok
   have hh : y1 = false → y2 = false → ∀ W, Below w.heap.size w W → Calls Tryz.prog 115 #[.agg #[.bool sz1, .slice pz1 kz1 cz1, .slice qz1 lz1 dz1], .agg #[.bool sz2, .slice pz2 kz2 cz2, .slice qz2 lz2 dz2]] W fun e w' => ∃ s4 p4 k4 c4 q4 l4 d4, e = .returned (.agg #[.bool s4, .slice p4 k4 c4, .slice q4 l4 d4]) ∧ Hid (QNorm w' (.agg #[.bool s4, .slice p4 k4 c4, .slice q4 l4 d4]) (qmin (if y1 then (false, 0, 0) else B) (if y2 then (false, 0, 0) else B'))) ∧ Below W.heap.size W w' := by
    intro u v W hW
    subst u v
    exact jLeast_any sz1 pz1 kz1 cz1 qz1 lz1 dz1 sz2 pz2 kz2 cz2 qz2 lz2 dz2 B B' W (h2.below hW) (g2.below hW) (hB rfl).ok (hB' rfl).ok
   clear hi hj he hi' hj' he' hr ht
   cases x1 <;> cases x2 <;> cases y1 <;> cases y2
   ·exact jLower_fff s1 p1 k1 c1 q1 l1 d1 sz1 pz1 kz1 cz1 qz1 lz1 dz1 false s2 p2 k2 c2 q2 l2 d2 sz2 pz2 kz2 cz2 qz2 lz2 dz2 false (if false = true then (false, 0, 0) else A, if false = true then (false, 0, 0) else B, false, false, false) (if false = true then (false, 0, 0) else A', if false = true then (false, 0, 0) else B', false, false, false) w rfl (hl rfl rfl) (hh rfl rfl)
   ·exact jLower_fft s1 p1 k1 c1 q1 l1 d1 sz1 pz1 kz1 cz1 qz1 lz1 dz1 false s2 p2 k2 c2 q2 l2 d2 sz2 pz2 kz2 cz2 qz2 lz2 dz2 false (if false = true then (false, 0, 0) else A, if false = true then (false, 0, 0) else B, false, false, false) (if false = true then (false, 0, 0) else A', if true = true then (false, 0, 0) else B', false, true, false) w rfl (hl rfl rfl) (fun W hW => h2.below hW)
   ·exact jLower_ftf s1 p1 k1 c1 q1 l1 d1 sz1 pz1 kz1 cz1 qz1 lz1 dz1 false s2 p2 k2 c2 q2 l2 d2 sz2 pz2 kz2 cz2 qz2 lz2 dz2 false (if false = true then (false, 0, 0) else A, if true = true then (false, 0, 0) else B, false, true, false) (if false = true then (false, 0, 0) else A', if false = true then (false, 0, 0) else B', false, false, false) w rfl (hl rfl rfl) (fun W hW => g2.below hW)
   ·exact jLower_ftt s1 p1 k1 c1 q1 l1 d1 sz1 pz1 kz1 cz1 qz1 lz1 dz1 false s2 p2 k2 c2 q2 l2 d2 sz2 pz2 kz2 cz2 qz2 lz2 dz2 false (if false = true then (false, 0, 0) else A, if true = true then (false, 0, 0) else B, false, true, false) (if false = true then (false, 0, 0) else A', if true = true then (false, 0, 0) else B', false, true, false) w rfl (hl rfl rfl) (fun W hW => g2.below hW)
   ·exact jLower_tff s1 p1 k1 c1 q1 l1 d1 sz1 pz1 kz1 cz1 qz1 lz1 dz1 false s2 p2 k2 c2 q2 l2 d2 sz2 pz2 kz2 cz2 qz2 lz2 dz2 true (if false = true then (false, 0, 0) else A, if false = true then (false, 0, 0) else B, false, false, false) (if true = true then (false, 0, 0) else A', if false = true then (false, 0, 0) else B', true, false, false) w rfl (hh rfl rfl)
   ·exact jLower_tft s1 p1 k1 c1 q1 l1 d1 sz1 pz1 kz1 cz1 qz1 lz1 dz1 false s2 p2 k2 c2 q2 l2 d2 sz2 pz2 kz2 cz2 qz2 lz2 dz2 true (if false = true then (false, 0, 0) else A, if false = true then (false, 0, 0) else B, false, false, false) (if true = true then (false, 0, 0) else A', if true = true then (false, 0, 0) else B', true, true, false) w rfl (fun W hW => h2.below hW)
   ·exact jLower_ttf s1 p1 k1 c1 q1 l1 d1 sz1 pz1 kz1 cz1 qz1 lz1 dz1 false s2 p2 k2 c2 q2 l2 d2 sz2 pz2 kz2 cz2 qz2 lz2 dz2 true (if false = true then (false, 0, 0) else A, if true = true then (false, 0, 0) else B, false, true, false) (if true = true then (false, 0, 0) else A', if false = true then (false, 0, 0) else B', true, false, false) w rfl (fun W hW => g2.below hW)
   ·exact jLower_ttt s1 p1 k1 c1 q1 l1 d1 sz1 pz1 kz1 cz1 qz1 lz1 dz1 false s2 p2 k2 c2 q2 l2 d2 sz2 pz2 kz2 cz2 qz2 lz2 dz2 true (if false = true then (false, 0, 0) else A, if true = true then (false, 0, 0) else B, false, true, false) (if true = true then (false, 0, 0) else A', if true = true then (false, 0, 0) else B', true, true, false) w rfl (fun W hW => g2.below hW)
   ·exact jLower_tff s1 p1 k1 c1 q1 l1 d1 sz1 pz1 kz1 cz1 qz1 lz1 dz1 true s2 p2 k2 c2 q2 l2 d2 sz2 pz2 kz2 cz2 qz2 lz2 dz2 false (if true = true then (false, 0, 0) else A, if false = true then (false, 0, 0) else B, true, false, false) (if false = true then (false, 0, 0) else A', if false = true then (false, 0, 0) else B', false, false, false) w rfl (hh rfl rfl)
   ·exact jLower_tft s1 p1 k1 c1 q1 l1 d1 sz1 pz1 kz1 cz1 qz1 lz1 dz1 true s2 p2 k2 c2 q2 l2 d2 sz2 pz2 kz2 cz2 qz2 lz2 dz2 false (if true = true then (false, 0, 0) else A, if false = true then (false, 0, 0) else B, true, false, false) (if false = true then (false, 0, 0) else A', if true = true then (false, 0, 0) else B', false, true, false) w rfl (fun W hW => h2.below hW)
   ·exact jLower_ttf s1 p1 k1 c1 q1 l1 d1 sz1 pz1 kz1 cz1 qz1 lz1 dz1 true s2 p2 k2 c2 q2 l2 d2 sz2 pz2 kz2 cz2 qz2 lz2 dz2 false (if true = true then (false, 0, 0) else A, if true = true then (false, 0, 0) else B, true, true, false) (if false = true then (false, 0, 0) else A', if false = true then (false, 0, 0) else B', false, false, false) w rfl (fun W hW => g2.below hW)
   ·exact jLower_ttt s1 p1 k1 c1 q1 l1 d1 sz1 pz1 kz1 cz1 qz1 lz1 dz1 true s2 p2 k2 c2 q2 l2 d2 sz2 pz2 kz2 cz2 qz2 lz2 dz2 false (if true = true then (false, 0, 0) else A, if true = true then (false, 0, 0) else B, true, true, false) (if false = true then (false, 0, 0) else A', if true = true then (false, 0, 0) else B', false, true, false) w rfl (fun W hW => g2.below hW)
   ·exact jLower_tff s1 p1 k1 c1 q1 l1 d1 sz1 pz1 kz1 cz1 qz1 lz1 dz1 true s2 p2 k2 c2 q2 l2 d2 sz2 pz2 kz2 cz2 qz2 lz2 dz2 true (if true = true then (false, 0, 0) else A, if false = true then (false, 0, 0) else B, true, false, false) (if true = true then (false, 0, 0) else A', if false = true then (false, 0, 0) else B', true, false, false) w rfl (hh rfl rfl)
   ·exact jLower_tft s1 p1 k1 c1 q1 l1 d1 sz1 pz1 kz1 cz1 qz1 lz1 dz1 true s2 p2 k2 c2 q2 l2 d2 sz2 pz2 kz2 cz2 qz2 lz2 dz2 true (if true = true then (false, 0, 0) else A, if false = true then (false, 0, 0) else B, true, false, false) (if true = true then (false, 0, 0) else A', if true = true then (false, 0, 0) else B', true, true, false) w rfl (fun W hW => h2.below hW)
   ·exact jLower_ttf s1 p1 k1 c1 q1 l1 d1 sz1 pz1 kz1 cz1 qz1 lz1 dz1 true s2 p2 k2 c2 q2 l2 d2 sz2 pz2 kz2 cz2 qz2 lz2 dz2 true (if true = true then (false, 0, 0) else A, if true = true then (false, 0, 0) else B, true, true, false) (if true = true then (false, 0, 0) else A', if false = true then (false, 0, 0) else B', true, false, false) w rfl (fun W hW => g2.below hW)
   ·exact jLower_ttt s1 p1 k1 c1 q1 l1 d1 sz1 pz1 kz1 cz1 qz1 lz1 dz1 true s2 p2 k2 c2 q2 l2 d2 sz2 pz2 kz2 cz2 qz2 lz2 dz2 true (if true = true then (false, 0, 0) else A, if true = true then (false, 0, 0) else B, true, true, false) (if true = true then (false, 0, 0) else A', if true = true then (false, 0, 0) else B', true, true, false) w rfl (fun W hW => g2.below hW)
theorem jUpper_ret {W : World} {B : Nat} {a0 a1 a2 a3 a4 a5 a6 a7 a8 : Value} {tm : Array Value} {R : Ending → World → Prop} (h2 : tm[4]?.getD undef = .pointer (some ⟨B, 0, none⟩)) (hV : Box W B #[a0, a1, a2, a3, a4, a5, a6, a7, a8]) (hR : R (.returned (.agg #[a0, a1, a2, a3, a4, a5, a6, a7, a8])) W) :
  bodyPost Tryz.prog Tryz.f63 R .ret { tmps := tm, defers := [] } W := by
 obtain ⟨g0, g1, g2, g3, g4, g5, g6, g7, g8, _⟩ := hV.cells9
 exact bodyPost_ret (v := .agg #[a0, a1, a2, a3, a4, a5, a6, a7, a8]) (by simp [results, Tryz.results63, go_sem, h2, g0, g1, g2, g3, g4, g5, g6, g7, g8]) rfl hR
theorem jUpper_any (s1 : Bool) (p1 : Option Addr) (k1 c1 : Nat) (q1 : Option Addr) (l1 d1 : Nat) (sz1 : Bool) (pz1 : Option Addr) (kz1 cz1 : Nat) (qz1 : Option Addr) (lz1 dz1 : Nat) (x1 : Bool) (y1 : Bool) (e1 : Bool) (s2 : Bool) (p2 : Option Addr) (k2 c2 : Nat) (q2 : Option Addr) (l2 d2 : Nat) (sz2 : Bool) (pz2 : Option Addr) (kz2 cz2 : Nat) (qz2 : Option Addr) (lz2 dz2 : Nat) (x2 : Bool) (y2 : Bool) (e2 : Bool) (r t : (Bool × Nat × Nat) × (Bool × Nat × Nat) × Bool × Bool × Bool) (w : World) (h : JRep w (.agg #[.bool s1, .slice p1 k1 c1, .slice q1 l1 d1, .bool sz1, .slice pz1 kz1 cz1, .slice qz1 lz1 dz1, .bool x1, .bool y1, .bool e1]) r) (h' : JRep w (.agg #[.bool s2, .slice p2 k2 c2, .slice q2 l2 d2, .bool sz2, .slice pz2 kz2 cz2, .slice qz2 lz2 dz2, .bool x2, .bool y2, .bool e2]) t) (hr : JGood r) (ht : JGood t) :
  Calls Tryz.prog 63 #[.agg #[.bool s1, .slice p1 k1 c1, .slice q1 l1 d1, .bool sz1, .slice pz1 kz1 cz1, .slice qz1 lz1 dz1, .bool x1, .bool y1, .bool e1], .agg #[.bool s2, .slice p2 k2 c2, .slice q2 l2 d2, .bool sz2, .slice pz2 kz2 cz2, .slice qz2 lz2 dz2, .bool x2, .bool y2, .bool e2]] w fun e w' => ∃ s3 p3 k3 c3 q3 l3 d3 sz3 pz3 kz3 cz3 qz3 lz3 dz3 x3 y3 e3, e = .returned (.agg #[.bool s3, .slice p3 k3 c3, .slice q3 l3 d3, .bool sz3, .slice pz3 kz3 cz3, .slice qz3 lz3 dz3, .bool x3, .bool y3, .bool e3]) ∧ Hid (JRep w' (.agg #[.bool s3, .slice p3 k3 c3, .slice q3 l3 d3, .bool sz3, .slice pz3 kz3 cz3, .slice qz3 lz3 dz3, .bool x3, .bool y3, .bool e3]) (jupp r t)) ∧ Below w.heap.size w w' := by
 have HN := hid (fun (W : World) (hW : Below w.heap.size w W) => jMinus_any s1 p1 k1 c1 q1 l1 d1 sz1 pz1 kz1 cz1 qz1 lz1 dz1 x1 y1 e1 r W (JRep.below h hW))
 have HM := hid (fun (W : World) (hW : Below w.heap.size w W) => jMinus_any s2 p2 k2 c2 q2 l2 d2 sz2 pz2 kz2 cz2 qz2 lz2 dz2 x2 y2 e2 t W (JRep.below h' hW))
 have HL := hid (fun (W : World) (s3 : Bool) (p3 : Option Addr) (k3 c3 : Nat) (q3 : Option Addr) (l3 d3 : Nat) (sz3 : Bool) (pz3 : Option Addr) (kz3 cz3 : Nat) (qz3 : Option Addr) (lz3 dz3 : Nat) (x3 : Bool) (y3 : Bool) (e3 : Bool) (s4 : Bool) (p4 : Option Addr) (k4 c4 : Nat) (q4 : Option Addr) (l4 d4 : Nat) (sz4 : Bool) (pz4 : Option Addr) (kz4 cz4 : Nat) (qz4 : Option Addr) (lz4 dz4 : Nat) (x4 : Bool) (y4 : Bool) (e4 : Bool) (g : JRep W (.agg #[.bool s3, .slice p3 k3 c3, .slice q3 l3 d3, .bool sz3, .slice pz3 kz3 cz3, .slice qz3 lz3 dz3, .bool x3, .bool y3, .bool e3]) (jminus r)) (g' : JRep W (.agg #[.bool s4, .slice p4 k4 c4, .slice q4 l4 d4, .bool sz4, .slice pz4 kz4 cz4, .slice qz4 lz4 dz4, .bool x4, .bool y4, .bool e4]) (jminus t)) => jLower_any s3 p3 k3 c3 q3 l3 d3 sz3 pz3 kz3 cz3 qz3 lz3 dz3 x3 y3 e3 s4 p4 k4 c4 q4 l4 d4 sz4 pz4 kz4 cz4 qz4 lz4 dz4 x4 y4 e4 _ _ W g g' hr.neg ht.neg)
 have HU := hid (fun (W : World) (s3 : Bool) (p3 : Option Addr) (k3 c3 : Nat) (q3 : Option Addr) (l3 d3 : Nat) (sz3 : Bool) (pz3 : Option Addr) (kz3 cz3 : Nat) (qz3 : Option Addr) (lz3 dz3 : Nat) (x3 : Bool) (y3 : Bool) (e3 : Bool) (g : JRep W (.agg #[.bool s3, .slice p3 k3 c3, .slice q3 l3 d3, .bool sz3, .slice pz3 kz3 cz3, .slice qz3 lz3 dz3, .bool x3, .bool y3, .bool e3]) (jlow (jminus r) (jminus t))) => jMinus_any s3 p3 k3 c3 q3 l3 d3 sz3 pz3 kz3 cz3 qz3 lz3 dz3 x3 y3 e3 _ W g)
 clear h h' hr ht
 unfold jupp
 obtain ⟨r1, e1'⟩ : ∃ q, q = jminus r := ⟨_, rfl⟩
 obtain ⟨t1, e2'⟩ : ∃ q, q = jminus t := ⟨_, rfl⟩
 rw [← e1'] at HN HL HU ⊢
 rw [← e2'] at HM HL HU ⊢
 clear e1' e2'
 obtain ⟨m, e1'⟩ : ∃ q, q = jlow r1 t1 := ⟨_, rfl⟩
 rw [← e1'] at HL HU ⊢
 clear e1'
 obtain ⟨u, e1'⟩ : ∃ q, q = jminus m := ⟨_, rfl⟩
 rw [← e1'] at HU ⊢
 clear e1'
 go_enter Tryz.func63, Tryz.ntmps63
 go_wp2_with fail
 have HV := hid (pre3 w [.bool s1, .slice p1 k1 c1, .slice q1 l1 d1, .bool sz1, .slice pz1 kz1 cz1, .slice qz1 lz1 dz1, .bool x1, .bool y1, .bool e1] [.bool s2, .slice p2 k2 c2, .slice q2 l2 d2, .bool sz2, .slice pz2 kz2 cz2, .slice qz2 lz2 dz2, .bool x2, .bool y2, .bool e2] [.bool false, .slice none 0 0, .slice none 0 0, .bool false, .slice none 0 0, .slice none 0 0, .bool false, .bool false, .bool false] 66 66 66 nd_J nd_J nd_J)
 generalize ((w.alloc (.cells #[.bool s1, .slice p1 k1 c1, .slice q1 l1 d1, .bool sz1, .slice pz1 kz1 cz1, .slice qz1 lz1 dz1, .bool x1, .bool y1, .bool e1] 66)).alloc (.cells #[.bool s2, .slice p2 k2 c2, .slice q2 l2 d2, .bool sz2, .slice pz2 kz2 cz2, .slice qz2 lz2 dz2, .bool x2, .bool y2, .bool e2] 66)).alloc (.cells #[.bool false, .slice none 0 0, .slice none 0 0, .bool false, .slice none 0 0, .slice none 0 0, .bool false, .bool false, .bool false] 66) = W0 at *
 have HQ := hid (QQ.i2 (cs := [.bool s1, .slice p1 k1 c1, .slice q1 l1 d1, .bool sz1, .slice pz1 kz1 cz1, .slice qz1 lz1 dz1, .bool x1, .bool y1, .bool e1]) (cs' := [.bool s2, .slice p2 k2 c2, .slice q2 l2 d2, .bool sz2, .slice pz2 kz2 cz2, .slice qz2 lz2 dz2, .bool x2, .bool y2, .bool e2]) HV.out.1 HV.out.2.1 HV.out.2.2.2)
 have HS : Hid (∀ w', QQ w [(w.heap.size, [.bool s1, .slice p1 k1 c1, .slice q1 l1 d1, .bool sz1, .slice pz1 kz1 cz1, .slice qz1 lz1 dz1, .bool x1, .bool y1, .bool e1]), (w.heap.size + 1, [.bool s2, .slice p2 k2 c2, .slice q2 l2 d2, .bool sz2, .slice pz2 kz2 cz2, .slice qz2 lz2 dz2, .bool x2, .bool y2, .bool e2])] w' → (w'.cell? ⟨w.heap.size, 0, none⟩ = some (.bool s1) ∧ w'.cell? ⟨w.heap.size, 1, none⟩ = some (.slice p1 k1 c1) ∧ w'.cell? ⟨w.heap.size, 2, none⟩ = some (.slice q1 l1 d1) ∧ w'.cell? ⟨w.heap.size, 3, none⟩ = some (.bool sz1) ∧ w'.cell? ⟨w.heap.size, 4, none⟩ = some (.slice pz1 kz1 cz1) ∧ w'.cell? ⟨w.heap.size, 5, none⟩ = some (.slice qz1 lz1 dz1) ∧ w'.cell? ⟨w.heap.size, 6, none⟩ = some (.bool x1) ∧ w'.cell? ⟨w.heap.size, 7, none⟩ = some (.bool y1) ∧ w'.cell? ⟨w.heap.size, 8, none⟩ = some (.bool e1) ∧ w'.cell? ⟨w.heap.size + 1, 0, none⟩ = some (.bool s2) ∧ w'.cell? ⟨w.heap.size + 1, 1, none⟩ = some (.slice p2 k2 c2) ∧ w'.cell? ⟨w.heap.size + 1, 2, none⟩ = some (.slice q2 l2 d2) ∧ w'.cell? ⟨w.heap.size + 1, 3, none⟩ = some (.bool sz2) ∧ w'.cell? ⟨w.heap.size + 1, 4, none⟩ = some (.slice pz2 kz2 cz2) ∧ w'.cell? ⟨w.heap.size + 1, 5, none⟩ = some (.slice qz2 lz2 dz2) ∧ w'.cell? ⟨w.heap.size + 1, 6, none⟩ = some (.bool x2) ∧ w'.cell? ⟨w.heap.size + 1, 7, none⟩ = some (.bool y2) ∧ w'.cell? ⟨w.heap.size + 1, 8, none⟩ = some (.bool e2) ∧ Hid (QQ w [(w.heap.size, [.bool s1, .slice p1 k1 c1, .slice q1 l1 d1, .bool sz1, .slice pz1 kz1 cz1, .slice qz1 lz1 dz1, .bool x1, .bool y1, .bool e1]), (w.heap.size + 1, [.bool s2, .slice p2 k2 c2, .slice q2 l2 d2, .bool sz2, .slice pz2 kz2 cz2, .slice qz2 lz2 dz2, .bool x2, .bool y2, .bool e2])] w'))) :=
  hid fun w' hb => ⟨(hb.b1.cells9).1, (hb.b1.cells9).2.1, (hb.b1.cells9).2.2.1, (hb.b1.cells9).2.2.2.1, (hb.b1.cells9).2.2.2.2.1, (hb.b1.cells9).2.2.2.2.2.1, (hb.b1.cells9).2.2.2.2.2.2.1, (hb.b1.cells9).2.2.2.2.2.2.2.1, (hb.b1.cells9).2.2.2.2.2.2.2.2.1, (hb.b2.cells9).1, (hb.b2.cells9).2.1, (hb.b2.cells9).2.2.1, (hb.b2.cells9).2.2.2.1, (hb.b2.cells9).2.2.2.2.1, (hb.b2.cells9).2.2.2.2.2.1, (hb.b2.cells9).2.2.2.2.2.2.1, (hb.b2.cells9).2.2.2.2.2.2.2.1, (hb.b2.cells9).2.2.2.2.2.2.2.2.1, hid hb⟩
 have HNN : Hid (Apart [(w.heap.size, [.bool s1, .slice p1 k1 c1, .slice q1 l1 d1, .bool sz1, .slice pz1 kz1 cz1, .slice qz1 lz1 dz1, .bool x1, .bool y1, .bool e1]), (w.heap.size + 1, [.bool s2, .slice p2 k2 c2, .slice q2 l2 d2, .bool sz2, .slice pz2 kz2 cz2, .slice qz2 lz2 dz2, .bool x2, .bool y2, .bool e2])] (w.heap.size + 1 + 1)) := hid (ne2 (by omega) (by omega))
 have HI : Hid (w.heap.size ≤ w.heap.size + 1 + 1) := hid (by omega)
 go_region_held3 (fun w' => w'.cell? ⟨w.heap.size, 0, none⟩ = some (.bool s1) ∧ w'.cell? ⟨w.heap.size, 1, none⟩ = some (.slice p1 k1 c1) ∧ w'.cell? ⟨w.heap.size, 2, none⟩ = some (.slice q1 l1 d1) ∧ w'.cell? ⟨w.heap.size, 3, none⟩ = some (.bool sz1) ∧ w'.cell? ⟨w.heap.size, 4, none⟩ = some (.slice pz1 kz1 cz1) ∧ w'.cell? ⟨w.heap.size, 5, none⟩ = some (.slice qz1 lz1 dz1) ∧ w'.cell? ⟨w.heap.size, 6, none⟩ = some (.bool x1) ∧ w'.cell? ⟨w.heap.size, 7, none⟩ = some (.bool y1) ∧ w'.cell? ⟨w.heap.size, 8, none⟩ = some (.bool e1) ∧ w'.cell? ⟨w.heap.size + 1, 0, none⟩ = some (.bool s2) ∧ w'.cell? ⟨w.heap.size + 1, 1, none⟩ = some (.slice p2 k2 c2) ∧ w'.cell? ⟨w.heap.size + 1, 2, none⟩ = some (.slice q2 l2 d2) ∧ w'.cell? ⟨w.heap.size + 1, 3, none⟩ = some (.bool sz2) ∧ w'.cell? ⟨w.heap.size + 1, 4, none⟩ = some (.slice pz2 kz2 cz2) ∧ w'.cell? ⟨w.heap.size + 1, 5, none⟩ = some (.slice qz2 lz2 dz2) ∧ w'.cell? ⟨w.heap.size + 1, 6, none⟩ = some (.bool x2) ∧ w'.cell? ⟨w.heap.size + 1, 7, none⟩ = some (.bool y2) ∧ w'.cell? ⟨w.heap.size + 1, 8, none⟩ = some (.bool e2) ∧ Hid (QQ w [(w.heap.size, [.bool s1, .slice p1 k1 c1, .slice q1 l1 d1, .bool sz1, .slice pz1 kz1 cz1, .slice qz1 lz1 dz1, .bool x1, .bool y1, .bool e1]), (w.heap.size + 1, [.bool s2, .slice p2 k2 c2, .slice q2 l2 d2, .bool sz2, .slice pz2 kz2 cz2, .slice qz2 lz2 dz2, .bool x2, .bool y2, .bool e2])] w'))
  (first | (refine HS.out _ ?_; first | (with_reducible exact HQ.out.drew) | (with_reducible assumption) | (with_reducible refine QQ.st9 ?_ HNN.out HI.out; assumption)))
  (first
   | (go_at_call_of 117 p1; refine (HN.out _ HQ.out.drew.bel).mono ?_; rintro e wa ⟨s3, p3, k3, c3, q3, l3, d3, sz3, pz3, kz3, cz3, qz3, lz3, dz3, x3, y3, e3, rfl, hE1, hB1⟩; have hQ1 := HQ.out.drew.call hB1; have hV1 := HV.out.2.2.1.drew.below hB1)
   | (go_at_call_of 117 p2; refine (HM.out _ hQ1.bel).mono ?_; rintro e wb ⟨s4, p4, k4, c4, q4, l4, d4, sz4, pz4, kz4, cz4, qz4, lz4, dz4, x4, y4, e4, rfl, hE2, hB2⟩; have hQ2 := hQ1.call hB2; have hV2 := hV1.below hB2)
   | (go_at_call 61; refine (HL.out _ s3 p3 k3 c3 q3 l3 d3 sz3 pz3 kz3 cz3 qz3 lz3 dz3 x3 y3 e3 s4 p4 k4 c4 q4 l4 d4 sz4 pz4 kz4 cz4 qz4 lz4 dz4 x4 y4 e4 (JRep.below hE1.out hB2) hE2.out).mono ?_; rintro e wc ⟨s5, p5, k5, c5, q5, l5, d5, sz5, pz5, kz5, cz5, qz5, lz5, dz5, x5, y5, e5, rfl, hE3, hB3⟩; have hQ3 := hQ2.call hB3; have hV3 := hV2.below hB3)
   | (go_at_call 117; refine (HU.out _ s5 p5 k5 c5 q5 l5 d5 sz5 pz5 kz5 cz5 qz5 lz5 dz5 x5 y5 e5 hE3.out).mono ?_; rintro e wd ⟨s6, p6, k6, c6, q6, l6, d6, sz6, pz6, kz6, cz6, qz6, lz6, dz6, x6, y6, e6, rfl, hE4, hB4⟩; have hQ4 := hQ3.call hB4; have hV4 := hV3.below hB4; obtain ⟨g0, g1, g2, g3, g4, g5, g6, g7, g8, f0, f1, f2, f3, f4, f5, f6, f7, f8⟩ := hV4.cells9))
 rename_i hHeld
 clear hHeld
 have HE := hid (And.intro hV4 (And.intro hE4.out hQ4.bel))
 clear hQ1 hQ2 hQ3 hQ4 hV1 hV2 hV3 hV4 hB1 hB2 hB3 hB4 hE1 hE2 hE3 hE4
 go_wp2_with fail
 exact jUpper_ret rfl (HE.out.1.stores [.bool s6, .slice p6 k6 c6, .slice q6 l6 d6, .bool sz6, .slice pz6 kz6 cz6, .slice qz6 lz6 dz6, .bool x6, .bool y6, .bool e6] rfl nd_J) ⟨s6, p6, k6, c6, q6, l6, d6, sz6, pz6, kz6, cz6, qz6, lz6, dz6, x6, y6, e6, rfl, hid (JRep.stores (k := 0) (l := [.bool s6, .slice p6 k6 c6, .slice q6 l6 d6, .bool sz6, .slice pz6 kz6 cz6, .slice qz6 lz6 dz6, .bool x6, .bool y6, .bool e6]) HE.out.2.1 HE.out.1 nd_J), Below.stores (k := 0) (l := [.bool s6, .slice p6 k6 c6, .slice q6 l6 d6, .bool sz6, .slice pz6 kz6 cz6, .slice qz6 lz6 dz6, .bool x6, .bool y6, .bool e6]) HE.out.2.2 HI.out⟩
end Go.Proofs.YtimjoejkjgklaaaGreatDoor
namespace Go.Proofs.YtimjoejkjgklaaaGreatDoor
open Go.RowKit Dg
theorem pre2_ofJ {w W0 : World} {l1 l2 : List Value} {t1 t2 : Nat} (h : (w.alloc (.cells l1.toArray t1)).alloc (.cells l2.toArray t2) = W0) (h1 : NDs l1) (h2 : NDs l2) :
  Box W0 w.heap.size l1.toArray ∧ Box W0 (w.heap.size + 1) l2.toArray ∧ Below w.heap.size w W0 := by
 subst h
 exact pre2 w l1 l2 t1 t2 h1 h2
theorem jMin_ret {W : World} {B : Nat} {a0 a1 a2 a3 a4 a5 a6 a7 ev : Value} {tm : Array Value} {R : Ending → World → Prop} (h2 : tm[4]?.getD undef = .pointer (some ⟨B, 0, none⟩)) (h3 : tm[5]?.getD undef = ev) (hV : Box W B #[a0, a1, a2, a3, a4, a5, a6, a7]) (hR : R (.returned (.tuple #[.agg #[a0, a1, a2, a3, a4, a5, a6, a7], ev])) W) :
  bodyPost Tryz.prog Tryz.f22 R .ret { tmps := tm, defers := [] } W := by
 obtain ⟨g0, g1, g2, g3, g4, g5, g6, g7, _⟩ := hV.cells8
 exact bodyPost_ret (v := .tuple #[.agg #[a0, a1, a2, a3, a4, a5, a6, a7], ev]) (by simp [results, Tryz.results22, go_sem, h2, h3, g0, g1, g2, g3, g4, g5, g6, g7]) rfl hR
theorem jMin_err (s1 : Bool) (p1 : Option Addr) (k1 c1 : Nat) (q1 : Option Addr) (l1 d1 : Nat) (sz1 : Bool) (pz1 : Option Addr) (kz1 cz1 : Nat) (qz1 : Option Addr) (lz1 dz1 : Nat) (x1 : Bool) (y1 : Bool) (s2 : Bool) (p2 : Option Addr) (k2 c2 : Nat) (q2 : Option Addr) (l2 d2 : Nat) (sz2 : Bool) (pz2 : Option Addr) (kz2 cz2 : Nat) (qz2 : Option Addr) (lz2 dz2 : Nat) (x2 : Bool) (y2 : Bool) (w : World)
  (ho : ∀ W, Below w.heap.size w W → Calls Tryz.prog 60 #[.agg #[.bool s1, .slice p1 k1 c1, .slice q1 l1 d1, .bool sz1, .slice pz1 kz1 cz1, .slice qz1 lz1 dz1, .bool x1, .bool y1], .agg #[.bool s2, .slice p2 k2 c2, .slice q2 l2 d2, .bool sz2, .slice pz2 kz2 cz2, .slice qz2 lz2 dz2, .bool x2, .bool y2], .int .i64 0] W fun e w' => e = .returned (.tuple #[.agg #[.bool false, .slice none 0 0, .slice none 0 0, .bool false, .slice none 0 0, .slice none 0 0, .bool false, .bool false, .bool false], .agg #[.bool false, .slice none 0 0, .slice none 0 0, .bool false, .slice none 0 0, .slice none 0 0, .bool false, .bool false, .bool false], .int .i64 1]) ∧ Below W.heap.size W w') :
  Calls Tryz.prog 22 #[.agg #[.bool s1, .slice p1 k1 c1, .slice q1 l1 d1, .bool sz1, .slice pz1 kz1 cz1, .slice qz1 lz1 dz1, .bool x1, .bool y1], .agg #[.bool s2, .slice p2 k2 c2, .slice q2 l2 d2, .bool sz2, .slice pz2 kz2 cz2, .slice qz2 lz2 dz2, .bool x2, .bool y2]] w fun e w' => ∃ s5 p5 k5 c5 q5 l5 d5 sz5 pz5 kz5 cz5 qz5 lz5 dz5 x5 y5, e = .returned (.tuple #[.agg #[.bool s5, .slice p5 k5 c5, .slice q5 l5 d5, .bool sz5, .slice pz5 kz5 cz5, .slice qz5 lz5 dz5, .bool x5, .bool y5], .int .i64 1]) ∧ Hid (GRep w' (.agg #[.bool s5, .slice p5 k5 c5, .slice q5 l5 d5, .bool sz5, .slice pz5 kz5 cz5, .slice qz5 lz5 dz5, .bool x5, .bool y5]) gzero) ∧ Below w.heap.size w w' := by
 have HL := hid ho
 clear ho
 go_enter Tryz.func22, Tryz.ntmps22
 go_wp2_with fail
 have HV := hid (pre3 w [.bool s1, .slice p1 k1 c1, .slice q1 l1 d1, .bool sz1, .slice pz1 kz1 cz1, .slice qz1 lz1 dz1, .bool x1, .bool y1] [.bool s2, .slice p2 k2 c2, .slice q2 l2 d2, .bool sz2, .slice pz2 kz2 cz2, .slice qz2 lz2 dz2, .bool x2, .bool y2] [.bool false, .slice none 0 0, .slice none 0 0, .bool false, .slice none 0 0, .slice none 0 0, .bool false, .bool false] 26 26 26 nd8 nd8 nd8)
 generalize ((w.alloc (.cells #[.bool s1, .slice p1 k1 c1, .slice q1 l1 d1, .bool sz1, .slice pz1 kz1 cz1, .slice qz1 lz1 dz1, .bool x1, .bool y1] 26)).alloc (.cells #[.bool s2, .slice p2 k2 c2, .slice q2 l2 d2, .bool sz2, .slice pz2 kz2 cz2, .slice qz2 lz2 dz2, .bool x2, .bool y2] 26)).alloc (.cells #[.bool false, .slice none 0 0, .slice none 0 0, .bool false, .slice none 0 0, .slice none 0 0, .bool false, .bool false] 26) = W0 at *
 refine (HL.out _ HV.out.2.2.2).mono ?_
 rintro e w1 ⟨rfl, hB1⟩
 have HE := hid (And.intro (HV.out.2.2.1.below hB1) (HV.out.2.2.2.trans (hB1.mono HV.out.2.2.2.size)))
 clear hB1
 go_upto_region 3 with fail
 have hlt := HE.out.1.lt
 generalize hA : World.alloc _ _ = W1
 have HX : Hid (Below w1.heap.size w1 W1) := hid (by rw [← hA]; exact ((Below.refl _ _).alloc (Nat.le_refl _) _).alloc (by simp) _)
 clear hA
 have HE2 := hid (And.intro (HE.out.1.below HX.out) (HE.out.2.trans (HX.out.mono HE.out.2.size)))
 obtain ⟨g0, g1, g2, g3, g4, g5, g6, g7, f0, f1, f2, f3, f4, f5, f6, f7⟩ := HE2.out.1.cells8
 go_wp2_with fail
 exact jMin_ret rfl rfl (HE2.out.1.stores [.bool false, .slice none 0 0, .slice none 0 0, .bool false, .slice none 0 0, .slice none 0 0, .bool false, .bool false] rfl nd8) ⟨_, _, _, _, _, _, _, _, _, _, _, _, _, _, _, _, rfl, hid (GRep.stores (k := 0) (l := [.bool false, .slice none 0 0, .slice none 0 0, .bool false, .slice none 0 0, .slice none 0 0, .bool false, .bool false]) (GRep.zero W1) HE2.out.1 nd8), Below.stores (k := 0) (l := [.bool false, .slice none 0 0, .slice none 0 0, .bool false, .slice none 0 0, .slice none 0 0, .bool false, .bool false]) HE2.out.2 (by omega)⟩
theorem jMin_ok (s1 : Bool) (p1 : Option Addr) (k1 c1 : Nat) (q1 : Option Addr) (l1 d1 : Nat) (sz1 : Bool) (pz1 : Option Addr) (kz1 cz1 : Nat) (qz1 : Option Addr) (lz1 dz1 : Nat) (x1 : Bool) (y1 : Bool) (s2 : Bool) (p2 : Option Addr) (k2 c2 : Nat) (q2 : Option Addr) (l2 d2 : Nat) (sz2 : Bool) (pz2 : Option Addr) (kz2 cz2 : Nat) (qz2 : Option Addr) (lz2 dz2 : Nat) (x2 : Bool) (y2 : Bool) (J K : (Bool × Nat × Nat) × (Bool × Nat × Nat) × Bool × Bool × Bool) (w : World) (hJ : JGood J) (hK : JGood K)
  (ho : ∀ W, Below w.heap.size w W → Calls Tryz.prog 60 #[.agg #[.bool s1, .slice p1 k1 c1, .slice q1 l1 d1, .bool sz1, .slice pz1 kz1 cz1, .slice qz1 lz1 dz1, .bool x1, .bool y1], .agg #[.bool s2, .slice p2 k2 c2, .slice q2 l2 d2, .bool sz2, .slice pz2 kz2 cz2, .slice qz2 lz2 dz2, .bool x2, .bool y2], .int .i64 0] W fun e w' => ∃ s3 p3 k3 c3 q3 l3 d3 sz3 pz3 kz3 cz3 qz3 lz3 dz3 x3 y3 e3 s4 p4 k4 c4 q4 l4 d4 sz4 pz4 kz4 cz4 qz4 lz4 dz4 x4 y4 e4, e = .returned (.tuple #[.agg #[.bool s3, .slice p3 k3 c3, .slice q3 l3 d3, .bool sz3, .slice pz3 kz3 cz3, .slice qz3 lz3 dz3, .bool x3, .bool y3, .bool e3], .agg #[.bool s4, .slice p4 k4 c4, .slice q4 l4 d4, .bool sz4, .slice pz4 kz4 cz4, .slice qz4 lz4 dz4, .bool x4, .bool y4, .bool e4], .int .i64 0]) ∧ Hid (JRep w' (.agg #[.bool s3, .slice p3 k3 c3, .slice q3 l3 d3, .bool sz3, .slice pz3 kz3 cz3, .slice qz3 lz3 dz3, .bool x3, .bool y3, .bool e3]) J) ∧ Hid (JRep w' (.agg #[.bool s4, .slice p4 k4 c4, .slice q4 l4 d4, .bool sz4, .slice pz4 kz4 cz4, .slice qz4 lz4 dz4, .bool x4, .bool y4, .bool e4]) K) ∧ Below W.heap.size W w') :
  Calls Tryz.prog 22 #[.agg #[.bool s1, .slice p1 k1 c1, .slice q1 l1 d1, .bool sz1, .slice pz1 kz1 cz1, .slice qz1 lz1 dz1, .bool x1, .bool y1], .agg #[.bool s2, .slice p2 k2 c2, .slice q2 l2 d2, .bool sz2, .slice pz2 kz2 cz2, .slice qz2 lz2 dz2, .bool x2, .bool y2]] w fun e w' => ∃ s5 p5 k5 c5 q5 l5 d5 sz5 pz5 kz5 cz5 qz5 lz5 dz5 x5 y5, e = .returned (.tuple #[.agg #[.bool s5, .slice p5 k5 c5, .slice q5 l5 d5, .bool sz5, .slice pz5 kz5 cz5, .slice qz5 lz5 dz5, .bool x5, .bool y5], .int .i64 0]) ∧ Hid (GRep w' (.agg #[.bool s5, .slice p5 k5 c5, .slice q5 l5 d5, .bool sz5, .slice pz5 kz5 cz5, .slice qz5 lz5 dz5, .bool x5, .bool y5]) (japi (jlow J K))) ∧ Below w.heap.size w w' := by
 have HL := hid ho
 have HP := hid (fun (W : World) (s3 : Bool) (p3 : Option Addr) (k3 c3 : Nat) (q3 : Option Addr) (l3 d3 : Nat) (sz3 : Bool) (pz3 : Option Addr) (kz3 cz3 : Nat) (qz3 : Option Addr) (lz3 dz3 : Nat) (x3 : Bool) (y3 : Bool) (e3 : Bool) (s4 : Bool) (p4 : Option Addr) (k4 c4 : Nat) (q4 : Option Addr) (l4 d4 : Nat) (sz4 : Bool) (pz4 : Option Addr) (kz4 cz4 : Nat) (qz4 : Option Addr) (lz4 dz4 : Nat) (x4 : Bool) (y4 : Bool) (e4 : Bool) (h : JRep W (.agg #[.bool s3, .slice p3 k3 c3, .slice q3 l3 d3, .bool sz3, .slice pz3 kz3 cz3, .slice qz3 lz3 dz3, .bool x3, .bool y3, .bool e3]) J) (h' : JRep W (.agg #[.bool s4, .slice p4 k4 c4, .slice q4 l4 d4, .bool sz4, .slice pz4 kz4 cz4, .slice qz4 lz4 dz4, .bool x4, .bool y4, .bool e4]) K) => jLower_any s3 p3 k3 c3 q3 l3 d3 sz3 pz3 kz3 cz3 qz3 lz3 dz3 x3 y3 e3 s4 p4 k4 c4 q4 l4 d4 sz4 pz4 kz4 cz4 qz4 lz4 dz4 x4 y4 e4 _ _ W h h' hJ hK)
 have HA := hid (fun (W : World) (s3 : Bool) (p3 : Option Addr) (k3 c3 : Nat) (q3 : Option Addr) (l3 d3 : Nat) (sz3 : Bool) (pz3 : Option Addr) (kz3 cz3 : Nat) (qz3 : Option Addr) (lz3 dz3 : Nat) (x3 : Bool) (y3 : Bool) (e3 : Bool) (h : JRep W (.agg #[.bool s3, .slice p3 k3 c3, .slice q3 l3 d3, .bool sz3, .slice pz3 kz3 cz3, .slice qz3 lz3 dz3, .bool x3, .bool y3, .bool e3]) (jlow J K)) => jApi_any s3 p3 k3 c3 q3 l3 d3 sz3 pz3 kz3 cz3 qz3 lz3 dz3 x3 y3 e3 _ W h (jlow_good hJ hK).bd)
 clear ho hJ hK
 obtain ⟨r, hr⟩ : ∃ r, r = jlow J K := ⟨_, rfl⟩
 rw [← hr] at HP HA ⊢
 clear hr
 obtain ⟨D, hD⟩ : ∃ D, D = japi r := ⟨_, rfl⟩
 rw [← hD] at HA ⊢
 clear hD
 go_enter Tryz.func22, Tryz.ntmps22
 go_wp2_with fail
 have HV := hid (pre3 w [.bool s1, .slice p1 k1 c1, .slice q1 l1 d1, .bool sz1, .slice pz1 kz1 cz1, .slice qz1 lz1 dz1, .bool x1, .bool y1] [.bool s2, .slice p2 k2 c2, .slice q2 l2 d2, .bool sz2, .slice pz2 kz2 cz2, .slice qz2 lz2 dz2, .bool x2, .bool y2] [.bool false, .slice none 0 0, .slice none 0 0, .bool false, .slice none 0 0, .slice none 0 0, .bool false, .bool false] 26 26 26 nd8 nd8 nd8)
 generalize ((w.alloc (.cells #[.bool s1, .slice p1 k1 c1, .slice q1 l1 d1, .bool sz1, .slice pz1 kz1 cz1, .slice qz1 lz1 dz1, .bool x1, .bool y1] 26)).alloc (.cells #[.bool s2, .slice p2 k2 c2, .slice q2 l2 d2, .bool sz2, .slice pz2 kz2 cz2, .slice qz2 lz2 dz2, .bool x2, .bool y2] 26)).alloc (.cells #[.bool false, .slice none 0 0, .slice none 0 0, .bool false, .slice none 0 0, .slice none 0 0, .bool false, .bool false] 26) = W0 at *
 refine (HL.out _ HV.out.2.2.2).mono ?_
 rintro e w1 ⟨s3, p3, k3, c3, q3, l3, d3, sz3, pz3, kz3, cz3, qz3, lz3, dz3, x3, y3, e3, s4, p4, k4, c4, q4, l4, d4, sz4, pz4, kz4, cz4, qz4, lz4, dz4, x4, y4, e4, rfl, hJ, hK, hB1⟩
 have HE := hid (And.intro (HV.out.2.2.1.below hB1) (HV.out.2.2.2.trans (hB1.mono HV.out.2.2.2.size)))
 clear hB1
 go_upto_region 4 with fail
 have hlt := HE.out.1.lt
 generalize hA : World.alloc _ _ = W1
 have HX := hid (pre2_ofJ hA nd_J nd_J)
 clear hA
 have HJ := hid (hJ.out.below HX.out.2.2)
 have HK := hid (hK.out.below HX.out.2.2)
 clear hJ hK
 have HE2 := hid (And.intro (HE.out.1.below HX.out.2.2) (HE.out.2.trans (HX.out.2.2.mono HE.out.2.size)))
 obtain ⟨m0, m1, m2, m3, m4, m5, m6, m7, m8, _⟩ := HX.out.1.cells9
 obtain ⟨n0, n1, n2, n3, n4, n5, n6, n7, n8, _⟩ := HX.out.2.1.cells9
 go_wp2_with fail
 refine (HP.out _ s3 p3 k3 c3 q3 l3 d3 sz3 pz3 kz3 cz3 qz3 lz3 dz3 x3 y3 e3 s4 p4 k4 c4 q4 l4 d4 sz4 pz4 kz4 cz4 qz4 lz4 dz4 x4 y4 e4 HJ.out HK.out).mono ?_
 rintro e w2 ⟨s7, p7, k7, c7, q7, l7, d7, sz7, pz7, kz7, cz7, qz7, lz7, dz7, x7, y7, e7, rfl, hM, hB2⟩
 have HE3 := hid (And.intro (HE2.out.1.below hB2) (HE2.out.2.trans (hB2.mono HE2.out.2.size)))
 clear hB2 m0 m1 m2 m3 m4 m5 m6 m7 m8 n0 n1 n2 n3 n4 n5 n6 n7 n8
 go_wp2_with fail
 refine (HA.out _ s7 p7 k7 c7 q7 l7 d7 sz7 pz7 kz7 cz7 qz7 lz7 dz7 x7 y7 e7 hM.out).mono ?_
 rintro e w4 ⟨s5, p5, k5, c5, q5, l5, d5, sz5, pz5, kz5, cz5, qz5, lz5, dz5, x5, y5, rfl, hG, hB4⟩
 have HE5 := hid (And.intro (HE3.out.1.below hB4) (HE3.out.2.trans (hB4.mono HE3.out.2.size)))
 clear hB4
 obtain ⟨g0, g1, g2, g3, g4, g5, g6, g7, f0, f1, f2, f3, f4, f5, f6, f7⟩ := HE5.out.1.cells8
 go_wp2_with fail
 exact jMin_ret rfl rfl (HE5.out.1.stores [.bool s5, .slice p5 k5 c5, .slice q5 l5 d5, .bool sz5, .slice pz5 kz5 cz5, .slice qz5 lz5 dz5, .bool x5, .bool y5] rfl nd8) ⟨s5, p5, k5, c5, q5, l5, d5, sz5, pz5, kz5, cz5, qz5, lz5, dz5, x5, y5, rfl, hid (GRep.stores (k := 0) (l := [.bool s5, .slice p5 k5 c5, .slice q5 l5 d5, .bool sz5, .slice pz5 kz5 cz5, .slice qz5 lz5 dz5, .bool x5, .bool y5]) hG.out HE5.out.1 nd8), Below.stores (k := 0) (l := [.bool s5, .slice p5 k5 c5, .slice q5 l5 d5, .bool sz5, .slice pz5 kz5 cz5, .slice qz5 lz5 dz5, .bool x5, .bool y5]) HE5.out.2 (by omega)⟩
theorem jMin_any (s1 : Bool) (p1 : Option Addr) (k1 c1 : Nat) (q1 : Option Addr) (l1 d1 : Nat) (sz1 : Bool) (pz1 : Option Addr) (kz1 cz1 : Nat) (qz1 : Option Addr) (lz1 dz1 : Nat) (x1 : Bool) (y1 : Bool) (s2 : Bool) (p2 : Option Addr) (k2 c2 : Nat) (q2 : Option Addr) (l2 d2 : Nat) (sz2 : Bool) (pz2 : Option Addr) (kz2 cz2 : Nat) (qz2 : Option Addr) (lz2 dz2 : Nat) (x2 : Bool) (y2 : Bool) (a b a' b' : Bool × Nat × Nat) (w : World) (ha : NRep w (.agg #[.bool s1, .slice p1 k1 c1, .slice q1 l1 d1]) a) (hb : NRep w (.agg #[.bool sz1, .slice pz1 kz1 cz1, .slice qz1 lz1 dz1]) b) (ha' : NRep w (.agg #[.bool s2, .slice p2 k2 c2, .slice q2 l2 d2]) a') (hb' : NRep w (.agg #[.bool sz2, .slice pz2 kz2 cz2, .slice qz2 lz2 dz2]) b') :
  Calls Tryz.prog 22 #[.agg #[.bool s1, .slice p1 k1 c1, .slice q1 l1 d1, .bool sz1, .slice pz1 kz1 cz1, .slice qz1 lz1 dz1, .bool x1, .bool y1], .agg #[.bool s2, .slice p2 k2 c2, .slice q2 l2 d2, .bool sz2, .slice pz2 kz2 cz2, .slice qz2 lz2 dz2, .bool x2, .bool y2]] w fun e w' => ∃ s5 p5 k5 c5 q5 l5 d5 sz5 pz5 kz5 cz5 qz5 lz5 dz5 x5 y5, e = .returned (.tuple #[.agg #[.bool s5, .slice p5 k5 c5, .slice q5 l5 d5, .bool sz5, .slice pz5 kz5 cz5, .slice qz5 lz5 dz5, .bool x5, .bool y5], .int .i64 (jcode2 (a, b, x1, y1) (a', b', x2, y2))]) ∧ Hid (GRep w' (.agg #[.bool s5, .slice p5 k5 c5, .slice q5 l5 d5, .bool sz5, .slice pz5 kz5 cz5, .slice qz5 lz5 dz5, .bool x5, .bool y5]) (jval2 jlow (a, b, x1, y1) (a', b', x2, y2))) ∧ Below w.heap.size w w' := by
 cases hL : (ilarge (a, b, x1, y1) || ilarge (a', b', x2, y2))
 ·have hc : jcode2 (a, b, x1, y1) (a', b', x2, y2) = 0 := by unfold jcode2; rw [hL]; rfl
  have hv : jval2 jlow (a, b, x1, y1) (a', b', x2, y2) = japi (jlow (jof (a, b, x1, y1)) (jof (a', b', x2, y2))) := by unfold jval2; rw [hL]; rfl
  rw [hc, hv]
  rw [Bool.or_eq_false_iff] at hL
  have hl1 : (large a.2.1 a.2.2 || large b.2.1 b.2.2) = false := hL.1
  have hl2 : (large a'.2.1 a'.2.2 || large b'.2.1 b'.2.2) = false := hL.2
  rw [Bool.or_eq_false_iff] at hl1 hl2
  exact jMin_ok s1 p1 k1 c1 q1 l1 d1 sz1 pz1 kz1 cz1 qz1 lz1 dz1 x1 y1 s2 p2 k2 c2 q2 l2 d2 sz2 pz2 kz2 cz2 qz2 lz2 dz2 x2 y2 (jof (a, b, x1, y1)) (jof (a', b', x2, y2)) w (JGood.of hl1.1 hl1.2) (JGood.of hl2.1 hl2.2) fun W hW =>
   jTwo_ok s1 p1 k1 c1 q1 l1 d1 sz1 pz1 kz1 cz1 qz1 lz1 dz1 x1 y1 s2 p2 k2 c2 q2 l2 d2 sz2 pz2 kz2 cz2 qz2 lz2 dz2 x2 y2 a b a' b' 0 W (ha.below hW) (hb.below hW) (ha'.below hW) (hb'.below hW) hl1.1 hl1.2 hl2.1 hl2.2 (by omega) (by omega)
 ·have hc : jcode2 (a, b, x1, y1) (a', b', x2, y2) = 1 := by unfold jcode2; rw [hL]; rfl
  have hv : jval2 jlow (a, b, x1, y1) (a', b', x2, y2) = gzero := by unfold jval2; rw [hL]; rfl
  rw [hc, hv]
  exact jMin_err s1 p1 k1 c1 q1 l1 d1 sz1 pz1 kz1 cz1 qz1 lz1 dz1 x1 y1 s2 p2 k2 c2 q2 l2 d2 sz2 pz2 kz2 cz2 qz2 lz2 dz2 x2 y2 w fun W hW => by
   cases hl : ilarge (a, b, x1, y1)
   ·rw [hl, Bool.false_or] at hL
    exact jTwo_l2 s1 p1 k1 c1 q1 l1 d1 sz1 pz1 kz1 cz1 qz1 lz1 dz1 x1 y1 s2 p2 k2 c2 q2 l2 d2 sz2 pz2 kz2 cz2 qz2 lz2 dz2 x2 y2 a b a' b' 0 W (ha.below hW) (hb.below hW) (ha'.below hW) (hb'.below hW) hl hL
   ·exact jTwo_l1 s1 p1 k1 c1 q1 l1 d1 sz1 pz1 kz1 cz1 qz1 lz1 dz1 x1 y1 s2 p2 k2 c2 q2 l2 d2 sz2 pz2 kz2 cz2 qz2 lz2 dz2 x2 y2 a b 0 W (ha.below hW) (hb.below hW) hl
theorem jMax_ret {W : World} {B : Nat} {a0 a1 a2 a3 a4 a5 a6 a7 ev : Value} {tm : Array Value} {R : Ending → World → Prop} (h2 : tm[4]?.getD undef = .pointer (some ⟨B, 0, none⟩)) (h3 : tm[5]?.getD undef = ev) (hV : Box W B #[a0, a1, a2, a3, a4, a5, a6, a7]) (hR : R (.returned (.tuple #[.agg #[a0, a1, a2, a3, a4, a5, a6, a7], ev])) W) :
  bodyPost Tryz.prog Tryz.f24 R .ret { tmps := tm, defers := [] } W := by
 obtain ⟨g0, g1, g2, g3, g4, g5, g6, g7, _⟩ := hV.cells8
 exact bodyPost_ret (v := .tuple #[.agg #[a0, a1, a2, a3, a4, a5, a6, a7], ev]) (by simp [results, Tryz.results24, go_sem, h2, h3, g0, g1, g2, g3, g4, g5, g6, g7]) rfl hR
theorem jMax_err (s1 : Bool) (p1 : Option Addr) (k1 c1 : Nat) (q1 : Option Addr) (l1 d1 : Nat) (sz1 : Bool) (pz1 : Option Addr) (kz1 cz1 : Nat) (qz1 : Option Addr) (lz1 dz1 : Nat) (x1 : Bool) (y1 : Bool) (s2 : Bool) (p2 : Option Addr) (k2 c2 : Nat) (q2 : Option Addr) (l2 d2 : Nat) (sz2 : Bool) (pz2 : Option Addr) (kz2 cz2 : Nat) (qz2 : Option Addr) (lz2 dz2 : Nat) (x2 : Bool) (y2 : Bool) (w : World)
  (ho : ∀ W, Below w.heap.size w W → Calls Tryz.prog 60 #[.agg #[.bool s1, .slice p1 k1 c1, .slice q1 l1 d1, .bool sz1, .slice pz1 kz1 cz1, .slice qz1 lz1 dz1, .bool x1, .bool y1], .agg #[.bool s2, .slice p2 k2 c2, .slice q2 l2 d2, .bool sz2, .slice pz2 kz2 cz2, .slice qz2 lz2 dz2, .bool x2, .bool y2], .int .i64 0] W fun e w' => e = .returned (.tuple #[.agg #[.bool false, .slice none 0 0, .slice none 0 0, .bool false, .slice none 0 0, .slice none 0 0, .bool false, .bool false, .bool false], .agg #[.bool false, .slice none 0 0, .slice none 0 0, .bool false, .slice none 0 0, .slice none 0 0, .bool false, .bool false, .bool false], .int .i64 1]) ∧ Below W.heap.size W w') :
  Calls Tryz.prog 24 #[.agg #[.bool s1, .slice p1 k1 c1, .slice q1 l1 d1, .bool sz1, .slice pz1 kz1 cz1, .slice qz1 lz1 dz1, .bool x1, .bool y1], .agg #[.bool s2, .slice p2 k2 c2, .slice q2 l2 d2, .bool sz2, .slice pz2 kz2 cz2, .slice qz2 lz2 dz2, .bool x2, .bool y2]] w fun e w' => ∃ s5 p5 k5 c5 q5 l5 d5 sz5 pz5 kz5 cz5 qz5 lz5 dz5 x5 y5, e = .returned (.tuple #[.agg #[.bool s5, .slice p5 k5 c5, .slice q5 l5 d5, .bool sz5, .slice pz5 kz5 cz5, .slice qz5 lz5 dz5, .bool x5, .bool y5], .int .i64 1]) ∧ Hid (GRep w' (.agg #[.bool s5, .slice p5 k5 c5, .slice q5 l5 d5, .bool sz5, .slice pz5 kz5 cz5, .slice qz5 lz5 dz5, .bool x5, .bool y5]) gzero) ∧ Below w.heap.size w w' := by
 have HL := hid ho
 clear ho
 go_enter Tryz.func24, Tryz.ntmps24
 go_wp2_with fail
 have HV := hid (pre3 w [.bool s1, .slice p1 k1 c1, .slice q1 l1 d1, .bool sz1, .slice pz1 kz1 cz1, .slice qz1 lz1 dz1, .bool x1, .bool y1] [.bool s2, .slice p2 k2 c2, .slice q2 l2 d2, .bool sz2, .slice pz2 kz2 cz2, .slice qz2 lz2 dz2, .bool x2, .bool y2] [.bool false, .slice none 0 0, .slice none 0 0, .bool false, .slice none 0 0, .slice none 0 0, .bool false, .bool false] 26 26 26 nd8 nd8 nd8)
 generalize ((w.alloc (.cells #[.bool s1, .slice p1 k1 c1, .slice q1 l1 d1, .bool sz1, .slice pz1 kz1 cz1, .slice qz1 lz1 dz1, .bool x1, .bool y1] 26)).alloc (.cells #[.bool s2, .slice p2 k2 c2, .slice q2 l2 d2, .bool sz2, .slice pz2 kz2 cz2, .slice qz2 lz2 dz2, .bool x2, .bool y2] 26)).alloc (.cells #[.bool false, .slice none 0 0, .slice none 0 0, .bool false, .slice none 0 0, .slice none 0 0, .bool false, .bool false] 26) = W0 at *
 refine (HL.out _ HV.out.2.2.2).mono ?_
 rintro e w1 ⟨rfl, hB1⟩
 have HE := hid (And.intro (HV.out.2.2.1.below hB1) (HV.out.2.2.2.trans (hB1.mono HV.out.2.2.2.size)))
 clear hB1
 go_upto_region 3 with fail
 have hlt := HE.out.1.lt
 generalize hA : World.alloc _ _ = W1
 have HX : Hid (Below w1.heap.size w1 W1) := hid (by rw [← hA]; exact ((Below.refl _ _).alloc (Nat.le_refl _) _).alloc (by simp) _)
 clear hA
 have HE2 := hid (And.intro (HE.out.1.below HX.out) (HE.out.2.trans (HX.out.mono HE.out.2.size)))
 obtain ⟨g0, g1, g2, g3, g4, g5, g6, g7, f0, f1, f2, f3, f4, f5, f6, f7⟩ := HE2.out.1.cells8
 go_wp2_with fail
 exact jMax_ret rfl rfl (HE2.out.1.stores [.bool false, .slice none 0 0, .slice none 0 0, .bool false, .slice none 0 0, .slice none 0 0, .bool false, .bool false] rfl nd8) ⟨_, _, _, _, _, _, _, _, _, _, _, _, _, _, _, _, rfl, hid (GRep.stores (k := 0) (l := [.bool false, .slice none 0 0, .slice none 0 0, .bool false, .slice none 0 0, .slice none 0 0, .bool false, .bool false]) (GRep.zero W1) HE2.out.1 nd8), Below.stores (k := 0) (l := [.bool false, .slice none 0 0, .slice none 0 0, .bool false, .slice none 0 0, .slice none 0 0, .bool false, .bool false]) HE2.out.2 (by omega)⟩
theorem jMax_ok (s1 : Bool) (p1 : Option Addr) (k1 c1 : Nat) (q1 : Option Addr) (l1 d1 : Nat) (sz1 : Bool) (pz1 : Option Addr) (kz1 cz1 : Nat) (qz1 : Option Addr) (lz1 dz1 : Nat) (x1 : Bool) (y1 : Bool) (s2 : Bool) (p2 : Option Addr) (k2 c2 : Nat) (q2 : Option Addr) (l2 d2 : Nat) (sz2 : Bool) (pz2 : Option Addr) (kz2 cz2 : Nat) (qz2 : Option Addr) (lz2 dz2 : Nat) (x2 : Bool) (y2 : Bool) (J K : (Bool × Nat × Nat) × (Bool × Nat × Nat) × Bool × Bool × Bool) (w : World) (hJ : JGood J) (hK : JGood K)
  (ho : ∀ W, Below w.heap.size w W → Calls Tryz.prog 60 #[.agg #[.bool s1, .slice p1 k1 c1, .slice q1 l1 d1, .bool sz1, .slice pz1 kz1 cz1, .slice qz1 lz1 dz1, .bool x1, .bool y1], .agg #[.bool s2, .slice p2 k2 c2, .slice q2 l2 d2, .bool sz2, .slice pz2 kz2 cz2, .slice qz2 lz2 dz2, .bool x2, .bool y2], .int .i64 0] W fun e w' => ∃ s3 p3 k3 c3 q3 l3 d3 sz3 pz3 kz3 cz3 qz3 lz3 dz3 x3 y3 e3 s4 p4 k4 c4 q4 l4 d4 sz4 pz4 kz4 cz4 qz4 lz4 dz4 x4 y4 e4, e = .returned (.tuple #[.agg #[.bool s3, .slice p3 k3 c3, .slice q3 l3 d3, .bool sz3, .slice pz3 kz3 cz3, .slice qz3 lz3 dz3, .bool x3, .bool y3, .bool e3], .agg #[.bool s4, .slice p4 k4 c4, .slice q4 l4 d4, .bool sz4, .slice pz4 kz4 cz4, .slice qz4 lz4 dz4, .bool x4, .bool y4, .bool e4], .int .i64 0]) ∧ Hid (JRep w' (.agg #[.bool s3, .slice p3 k3 c3, .slice q3 l3 d3, .bool sz3, .slice pz3 kz3 cz3, .slice qz3 lz3 dz3, .bool x3, .bool y3, .bool e3]) J) ∧ Hid (JRep w' (.agg #[.bool s4, .slice p4 k4 c4, .slice q4 l4 d4, .bool sz4, .slice pz4 kz4 cz4, .slice qz4 lz4 dz4, .bool x4, .bool y4, .bool e4]) K) ∧ Below W.heap.size W w') :
  Calls Tryz.prog 24 #[.agg #[.bool s1, .slice p1 k1 c1, .slice q1 l1 d1, .bool sz1, .slice pz1 kz1 cz1, .slice qz1 lz1 dz1, .bool x1, .bool y1], .agg #[.bool s2, .slice p2 k2 c2, .slice q2 l2 d2, .bool sz2, .slice pz2 kz2 cz2, .slice qz2 lz2 dz2, .bool x2, .bool y2]] w fun e w' => ∃ s5 p5 k5 c5 q5 l5 d5 sz5 pz5 kz5 cz5 qz5 lz5 dz5 x5 y5, e = .returned (.tuple #[.agg #[.bool s5, .slice p5 k5 c5, .slice q5 l5 d5, .bool sz5, .slice pz5 kz5 cz5, .slice qz5 lz5 dz5, .bool x5, .bool y5], .int .i64 0]) ∧ Hid (GRep w' (.agg #[.bool s5, .slice p5 k5 c5, .slice q5 l5 d5, .bool sz5, .slice pz5 kz5 cz5, .slice qz5 lz5 dz5, .bool x5, .bool y5]) (japi (jupp J K))) ∧ Below w.heap.size w w' := by
 have HL := hid ho
 have HP := hid (fun (W : World) (s3 : Bool) (p3 : Option Addr) (k3 c3 : Nat) (q3 : Option Addr) (l3 d3 : Nat) (sz3 : Bool) (pz3 : Option Addr) (kz3 cz3 : Nat) (qz3 : Option Addr) (lz3 dz3 : Nat) (x3 : Bool) (y3 : Bool) (e3 : Bool) (s4 : Bool) (p4 : Option Addr) (k4 c4 : Nat) (q4 : Option Addr) (l4 d4 : Nat) (sz4 : Bool) (pz4 : Option Addr) (kz4 cz4 : Nat) (qz4 : Option Addr) (lz4 dz4 : Nat) (x4 : Bool) (y4 : Bool) (e4 : Bool) (h : JRep W (.agg #[.bool s3, .slice p3 k3 c3, .slice q3 l3 d3, .bool sz3, .slice pz3 kz3 cz3, .slice qz3 lz3 dz3, .bool x3, .bool y3, .bool e3]) J) (h' : JRep W (.agg #[.bool s4, .slice p4 k4 c4, .slice q4 l4 d4, .bool sz4, .slice pz4 kz4 cz4, .slice qz4 lz4 dz4, .bool x4, .bool y4, .bool e4]) K) => jUpper_any s3 p3 k3 c3 q3 l3 d3 sz3 pz3 kz3 cz3 qz3 lz3 dz3 x3 y3 e3 s4 p4 k4 c4 q4 l4 d4 sz4 pz4 kz4 cz4 qz4 lz4 dz4 x4 y4 e4 _ _ W h h' hJ hK)
 have HA := hid (fun (W : World) (s3 : Bool) (p3 : Option Addr) (k3 c3 : Nat) (q3 : Option Addr) (l3 d3 : Nat) (sz3 : Bool) (pz3 : Option Addr) (kz3 cz3 : Nat) (qz3 : Option Addr) (lz3 dz3 : Nat) (x3 : Bool) (y3 : Bool) (e3 : Bool) (h : JRep W (.agg #[.bool s3, .slice p3 k3 c3, .slice q3 l3 d3, .bool sz3, .slice pz3 kz3 cz3, .slice qz3 lz3 dz3, .bool x3, .bool y3, .bool e3]) (jupp J K)) => jApi_any s3 p3 k3 c3 q3 l3 d3 sz3 pz3 kz3 cz3 qz3 lz3 dz3 x3 y3 e3 _ W h (jupp_good hJ hK).bd)
 clear ho hJ hK
 obtain ⟨r, hr⟩ : ∃ r, r = jupp J K := ⟨_, rfl⟩
 rw [← hr] at HP HA ⊢
 clear hr
 obtain ⟨D, hD⟩ : ∃ D, D = japi r := ⟨_, rfl⟩
 rw [← hD] at HA ⊢
 clear hD
 go_enter Tryz.func24, Tryz.ntmps24
 go_wp2_with fail
 have HV := hid (pre3 w [.bool s1, .slice p1 k1 c1, .slice q1 l1 d1, .bool sz1, .slice pz1 kz1 cz1, .slice qz1 lz1 dz1, .bool x1, .bool y1] [.bool s2, .slice p2 k2 c2, .slice q2 l2 d2, .bool sz2, .slice pz2 kz2 cz2, .slice qz2 lz2 dz2, .bool x2, .bool y2] [.bool false, .slice none 0 0, .slice none 0 0, .bool false, .slice none 0 0, .slice none 0 0, .bool false, .bool false] 26 26 26 nd8 nd8 nd8)
 generalize ((w.alloc (.cells #[.bool s1, .slice p1 k1 c1, .slice q1 l1 d1, .bool sz1, .slice pz1 kz1 cz1, .slice qz1 lz1 dz1, .bool x1, .bool y1] 26)).alloc (.cells #[.bool s2, .slice p2 k2 c2, .slice q2 l2 d2, .bool sz2, .slice pz2 kz2 cz2, .slice qz2 lz2 dz2, .bool x2, .bool y2] 26)).alloc (.cells #[.bool false, .slice none 0 0, .slice none 0 0, .bool false, .slice none 0 0, .slice none 0 0, .bool false, .bool false] 26) = W0 at *
 refine (HL.out _ HV.out.2.2.2).mono ?_
 rintro e w1 ⟨s3, p3, k3, c3, q3, l3, d3, sz3, pz3, kz3, cz3, qz3, lz3, dz3, x3, y3, e3, s4, p4, k4, c4, q4, l4, d4, sz4, pz4, kz4, cz4, qz4, lz4, dz4, x4, y4, e4, rfl, hJ, hK, hB1⟩
 have HE := hid (And.intro (HV.out.2.2.1.below hB1) (HV.out.2.2.2.trans (hB1.mono HV.out.2.2.2.size)))
 clear hB1
 go_upto_region 4 with fail
 have hlt := HE.out.1.lt
 generalize hA : World.alloc _ _ = W1
 have HX := hid (pre2_ofJ hA nd_J nd_J)
 clear hA
 have HJ := hid (hJ.out.below HX.out.2.2)
 have HK := hid (hK.out.below HX.out.2.2)
 clear hJ hK
 have HE2 := hid (And.intro (HE.out.1.below HX.out.2.2) (HE.out.2.trans (HX.out.2.2.mono HE.out.2.size)))
 obtain ⟨m0, m1, m2, m3, m4, m5, m6, m7, m8, _⟩ := HX.out.1.cells9
 obtain ⟨n0, n1, n2, n3, n4, n5, n6, n7, n8, _⟩ := HX.out.2.1.cells9
 go_wp2_with fail
 refine (HP.out _ s3 p3 k3 c3 q3 l3 d3 sz3 pz3 kz3 cz3 qz3 lz3 dz3 x3 y3 e3 s4 p4 k4 c4 q4 l4 d4 sz4 pz4 kz4 cz4 qz4 lz4 dz4 x4 y4 e4 HJ.out HK.out).mono ?_
 rintro e w2 ⟨s7, p7, k7, c7, q7, l7, d7, sz7, pz7, kz7, cz7, qz7, lz7, dz7, x7, y7, e7, rfl, hM, hB2⟩
 have HE3 := hid (And.intro (HE2.out.1.below hB2) (HE2.out.2.trans (hB2.mono HE2.out.2.size)))
 clear hB2 m0 m1 m2 m3 m4 m5 m6 m7 m8 n0 n1 n2 n3 n4 n5 n6 n7 n8
 go_wp2_with fail
 refine (HA.out _ s7 p7 k7 c7 q7 l7 d7 sz7 pz7 kz7 cz7 qz7 lz7 dz7 x7 y7 e7 hM.out).mono ?_
 rintro e w4 ⟨s5, p5, k5, c5, q5, l5, d5, sz5, pz5, kz5, cz5, qz5, lz5, dz5, x5, y5, rfl, hG, hB4⟩
 have HE5 := hid (And.intro (HE3.out.1.below hB4) (HE3.out.2.trans (hB4.mono HE3.out.2.size)))
 clear hB4
 obtain ⟨g0, g1, g2, g3, g4, g5, g6, g7, f0, f1, f2, f3, f4, f5, f6, f7⟩ := HE5.out.1.cells8
 go_wp2_with fail
 exact jMax_ret rfl rfl (HE5.out.1.stores [.bool s5, .slice p5 k5 c5, .slice q5 l5 d5, .bool sz5, .slice pz5 kz5 cz5, .slice qz5 lz5 dz5, .bool x5, .bool y5] rfl nd8) ⟨s5, p5, k5, c5, q5, l5, d5, sz5, pz5, kz5, cz5, qz5, lz5, dz5, x5, y5, rfl, hid (GRep.stores (k := 0) (l := [.bool s5, .slice p5 k5 c5, .slice q5 l5 d5, .bool sz5, .slice pz5 kz5 cz5, .slice qz5 lz5 dz5, .bool x5, .bool y5]) hG.out HE5.out.1 nd8), Below.stores (k := 0) (l := [.bool s5, .slice p5 k5 c5, .slice q5 l5 d5, .bool sz5, .slice pz5 kz5 cz5, .slice qz5 lz5 dz5, .bool x5, .bool y5]) HE5.out.2 (by omega)⟩
theorem jMax_any (s1 : Bool) (p1 : Option Addr) (k1 c1 : Nat) (q1 : Option Addr) (l1 d1 : Nat) (sz1 : Bool) (pz1 : Option Addr) (kz1 cz1 : Nat) (qz1 : Option Addr) (lz1 dz1 : Nat) (x1 : Bool) (y1 : Bool) (s2 : Bool) (p2 : Option Addr) (k2 c2 : Nat) (q2 : Option Addr) (l2 d2 : Nat) (sz2 : Bool) (pz2 : Option Addr) (kz2 cz2 : Nat) (qz2 : Option Addr) (lz2 dz2 : Nat) (x2 : Bool) (y2 : Bool) (a b a' b' : Bool × Nat × Nat) (w : World) (ha : NRep w (.agg #[.bool s1, .slice p1 k1 c1, .slice q1 l1 d1]) a) (hb : NRep w (.agg #[.bool sz1, .slice pz1 kz1 cz1, .slice qz1 lz1 dz1]) b) (ha' : NRep w (.agg #[.bool s2, .slice p2 k2 c2, .slice q2 l2 d2]) a') (hb' : NRep w (.agg #[.bool sz2, .slice pz2 kz2 cz2, .slice qz2 lz2 dz2]) b') :
  Calls Tryz.prog 24 #[.agg #[.bool s1, .slice p1 k1 c1, .slice q1 l1 d1, .bool sz1, .slice pz1 kz1 cz1, .slice qz1 lz1 dz1, .bool x1, .bool y1], .agg #[.bool s2, .slice p2 k2 c2, .slice q2 l2 d2, .bool sz2, .slice pz2 kz2 cz2, .slice qz2 lz2 dz2, .bool x2, .bool y2]] w fun e w' => ∃ s5 p5 k5 c5 q5 l5 d5 sz5 pz5 kz5 cz5 qz5 lz5 dz5 x5 y5, e = .returned (.tuple #[.agg #[.bool s5, .slice p5 k5 c5, .slice q5 l5 d5, .bool sz5, .slice pz5 kz5 cz5, .slice qz5 lz5 dz5, .bool x5, .bool y5], .int .i64 (jcode2 (a, b, x1, y1) (a', b', x2, y2))]) ∧ Hid (GRep w' (.agg #[.bool s5, .slice p5 k5 c5, .slice q5 l5 d5, .bool sz5, .slice pz5 kz5 cz5, .slice qz5 lz5 dz5, .bool x5, .bool y5]) (jval2 jupp (a, b, x1, y1) (a', b', x2, y2))) ∧ Below w.heap.size w w' := by
 cases hL : (ilarge (a, b, x1, y1) || ilarge (a', b', x2, y2))
 ·have hc : jcode2 (a, b, x1, y1) (a', b', x2, y2) = 0 := by unfold jcode2; rw [hL]; rfl
  have hv : jval2 jupp (a, b, x1, y1) (a', b', x2, y2) = japi (jupp (jof (a, b, x1, y1)) (jof (a', b', x2, y2))) := by unfold jval2; rw [hL]; rfl
  rw [hc, hv]
  rw [Bool.or_eq_false_iff] at hL
  have hl1 : (large a.2.1 a.2.2 || large b.2.1 b.2.2) = false := hL.1
  have hl2 : (large a'.2.1 a'.2.2 || large b'.2.1 b'.2.2) = false := hL.2
  rw [Bool.or_eq_false_iff] at hl1 hl2
  exact jMax_ok s1 p1 k1 c1 q1 l1 d1 sz1 pz1 kz1 cz1 qz1 lz1 dz1 x1 y1 s2 p2 k2 c2 q2 l2 d2 sz2 pz2 kz2 cz2 qz2 lz2 dz2 x2 y2 (jof (a, b, x1, y1)) (jof (a', b', x2, y2)) w (JGood.of hl1.1 hl1.2) (JGood.of hl2.1 hl2.2) fun W hW =>
   jTwo_ok s1 p1 k1 c1 q1 l1 d1 sz1 pz1 kz1 cz1 qz1 lz1 dz1 x1 y1 s2 p2 k2 c2 q2 l2 d2 sz2 pz2 kz2 cz2 qz2 lz2 dz2 x2 y2 a b a' b' 0 W (ha.below hW) (hb.below hW) (ha'.below hW) (hb'.below hW) hl1.1 hl1.2 hl2.1 hl2.2 (by omega) (by omega)
 ·have hc : jcode2 (a, b, x1, y1) (a', b', x2, y2) = 1 := by unfold jcode2; rw [hL]; rfl
  have hv : jval2 jupp (a, b, x1, y1) (a', b', x2, y2) = gzero := by unfold jval2; rw [hL]; rfl
  rw [hc, hv]
  exact jMax_err s1 p1 k1 c1 q1 l1 d1 sz1 pz1 kz1 cz1 qz1 lz1 dz1 x1 y1 s2 p2 k2 c2 q2 l2 d2 sz2 pz2 kz2 cz2 qz2 lz2 dz2 x2 y2 w fun W hW => by
   cases hl : ilarge (a, b, x1, y1)
   ·rw [hl, Bool.false_or] at hL
    exact jTwo_l2 s1 p1 k1 c1 q1 l1 d1 sz1 pz1 kz1 cz1 qz1 lz1 dz1 x1 y1 s2 p2 k2 c2 q2 l2 d2 sz2 pz2 kz2 cz2 qz2 lz2 dz2 x2 y2 a b a' b' 0 W (ha.below hW) (hb.below hW) (ha'.below hW) (hb'.below hW) hl hL
   ·exact jTwo_l1 s1 p1 k1 c1 q1 l1 d1 sz1 pz1 kz1 cz1 qz1 lz1 dz1 x1 y1 s2 p2 k2 c2 q2 l2 d2 sz2 pz2 kz2 cz2 qz2 lz2 dz2 x2 y2 a b 0 W (ha.below hW) (hb.below hW) hl
end Go.Proofs.YtimjoejkjgklaaaGreatDoor
namespace Go.Proofs.YtimjoejkjgklaaaGreatDoor
open Go.RowKit Dg
theorem iMin_j (s1 : Bool) (p1 : Option Addr) (k1 c1 : Nat) (q1 : Option Addr) (l1 d1 : Nat) (sz1 : Bool) (pz1 : Option Addr) (kz1 cz1 : Nat) (qz1 : Option Addr) (lz1 dz1 : Nat) (x1 : Bool) (y1 : Bool) (s2 : Bool) (p2 : Option Addr) (k2 c2 : Nat) (q2 : Option Addr) (l2 d2 : Nat) (sz2 : Bool) (pz2 : Option Addr) (kz2 cz2 : Nat) (qz2 : Option Addr) (lz2 dz2 : Nat) (x2 : Bool) (y2 : Bool) (a b a' b' : Bool × Nat × Nat) (w : World) (ha : NRep w (.agg #[.bool s1, .slice p1 k1 c1, .slice q1 l1 d1]) a) (hb : NRep w (.agg #[.bool sz1, .slice pz1 kz1 cz1, .slice qz1 lz1 dz1]) b) (ha' : NRep w (.agg #[.bool s2, .slice p2 k2 c2, .slice q2 l2 d2]) a') (hb' : NRep w (.agg #[.bool sz2, .slice pz2 kz2 cz2, .slice qz2 lz2 dz2]) b') (ht : TabOk w) :
  Calls Tryz.prog 21 #[.agg #[.bool s1, .slice p1 k1 c1, .slice q1 l1 d1, .bool sz1, .slice pz1 kz1 cz1, .slice qz1 lz1 dz1, .bool x1, .bool y1], .agg #[.bool s2, .slice p2 k2 c2, .slice q2 l2 d2, .bool sz2, .slice pz2 kz2 cz2, .slice qz2 lz2 dz2, .bool x2, .bool y2]] w fun e w' => ∃ s5 p5 k5 c5 q5 l5 d5 sz5 pz5 kz5 cz5 qz5 lz5 dz5 x5 y5, e = .returned (.tuple #[.agg #[.bool s5, .slice p5 k5 c5, .slice q5 l5 d5, .bool sz5, .slice pz5 kz5 cz5, .slice qz5 lz5 dz5, .bool x5, .bool y5], .int .i64 (jcode2 (a, b, x1, y1) (a', b', x2, y2))]) ∧ Hid (GRep w' (.agg #[.bool s5, .slice p5 k5 c5, .slice q5 l5 d5, .bool sz5, .slice pz5 kz5 cz5, .slice qz5 lz5 dz5, .bool x5, .bool y5]) (jval2 jlow (a, b, x1, y1) (a', b', x2, y2))) ∧ Below w.heap.size w w' := by
 have h := iMin_any s1 p1 k1 c1 q1 l1 d1 sz1 pz1 kz1 cz1 qz1 lz1 dz1 x1 y1 s2 p2 k2 c2 q2 l2 d2 sz2 pz2 kz2 cz2 qz2 lz2 dz2 x2 y2 a b a' b' w ha hb ha' hb' ht
 have es := jop_same jop_less a b a' b' x1 y1 x2 y2
 rw [es.1, es.2] at h
 exact h
theorem iMax_j (s1 : Bool) (p1 : Option Addr) (k1 c1 : Nat) (q1 : Option Addr) (l1 d1 : Nat) (sz1 : Bool) (pz1 : Option Addr) (kz1 cz1 : Nat) (qz1 : Option Addr) (lz1 dz1 : Nat) (x1 : Bool) (y1 : Bool) (s2 : Bool) (p2 : Option Addr) (k2 c2 : Nat) (q2 : Option Addr) (l2 d2 : Nat) (sz2 : Bool) (pz2 : Option Addr) (kz2 cz2 : Nat) (qz2 : Option Addr) (lz2 dz2 : Nat) (x2 : Bool) (y2 : Bool) (a b a' b' : Bool × Nat × Nat) (w : World) (ha : NRep w (.agg #[.bool s1, .slice p1 k1 c1, .slice q1 l1 d1]) a) (hb : NRep w (.agg #[.bool sz1, .slice pz1 kz1 cz1, .slice qz1 lz1 dz1]) b) (ha' : NRep w (.agg #[.bool s2, .slice p2 k2 c2, .slice q2 l2 d2]) a') (hb' : NRep w (.agg #[.bool sz2, .slice pz2 kz2 cz2, .slice qz2 lz2 dz2]) b') (ht : TabOk w) :
  Calls Tryz.prog 23 #[.agg #[.bool s1, .slice p1 k1 c1, .slice q1 l1 d1, .bool sz1, .slice pz1 kz1 cz1, .slice qz1 lz1 dz1, .bool x1, .bool y1], .agg #[.bool s2, .slice p2 k2 c2, .slice q2 l2 d2, .bool sz2, .slice pz2 kz2 cz2, .slice qz2 lz2 dz2, .bool x2, .bool y2]] w fun e w' => ∃ s5 p5 k5 c5 q5 l5 d5 sz5 pz5 kz5 cz5 qz5 lz5 dz5 x5 y5, e = .returned (.tuple #[.agg #[.bool s5, .slice p5 k5 c5, .slice q5 l5 d5, .bool sz5, .slice pz5 kz5 cz5, .slice qz5 lz5 dz5, .bool x5, .bool y5], .int .i64 (jcode2 (a, b, x1, y1) (a', b', x2, y2))]) ∧ Hid (GRep w' (.agg #[.bool s5, .slice p5 k5 c5, .slice q5 l5 d5, .bool sz5, .slice pz5 kz5 cz5, .slice qz5 lz5 dz5, .bool x5, .bool y5]) (jval2 jupp (a, b, x1, y1) (a', b', x2, y2))) ∧ Below w.heap.size w w' := by
 have h := iMax_any s1 p1 k1 c1 q1 l1 d1 sz1 pz1 kz1 cz1 qz1 lz1 dz1 x1 y1 s2 p2 k2 c2 q2 l2 d2 sz2 pz2 kz2 cz2 qz2 lz2 dz2 x2 y2 a b a' b' w ha hb ha' hb' ht
 have es := jop_same jop_most a b a' b' x1 y1 x2 y2
 rw [es.1, es.2] at h
 exact h
theorem IntervalLimits_iv (s1 : Bool) (p1 : Option Addr) (k1 c1 : Nat) (q1 : Option Addr) (l1 d1 : Nat) (sz1 : Bool) (pz1 : Option Addr) (kz1 cz1 : Nat) (qz1 : Option Addr) (lz1 dz1 : Nat) (x1 : Bool) (y1 : Bool) (s2 : Bool) (p2 : Option Addr) (k2 c2 : Nat) (q2 : Option Addr) (l2 d2 : Nat) (sz2 : Bool) (pz2 : Option Addr) (kz2 cz2 : Nat) (qz2 : Option Addr) (lz2 dz2 : Nat) (x2 : Bool) (y2 : Bool) (a b a' b' : Bool × Nat × Nat) (w : World) (ha : NRep w (.agg #[.bool s1, .slice p1 k1 c1, .slice q1 l1 d1]) a) (hb : NRep w (.agg #[.bool sz1, .slice pz1 kz1 cz1, .slice qz1 lz1 dz1]) b) (ha' : NRep w (.agg #[.bool s2, .slice p2 k2 c2, .slice q2 l2 d2]) a') (hb' : NRep w (.agg #[.bool sz2, .slice pz2 kz2 cz2, .slice qz2 lz2 dz2]) b') (ht : TabOk w) :
  Calls Tryz.prog 4 #[.agg #[.bool s1, .slice p1 k1 c1, .slice q1 l1 d1, .bool sz1, .slice pz1 kz1 cz1, .slice qz1 lz1 dz1, .bool x1, .bool y1], .agg #[.bool s2, .slice p2 k2 c2, .slice q2 l2 d2, .bool sz2, .slice pz2 kz2 cz2, .slice qz2 lz2 dz2, .bool x2, .bool y2]] w fun e w' => e = .returned (.bool true) ∧ Below w.heap.size w w' := by
 have HP0 := hid (fun (W : World) (hW : Below w.heap.size w W) => iMin_j s1 p1 k1 c1 q1 l1 d1 sz1 pz1 kz1 cz1 qz1 lz1 dz1 x1 y1 s2 p2 k2 c2 q2 l2 d2 sz2 pz2 kz2 cz2 qz2 lz2 dz2 x2 y2 a b a' b' W (ha.below hW) (hb.below hW) (ha'.below hW) (hb'.below hW) (ht.below hW))
 have HR0 := hid (fun (W : World) (hW : Below w.heap.size w W) => jMin_any s1 p1 k1 c1 q1 l1 d1 sz1 pz1 kz1 cz1 qz1 lz1 dz1 x1 y1 s2 p2 k2 c2 q2 l2 d2 sz2 pz2 kz2 cz2 qz2 lz2 dz2 x2 y2 a b a' b' W (ha.below hW) (hb.below hW) (ha'.below hW) (hb'.below hW))
 have HI0 := hid (fun (W : World) (s5 : Bool) (p5 : Option Addr) (k5 c5 : Nat) (q5 : Option Addr) (l5 d5 : Nat) (sz5 : Bool) (pz5 : Option Addr) (kz5 cz5 : Nat) (qz5 : Option Addr) (lz5 dz5 : Nat) (x5 : Bool) (y5 : Bool) (s6 : Bool) (p6 : Option Addr) (k6 c6 : Nat) (q6 : Option Addr) (l6 d6 : Nat) (sz6 : Bool) (pz6 : Option Addr) (kz6 cz6 : Nat) (qz6 : Option Addr) (lz6 dz6 : Nat) (x6 : Bool) (y6 : Bool) (h : GRep W (.agg #[.bool s5, .slice p5 k5 c5, .slice q5 l5 d5, .bool sz5, .slice pz5 kz5 cz5, .slice qz5 lz5 dz5, .bool x5, .bool y5]) (jval2 jlow (a, b, x1, y1) (a', b', x2, y2))) (h' : GRep W (.agg #[.bool s6, .slice p6 k6 c6, .slice q6 l6 d6, .bool sz6, .slice pz6 kz6 cz6, .slice qz6 lz6 dz6, .bool x6, .bool y6]) (jval2 jlow (a, b, x1, y1) (a', b', x2, y2))) => is3_any s5 p5 k5 c5 q5 l5 d5 sz5 pz5 kz5 cz5 qz5 lz5 dz5 x5 y5 s6 p6 k6 c6 q6 l6 d6 sz6 pz6 kz6 cz6 qz6 lz6 dz6 x6 y6 (jcode2 (a, b, x1, y1) (a', b', x2, y2)) _ W (jop_ok jlow_good) (jop_err _ _) h h')
 have HP1 := hid (fun (W : World) (hW : Below w.heap.size w W) => iMax_j s1 p1 k1 c1 q1 l1 d1 sz1 pz1 kz1 cz1 qz1 lz1 dz1 x1 y1 s2 p2 k2 c2 q2 l2 d2 sz2 pz2 kz2 cz2 qz2 lz2 dz2 x2 y2 a b a' b' W (ha.below hW) (hb.below hW) (ha'.below hW) (hb'.below hW) (ht.below hW))
 have HR1 := hid (fun (W : World) (hW : Below w.heap.size w W) => jMax_any s1 p1 k1 c1 q1 l1 d1 sz1 pz1 kz1 cz1 qz1 lz1 dz1 x1 y1 s2 p2 k2 c2 q2 l2 d2 sz2 pz2 kz2 cz2 qz2 lz2 dz2 x2 y2 a b a' b' W (ha.below hW) (hb.below hW) (ha'.below hW) (hb'.below hW))
 have HI1 := hid (fun (W : World) (s5 : Bool) (p5 : Option Addr) (k5 c5 : Nat) (q5 : Option Addr) (l5 d5 : Nat) (sz5 : Bool) (pz5 : Option Addr) (kz5 cz5 : Nat) (qz5 : Option Addr) (lz5 dz5 : Nat) (x5 : Bool) (y5 : Bool) (s6 : Bool) (p6 : Option Addr) (k6 c6 : Nat) (q6 : Option Addr) (l6 d6 : Nat) (sz6 : Bool) (pz6 : Option Addr) (kz6 cz6 : Nat) (qz6 : Option Addr) (lz6 dz6 : Nat) (x6 : Bool) (y6 : Bool) (h : GRep W (.agg #[.bool s5, .slice p5 k5 c5, .slice q5 l5 d5, .bool sz5, .slice pz5 kz5 cz5, .slice qz5 lz5 dz5, .bool x5, .bool y5]) (jval2 jupp (a, b, x1, y1) (a', b', x2, y2))) (h' : GRep W (.agg #[.bool s6, .slice p6 k6 c6, .slice q6 l6 d6, .bool sz6, .slice pz6 kz6 cz6, .slice qz6 lz6 dz6, .bool x6, .bool y6]) (jval2 jupp (a, b, x1, y1) (a', b', x2, y2))) => is3_any s5 p5 k5 c5 q5 l5 d5 sz5 pz5 kz5 cz5 qz5 lz5 dz5 x5 y5 s6 p6 k6 c6 q6 l6 d6 sz6 pz6 kz6 cz6 qz6 lz6 dz6 x6 y6 (jcode2 (a, b, x1, y1) (a', b', x2, y2)) _ W (jop_ok jupp_good) (jop_err _ _) h h')
 have HA := hid (fun (W : World) (hW : Below w.heap.size w W) => awake3_any W (ht.below hW))
 clear ha hb ha' hb' ht
 obtain ⟨cc0, hc⟩ : ∃ r, r = jcode2 (a, b, x1, y1) (a', b', x2, y2) := ⟨_, rfl⟩
 obtain ⟨D0, hD⟩ : ∃ r, r = jval2 jlow (a, b, x1, y1) (a', b', x2, y2) := ⟨_, rfl⟩
 rw [← hc, ← hD] at HP0 HR0 HI0
 clear hc hD
 obtain ⟨cc1, hc⟩ : ∃ r, r = jcode2 (a, b, x1, y1) (a', b', x2, y2) := ⟨_, rfl⟩
 obtain ⟨D1, hD⟩ : ∃ r, r = jval2 jupp (a, b, x1, y1) (a', b', x2, y2) := ⟨_, rfl⟩
 rw [← hc, ← hD] at HP1 HR1 HI1
 clear hc hD
 go_enter Tryz.func4, Tryz.ntmps4
 go_wp2_with fail
 have HV := hid (pre2 w [.bool s1, .slice p1 k1 c1, .slice q1 l1 d1, .bool sz1, .slice pz1 kz1 cz1, .slice qz1 lz1 dz1, .bool x1, .bool y1] [.bool s2, .slice p2 k2 c2, .slice q2 l2 d2, .bool sz2, .slice pz2 kz2 cz2, .slice qz2 lz2 dz2, .bool x2, .bool y2] 26 26 nd8 nd8)
 generalize (w.alloc (.cells #[.bool s1, .slice p1 k1 c1, .slice q1 l1 d1, .bool sz1, .slice pz1 kz1 cz1, .slice qz1 lz1 dz1, .bool x1, .bool y1] 26)).alloc (.cells #[.bool s2, .slice p2 k2 c2, .slice q2 l2 d2, .bool sz2, .slice pz2 kz2 cz2, .slice qz2 lz2 dz2, .bool x2, .bool y2] 26) = W0 at *
 have HB0 := hid (HV.out.2.2)
 have Hx0 := hid (HV.out.1)
 have Hx1 := hid (HV.out.2.1)
 clear HV
 refine (HP0.out _ (HB0.out)).mono ?_
 rintro e w11 ⟨s11, p11, k11, c11, q11, l11, d11, sz11, pz11, kz11, cz11, qz11, lz11, dz11, x11, y11, rfl, hG11, hB11⟩
 have Hs1_x0 := hid ((Hx0.out).below hB11)
 have Hs1_x1 := hid ((Hx1.out).below hB11)
 have HB1 := hid ((HB0.out).trans ((hB11).mono (HB0.out).size))
 go_upto_region 2 with fail
 have HX11 := hid (pre1 w11 [.bool s11, .slice p11 k11 c11, .slice q11 l11 d11, .bool sz11, .slice pz11 kz11 cz11, .slice qz11 lz11 dz11, .bool x11, .bool y11] 26 nd8)
 have hlt11_x0 := (Hs1_x0.out).lt
 have hlt11_x1 := (Hs1_x1.out).lt
 generalize w11.alloc (.cells #[.bool s11, .slice p11 k11 c11, .slice q11 l11 d11, .bool sz11, .slice pz11 kz11 cz11, .slice qz11 lz11 dz11, .bool x11, .bool y11] 26) = W11 at *
 have Hs2_x0 := hid ((Hs1_x0.out).below HX11.out.2)
 have Hs2_x1 := hid ((Hs1_x1.out).below HX11.out.2)
 have Hs2_g11 := hid ((hG11.out).below HX11.out.2)
 have HB2 := hid ((HB1.out).trans ((HX11.out.2).mono (HB1.out).size))
 have Hb11 := hid HX11.out.1
 obtain ⟨m0_0, m0_1, m0_2, m0_3, m0_4, m0_5, m0_6, m0_7, _⟩ := (Hs2_x0.out).cells8
 obtain ⟨m1_0, m1_1, m1_2, m1_3, m1_4, m1_5, m1_6, m1_7, _⟩ := (Hs2_x1.out).cells8
 obtain ⟨m2_0, m2_1, m2_2, m2_3, m2_4, m2_5, m2_6, m2_7, _⟩ := (Hb11.out).cells8
 go_wp2_with fail
 refine (HR0.out _ (HB2.out)).mono ?_
 rintro e w12 ⟨s12, p12, k12, c12, q12, l12, d12, sz12, pz12, kz12, cz12, qz12, lz12, dz12, x12, y12, rfl, hG12, hB12⟩
 clear m0_0 m0_1 m0_2 m0_3 m0_4 m0_5 m0_6 m0_7 m1_0 m1_1 m1_2 m1_3 m1_4 m1_5 m1_6 m1_7 m2_0 m2_1 m2_2 m2_3 m2_4 m2_5 m2_6 m2_7
 have Hs3_x0 := hid ((Hs2_x0.out).below hB12)
 have Hs3_x1 := hid ((Hs2_x1.out).below hB12)
 have Hs3_g11 := hid ((Hs2_g11.out).below hB12)
 have Hs3_b11 := hid ((Hb11.out).below hB12)
 have HB3 := hid ((HB2.out).trans ((hB12).mono (HB2.out).size))
 go_upto_region 3 with fail
 have HX12 := hid (pre1 w12 [.bool s12, .slice p12 k12 c12, .slice q12 l12 d12, .bool sz12, .slice pz12 kz12 cz12, .slice qz12 lz12 dz12, .bool x12, .bool y12] 26 nd8)
 have hlt12_x0 := (Hs3_x0.out).lt
 have hlt12_x1 := (Hs3_x1.out).lt
 have hlt12_b11 := (Hs3_b11.out).lt
 generalize w12.alloc (.cells #[.bool s12, .slice p12 k12 c12, .slice q12 l12 d12, .bool sz12, .slice pz12 kz12 cz12, .slice qz12 lz12 dz12, .bool x12, .bool y12] 26) = W12 at *
 have Hs4_x0 := hid ((Hs3_x0.out).below HX12.out.2)
 have Hs4_x1 := hid ((Hs3_x1.out).below HX12.out.2)
 have Hs4_g11 := hid ((Hs3_g11.out).below HX12.out.2)
 have Hs4_b11 := hid ((Hs3_b11.out).below HX12.out.2)
 have Hs4_g12 := hid ((hG12.out).below HX12.out.2)
 have HB4 := hid ((HB3.out).trans ((HX12.out.2).mono (HB3.out).size))
 have Hb12 := hid HX12.out.1
 obtain ⟨m0_0, m0_1, m0_2, m0_3, m0_4, m0_5, m0_6, m0_7, _⟩ := (Hs4_x0.out).cells8
 obtain ⟨m1_0, m1_1, m1_2, m1_3, m1_4, m1_5, m1_6, m1_7, _⟩ := (Hs4_x1.out).cells8
 obtain ⟨m2_0, m2_1, m2_2, m2_3, m2_4, m2_5, m2_6, m2_7, _⟩ := (Hs4_b11.out).cells8
 obtain ⟨m3_0, m3_1, m3_2, m3_3, m3_4, m3_5, m3_6, m3_7, _⟩ := (Hb12.out).cells8
 go_wp2_with fail
 refine (HP1.out _ (HB4.out)).mono ?_
 rintro e w13 ⟨s13, p13, k13, c13, q13, l13, d13, sz13, pz13, kz13, cz13, qz13, lz13, dz13, x13, y13, rfl, hG13, hB13⟩
 clear m0_0 m0_1 m0_2 m0_3 m0_4 m0_5 m0_6 m0_7 m1_0 m1_1 m1_2 m1_3 m1_4 m1_5 m1_6 m1_7 m2_0 m2_1 m2_2 m2_3 m2_4 m2_5 m2_6 m2_7 m3_0 m3_1 m3_2 m3_3 m3_4 m3_5 m3_6 m3_7
 have Hs5_x0 := hid ((Hs4_x0.out).below hB13)
 have Hs5_x1 := hid ((Hs4_x1.out).below hB13)
 have Hs5_g11 := hid ((Hs4_g11.out).below hB13)
 have Hs5_b11 := hid ((Hs4_b11.out).below hB13)
 have Hs5_g12 := hid ((Hs4_g12.out).below hB13)
 have Hs5_b12 := hid ((Hb12.out).below hB13)
 have HB5 := hid ((HB4.out).trans ((hB13).mono (HB4.out).size))
 go_upto_region 4 with fail
 have HX13 := hid (pre1 w13 [.bool s13, .slice p13 k13 c13, .slice q13 l13 d13, .bool sz13, .slice pz13 kz13 cz13, .slice qz13 lz13 dz13, .bool x13, .bool y13] 26 nd8)
 have hlt13_x0 := (Hs5_x0.out).lt
 have hlt13_x1 := (Hs5_x1.out).lt
 have hlt13_b11 := (Hs5_b11.out).lt
 have hlt13_b12 := (Hs5_b12.out).lt
 generalize w13.alloc (.cells #[.bool s13, .slice p13 k13 c13, .slice q13 l13 d13, .bool sz13, .slice pz13 kz13 cz13, .slice qz13 lz13 dz13, .bool x13, .bool y13] 26) = W13 at *
 have Hs6_x0 := hid ((Hs5_x0.out).below HX13.out.2)
 have Hs6_x1 := hid ((Hs5_x1.out).below HX13.out.2)
 have Hs6_g11 := hid ((Hs5_g11.out).below HX13.out.2)
 have Hs6_b11 := hid ((Hs5_b11.out).below HX13.out.2)
 have Hs6_g12 := hid ((Hs5_g12.out).below HX13.out.2)
 have Hs6_b12 := hid ((Hs5_b12.out).below HX13.out.2)
 have Hs6_g13 := hid ((hG13.out).below HX13.out.2)
 have HB6 := hid ((HB5.out).trans ((HX13.out.2).mono (HB5.out).size))
 have Hb13 := hid HX13.out.1
 obtain ⟨m0_0, m0_1, m0_2, m0_3, m0_4, m0_5, m0_6, m0_7, _⟩ := (Hs6_x0.out).cells8
 obtain ⟨m1_0, m1_1, m1_2, m1_3, m1_4, m1_5, m1_6, m1_7, _⟩ := (Hs6_x1.out).cells8
 obtain ⟨m2_0, m2_1, m2_2, m2_3, m2_4, m2_5, m2_6, m2_7, _⟩ := (Hs6_b11.out).cells8
 obtain ⟨m3_0, m3_1, m3_2, m3_3, m3_4, m3_5, m3_6, m3_7, _⟩ := (Hs6_b12.out).cells8
 obtain ⟨m4_0, m4_1, m4_2, m4_3, m4_4, m4_5, m4_6, m4_7, _⟩ := (Hb13.out).cells8
 go_wp2_with fail
 refine (HR1.out _ (HB6.out)).mono ?_
 rintro e w14 ⟨s14, p14, k14, c14, q14, l14, d14, sz14, pz14, kz14, cz14, qz14, lz14, dz14, x14, y14, rfl, hG14, hB14⟩
 clear m0_0 m0_1 m0_2 m0_3 m0_4 m0_5 m0_6 m0_7 m1_0 m1_1 m1_2 m1_3 m1_4 m1_5 m1_6 m1_7 m2_0 m2_1 m2_2 m2_3 m2_4 m2_5 m2_6 m2_7 m3_0 m3_1 m3_2 m3_3 m3_4 m3_5 m3_6 m3_7 m4_0 m4_1 m4_2 m4_3 m4_4 m4_5 m4_6 m4_7
 have Hs7_x0 := hid ((Hs6_x0.out).below hB14)
 have Hs7_x1 := hid ((Hs6_x1.out).below hB14)
 have Hs7_g11 := hid ((Hs6_g11.out).below hB14)
 have Hs7_b11 := hid ((Hs6_b11.out).below hB14)
 have Hs7_g12 := hid ((Hs6_g12.out).below hB14)
 have Hs7_b12 := hid ((Hs6_b12.out).below hB14)
 have Hs7_g13 := hid ((Hs6_g13.out).below hB14)
 have Hs7_b13 := hid ((Hb13.out).below hB14)
 have HB7 := hid ((HB6.out).trans ((hB14).mono (HB6.out).size))
 go_upto_region 5 with fail
 have HX14 := hid (pre1 w14 [.bool s14, .slice p14 k14 c14, .slice q14 l14 d14, .bool sz14, .slice pz14 kz14 cz14, .slice qz14 lz14 dz14, .bool x14, .bool y14] 26 nd8)
 have hlt14_x0 := (Hs7_x0.out).lt
 have hlt14_x1 := (Hs7_x1.out).lt
 have hlt14_b11 := (Hs7_b11.out).lt
 have hlt14_b12 := (Hs7_b12.out).lt
 have hlt14_b13 := (Hs7_b13.out).lt
 generalize w14.alloc (.cells #[.bool s14, .slice p14 k14 c14, .slice q14 l14 d14, .bool sz14, .slice pz14 kz14 cz14, .slice qz14 lz14 dz14, .bool x14, .bool y14] 26) = W14 at *
 have Hs8_x0 := hid ((Hs7_x0.out).below HX14.out.2)
 have Hs8_x1 := hid ((Hs7_x1.out).below HX14.out.2)
 have Hs8_g11 := hid ((Hs7_g11.out).below HX14.out.2)
 have Hs8_b11 := hid ((Hs7_b11.out).below HX14.out.2)
 have Hs8_g12 := hid ((Hs7_g12.out).below HX14.out.2)
 have Hs8_b12 := hid ((Hs7_b12.out).below HX14.out.2)
 have Hs8_g13 := hid ((Hs7_g13.out).below HX14.out.2)
 have Hs8_b13 := hid ((Hs7_b13.out).below HX14.out.2)
 have Hs8_g14 := hid ((hG14.out).below HX14.out.2)
 have HB8 := hid ((HB7.out).trans ((HX14.out.2).mono (HB7.out).size))
 have Hb14 := hid HX14.out.1
 obtain ⟨m0_0, m0_1, m0_2, m0_3, m0_4, m0_5, m0_6, m0_7, _⟩ := (Hs8_x0.out).cells8
 obtain ⟨m1_0, m1_1, m1_2, m1_3, m1_4, m1_5, m1_6, m1_7, _⟩ := (Hs8_x1.out).cells8
 obtain ⟨m2_0, m2_1, m2_2, m2_3, m2_4, m2_5, m2_6, m2_7, _⟩ := (Hs8_b11.out).cells8
 obtain ⟨m3_0, m3_1, m3_2, m3_3, m3_4, m3_5, m3_6, m3_7, _⟩ := (Hs8_b12.out).cells8
 obtain ⟨m4_0, m4_1, m4_2, m4_3, m4_4, m4_5, m4_6, m4_7, _⟩ := (Hs8_b13.out).cells8
 obtain ⟨m5_0, m5_1, m5_2, m5_3, m5_4, m5_5, m5_6, m5_7, _⟩ := (Hb14.out).cells8
 go_wp2_with fail
 refine (HI0.out _ s11 p11 k11 c11 q11 l11 d11 sz11 pz11 kz11 cz11 qz11 lz11 dz11 x11 y11 s12 p12 k12 c12 q12 l12 d12 sz12 pz12 kz12 cz12 qz12 lz12 dz12 x12 y12 Hs8_g11.out Hs8_g12.out).mono ?_
 rintro e w15 ⟨rfl, hB15⟩
 clear m0_0 m0_1 m0_2 m0_3 m0_4 m0_5 m0_6 m0_7 m1_0 m1_1 m1_2 m1_3 m1_4 m1_5 m1_6 m1_7 m2_0 m2_1 m2_2 m2_3 m2_4 m2_5 m2_6 m2_7 m3_0 m3_1 m3_2 m3_3 m3_4 m3_5 m3_6 m3_7 m4_0 m4_1 m4_2 m4_3 m4_4 m4_5 m4_6 m4_7 m5_0 m5_1 m5_2 m5_3 m5_4 m5_5 m5_6 m5_7
 have Hs9_x0 := hid ((Hs8_x0.out).below hB15)
 have Hs9_x1 := hid ((Hs8_x1.out).below hB15)
 have Hs9_g11 := hid ((Hs8_g11.out).below hB15)
 have Hs9_b11 := hid ((Hs8_b11.out).below hB15)
 have Hs9_g12 := hid ((Hs8_g12.out).below hB15)
 have Hs9_b12 := hid ((Hs8_b12.out).below hB15)
 have Hs9_g13 := hid ((Hs8_g13.out).below hB15)
 have Hs9_b13 := hid ((Hs8_b13.out).below hB15)
 have Hs9_g14 := hid ((Hs8_g14.out).below hB15)
 have Hs9_b14 := hid ((Hb14.out).below hB15)
 have HB9 := hid ((HB8.out).trans ((hB15).mono (HB8.out).size))
 obtain ⟨m0_0, m0_1, m0_2, m0_3, m0_4, m0_5, m0_6, m0_7, _⟩ := (Hs9_x0.out).cells8
 obtain ⟨m1_0, m1_1, m1_2, m1_3, m1_4, m1_5, m1_6, m1_7, _⟩ := (Hs9_x1.out).cells8
 obtain ⟨m2_0, m2_1, m2_2, m2_3, m2_4, m2_5, m2_6, m2_7, _⟩ := (Hs9_b11.out).cells8
 obtain ⟨m3_0, m3_1, m3_2, m3_3, m3_4, m3_5, m3_6, m3_7, _⟩ := (Hs9_b12.out).cells8
 obtain ⟨m4_0, m4_1, m4_2, m4_3, m4_4, m4_5, m4_6, m4_7, _⟩ := (Hs9_b13.out).cells8
 obtain ⟨m5_0, m5_1, m5_2, m5_3, m5_4, m5_5, m5_6, m5_7, _⟩ := (Hs9_b14.out).cells8
 go_wp2_with fail
 refine (HI1.out _ s13 p13 k13 c13 q13 l13 d13 sz13 pz13 kz13 cz13 qz13 lz13 dz13 x13 y13 s14 p14 k14 c14 q14 l14 d14 sz14 pz14 kz14 cz14 qz14 lz14 dz14 x14 y14 Hs9_g13.out Hs9_g14.out).mono ?_
 rintro e w16 ⟨rfl, hB16⟩
 clear m0_0 m0_1 m0_2 m0_3 m0_4 m0_5 m0_6 m0_7 m1_0 m1_1 m1_2 m1_3 m1_4 m1_5 m1_6 m1_7 m2_0 m2_1 m2_2 m2_3 m2_4 m2_5 m2_6 m2_7 m3_0 m3_1 m3_2 m3_3 m3_4 m3_5 m3_6 m3_7 m4_0 m4_1 m4_2 m4_3 m4_4 m4_5 m4_6 m4_7 m5_0 m5_1 m5_2 m5_3 m5_4 m5_5 m5_6 m5_7
 have Hs10_x0 := hid ((Hs9_x0.out).below hB16)
 have Hs10_x1 := hid ((Hs9_x1.out).below hB16)
 have Hs10_g11 := hid ((Hs9_g11.out).below hB16)
 have Hs10_b11 := hid ((Hs9_b11.out).below hB16)
 have Hs10_g12 := hid ((Hs9_g12.out).below hB16)
 have Hs10_b12 := hid ((Hs9_b12.out).below hB16)
 have Hs10_g13 := hid ((Hs9_g13.out).below hB16)
 have Hs10_b13 := hid ((Hs9_b13.out).below hB16)
 have Hs10_g14 := hid ((Hs9_g14.out).below hB16)
 have Hs10_b14 := hid ((Hs9_b14.out).below hB16)
 have HB10 := hid ((HB9.out).trans ((hB16).mono (HB9.out).size))
 have HZ0 := hid (HB10.out)
 clear hG11 hG12 hG13 hG14
 go_wp2_with fail
 refine (HA.out _ HZ0.out).mono ?_
 rintro e w17 ⟨rfl, hB17⟩
 have HZ1 := hid ((HZ0.out).trans (hB17.mono (HZ0.out).size))
 go_wp2_with fail
 go_ret
 exact ⟨rfl, HZ1.out⟩
theorem IntervalLimits_any (v u : Value) (i j : (Bool × Nat × Nat) × (Bool × Nat × Nat) × Bool × Bool) (w : World) (ha : IRep w v i) (hb : IRep w u j) (ht : TabOk w) :
  Calls Tryz.prog 4 #[v, u] w fun e w' => e = .returned (.bool true) ∧ Below w.heap.size w w' := by
 obtain ⟨s1, p1, k1, c1, q1, l1, d1, sz1, pz1, kz1, cz1, qz1, lz1, dz1, x1, y1, rfl, h1, h2, rfl, rfl⟩ := ha
 obtain ⟨s2, p2, k2, c2, q2, l2, d2, sz2, pz2, kz2, cz2, qz2, lz2, dz2, x2, y2, rfl, h3, h4, rfl, rfl⟩ := hb
 exact IntervalLimits_iv s1 p1 k1 c1 q1 l1 d1 sz1 pz1 kz1 cz1 qz1 lz1 dz1 _ _ s2 p2 k2 c2 q2 l2 d2 sz2 pz2 kz2 cz2 qz2 lz2 dz2 _ _ i.1 i.2.1 j.1 j.2.1 w h1 h2 h3 h4 ht
end Go.Proofs.YtimjoejkjgklaaaGreatDoor
