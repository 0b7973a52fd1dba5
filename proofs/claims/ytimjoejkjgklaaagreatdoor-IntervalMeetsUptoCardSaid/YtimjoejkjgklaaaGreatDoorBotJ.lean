/- Within, Inside, Either of the reference. Both of the reference. -/
import Derived.Test.YtimjoejkjgklaaaGreatDoorPlsJ
import Derived.Test.YtimjoejkjgklaaaGreatDoorOrd
set_option maxHeartbeats 8000000
set_option maxRecDepth 100000
namespace Go.Proofs.YtimjoejkjgklaaaGreatDoor
open Go.RowKit Dg
theorem pre2_ofW {w W0 : World} {l1 l2 : List Value} {t1 t2 : Nat} (h : (w.alloc (.cells l1.toArray t1)).alloc (.cells l2.toArray t2) = W0) (h1 : NDs l1) (h2 : NDs l2) :
  Box W0 w.heap.size l1.toArray ∧ Box W0 (w.heap.size + 1) l2.toArray ∧ Below w.heap.size w W0 := by
 subst h
 exact pre2 w l1 l2 t1 t2 h1 h2
theorem jWithin_go (s1 : Bool) (p1 : Option Addr) (k1 c1 : Nat) (q1 : Option Addr) (l1 d1 : Nat) (sz1 : Bool) (pz1 : Option Addr) (kz1 cz1 : Nat) (qz1 : Option Addr) (lz1 dz1 : Nat) (x1 y1 : Bool) (s2 : Bool) (p2 : Option Addr) (k2 c2 : Nat) (q2 : Option Addr) (l2 d2 : Nat) (sz2 : Bool) (pz2 : Option Addr) (kz2 cz2 : Nat) (qz2 : Option Addr) (lz2 dz2 : Nat) (x2 y2 : Bool) (rl rh : Int) (w : World)
  (hL : x1 = false → x2 = false → ∀ W, Below w.heap.size w W → Calls Tryz.prog 85 #[.agg #[.bool s2, .slice p2 k2 c2, .slice q2 l2 d2], .agg #[.bool s1, .slice p1 k1 c1, .slice q1 l1 d1]] W fun e w' => e = .returned (.int .i64 rl) ∧ Below W.heap.size W w')
  (hH : y1 = false → y2 = false → ∀ W, Below w.heap.size w W → Calls Tryz.prog 85 #[.agg #[.bool sz1, .slice pz1 kz1 cz1, .slice qz1 lz1 dz1], .agg #[.bool sz2, .slice pz2 kz2 cz2, .slice qz2 lz2 dz2]] W fun e w' => e = .returned (.int .i64 rh) ∧ Below W.heap.size W w') :
  Calls Tryz.prog 66 #[.agg #[.bool s1, .slice p1 k1 c1, .slice q1 l1 d1, .bool sz1, .slice pz1 kz1 cz1, .slice qz1 lz1 dz1, .bool x1, .bool y1, .bool false], .agg #[.bool s2, .slice p2 k2 c2, .slice q2 l2 d2, .bool sz2, .slice pz2 kz2 cz2, .slice qz2 lz2 dz2, .bool x2, .bool y2, .bool false]] w fun e w' => e = .returned (.bool ((x2 || (!x1 && decide (rl ≤ 0))) && (y2 || (!y1 && decide (rh ≤ 0))))) ∧ Below w.heap.size w w' := by
 by_cases cl : x1 = false ∧ x2 = false
 ·obtain ⟨rfl, rfl⟩ := cl
  have HL := hid (hL rfl rfl)
  clear hL
  by_cases ch : y1 = false ∧ y2 = false
  ·obtain ⟨rfl, rfl⟩ := ch
   have HH := hid (hH rfl rfl)
   clear hH
   by_cases hl : rl ≤ 0 <;> by_cases hh : rh ≤ 0
   all_goals
    first | have dl : decide (rl ≤ 0) = true := decide_eq_true hl | have dl : decide (rl ≤ 0) = false := decide_eq_false hl
    first | have dh : decide (rh ≤ 0) = true := decide_eq_true hh | have dh : decide (rh ≤ 0) = false := decide_eq_false hh
    rw [dl, dh]
    go_enter Tryz.func66, Tryz.ntmps66
    go_upto_region 1 with fail
    generalize hA : World.alloc _ _ = W0
    have HV := hid (pre2_ofW hA nd_J nd_J)
    clear hA
    obtain ⟨m0, m1, m2, m3, m4, m5, m6, m7, m8, _⟩ := HV.out.1.cells9
    obtain ⟨n0, n1, n2, n3, n4, n5, n6, n7, n8, _⟩ := HV.out.2.1.cells9
    go_wp2_with fail
    refine (HL.out _ HV.out.2.2).mono ?_
    rintro e w1 ⟨rfl, hB1⟩
    clear m0 m1 m2 m3 m4 m5 m6 m7 m8 n0 n1 n2 n3 n4 n5 n6 n7 n8
    have Hi1 := hid (HV.out.1.below hB1)
    have Hk1 := hid (HV.out.2.1.below hB1)
    have Hb1 := hid (HV.out.2.2.trans (hB1.mono HV.out.2.2.size))
    clear hB1
    obtain ⟨m0, m1, m2, m3, m4, m5, m6, m7, m8, _⟩ := Hi1.out.cells9
    obtain ⟨n0, n1, n2, n3, n4, n5, n6, n7, n8, _⟩ := Hk1.out.cells9
    go_wp2_with fail
    refine (HH.out _ Hb1.out).mono ?_
    rintro e w2 ⟨rfl, hB2⟩
    clear m0 m1 m2 m3 m4 m5 m6 m7 m8 n0 n1 n2 n3 n4 n5 n6 n7 n8
    have Hi2 := hid (Hi1.out.below hB2)
    have Hk2 := hid (Hk1.out.below hB2)
    have Hb2 := hid (Hb1.out.trans (hB2.mono Hb1.out.size))
    clear hB2
    obtain ⟨m0, m1, m2, m3, m4, m5, m6, m7, m8, _⟩ := Hi2.out.cells9
    obtain ⟨n0, n1, n2, n3, n4, n5, n6, n7, n8, _⟩ := Hk2.out.cells9
    go_wp2_with fail
    go_ret
    exact ⟨rfl, Hb2.out⟩
  ·have ch' : y2 = true ∨ (y2 = false ∧ y1 = true) := by cases y1 <;> cases y2 <;> simp_all
   clear ch hH
   rcases ch' with rfl | ⟨rfl, rfl⟩ <;> by_cases hl : rl ≤ 0
   all_goals
    first | have dl : decide (rl ≤ 0) = true := decide_eq_true hl | have dl : decide (rl ≤ 0) = false := decide_eq_false hl
    rw [dl]
    go_enter Tryz.func66, Tryz.ntmps66
    go_upto_region 1 with fail
    generalize hA : World.alloc _ _ = W0
    have HV := hid (pre2_ofW hA nd_J nd_J)
    clear hA
    obtain ⟨m0, m1, m2, m3, m4, m5, m6, m7, m8, _⟩ := HV.out.1.cells9
    obtain ⟨n0, n1, n2, n3, n4, n5, n6, n7, n8, _⟩ := HV.out.2.1.cells9
    go_wp2_with fail
    refine (HL.out _ HV.out.2.2).mono ?_
    rintro e w1 ⟨rfl, hB1⟩
    clear m0 m1 m2 m3 m4 m5 m6 m7 m8 n0 n1 n2 n3 n4 n5 n6 n7 n8
    have Hi1 := hid (HV.out.1.below hB1)
    have Hk1 := hid (HV.out.2.1.below hB1)
    have Hb1 := hid (HV.out.2.2.trans (hB1.mono HV.out.2.2.size))
    clear hB1
    obtain ⟨m0, m1, m2, m3, m4, m5, m6, m7, m8, _⟩ := Hi1.out.cells9
    obtain ⟨n0, n1, n2, n3, n4, n5, n6, n7, n8, _⟩ := Hk1.out.cells9
    go_wp2_with fail
    go_ret
    exact ⟨rfl, Hb1.out⟩
 ·have cl' : x2 = true ∨ (x2 = false ∧ x1 = true) := by cases x1 <;> cases x2 <;> simp_all
  clear cl hL
  by_cases ch : y1 = false ∧ y2 = false
  ·obtain ⟨rfl, rfl⟩ := ch
   have HH := hid (hH rfl rfl)
   clear hH
   rcases cl' with rfl | ⟨rfl, rfl⟩ <;> by_cases hh : rh ≤ 0
   all_goals
    first | have dh : decide (rh ≤ 0) = true := decide_eq_true hh | have dh : decide (rh ≤ 0) = false := decide_eq_false hh
    rw [dh]
    go_enter Tryz.func66, Tryz.ntmps66
    go_upto_region 1 with fail
    generalize hA : World.alloc _ _ = W0
    have HV := hid (pre2_ofW hA nd_J nd_J)
    clear hA
    obtain ⟨m0, m1, m2, m3, m4, m5, m6, m7, m8, _⟩ := HV.out.1.cells9
    obtain ⟨n0, n1, n2, n3, n4, n5, n6, n7, n8, _⟩ := HV.out.2.1.cells9
    go_wp2_with fail
    refine (HH.out _ HV.out.2.2).mono ?_
    rintro e w1 ⟨rfl, hB1⟩
    clear m0 m1 m2 m3 m4 m5 m6 m7 m8 n0 n1 n2 n3 n4 n5 n6 n7 n8
    have Hi1 := hid (HV.out.1.below hB1)
    have Hk1 := hid (HV.out.2.1.below hB1)
    have Hb1 := hid (HV.out.2.2.trans (hB1.mono HV.out.2.2.size))
    clear hB1
    obtain ⟨m0, m1, m2, m3, m4, m5, m6, m7, m8, _⟩ := Hi1.out.cells9
    obtain ⟨n0, n1, n2, n3, n4, n5, n6, n7, n8, _⟩ := Hk1.out.cells9
    go_wp2_with fail
    go_ret
    exact ⟨rfl, Hb1.out⟩
  ·have ch' : y2 = true ∨ (y2 = false ∧ y1 = true) := by cases y1 <;> cases y2 <;> simp_all
   clear ch hH
   rcases cl' with rfl | ⟨rfl, rfl⟩ <;> rcases ch' with rfl | ⟨rfl, rfl⟩
   all_goals
    go_enter Tryz.func66, Tryz.ntmps66
    go_upto_region 1 with fail
    generalize hA : World.alloc _ _ = W0
    have HV := hid (pre2_ofW hA nd_J nd_J)
    clear hA
    obtain ⟨m0, m1, m2, m3, m4, m5, m6, m7, m8, _⟩ := HV.out.1.cells9
    obtain ⟨n0, n1, n2, n3, n4, n5, n6, n7, n8, _⟩ := HV.out.2.1.cells9
    go_wp2_with fail
    go_ret
    exact ⟨rfl, HV.out.2.2⟩
theorem jWithin_e1 (s1 : Bool) (p1 : Option Addr) (k1 c1 : Nat) (q1 : Option Addr) (l1 d1 : Nat) (sz1 : Bool) (pz1 : Option Addr) (kz1 cz1 : Nat) (qz1 : Option Addr) (lz1 dz1 : Nat) (x1 y1 : Bool) (s2 : Bool) (p2 : Option Addr) (k2 c2 : Nat) (q2 : Option Addr) (l2 d2 : Nat) (sz2 : Bool) (pz2 : Option Addr) (kz2 cz2 : Nat) (qz2 : Option Addr) (lz2 dz2 : Nat) (x2 y2 : Bool) (e2 : Bool) (w : World) :
  Calls Tryz.prog 66 #[.agg #[.bool s1, .slice p1 k1 c1, .slice q1 l1 d1, .bool sz1, .slice pz1 kz1 cz1, .slice qz1 lz1 dz1, .bool x1, .bool y1, .bool true], .agg #[.bool s2, .slice p2 k2 c2, .slice q2 l2 d2, .bool sz2, .slice pz2 kz2 cz2, .slice qz2 lz2 dz2, .bool x2, .bool y2, .bool e2]] w fun e w' => e = .returned (.bool true) ∧ Below w.heap.size w w' := by
 go_enter Tryz.func66, Tryz.ntmps66
 go_upto_region 1 with fail
 generalize hA : World.alloc _ _ = W0
 have HV := hid (pre2_ofW hA nd_J nd_J)
 clear hA
 obtain ⟨m0, m1, m2, m3, m4, m5, m6, m7, m8, _⟩ := HV.out.1.cells9
 obtain ⟨n0, n1, n2, n3, n4, n5, n6, n7, n8, _⟩ := HV.out.2.1.cells9
 go_wp2_with fail
 go_ret
 exact ⟨rfl, HV.out.2.2⟩
theorem jWithin_e2 (s1 : Bool) (p1 : Option Addr) (k1 c1 : Nat) (q1 : Option Addr) (l1 d1 : Nat) (sz1 : Bool) (pz1 : Option Addr) (kz1 cz1 : Nat) (qz1 : Option Addr) (lz1 dz1 : Nat) (x1 y1 : Bool) (s2 : Bool) (p2 : Option Addr) (k2 c2 : Nat) (q2 : Option Addr) (l2 d2 : Nat) (sz2 : Bool) (pz2 : Option Addr) (kz2 cz2 : Nat) (qz2 : Option Addr) (lz2 dz2 : Nat) (x2 y2 : Bool) (w : World) :
  Calls Tryz.prog 66 #[.agg #[.bool s1, .slice p1 k1 c1, .slice q1 l1 d1, .bool sz1, .slice pz1 kz1 cz1, .slice qz1 lz1 dz1, .bool x1, .bool y1, .bool false], .agg #[.bool s2, .slice p2 k2 c2, .slice q2 l2 d2, .bool sz2, .slice pz2 kz2 cz2, .slice qz2 lz2 dz2, .bool x2, .bool y2, .bool true]] w fun e w' => e = .returned (.bool false) ∧ Below w.heap.size w w' := by
 go_enter Tryz.func66, Tryz.ntmps66
 go_upto_region 1 with fail
 generalize hA : World.alloc _ _ = W0
 have HV := hid (pre2_ofW hA nd_J nd_J)
 clear hA
 obtain ⟨m0, m1, m2, m3, m4, m5, m6, m7, m8, _⟩ := HV.out.1.cells9
 obtain ⟨n0, n1, n2, n3, n4, n5, n6, n7, n8, _⟩ := HV.out.2.1.cells9
 go_wp2_with fail
 go_ret
 exact ⟨rfl, HV.out.2.2⟩
theorem jInside_err (s1 : Bool) (p1 : Option Addr) (k1 c1 : Nat) (q1 : Option Addr) (l1 d1 : Nat) (sz1 : Bool) (pz1 : Option Addr) (kz1 cz1 : Nat) (qz1 : Option Addr) (lz1 dz1 : Nat) (x1 : Bool) (y1 : Bool) (s2 : Bool) (p2 : Option Addr) (k2 c2 : Nat) (q2 : Option Addr) (l2 d2 : Nat) (sz2 : Bool) (pz2 : Option Addr) (kz2 cz2 : Nat) (qz2 : Option Addr) (lz2 dz2 : Nat) (x2 : Bool) (y2 : Bool) (w : World)
  (ho : ∀ W, Below w.heap.size w W → Calls Tryz.prog 60 #[.agg #[.bool s1, .slice p1 k1 c1, .slice q1 l1 d1, .bool sz1, .slice pz1 kz1 cz1, .slice qz1 lz1 dz1, .bool x1, .bool y1], .agg #[.bool s2, .slice p2 k2 c2, .slice q2 l2 d2, .bool sz2, .slice pz2 kz2 cz2, .slice qz2 lz2 dz2, .bool x2, .bool y2], .int .i64 0] W fun e w' => e = .returned (.tuple #[.agg #[.bool false, .slice none 0 0, .slice none 0 0, .bool false, .slice none 0 0, .slice none 0 0, .bool false, .bool false, .bool false], .agg #[.bool false, .slice none 0 0, .slice none 0 0, .bool false, .slice none 0 0, .slice none 0 0, .bool false, .bool false, .bool false], .int .i64 1]) ∧ Below W.heap.size W w') :
  Calls Tryz.prog 26 #[.agg #[.bool s1, .slice p1 k1 c1, .slice q1 l1 d1, .bool sz1, .slice pz1 kz1 cz1, .slice qz1 lz1 dz1, .bool x1, .bool y1], .agg #[.bool s2, .slice p2 k2 c2, .slice q2 l2 d2, .bool sz2, .slice pz2 kz2 cz2, .slice qz2 lz2 dz2, .bool x2, .bool y2]] w fun e w' => e = .returned (.tuple #[.bool false, .int .i64 1]) ∧ Below w.heap.size w w' := by
 have HL := hid ho
 clear ho
 go_enter Tryz.func26, Tryz.ntmps26
 go_wp2_with fail
 generalize hA : World.alloc _ _ = W0
 have HV := hid (pre2_o hA nd8 nd8)
 clear hA
 refine (HL.out _ HV.out.2.2).mono ?_
 rintro e w1 ⟨rfl, hB1⟩
 have HE := hid (HV.out.2.2.trans (hB1.mono HV.out.2.2.size))
 clear hB1
 go_upto_region 2 with fail
 generalize hA : World.alloc _ _ = W1
 have HX : Hid (Below w1.heap.size w1 W1) := hid (by rw [← hA]; exact ((Below.refl _ _).alloc (Nat.le_refl _) _).alloc (by simp) _)
 clear hA
 have HE2 := hid (HE.out.trans (HX.out.mono HE.out.size))
 go_wp2_with fail
 go_ret2
 exact ⟨rfl, HE2.out⟩
theorem jInside_ok (s1 : Bool) (p1 : Option Addr) (k1 c1 : Nat) (q1 : Option Addr) (l1 d1 : Nat) (sz1 : Bool) (pz1 : Option Addr) (kz1 cz1 : Nat) (qz1 : Option Addr) (lz1 dz1 : Nat) (x1 : Bool) (y1 : Bool) (s2 : Bool) (p2 : Option Addr) (k2 c2 : Nat) (q2 : Option Addr) (l2 d2 : Nat) (sz2 : Bool) (pz2 : Option Addr) (kz2 cz2 : Nat) (qz2 : Option Addr) (lz2 dz2 : Nat) (x2 : Bool) (y2 : Bool) (J K : (Bool × Nat × Nat) × (Bool × Nat × Nat) × Bool × Bool × Bool) (r : Bool) (w : World)
  (hP : ∀ (W : World) (s3 : Bool) (p3 : Option Addr) (k3 c3 : Nat) (q3 : Option Addr) (l3 d3 : Nat) (sz3 : Bool) (pz3 : Option Addr) (kz3 cz3 : Nat) (qz3 : Option Addr) (lz3 dz3 : Nat) (x3 : Bool) (y3 : Bool) (e3 : Bool) (s4 : Bool) (p4 : Option Addr) (k4 c4 : Nat) (q4 : Option Addr) (l4 d4 : Nat) (sz4 : Bool) (pz4 : Option Addr) (kz4 cz4 : Nat) (qz4 : Option Addr) (lz4 dz4 : Nat) (x4 : Bool) (y4 : Bool) (e4 : Bool), JRep W (.agg #[.bool s3, .slice p3 k3 c3, .slice q3 l3 d3, .bool sz3, .slice pz3 kz3 cz3, .slice qz3 lz3 dz3, .bool x3, .bool y3, .bool e3]) J → JRep W (.agg #[.bool s4, .slice p4 k4 c4, .slice q4 l4 d4, .bool sz4, .slice pz4 kz4 cz4, .slice qz4 lz4 dz4, .bool x4, .bool y4, .bool e4]) K → Calls Tryz.prog 66 #[.agg #[.bool s3, .slice p3 k3 c3, .slice q3 l3 d3, .bool sz3, .slice pz3 kz3 cz3, .slice qz3 lz3 dz3, .bool x3, .bool y3, .bool e3], .agg #[.bool s4, .slice p4 k4 c4, .slice q4 l4 d4, .bool sz4, .slice pz4 kz4 cz4, .slice qz4 lz4 dz4, .bool x4, .bool y4, .bool e4]] W fun e w' => e = .returned (.bool r) ∧ Below W.heap.size W w')
  (ho : ∀ W, Below w.heap.size w W → Calls Tryz.prog 60 #[.agg #[.bool s1, .slice p1 k1 c1, .slice q1 l1 d1, .bool sz1, .slice pz1 kz1 cz1, .slice qz1 lz1 dz1, .bool x1, .bool y1], .agg #[.bool s2, .slice p2 k2 c2, .slice q2 l2 d2, .bool sz2, .slice pz2 kz2 cz2, .slice qz2 lz2 dz2, .bool x2, .bool y2], .int .i64 0] W fun e w' => ∃ s3 p3 k3 c3 q3 l3 d3 sz3 pz3 kz3 cz3 qz3 lz3 dz3 x3 y3 e3 s4 p4 k4 c4 q4 l4 d4 sz4 pz4 kz4 cz4 qz4 lz4 dz4 x4 y4 e4, e = .returned (.tuple #[.agg #[.bool s3, .slice p3 k3 c3, .slice q3 l3 d3, .bool sz3, .slice pz3 kz3 cz3, .slice qz3 lz3 dz3, .bool x3, .bool y3, .bool e3], .agg #[.bool s4, .slice p4 k4 c4, .slice q4 l4 d4, .bool sz4, .slice pz4 kz4 cz4, .slice qz4 lz4 dz4, .bool x4, .bool y4, .bool e4], .int .i64 0]) ∧ Hid (JRep w' (.agg #[.bool s3, .slice p3 k3 c3, .slice q3 l3 d3, .bool sz3, .slice pz3 kz3 cz3, .slice qz3 lz3 dz3, .bool x3, .bool y3, .bool e3]) J) ∧ Hid (JRep w' (.agg #[.bool s4, .slice p4 k4 c4, .slice q4 l4 d4, .bool sz4, .slice pz4 kz4 cz4, .slice qz4 lz4 dz4, .bool x4, .bool y4, .bool e4]) K) ∧ Below W.heap.size W w') :
  Calls Tryz.prog 26 #[.agg #[.bool s1, .slice p1 k1 c1, .slice q1 l1 d1, .bool sz1, .slice pz1 kz1 cz1, .slice qz1 lz1 dz1, .bool x1, .bool y1], .agg #[.bool s2, .slice p2 k2 c2, .slice q2 l2 d2, .bool sz2, .slice pz2 kz2 cz2, .slice qz2 lz2 dz2, .bool x2, .bool y2]] w fun e w' => e = .returned (.tuple #[.bool r, .int .i64 0]) ∧ Below w.heap.size w w' := by
 have HL := hid ho
 have HP := hid hP
 clear ho hP
 go_enter Tryz.func26, Tryz.ntmps26
 go_wp2_with fail
 generalize hA : World.alloc _ _ = W0
 have HV := hid (pre2_o hA nd8 nd8)
 clear hA
 refine (HL.out _ HV.out.2.2).mono ?_
 rintro e w1 ⟨s3, p3, k3, c3, q3, l3, d3, sz3, pz3, kz3, cz3, qz3, lz3, dz3, x3, y3, e3, s4, p4, k4, c4, q4, l4, d4, sz4, pz4, kz4, cz4, qz4, lz4, dz4, x4, y4, e4, rfl, hJ, hK, hB1⟩
 have HE := hid (HV.out.2.2.trans (hB1.mono HV.out.2.2.size))
 clear hB1
 go_upto_region 2 with fail
 generalize hA : World.alloc _ _ = W1
 have HX := hid (pre2_ofW hA nd_J nd_J)
 clear hA
 have HJ := hid (hJ.out.below HX.out.2.2)
 have HK := hid (hK.out.below HX.out.2.2)
 clear hJ hK
 have HE2 := hid (HE.out.trans (HX.out.2.2.mono HE.out.size))
 obtain ⟨m0, m1, m2, m3, m4, m5, m6, m7, m8, _⟩ := HX.out.1.cells9
 obtain ⟨n0, n1, n2, n3, n4, n5, n6, n7, n8, _⟩ := HX.out.2.1.cells9
 go_wp2_with fail
 refine (HP.out _ s3 p3 k3 c3 q3 l3 d3 sz3 pz3 kz3 cz3 qz3 lz3 dz3 x3 y3 e3 s4 p4 k4 c4 q4 l4 d4 sz4 pz4 kz4 cz4 qz4 lz4 dz4 x4 y4 e4 HJ.out HK.out).mono ?_
 rintro e w2 ⟨rfl, hB2⟩
 have HE3 := hid (HE2.out.trans (hB2.mono HE2.out.size))
 clear hB2 m0 m1 m2 m3 m4 m5 m6 m7 m8 n0 n1 n2 n3 n4 n5 n6 n7 n8
 go_wp2_with fail
 go_ret2
 exact ⟨rfl, HE3.out⟩
theorem jEither_ret {W : World} {B : Nat} {a0 a1 a2 a3 a4 a5 a6 a7 a8 : Value} {tm : Array Value} {R : Ending → World → Prop} (h2 : tm[4]?.getD undef = .pointer (some ⟨B, 0, none⟩)) (hV : Box W B #[a0, a1, a2, a3, a4, a5, a6, a7, a8]) (hR : R (.returned (.agg #[a0, a1, a2, a3, a4, a5, a6, a7, a8])) W) :
  bodyPost Tryz.prog Tryz.f72 R .ret { tmps := tm, defers := [] } W := by
 obtain ⟨g0, g1, g2, g3, g4, g5, g6, g7, g8, _⟩ := hV.cells9
 exact bodyPost_ret (v := .agg #[a0, a1, a2, a3, a4, a5, a6, a7, a8]) (by simp [results, Tryz.results72, go_sem, h2, g0, g1, g2, g3, g4, g5, g6, g7, g8]) rfl hR
theorem jEither_tt (s1 : Bool) (p1 : Option Addr) (k1 c1 : Nat) (q1 : Option Addr) (l1 d1 : Nat) (sz1 : Bool) (pz1 : Option Addr) (kz1 cz1 : Nat) (qz1 : Option Addr) (lz1 dz1 : Nat) (x1 y1 : Bool) (s2 : Bool) (p2 : Option Addr) (k2 c2 : Nat) (q2 : Option Addr) (l2 d2 : Nat) (sz2 : Bool) (pz2 : Option Addr) (kz2 cz2 : Nat) (qz2 : Option Addr) (lz2 dz2 : Nat) (x2 y2 : Bool) (w : World) (hX : (x1 || x2) = true) (hY : (y1 || y2) = true) :
  Calls Tryz.prog 72 #[.agg #[.bool s1, .slice p1 k1 c1, .slice q1 l1 d1, .bool sz1, .slice pz1 kz1 cz1, .slice qz1 lz1 dz1, .bool x1, .bool y1, .bool false], .agg #[.bool s2, .slice p2 k2 c2, .slice q2 l2 d2, .bool sz2, .slice pz2 kz2 cz2, .slice qz2 lz2 dz2, .bool x2, .bool y2, .bool false]] w fun e w' => ∃ s3 p3 k3 c3 q3 l3 d3 sz3 pz3 kz3 cz3 qz3 lz3 dz3 x3 y3 e3, e = .returned (.agg #[.bool s3, .slice p3 k3 c3, .slice q3 l3 d3, .bool sz3, .slice pz3 kz3 cz3, .slice qz3 lz3 dz3, .bool x3, .bool y3, .bool e3]) ∧ Hid (JRep w' (.agg #[.bool s3, .slice p3 k3 c3, .slice q3 l3 d3, .bool sz3, .slice pz3 kz3 cz3, .slice qz3 lz3 dz3, .bool x3, .bool y3, .bool e3]) ((false, 0, 0), (false, 0, 0), true, true, false)) ∧ Below w.heap.size w w' := by
 cases x1 <;> cases x2 <;> cases y1 <;> cases y2
 all_goals first | exact absurd hX (by decide) | exact absurd hY (by decide) | skip
 all_goals
  clear hX hY
  go_enter Tryz.func72, Tryz.ntmps72
  go_upto_region 6 with fail
  generalize hA : World.alloc _ _ = W0
  have HV := hid (pre4_of hA nd_J nd_J nd_J nd_J)
  clear hA
  obtain ⟨u0, u1, u2, u3, u4, u5, u6, u7, u8, _⟩ := HV.out.2.2.2.1.cells9
  obtain ⟨g0, g1, g2, g3, g4, g5, g6, g7, g8, f0, f1, f2, f3, f4, f5, f6, f7, f8⟩ := HV.out.2.2.1.cells9
  go_wp2_with fail
  exact jEither_ret rfl (HV.out.2.2.1.stores [.bool false, .slice none 0 0, .slice none 0 0, .bool false, .slice none 0 0, .slice none 0 0, .bool true, .bool true, .bool false] rfl nd_J) ⟨_, _, _, _, _, _, _, _, _, _, _, _, _, _, _, _, _, rfl, hid (JRep.stores (k := 0) (l := [.bool false, .slice none 0 0, .slice none 0 0, .bool false, .slice none 0 0, .slice none 0 0, .bool true, .bool true, .bool false]) ⟨_, _, _, _, _, _, _, _, _, _, _, _, _, _, _, _, _, rfl, QNorm.zero _, QNorm.zero _, rfl, rfl, rfl⟩ HV.out.2.2.1 nd_J), Below.stores (k := 0) (l := [.bool false, .slice none 0 0, .slice none 0 0, .bool false, .slice none 0 0, .slice none 0 0, .bool true, .bool true, .bool false]) HV.out.2.2.2.2 (by omega)⟩
theorem jEither_tf (s1 : Bool) (p1 : Option Addr) (k1 c1 : Nat) (q1 : Option Addr) (l1 d1 : Nat) (sz1 : Bool) (pz1 : Option Addr) (kz1 cz1 : Nat) (qz1 : Option Addr) (lz1 dz1 : Nat) (x1 y1 : Bool) (s2 : Bool) (p2 : Option Addr) (k2 c2 : Nat) (q2 : Option Addr) (l2 d2 : Nat) (sz2 : Bool) (pz2 : Option Addr) (kz2 cz2 : Nat) (qz2 : Option Addr) (lz2 dz2 : Nat) (x2 y2 : Bool) (a b : (Bool × Nat × Nat) × (Bool × Nat × Nat) × Bool × Bool × Bool) (w : World) (hX : (x1 || x2) = true) (hY : (y1 || y2) = false)
  (hh : ∀ W, Below w.heap.size w W → Calls Tryz.prog 122 #[.agg #[.bool sz1, .slice pz1 kz1 cz1, .slice qz1 lz1 dz1], .agg #[.bool sz2, .slice pz2 kz2 cz2, .slice qz2 lz2 dz2]] W fun e w' => ∃ s4 p4 k4 c4 q4 l4 d4, e = .returned (.agg #[.bool s4, .slice p4 k4 c4, .slice q4 l4 d4]) ∧ Hid (QNorm w' (.agg #[.bool s4, .slice p4 k4 c4, .slice q4 l4 d4]) (qmax a.2.1 b.2.1)) ∧ Below W.heap.size W w') :
  Calls Tryz.prog 72 #[.agg #[.bool s1, .slice p1 k1 c1, .slice q1 l1 d1, .bool sz1, .slice pz1 kz1 cz1, .slice qz1 lz1 dz1, .bool x1, .bool y1, .bool false], .agg #[.bool s2, .slice p2 k2 c2, .slice q2 l2 d2, .bool sz2, .slice pz2 kz2 cz2, .slice qz2 lz2 dz2, .bool x2, .bool y2, .bool false]] w fun e w' => ∃ s3 p3 k3 c3 q3 l3 d3 sz3 pz3 kz3 cz3 qz3 lz3 dz3 x3 y3 e3, e = .returned (.agg #[.bool s3, .slice p3 k3 c3, .slice q3 l3 d3, .bool sz3, .slice pz3 kz3 cz3, .slice qz3 lz3 dz3, .bool x3, .bool y3, .bool e3]) ∧ Hid (JRep w' (.agg #[.bool s3, .slice p3 k3 c3, .slice q3 l3 d3, .bool sz3, .slice pz3 kz3 cz3, .slice qz3 lz3 dz3, .bool x3, .bool y3, .bool e3]) ((false, 0, 0), (qmax a.2.1 b.2.1), true, false, false)) ∧ Below w.heap.size w w' := by
 have HH := hid hh
 obtain ⟨rb, hrb⟩ : ∃ r, r = (qmax a.2.1 b.2.1) := ⟨_, rfl⟩
 rw [← hrb] at HH ⊢
 clear hrb hh
 cases x1 <;> cases x2 <;> cases y1 <;> cases y2
 all_goals first | exact absurd hX (by decide) | exact absurd hY (by decide) | skip
 all_goals
  clear hX hY
  go_enter Tryz.func72, Tryz.ntmps72
  go_upto_region 6 with fail
  generalize hA : World.alloc _ _ = W0
  have HV := hid (pre4_of hA nd_J nd_J nd_J nd_J)
  clear hA
  obtain ⟨m0, m1, m2, m3, m4, m5, m6, m7, m8, _⟩ := HV.out.1.cells9
  obtain ⟨n0, n1, n2, n3, n4, n5, n6, n7, n8, _⟩ := HV.out.2.1.cells9
  obtain ⟨u0, u1, u2, u3, u4, u5, u6, u7, u8, f0, f1, f2, f3, f4, f5, f6, f7, f8⟩ := HV.out.2.2.2.1.cells9
  go_wp2_with fail
  refine (HH.out _ HV.out.2.2.2.2).mono ?_
  rintro e w1 ⟨s5, p5, k5, c5, q5, l5, d5, rfl, hF1, hB1⟩
  clear m0 m1 m2 m3 m4 m5 m6 m7 m8 n0 n1 n2 n3 n4 n5 n6 n7 n8 u0 u1 u2 u3 u4 u5 u6 u7 u8 f0 f1 f2 f3 f4 f5 f6 f7 f8
  have Hi1 := hid (HV.out.1.below hB1)
  have Hk1 := hid (HV.out.2.1.below hB1)
  have Hr1 := hid (HV.out.2.2.1.below hB1)
  have Ho1 := hid (HV.out.2.2.2.1.below hB1)
  have Hb1 := hid (HV.out.2.2.2.2.trans (hB1.mono HV.out.2.2.2.2.size))
  clear hB1
  obtain ⟨m0, m1, m2, m3, m4, m5, m6, m7, m8, _⟩ := Hi1.out.cells9
  obtain ⟨n0, n1, n2, n3, n4, n5, n6, n7, n8, _⟩ := Hk1.out.cells9
  obtain ⟨u0, u1, u2, u3, u4, u5, u6, u7, u8, f0, f1, f2, f3, f4, f5, f6, f7, f8⟩ := Ho1.out.cells9
  go_upto_region 10 with fail
  generalize hW1 : World.setCell _ _ _ = y1
  have Hx1 := hid (show Box y1 (w.heap.size + 1 + 1 + 1) #[.bool false, .slice none 0 0, .slice none 0 0, .bool s5, .slice p5 k5 c5, .slice q5 l5 d5, .bool true, .bool false, .bool false] by rw [← hW1]; exact Box.stores_at (m := [.bool false, .slice none 0 0, .slice none 0 0, .bool false, .slice none 0 0, .slice none 0 0, .bool true, .bool false, .bool false]) (k := 3) (l := [.bool s5, .slice p5 k5 c5, .slice q5 l5 d5]) Ho1.out nd3)
  have Hxi1 := hid (Box.of_eq (Box.stores_other (k := 3) (l := [.bool s5, .slice p5 k5 c5, .slice q5 l5 d5]) Hi1.out (by omega)) hW1)
  have Hxk1 := hid (Box.of_eq (Box.stores_other (k := 3) (l := [.bool s5, .slice p5 k5 c5, .slice q5 l5 d5]) Hk1.out (by omega)) hW1)
  have Hxr1 := hid (Box.of_eq (Box.stores_other (k := 3) (l := [.bool s5, .slice p5 k5 c5, .slice q5 l5 d5]) Hr1.out (by omega)) hW1)
  have Hxb1 := hid (show Below w.heap.size w y1 by rw [← hW1]; exact Below.stores (k := 3) (l := [.bool s5, .slice p5 k5 c5, .slice q5 l5 d5]) Hb1.out (by omega))
  have Hxq1 := hid (show QNorm y1 (.agg #[.bool s5, .slice p5 k5 c5, .slice q5 l5 d5]) rb by rw [← hW1]; exact QNorm.stores (k := 3) (l := [.bool s5, .slice p5 k5 c5, .slice q5 l5 d5]) hF1.out Ho1.out nd3)
  clear hW1 hF1 m0 m1 m2 m3 m4 m5 m6 m7 m8 n0 n1 n2 n3 n4 n5 n6 n7 n8 u0 u1 u2 u3 u4 u5 u6 u7 u8 f0 f1 f2 f3 f4 f5 f6 f7 f8
  obtain ⟨u0, u1, u2, u3, u4, u5, u6, u7, u8, _⟩ := Hx1.out.cells9
  obtain ⟨g0, g1, g2, g3, g4, g5, g6, g7, g8, f0, f1, f2, f3, f4, f5, f6, f7, f8⟩ := Hxr1.out.cells9
  go_wp2_with fail
  exact jEither_ret rfl (Hxr1.out.stores [.bool false, .slice none 0 0, .slice none 0 0, .bool s5, .slice p5 k5 c5, .slice q5 l5 d5, .bool true, .bool false, .bool false] rfl nd_J) ⟨_, _, _, _, _, _, _, _, _, _, _, _, _, _, _, _, _, rfl, hid (JRep.stores (k := 0) (l := [.bool false, .slice none 0 0, .slice none 0 0, .bool s5, .slice p5 k5 c5, .slice q5 l5 d5, .bool true, .bool false, .bool false]) ⟨_, _, _, _, _, _, _, _, _, _, _, _, _, _, _, _, _, rfl, QNorm.zero _, Hxq1.out, rfl, rfl, rfl⟩ Hxr1.out nd_J), Below.stores (k := 0) (l := [.bool false, .slice none 0 0, .slice none 0 0, .bool s5, .slice p5 k5 c5, .slice q5 l5 d5, .bool true, .bool false, .bool false]) Hxb1.out (by omega)⟩
theorem jEither_ft (s1 : Bool) (p1 : Option Addr) (k1 c1 : Nat) (q1 : Option Addr) (l1 d1 : Nat) (sz1 : Bool) (pz1 : Option Addr) (kz1 cz1 : Nat) (qz1 : Option Addr) (lz1 dz1 : Nat) (x1 y1 : Bool) (s2 : Bool) (p2 : Option Addr) (k2 c2 : Nat) (q2 : Option Addr) (l2 d2 : Nat) (sz2 : Bool) (pz2 : Option Addr) (kz2 cz2 : Nat) (qz2 : Option Addr) (lz2 dz2 : Nat) (x2 y2 : Bool) (a b : (Bool × Nat × Nat) × (Bool × Nat × Nat) × Bool × Bool × Bool) (w : World) (hX : (x1 || x2) = false) (hY : (y1 || y2) = true)
  (hl : ∀ W, Below w.heap.size w W → Calls Tryz.prog 115 #[.agg #[.bool s1, .slice p1 k1 c1, .slice q1 l1 d1], .agg #[.bool s2, .slice p2 k2 c2, .slice q2 l2 d2]] W fun e w' => ∃ s4 p4 k4 c4 q4 l4 d4, e = .returned (.agg #[.bool s4, .slice p4 k4 c4, .slice q4 l4 d4]) ∧ Hid (QNorm w' (.agg #[.bool s4, .slice p4 k4 c4, .slice q4 l4 d4]) (qmin a.1 b.1)) ∧ Below W.heap.size W w') :
  Calls Tryz.prog 72 #[.agg #[.bool s1, .slice p1 k1 c1, .slice q1 l1 d1, .bool sz1, .slice pz1 kz1 cz1, .slice qz1 lz1 dz1, .bool x1, .bool y1, .bool false], .agg #[.bool s2, .slice p2 k2 c2, .slice q2 l2 d2, .bool sz2, .slice pz2 kz2 cz2, .slice qz2 lz2 dz2, .bool x2, .bool y2, .bool false]] w fun e w' => ∃ s3 p3 k3 c3 q3 l3 d3 sz3 pz3 kz3 cz3 qz3 lz3 dz3 x3 y3 e3, e = .returned (.agg #[.bool s3, .slice p3 k3 c3, .slice q3 l3 d3, .bool sz3, .slice pz3 kz3 cz3, .slice qz3 lz3 dz3, .bool x3, .bool y3, .bool e3]) ∧ Hid (JRep w' (.agg #[.bool s3, .slice p3 k3 c3, .slice q3 l3 d3, .bool sz3, .slice pz3 kz3 cz3, .slice qz3 lz3 dz3, .bool x3, .bool y3, .bool e3]) ((qmin a.1 b.1), (false, 0, 0), false, true, false)) ∧ Below w.heap.size w w' := by
 have HL := hid hl
 obtain ⟨ra, hra⟩ : ∃ r, r = (qmin a.1 b.1) := ⟨_, rfl⟩
 rw [← hra] at HL ⊢
 clear hra hl
 cases x1 <;> cases x2 <;> cases y1 <;> cases y2
 all_goals first | exact absurd hX (by decide) | exact absurd hY (by decide) | skip
 all_goals
  clear hX hY
  go_enter Tryz.func72, Tryz.ntmps72
  go_upto_region 6 with fail
  generalize hA : World.alloc _ _ = W0
  have HV := hid (pre4_of hA nd_J nd_J nd_J nd_J)
  clear hA
  obtain ⟨m0, m1, m2, m3, m4, m5, m6, m7, m8, _⟩ := HV.out.1.cells9
  obtain ⟨n0, n1, n2, n3, n4, n5, n6, n7, n8, _⟩ := HV.out.2.1.cells9
  obtain ⟨u0, u1, u2, u3, u4, u5, u6, u7, u8, f0, f1, f2, f3, f4, f5, f6, f7, f8⟩ := HV.out.2.2.2.1.cells9
  go_wp2_with fail
  refine (HL.out _ HV.out.2.2.2.2).mono ?_
  rintro e w1 ⟨s4, p4, k4, c4, q4, l4, d4, rfl, hF1, hB1⟩
  clear m0 m1 m2 m3 m4 m5 m6 m7 m8 n0 n1 n2 n3 n4 n5 n6 n7 n8 u0 u1 u2 u3 u4 u5 u6 u7 u8 f0 f1 f2 f3 f4 f5 f6 f7 f8
  have Hi1 := hid (HV.out.1.below hB1)
  have Hk1 := hid (HV.out.2.1.below hB1)
  have Hr1 := hid (HV.out.2.2.1.below hB1)
  have Ho1 := hid (HV.out.2.2.2.1.below hB1)
  have Hb1 := hid (HV.out.2.2.2.2.trans (hB1.mono HV.out.2.2.2.2.size))
  clear hB1
  obtain ⟨m0, m1, m2, m3, m4, m5, m6, m7, m8, _⟩ := Hi1.out.cells9
  obtain ⟨n0, n1, n2, n3, n4, n5, n6, n7, n8, _⟩ := Hk1.out.cells9
  obtain ⟨u0, u1, u2, u3, u4, u5, u6, u7, u8, f0, f1, f2, f3, f4, f5, f6, f7, f8⟩ := Ho1.out.cells9
  go_upto_region 10 with fail
  generalize hW1 : World.setCell _ _ _ = y1
  have Hx1 := hid (show Box y1 (w.heap.size + 1 + 1 + 1) #[.bool s4, .slice p4 k4 c4, .slice q4 l4 d4, .bool false, .slice none 0 0, .slice none 0 0, .bool false, .bool true, .bool false] by rw [← hW1]; exact Box.stores_at (m := [.bool false, .slice none 0 0, .slice none 0 0, .bool false, .slice none 0 0, .slice none 0 0, .bool false, .bool true, .bool false]) (k := 0) (l := [.bool s4, .slice p4 k4 c4, .slice q4 l4 d4]) Ho1.out nd3)
  have Hxi1 := hid (Box.of_eq (Box.stores_other (k := 0) (l := [.bool s4, .slice p4 k4 c4, .slice q4 l4 d4]) Hi1.out (by omega)) hW1)
  have Hxk1 := hid (Box.of_eq (Box.stores_other (k := 0) (l := [.bool s4, .slice p4 k4 c4, .slice q4 l4 d4]) Hk1.out (by omega)) hW1)
  have Hxr1 := hid (Box.of_eq (Box.stores_other (k := 0) (l := [.bool s4, .slice p4 k4 c4, .slice q4 l4 d4]) Hr1.out (by omega)) hW1)
  have Hxb1 := hid (show Below w.heap.size w y1 by rw [← hW1]; exact Below.stores (k := 0) (l := [.bool s4, .slice p4 k4 c4, .slice q4 l4 d4]) Hb1.out (by omega))
  have Hxq1 := hid (show QNorm y1 (.agg #[.bool s4, .slice p4 k4 c4, .slice q4 l4 d4]) ra by rw [← hW1]; exact QNorm.stores (k := 0) (l := [.bool s4, .slice p4 k4 c4, .slice q4 l4 d4]) hF1.out Ho1.out nd3)
  clear hW1 hF1 m0 m1 m2 m3 m4 m5 m6 m7 m8 n0 n1 n2 n3 n4 n5 n6 n7 n8 u0 u1 u2 u3 u4 u5 u6 u7 u8 f0 f1 f2 f3 f4 f5 f6 f7 f8
  obtain ⟨u0, u1, u2, u3, u4, u5, u6, u7, u8, _⟩ := Hx1.out.cells9
  obtain ⟨g0, g1, g2, g3, g4, g5, g6, g7, g8, f0, f1, f2, f3, f4, f5, f6, f7, f8⟩ := Hxr1.out.cells9
  go_wp2_with fail
  exact jEither_ret rfl (Hxr1.out.stores [.bool s4, .slice p4 k4 c4, .slice q4 l4 d4, .bool false, .slice none 0 0, .slice none 0 0, .bool false, .bool true, .bool false] rfl nd_J) ⟨_, _, _, _, _, _, _, _, _, _, _, _, _, _, _, _, _, rfl, hid (JRep.stores (k := 0) (l := [.bool s4, .slice p4 k4 c4, .slice q4 l4 d4, .bool false, .slice none 0 0, .slice none 0 0, .bool false, .bool true, .bool false]) ⟨_, _, _, _, _, _, _, _, _, _, _, _, _, _, _, _, _, rfl, Hxq1.out, QNorm.zero _, rfl, rfl, rfl⟩ Hxr1.out nd_J), Below.stores (k := 0) (l := [.bool s4, .slice p4 k4 c4, .slice q4 l4 d4, .bool false, .slice none 0 0, .slice none 0 0, .bool false, .bool true, .bool false]) Hxb1.out (by omega)⟩
theorem jEither_ff (s1 : Bool) (p1 : Option Addr) (k1 c1 : Nat) (q1 : Option Addr) (l1 d1 : Nat) (sz1 : Bool) (pz1 : Option Addr) (kz1 cz1 : Nat) (qz1 : Option Addr) (lz1 dz1 : Nat) (x1 y1 : Bool) (s2 : Bool) (p2 : Option Addr) (k2 c2 : Nat) (q2 : Option Addr) (l2 d2 : Nat) (sz2 : Bool) (pz2 : Option Addr) (kz2 cz2 : Nat) (qz2 : Option Addr) (lz2 dz2 : Nat) (x2 y2 : Bool) (a b : (Bool × Nat × Nat) × (Bool × Nat × Nat) × Bool × Bool × Bool) (w : World) (hX : (x1 || x2) = false) (hY : (y1 || y2) = false)
  (hl : ∀ W, Below w.heap.size w W → Calls Tryz.prog 115 #[.agg #[.bool s1, .slice p1 k1 c1, .slice q1 l1 d1], .agg #[.bool s2, .slice p2 k2 c2, .slice q2 l2 d2]] W fun e w' => ∃ s4 p4 k4 c4 q4 l4 d4, e = .returned (.agg #[.bool s4, .slice p4 k4 c4, .slice q4 l4 d4]) ∧ Hid (QNorm w' (.agg #[.bool s4, .slice p4 k4 c4, .slice q4 l4 d4]) (qmin a.1 b.1)) ∧ Below W.heap.size W w')
  (hh : ∀ W, Below w.heap.size w W → Calls Tryz.prog 122 #[.agg #[.bool sz1, .slice pz1 kz1 cz1, .slice qz1 lz1 dz1], .agg #[.bool sz2, .slice pz2 kz2 cz2, .slice qz2 lz2 dz2]] W fun e w' => ∃ s4 p4 k4 c4 q4 l4 d4, e = .returned (.agg #[.bool s4, .slice p4 k4 c4, .slice q4 l4 d4]) ∧ Hid (QNorm w' (.agg #[.bool s4, .slice p4 k4 c4, .slice q4 l4 d4]) (qmax a.2.1 b.2.1)) ∧ Below W.heap.size W w') :
  Calls Tryz.prog 72 #[.agg #[.bool s1, .slice p1 k1 c1, .slice q1 l1 d1, .bool sz1, .slice pz1 kz1 cz1, .slice qz1 lz1 dz1, .bool x1, .bool y1, .bool false], .agg #[.bool s2, .slice p2 k2 c2, .slice q2 l2 d2, .bool sz2, .slice pz2 kz2 cz2, .slice qz2 lz2 dz2, .bool x2, .bool y2, .bool false]] w fun e w' => ∃ s3 p3 k3 c3 q3 l3 d3 sz3 pz3 kz3 cz3 qz3 lz3 dz3 x3 y3 e3, e = .returned (.agg #[.bool s3, .slice p3 k3 c3, .slice q3 l3 d3, .bool sz3, .slice pz3 kz3 cz3, .slice qz3 lz3 dz3, .bool x3, .bool y3, .bool e3]) ∧ Hid (JRep w' (.agg #[.bool s3, .slice p3 k3 c3, .slice q3 l3 d3, .bool sz3, .slice pz3 kz3 cz3, .slice qz3 lz3 dz3, .bool x3, .bool y3, .bool e3]) ((qmin a.1 b.1), (qmax a.2.1 b.2.1), false, false, false)) ∧ Below w.heap.size w w' := by
 have HL := hid hl
 obtain ⟨ra, hra⟩ : ∃ r, r = (qmin a.1 b.1) := ⟨_, rfl⟩
 rw [← hra] at HL ⊢
 clear hra hl
 have HH := hid hh
 obtain ⟨rb, hrb⟩ : ∃ r, r = (qmax a.2.1 b.2.1) := ⟨_, rfl⟩
 rw [← hrb] at HH ⊢
 clear hrb hh
 cases x1 <;> cases x2 <;> cases y1 <;> cases y2
 all_goals first | exact absurd hX (by decide) | exact absurd hY (by decide) | skip
 all_goals
  clear hX hY
  go_enter Tryz.func72, Tryz.ntmps72
  go_upto_region 6 with fail
  generalize hA : World.alloc _ _ = W0
  have HV := hid (pre4_of hA nd_J nd_J nd_J nd_J)
  clear hA
  obtain ⟨m0, m1, m2, m3, m4, m5, m6, m7, m8, _⟩ := HV.out.1.cells9
  obtain ⟨n0, n1, n2, n3, n4, n5, n6, n7, n8, _⟩ := HV.out.2.1.cells9
  obtain ⟨u0, u1, u2, u3, u4, u5, u6, u7, u8, f0, f1, f2, f3, f4, f5, f6, f7, f8⟩ := HV.out.2.2.2.1.cells9
  go_wp2_with fail
  refine (HL.out _ HV.out.2.2.2.2).mono ?_
  rintro e w1 ⟨s4, p4, k4, c4, q4, l4, d4, rfl, hF1, hB1⟩
  clear m0 m1 m2 m3 m4 m5 m6 m7 m8 n0 n1 n2 n3 n4 n5 n6 n7 n8 u0 u1 u2 u3 u4 u5 u6 u7 u8 f0 f1 f2 f3 f4 f5 f6 f7 f8
  have Hi1 := hid (HV.out.1.below hB1)
  have Hk1 := hid (HV.out.2.1.below hB1)
  have Hr1 := hid (HV.out.2.2.1.below hB1)
  have Ho1 := hid (HV.out.2.2.2.1.below hB1)
  have Hb1 := hid (HV.out.2.2.2.2.trans (hB1.mono HV.out.2.2.2.2.size))
  clear hB1
  obtain ⟨m0, m1, m2, m3, m4, m5, m6, m7, m8, _⟩ := Hi1.out.cells9
  obtain ⟨n0, n1, n2, n3, n4, n5, n6, n7, n8, _⟩ := Hk1.out.cells9
  obtain ⟨u0, u1, u2, u3, u4, u5, u6, u7, u8, f0, f1, f2, f3, f4, f5, f6, f7, f8⟩ := Ho1.out.cells9
  go_upto_region 8 with fail
  generalize hW1 : World.setCell _ _ _ = y1
  have Hx1 := hid (show Box y1 (w.heap.size + 1 + 1 + 1) #[.bool s4, .slice p4 k4 c4, .slice q4 l4 d4, .bool false, .slice none 0 0, .slice none 0 0, .bool false, .bool false, .bool false] by rw [← hW1]; exact Box.stores_at (m := [.bool false, .slice none 0 0, .slice none 0 0, .bool false, .slice none 0 0, .slice none 0 0, .bool false, .bool false, .bool false]) (k := 0) (l := [.bool s4, .slice p4 k4 c4, .slice q4 l4 d4]) Ho1.out nd3)
  have Hxi1 := hid (Box.of_eq (Box.stores_other (k := 0) (l := [.bool s4, .slice p4 k4 c4, .slice q4 l4 d4]) Hi1.out (by omega)) hW1)
  have Hxk1 := hid (Box.of_eq (Box.stores_other (k := 0) (l := [.bool s4, .slice p4 k4 c4, .slice q4 l4 d4]) Hk1.out (by omega)) hW1)
  have Hxr1 := hid (Box.of_eq (Box.stores_other (k := 0) (l := [.bool s4, .slice p4 k4 c4, .slice q4 l4 d4]) Hr1.out (by omega)) hW1)
  have Hxb1 := hid (show Below w.heap.size w y1 by rw [← hW1]; exact Below.stores (k := 0) (l := [.bool s4, .slice p4 k4 c4, .slice q4 l4 d4]) Hb1.out (by omega))
  have Hxq1 := hid (show QNorm y1 (.agg #[.bool s4, .slice p4 k4 c4, .slice q4 l4 d4]) ra by rw [← hW1]; exact QNorm.stores (k := 0) (l := [.bool s4, .slice p4 k4 c4, .slice q4 l4 d4]) hF1.out Ho1.out nd3)
  clear hW1 hF1 m0 m1 m2 m3 m4 m5 m6 m7 m8 n0 n1 n2 n3 n4 n5 n6 n7 n8 u0 u1 u2 u3 u4 u5 u6 u7 u8 f0 f1 f2 f3 f4 f5 f6 f7 f8
  obtain ⟨m0, m1, m2, m3, m4, m5, m6, m7, m8, _⟩ := Hxi1.out.cells9
  obtain ⟨n0, n1, n2, n3, n4, n5, n6, n7, n8, _⟩ := Hxk1.out.cells9
  obtain ⟨u0, u1, u2, u3, u4, u5, u6, u7, u8, f0, f1, f2, f3, f4, f5, f6, f7, f8⟩ := Hx1.out.cells9
  go_wp2_with fail
  refine (HH.out _ Hxb1.out).mono ?_
  rintro e w2 ⟨s5, p5, k5, c5, q5, l5, d5, rfl, hF2, hB2⟩
  clear m0 m1 m2 m3 m4 m5 m6 m7 m8 n0 n1 n2 n3 n4 n5 n6 n7 n8 u0 u1 u2 u3 u4 u5 u6 u7 u8 f0 f1 f2 f3 f4 f5 f6 f7 f8
  have Hi2 := hid (Hxi1.out.below hB2)
  have Hk2 := hid (Hxk1.out.below hB2)
  have Hr2 := hid (Hxr1.out.below hB2)
  have Ho2 := hid (Hx1.out.below hB2)
  have Hb2 := hid (Hxb1.out.trans (hB2.mono Hxb1.out.size))
  have HM2 := hid (QNorm.below Hxq1.out hB2)
  clear hB2
  obtain ⟨m0, m1, m2, m3, m4, m5, m6, m7, m8, _⟩ := Hi2.out.cells9
  obtain ⟨n0, n1, n2, n3, n4, n5, n6, n7, n8, _⟩ := Hk2.out.cells9
  obtain ⟨u0, u1, u2, u3, u4, u5, u6, u7, u8, f0, f1, f2, f3, f4, f5, f6, f7, f8⟩ := Ho2.out.cells9
  go_upto_region 10 with fail
  generalize hW2 : World.setCell _ _ _ = y2
  have Hx2 := hid (show Box y2 (w.heap.size + 1 + 1 + 1) #[.bool s4, .slice p4 k4 c4, .slice q4 l4 d4, .bool s5, .slice p5 k5 c5, .slice q5 l5 d5, .bool false, .bool false, .bool false] by rw [← hW2]; exact Box.stores_at (m := [.bool s4, .slice p4 k4 c4, .slice q4 l4 d4, .bool false, .slice none 0 0, .slice none 0 0, .bool false, .bool false, .bool false]) (k := 3) (l := [.bool s5, .slice p5 k5 c5, .slice q5 l5 d5]) Ho2.out nd3)
  have Hxi2 := hid (Box.of_eq (Box.stores_other (k := 3) (l := [.bool s5, .slice p5 k5 c5, .slice q5 l5 d5]) Hi2.out (by omega)) hW2)
  have Hxk2 := hid (Box.of_eq (Box.stores_other (k := 3) (l := [.bool s5, .slice p5 k5 c5, .slice q5 l5 d5]) Hk2.out (by omega)) hW2)
  have Hxr2 := hid (Box.of_eq (Box.stores_other (k := 3) (l := [.bool s5, .slice p5 k5 c5, .slice q5 l5 d5]) Hr2.out (by omega)) hW2)
  have Hxb2 := hid (show Below w.heap.size w y2 by rw [← hW2]; exact Below.stores (k := 3) (l := [.bool s5, .slice p5 k5 c5, .slice q5 l5 d5]) Hb2.out (by omega))
  have Hxq2 := hid (show QNorm y2 (.agg #[.bool s5, .slice p5 k5 c5, .slice q5 l5 d5]) rb by rw [← hW2]; exact QNorm.stores (k := 3) (l := [.bool s5, .slice p5 k5 c5, .slice q5 l5 d5]) hF2.out Ho2.out nd3)
  have Hxm2 := hid (show QNorm y2 (.agg #[.bool s4, .slice p4 k4 c4, .slice q4 l4 d4]) ra by rw [← hW2]; exact QNorm.stores (k := 3) (l := [.bool s5, .slice p5 k5 c5, .slice q5 l5 d5]) HM2.out Ho2.out nd3)
  clear hW2 hF2 m0 m1 m2 m3 m4 m5 m6 m7 m8 n0 n1 n2 n3 n4 n5 n6 n7 n8 u0 u1 u2 u3 u4 u5 u6 u7 u8 f0 f1 f2 f3 f4 f5 f6 f7 f8
  obtain ⟨u0, u1, u2, u3, u4, u5, u6, u7, u8, _⟩ := Hx2.out.cells9
  obtain ⟨g0, g1, g2, g3, g4, g5, g6, g7, g8, f0, f1, f2, f3, f4, f5, f6, f7, f8⟩ := Hxr2.out.cells9
  go_wp2_with fail
  exact jEither_ret rfl (Hxr2.out.stores [.bool s4, .slice p4 k4 c4, .slice q4 l4 d4, .bool s5, .slice p5 k5 c5, .slice q5 l5 d5, .bool false, .bool false, .bool false] rfl nd_J) ⟨_, _, _, _, _, _, _, _, _, _, _, _, _, _, _, _, _, rfl, hid (JRep.stores (k := 0) (l := [.bool s4, .slice p4 k4 c4, .slice q4 l4 d4, .bool s5, .slice p5 k5 c5, .slice q5 l5 d5, .bool false, .bool false, .bool false]) ⟨_, _, _, _, _, _, _, _, _, _, _, _, _, _, _, _, _, rfl, Hxm2.out, Hxq2.out, rfl, rfl, rfl⟩ Hxr2.out nd_J), Below.stores (k := 0) (l := [.bool s4, .slice p4 k4 c4, .slice q4 l4 d4, .bool s5, .slice p5 k5 c5, .slice q5 l5 d5, .bool false, .bool false, .bool false]) Hxb2.out (by omega)⟩
theorem jEither_e1 (s1 : Bool) (p1 : Option Addr) (k1 c1 : Nat) (q1 : Option Addr) (l1 d1 : Nat) (sz1 : Bool) (pz1 : Option Addr) (kz1 cz1 : Nat) (qz1 : Option Addr) (lz1 dz1 : Nat) (x1 y1 : Bool) (s2 : Bool) (p2 : Option Addr) (k2 c2 : Nat) (q2 : Option Addr) (l2 d2 : Nat) (sz2 : Bool) (pz2 : Option Addr) (kz2 cz2 : Nat) (qz2 : Option Addr) (lz2 dz2 : Nat) (x2 y2 : Bool) (e2 : Bool) (r : (Bool × Nat × Nat) × (Bool × Nat × Nat) × Bool × Bool × Bool) (w : World) (h : JRep w (.agg #[.bool s2, .slice p2 k2 c2, .slice q2 l2 d2, .bool sz2, .slice pz2 kz2 cz2, .slice qz2 lz2 dz2, .bool x2, .bool y2, .bool e2]) r) :
  Calls Tryz.prog 72 #[.agg #[.bool s1, .slice p1 k1 c1, .slice q1 l1 d1, .bool sz1, .slice pz1 kz1 cz1, .slice qz1 lz1 dz1, .bool x1, .bool y1, .bool true], .agg #[.bool s2, .slice p2 k2 c2, .slice q2 l2 d2, .bool sz2, .slice pz2 kz2 cz2, .slice qz2 lz2 dz2, .bool x2, .bool y2, .bool e2]] w fun e w' => ∃ s3 p3 k3 c3 q3 l3 d3 sz3 pz3 kz3 cz3 qz3 lz3 dz3 x3 y3 e3, e = .returned (.agg #[.bool s3, .slice p3 k3 c3, .slice q3 l3 d3, .bool sz3, .slice pz3 kz3 cz3, .slice qz3 lz3 dz3, .bool x3, .bool y3, .bool e3]) ∧ Hid (JRep w' (.agg #[.bool s3, .slice p3 k3 c3, .slice q3 l3 d3, .bool sz3, .slice pz3 kz3 cz3, .slice qz3 lz3 dz3, .bool x3, .bool y3, .bool e3]) r) ∧ Below w.heap.size w w' := by
 have HR := hid h
 clear h
 go_enter Tryz.func72, Tryz.ntmps72
 go_upto_region 1 with fail
 generalize hA : World.alloc _ _ = W0
 have HV := hid (pre3_o hA nd_J nd_J nd_J)
 clear hA
 obtain ⟨m0, m1, m2, m3, m4, m5, m6, m7, m8, _⟩ := HV.out.1.cells9
 obtain ⟨n0, n1, n2, n3, n4, n5, n6, n7, n8, _⟩ := HV.out.2.1.cells9
 obtain ⟨g0, g1, g2, g3, g4, g5, g6, g7, g8, f0, f1, f2, f3, f4, f5, f6, f7, f8⟩ := HV.out.2.2.1.cells9
 go_wp2_with fail
 exact jEither_ret rfl (HV.out.2.2.1.stores [.bool s2, .slice p2 k2 c2, .slice q2 l2 d2, .bool sz2, .slice pz2 kz2 cz2, .slice qz2 lz2 dz2, .bool x2, .bool y2, .bool e2] rfl nd_J) ⟨_, _, _, _, _, _, _, _, _, _, _, _, _, _, _, _, _, rfl, hid (JRep.stores (k := 0) (l := [.bool s2, .slice p2 k2 c2, .slice q2 l2 d2, .bool sz2, .slice pz2 kz2 cz2, .slice qz2 lz2 dz2, .bool x2, .bool y2, .bool e2]) (HR.out.below HV.out.2.2.2) HV.out.2.2.1 nd_J), Below.stores (k := 0) (l := [.bool s2, .slice p2 k2 c2, .slice q2 l2 d2, .bool sz2, .slice pz2 kz2 cz2, .slice qz2 lz2 dz2, .bool x2, .bool y2, .bool e2]) HV.out.2.2.2 (by omega)⟩
theorem jEither_e2 (s1 : Bool) (p1 : Option Addr) (k1 c1 : Nat) (q1 : Option Addr) (l1 d1 : Nat) (sz1 : Bool) (pz1 : Option Addr) (kz1 cz1 : Nat) (qz1 : Option Addr) (lz1 dz1 : Nat) (x1 y1 : Bool) (s2 : Bool) (p2 : Option Addr) (k2 c2 : Nat) (q2 : Option Addr) (l2 d2 : Nat) (sz2 : Bool) (pz2 : Option Addr) (kz2 cz2 : Nat) (qz2 : Option Addr) (lz2 dz2 : Nat) (x2 y2 : Bool) (r : (Bool × Nat × Nat) × (Bool × Nat × Nat) × Bool × Bool × Bool) (w : World) (h : JRep w (.agg #[.bool s1, .slice p1 k1 c1, .slice q1 l1 d1, .bool sz1, .slice pz1 kz1 cz1, .slice qz1 lz1 dz1, .bool x1, .bool y1, .bool false]) r) :
  Calls Tryz.prog 72 #[.agg #[.bool s1, .slice p1 k1 c1, .slice q1 l1 d1, .bool sz1, .slice pz1 kz1 cz1, .slice qz1 lz1 dz1, .bool x1, .bool y1, .bool false], .agg #[.bool s2, .slice p2 k2 c2, .slice q2 l2 d2, .bool sz2, .slice pz2 kz2 cz2, .slice qz2 lz2 dz2, .bool x2, .bool y2, .bool true]] w fun e w' => ∃ s3 p3 k3 c3 q3 l3 d3 sz3 pz3 kz3 cz3 qz3 lz3 dz3 x3 y3 e3, e = .returned (.agg #[.bool s3, .slice p3 k3 c3, .slice q3 l3 d3, .bool sz3, .slice pz3 kz3 cz3, .slice qz3 lz3 dz3, .bool x3, .bool y3, .bool e3]) ∧ Hid (JRep w' (.agg #[.bool s3, .slice p3 k3 c3, .slice q3 l3 d3, .bool sz3, .slice pz3 kz3 cz3, .slice qz3 lz3 dz3, .bool x3, .bool y3, .bool e3]) r) ∧ Below w.heap.size w w' := by
 have HR := hid h
 clear h
 go_enter Tryz.func72, Tryz.ntmps72
 go_upto_region 1 with fail
 generalize hA : World.alloc _ _ = W0
 have HV := hid (pre3_o hA nd_J nd_J nd_J)
 clear hA
 obtain ⟨m0, m1, m2, m3, m4, m5, m6, m7, m8, _⟩ := HV.out.1.cells9
 obtain ⟨n0, n1, n2, n3, n4, n5, n6, n7, n8, _⟩ := HV.out.2.1.cells9
 obtain ⟨g0, g1, g2, g3, g4, g5, g6, g7, g8, f0, f1, f2, f3, f4, f5, f6, f7, f8⟩ := HV.out.2.2.1.cells9
 go_wp2_with fail
 exact jEither_ret rfl (HV.out.2.2.1.stores [.bool s1, .slice p1 k1 c1, .slice q1 l1 d1, .bool sz1, .slice pz1 kz1 cz1, .slice qz1 lz1 dz1, .bool x1, .bool y1, .bool false] rfl nd_J) ⟨_, _, _, _, _, _, _, _, _, _, _, _, _, _, _, _, _, rfl, hid (JRep.stores (k := 0) (l := [.bool s1, .slice p1 k1 c1, .slice q1 l1 d1, .bool sz1, .slice pz1 kz1 cz1, .slice qz1 lz1 dz1, .bool x1, .bool y1, .bool false]) (HR.out.below HV.out.2.2.2) HV.out.2.2.1 nd_J), Below.stores (k := 0) (l := [.bool s1, .slice p1 k1 c1, .slice q1 l1 d1, .bool sz1, .slice pz1 kz1 cz1, .slice qz1 lz1 dz1, .bool x1, .bool y1, .bool false]) HV.out.2.2.2 (by omega)⟩
end Go.Proofs.YtimjoejkjgklaaaGreatDoor
namespace Go.Proofs.YtimjoejkjgklaaaGreatDoor
open Go.RowKit Dg
theorem QQ.st3h {w w1 : World} {l : List (Nat × List Value)} {B : Nat} {a b c : Value} (h : QQ w l w1) (hne : Apart l B) (hB : w.heap.size ≤ B) : QQ w l (((w1.setCell ⟨B, 3, none⟩ a).setCell ⟨B, 4, none⟩ b).setCell ⟨B, 5, none⟩ c) := QQ.stores (k := 3) (vs := [a, b, c]) h hne hB
theorem QQ.st1f6 {w w1 : World} {l : List (Nat × List Value)} {B : Nat} {a : Value} (h : QQ w l w1) (hne : Apart l B) (hB : w.heap.size ≤ B) : QQ w l (w1.setCell ⟨B, 6, none⟩ a) := QQ.stores (k := 6) (vs := [a]) h hne hB
theorem QQ.st1f7 {w w1 : World} {l : List (Nat × List Value)} {B : Nat} {a : Value} (h : QQ w l w1) (hne : Apart l B) (hB : w.heap.size ≤ B) : QQ w l (w1.setCell ⟨B, 7, none⟩ a) := QQ.stores (k := 7) (vs := [a]) h hne hB
theorem jBoth_ret {W : World} {B : Nat} {a0 a1 a2 a3 a4 a5 a6 a7 a8 : Value} {tm : Array Value} {R : Ending → World → Prop} (h2 : tm[4]?.getD undef = .pointer (some ⟨B, 0, none⟩)) (hV : Box W B #[a0, a1, a2, a3, a4, a5, a6, a7, a8]) (hR : R (.returned (.agg #[a0, a1, a2, a3, a4, a5, a6, a7, a8])) W) :
  bodyPost Tryz.prog Tryz.f68 R .ret { tmps := tm, defers := [] } W := by
 obtain ⟨g0, g1, g2, g3, g4, g5, g6, g7, g8, _⟩ := hV.cells9
 exact bodyPost_ret (v := .agg #[a0, a1, a2, a3, a4, a5, a6, a7, a8]) (by simp [results, Tryz.results68, go_sem, h2, g0, g1, g2, g3, g4, g5, g6, g7, g8]) rfl hR
theorem jBoth_in (s1 : Bool) (p1 : Option Addr) (k1 c1 : Nat) (q1 : Option Addr) (l1 d1 : Nat) (sz1 : Bool) (pz1 : Option Addr) (kz1 cz1 : Nat) (qz1 : Option Addr) (lz1 dz1 : Nat) (x1 y1 : Bool) (s2 : Bool) (p2 : Option Addr) (k2 c2 : Nat) (q2 : Option Addr) (l2 d2 : Nat) (sz2 : Bool) (pz2 : Option Addr) (kz2 cz2 : Nat) (qz2 : Option Addr) (lz2 dz2 : Nat) (x2 y2 : Bool) (a b : (Bool × Nat × Nat) × (Bool × Nat × Nat) × Bool × Bool × Bool) (lo hi : Bool × Nat × Nat) (xlo yhi tl th : Bool) (rl rh rc : Int) (w : World)
  (hl : x1 = false → x2 = false → ∀ W, Below w.heap.size w W → Calls Tryz.prog 85 #[.agg #[.bool s2, .slice p2 k2 c2, .slice q2 l2 d2], .agg #[.bool s1, .slice p1 k1 c1, .slice q1 l1 d1]] W fun e w' => e = .returned (.int .i64 rl) ∧ Below W.heap.size W w')
  (hh : y1 = false → y2 = false → ∀ W, Below w.heap.size w W → Calls Tryz.prog 85 #[.agg #[.bool sz2, .slice pz2 kz2 cz2, .slice qz2 lz2 dz2], .agg #[.bool sz1, .slice pz1 kz1 cz1, .slice qz1 lz1 dz1]] W fun e w' => e = .returned (.int .i64 rh) ∧ Below W.heap.size W w')
  (hc : xlo = false → yhi = false → ∀ W (s4 : Bool) (p4 : Option Addr) (k4 c4 : Nat) (q4 : Option Addr) (l4 d4 : Nat) (s5 : Bool) (p5 : Option Addr) (k5 c5 : Nat) (q5 : Option Addr) (l5 d5 : Nat), QNorm W (.agg #[.bool s4, .slice p4 k4 c4, .slice q4 l4 d4]) lo → QNorm W (.agg #[.bool s5, .slice p5 k5 c5, .slice q5 l5 d5]) hi → Calls Tryz.prog 85 #[.agg #[.bool s4, .slice p4 k4 c4, .slice q4 l4 d4], .agg #[.bool s5, .slice p5 k5 c5, .slice q5 l5 d5]] W fun e w' => e = .returned (.int .i64 rc) ∧ Below W.heap.size W w')
  (ha : QNorm w (.agg #[.bool s1, .slice p1 k1 c1, .slice q1 l1 d1]) a.1) (ha2 : QNorm w (.agg #[.bool sz1, .slice pz1 kz1 cz1, .slice qz1 lz1 dz1]) a.2.1) (hb : QNorm w (.agg #[.bool s2, .slice p2 k2 c2, .slice q2 l2 d2]) b.1) (hb2 : QNorm w (.agg #[.bool sz2, .slice pz2 kz2 cz2, .slice qz2 lz2 dz2]) b.2.1)
  (etl : tl = (x1 || (!x2 && decide (0 < rl)))) (eth : th = (y1 || (!y2 && decide (rh < 0))))
  (elo : lo = if tl then b.1 else a.1) (exo : xlo = if tl then x2 else x1) (ehi : hi = if th then b.2.1 else a.2.1) (eyo : yhi = if th then y2 else y1) :
  Calls Tryz.prog 68 #[.agg #[.bool s1, .slice p1 k1 c1, .slice q1 l1 d1, .bool sz1, .slice pz1 kz1 cz1, .slice qz1 lz1 dz1, .bool x1, .bool y1, .bool false], .agg #[.bool s2, .slice p2 k2 c2, .slice q2 l2 d2, .bool sz2, .slice pz2 kz2 cz2, .slice qz2 lz2 dz2, .bool x2, .bool y2, .bool false]] w fun e w' => ∃ s3 p3 k3 c3 q3 l3 d3 sz3 pz3 kz3 cz3 qz3 lz3 dz3 x3 y3 e3, e = .returned (.agg #[.bool s3, .slice p3 k3 c3, .slice q3 l3 d3, .bool sz3, .slice pz3 kz3 cz3, .slice qz3 lz3 dz3, .bool x3, .bool y3, .bool e3]) ∧ Hid (JRep w' (.agg #[.bool s3, .slice p3 k3 c3, .slice q3 l3 d3, .bool sz3, .slice pz3 kz3 cz3, .slice qz3 lz3 dz3, .bool x3, .bool y3, .bool e3]) (if !xlo && !yhi && decide (0 < rc) then jnone else (lo, hi, xlo, yhi, false))) ∧ Below w.heap.size w w' := by
 have ETL := hid etl
 have ETH := hid eth
 have ELO := hid (And.intro elo exo)
 have EHI := hid (And.intro ehi eyo)
 have HL := hid hl
 have HH := hid hh
 have HC := hid hc
 have QA := hid (And.intro ha ha2)
 have QB := hid (And.intro hb hb2)
 clear ha ha2 hb hb2 hl hh hc elo exo ehi eyo etl eth
 obtain ⟨D, hD⟩ : ∃ D, D = (if !xlo && !yhi && decide (0 < rc) then jnone else (lo, hi, xlo, yhi, false)) := ⟨_, rfl⟩
 rw [← hD]
 have HD := hid hD
 clear hD
 obtain ⟨P, hP⟩ : ∃ P : Ending → World → Prop, P = fun e w' => ∃ s3 p3 k3 c3 q3 l3 d3 sz3 pz3 kz3 cz3 qz3 lz3 dz3 x3 y3 e3, e = .returned (.agg #[.bool s3, .slice p3 k3 c3, .slice q3 l3 d3, .bool sz3, .slice pz3 kz3 cz3, .slice qz3 lz3 dz3, .bool x3, .bool y3, .bool e3]) ∧ Hid (JRep w' (.agg #[.bool s3, .slice p3 k3 c3, .slice q3 l3 d3, .bool sz3, .slice pz3 kz3 cz3, .slice qz3 lz3 dz3, .bool x3, .bool y3, .bool e3]) D) ∧ Below w.heap.size w w' := ⟨_, rfl⟩
 rw [← hP]
 have HP := hid hP
 clear hP
 go_enter Tryz.func68, Tryz.ntmps68
 go_upto_region 4 with fail
 generalize hA : World.alloc _ _ = W0
 have HV := hid (pre4_of hA nd_J nd_J nd_J nd_J)
 clear hA
 go_cut [28] from 14 to 27 (fun c wx => c = .bool tl ∧ Box wx (w.heap.size) #[.bool s1, .slice p1 k1 c1, .slice q1 l1 d1, .bool sz1, .slice pz1 kz1 cz1, .slice qz1 lz1 dz1, .bool x1, .bool y1, .bool false] ∧ Box wx (w.heap.size + 1) #[.bool s2, .slice p2 k2 c2, .slice q2 l2 d2, .bool sz2, .slice pz2 kz2 cz2, .slice qz2 lz2 dz2, .bool x2, .bool y2, .bool false] ∧ Box wx (w.heap.size + 1 + 1) #[.bool false, .slice none 0 0, .slice none 0 0, .bool false, .slice none 0 0, .slice none 0 0, .bool false, .bool false, .bool false] ∧ Box wx (w.heap.size + 1 + 1 + 1) #[.bool s1, .slice p1 k1 c1, .slice q1 l1 d1, .bool sz1, .slice pz1 kz1 cz1, .slice qz1 lz1 dz1, .bool x1, .bool y1, .bool false] ∧ Below w.heap.size w wx)
 case first =>
  cases x1
  ·cases x2
   ·have HL2 := hid (HL.out rfl rfl)
    by_cases hp : 0 < rl
    ·have hp1 : decide (0 < rl) = true := decide_eq_true hp
     have HT2 : Hid (tl = true) := hid (by rw [ETL.out, hp1]; rfl)
     obtain ⟨m0, m1, m2, m3, m4, m5, m6, m7, m8, _⟩ := HV.out.1.cells9
     obtain ⟨n0, n1, n2, n3, n4, n5, n6, n7, n8, _⟩ := HV.out.2.1.cells9
     go_wp2_with fail
     refine (HL2.out _ HV.out.2.2.2.2).mono ?_
     rintro e w1 ⟨rfl, hB1⟩
     clear m0 m1 m2 m3 m4 m5 m6 m7 m8 n0 n1 n2 n3 n4 n5 n6 n7 n8
     have Hi1 := hid (HV.out.1.below hB1)
     have Hk1 := hid (HV.out.2.1.below hB1)
     have Hr1 := hid (HV.out.2.2.1.below hB1)
     have Ho1 := hid (HV.out.2.2.2.1.below hB1)
     have Hb1 := hid (HV.out.2.2.2.2.trans (hB1.mono HV.out.2.2.2.2.size))
     clear hB1
     go_wp2_with fail
     go_meet
     exact ⟨by (rw [HT2.out] <;> rfl), Hi1.out, Hk1.out, Hr1.out, Ho1.out, Hb1.out⟩
    ·have hp1 : decide (0 < rl) = false := decide_eq_false hp
     have HT2 : Hid (tl = false) := hid (by rw [ETL.out, hp1]; rfl)
     obtain ⟨m0, m1, m2, m3, m4, m5, m6, m7, m8, _⟩ := HV.out.1.cells9
     obtain ⟨n0, n1, n2, n3, n4, n5, n6, n7, n8, _⟩ := HV.out.2.1.cells9
     go_wp2_with fail
     refine (HL2.out _ HV.out.2.2.2.2).mono ?_
     rintro e w1 ⟨rfl, hB1⟩
     clear m0 m1 m2 m3 m4 m5 m6 m7 m8 n0 n1 n2 n3 n4 n5 n6 n7 n8
     have Hi1 := hid (HV.out.1.below hB1)
     have Hk1 := hid (HV.out.2.1.below hB1)
     have Hr1 := hid (HV.out.2.2.1.below hB1)
     have Ho1 := hid (HV.out.2.2.2.1.below hB1)
     have Hb1 := hid (HV.out.2.2.2.2.trans (hB1.mono HV.out.2.2.2.2.size))
     clear hB1
     go_wp2_with fail
     go_meet
     exact ⟨by (rw [HT2.out] <;> rfl), Hi1.out, Hk1.out, Hr1.out, Ho1.out, Hb1.out⟩
   ·obtain ⟨m0, m1, m2, m3, m4, m5, m6, m7, m8, _⟩ := HV.out.1.cells9
    obtain ⟨n0, n1, n2, n3, n4, n5, n6, n7, n8, _⟩ := HV.out.2.1.cells9
    go_wp2_with fail
    go_meet
    exact ⟨by (rw [ETL.out] <;> rfl), HV.out.1, HV.out.2.1, HV.out.2.2.1, HV.out.2.2.2.1, HV.out.2.2.2.2⟩
  ·obtain ⟨m0, m1, m2, m3, m4, m5, m6, m7, m8, _⟩ := HV.out.1.cells9
   obtain ⟨n0, n1, n2, n3, n4, n5, n6, n7, n8, _⟩ := HV.out.2.1.cells9
   go_wp2_with fail
   go_meet
   exact ⟨by (rw [ETL.out] <;> rfl), HV.out.1, HV.out.2.1, HV.out.2.2.1, HV.out.2.2.2.1, HV.out.2.2.2.2⟩
 case rest =>
 obtain ⟨rfl, gi, gk, gr, go, gb⟩ := hcut
 have HE := hid (And.intro gi (And.intro gk (And.intro gr (And.intro go gb))))
 clear gi gk gr go gb HV HL ETL
 go_upto_if 28 with fail
 go_cut [] from 29 to 34 (fun wx => ∃ s4 p4 k4 c4 q4 l4 d4, QNorm wx (.agg #[.bool s4, .slice p4 k4 c4, .slice q4 l4 d4]) lo ∧ Box wx (w.heap.size) #[.bool s1, .slice p1 k1 c1, .slice q1 l1 d1, .bool sz1, .slice pz1 kz1 cz1, .slice qz1 lz1 dz1, .bool x1, .bool y1, .bool false] ∧ Box wx (w.heap.size + 1) #[.bool s2, .slice p2 k2 c2, .slice q2 l2 d2, .bool sz2, .slice pz2 kz2 cz2, .slice qz2 lz2 dz2, .bool x2, .bool y2, .bool false] ∧ Box wx (w.heap.size + 1 + 1) #[.bool false, .slice none 0 0, .slice none 0 0, .bool false, .slice none 0 0, .slice none 0 0, .bool false, .bool false, .bool false] ∧ Box wx (w.heap.size + 1 + 1 + 1) #[.bool s4, .slice p4 k4 c4, .slice q4 l4 d4, .bool sz1, .slice pz1 kz1 cz1, .slice qz1 lz1 dz1, .bool xlo, .bool y1, .bool false] ∧ Below w.heap.size w wx)
 case first =>
  cases tl
  ·have hx : x1 = xlo := ELO.out.2.symm
   have hq : lo = a.1 := ELO.out.1
   subst hx hq
   go_wp2_with fail
   go_meet
   exact ⟨_, _, _, _, _, _, _, QA.out.1.below HE.out.2.2.2.2, HE.out.1, HE.out.2.1, HE.out.2.2.1, HE.out.2.2.2.1, HE.out.2.2.2.2⟩
  ·have hx : x2 = xlo := ELO.out.2.symm
   have hq : lo = b.1 := ELO.out.1
   subst hx hq
   obtain ⟨m0, m1, m2, m3, m4, m5, m6, m7, m8, _⟩ := HE.out.1.cells9
   obtain ⟨n0, n1, n2, n3, n4, n5, n6, n7, n8, _⟩ := HE.out.2.1.cells9
   go_upto_region 5 with fail
   have HQ := hid (QQ.i2 (cs := [.bool s1, .slice p1 k1 c1, .slice q1 l1 d1, .bool sz1, .slice pz1 kz1 cz1, .slice qz1 lz1 dz1, .bool x1, .bool y1, .bool false]) (cs' := [.bool s2, .slice p2 k2 c2, .slice q2 l2 d2, .bool sz2, .slice pz2 kz2 cz2, .slice qz2 lz2 dz2, .bool x2, .bool y2, .bool false]) HE.out.1 HE.out.2.1 HE.out.2.2.2.2)
   have HS : Hid (∀ w', QQ w [(w.heap.size, [.bool s1, .slice p1 k1 c1, .slice q1 l1 d1, .bool sz1, .slice pz1 kz1 cz1, .slice qz1 lz1 dz1, .bool x1, .bool y1, .bool false]), (w.heap.size + 1, [.bool s2, .slice p2 k2 c2, .slice q2 l2 d2, .bool sz2, .slice pz2 kz2 cz2, .slice qz2 lz2 dz2, .bool x2, .bool y2, .bool false])] w' → (w'.cell? ⟨w.heap.size + 1, 0, none⟩ = some (.bool s2) ∧ w'.cell? ⟨w.heap.size + 1, 1, none⟩ = some (.slice p2 k2 c2) ∧ w'.cell? ⟨w.heap.size + 1, 2, none⟩ = some (.slice q2 l2 d2) ∧ w'.cell? ⟨w.heap.size + 1, 6, none⟩ = some (.bool x2) ∧ Hid (QQ w [(w.heap.size, [.bool s1, .slice p1 k1 c1, .slice q1 l1 d1, .bool sz1, .slice pz1 kz1 cz1, .slice qz1 lz1 dz1, .bool x1, .bool y1, .bool false]), (w.heap.size + 1, [.bool s2, .slice p2 k2 c2, .slice q2 l2 d2, .bool sz2, .slice pz2 kz2 cz2, .slice qz2 lz2 dz2, .bool x2, .bool y2, .bool false])] w'))) := hid fun w' hb => ⟨(hb.b2.cells9).1, (hb.b2.cells9).2.1, (hb.b2.cells9).2.2.1, (hb.b2.cells9).2.2.2.2.2.2.1, hid hb⟩
   have HN : Hid (Apart [(w.heap.size, [.bool s1, .slice p1 k1 c1, .slice q1 l1 d1, .bool sz1, .slice pz1 kz1 cz1, .slice qz1 lz1 dz1, .bool x1, .bool y1, .bool false]), (w.heap.size + 1, [.bool s2, .slice p2 k2 c2, .slice q2 l2 d2, .bool sz2, .slice pz2 kz2 cz2, .slice qz2 lz2 dz2, .bool x2, .bool y2, .bool false])] (w.heap.size + 1 + 1 + 1)) := hid (ne2 (by omega) (by omega))
   have HI : Hid (w.heap.size ≤ w.heap.size + 1 + 1 + 1) := hid (by omega)
   clear m0 m1 m2 m3 m4 m5 m6 m7 m8 n0 n1 n2 n3 n4 n5 n6 n7 n8
   obtain ⟨u0, u1, u2, u3, u4, u5, u6, u7, u8, f0, f1, f2, f3, f4, f5, f6, f7, f8⟩ := (HE.out.2.2.2.1).cells9
   go_wp2_with fail
   go_region_held3 (fun w' => w'.cell? ⟨w.heap.size + 1, 0, none⟩ = some (.bool s2) ∧ w'.cell? ⟨w.heap.size + 1, 1, none⟩ = some (.slice p2 k2 c2) ∧ w'.cell? ⟨w.heap.size + 1, 2, none⟩ = some (.slice q2 l2 d2) ∧ w'.cell? ⟨w.heap.size + 1, 6, none⟩ = some (.bool x2) ∧ Hid (QQ w [(w.heap.size, [.bool s1, .slice p1 k1 c1, .slice q1 l1 d1, .bool sz1, .slice pz1 kz1 cz1, .slice qz1 lz1 dz1, .bool x1, .bool y1, .bool false]), (w.heap.size + 1, [.bool s2, .slice p2 k2 c2, .slice q2 l2 d2, .bool sz2, .slice pz2 kz2 cz2, .slice qz2 lz2 dz2, .bool x2, .bool y2, .bool false])] w'))
    (first | (refine HS.out _ ?_; first | (with_reducible exact HQ.out.drew) | (with_reducible refine QQ.drew ?_; first | (with_reducible refine QQ.st3 ?_ HN.out HI.out; first | (with_reducible exact HQ.out) | (with_reducible refine QQ.st1f6 ?_ HN.out HI.out; (with_reducible exact HQ.out))) | (with_reducible refine QQ.st1f6 ?_ HN.out HI.out; first | (with_reducible exact HQ.out) | (with_reducible refine QQ.st3 ?_ HN.out HI.out; (with_reducible exact HQ.out))))))
    (fail)
   rename_i hHeld
   clear hHeld
   generalize hW : World.drew _ = y
   have Hx := hid (show Box y (w.heap.size + 1 + 1 + 1) #[.bool s2, .slice p2 k2 c2, .slice q2 l2 d2, .bool sz1, .slice pz1 kz1 cz1, .slice qz1 lz1 dz1, .bool x2, .bool y1, .bool false] by rw [← hW]; exact Box.drew (Box.stores_at (m := [.bool s2, .slice p2 k2 c2, .slice q2 l2 d2, .bool sz1, .slice pz1 kz1 cz1, .slice qz1 lz1 dz1, .bool x1, .bool y1, .bool false]) (k := 6) (l := [.bool x2]) (Box.stores_at (m := [.bool s1, .slice p1 k1 c1, .slice q1 l1 d1, .bool sz1, .slice pz1 kz1 cz1, .slice qz1 lz1 dz1, .bool x1, .bool y1, .bool false]) (k := 0) (l := [.bool s2, .slice p2 k2 c2, .slice q2 l2 d2]) HE.out.2.2.2.1 nd3) nd1))
   have Hxi := hid (show Box y (w.heap.size) #[.bool s1, .slice p1 k1 c1, .slice q1 l1 d1, .bool sz1, .slice pz1 kz1 cz1, .slice qz1 lz1 dz1, .bool x1, .bool y1, .bool false] by rw [← hW]; exact Box.drew (Box.stores_other (k := 6) (l := [.bool x2]) (Box.stores_other (k := 0) (l := [.bool s2, .slice p2 k2 c2, .slice q2 l2 d2]) HE.out.1 (by omega)) (by omega)))
   have Hxk := hid (show Box y (w.heap.size + 1) #[.bool s2, .slice p2 k2 c2, .slice q2 l2 d2, .bool sz2, .slice pz2 kz2 cz2, .slice qz2 lz2 dz2, .bool x2, .bool y2, .bool false] by rw [← hW]; exact Box.drew (Box.stores_other (k := 6) (l := [.bool x2]) (Box.stores_other (k := 0) (l := [.bool s2, .slice p2 k2 c2, .slice q2 l2 d2]) HE.out.2.1 (by omega)) (by omega)))
   have Hxr := hid (show Box y (w.heap.size + 1 + 1) #[.bool false, .slice none 0 0, .slice none 0 0, .bool false, .slice none 0 0, .slice none 0 0, .bool false, .bool false, .bool false] by rw [← hW]; exact Box.drew (Box.stores_other (k := 6) (l := [.bool x2]) (Box.stores_other (k := 0) (l := [.bool s2, .slice p2 k2 c2, .slice q2 l2 d2]) HE.out.2.2.1 (by omega)) (by omega)))
   have Hxb := hid (show Below w.heap.size w y by rw [← hW]; exact Below.drew (Below.stores (k := 6) (l := [.bool x2]) (Below.stores (k := 0) (l := [.bool s2, .slice p2 k2 c2, .slice q2 l2 d2]) HE.out.2.2.2.2 (by omega)) (by omega)))
   clear hW
   go_wp2_with fail
   go_meet
   exact ⟨_, _, _, _, _, _, _, QB.out.1.below Hxb.out, Hxi.out, Hxk.out, Hxr.out, Hx.out, Hxb.out⟩
 case rest =>
 obtain ⟨s4, p4, k4, c4, q4, l4, d4, gq, gi, gk, gr, go, gb⟩ := hcut
 have HE2 := hid (And.intro gi (And.intro gk (And.intro gr (And.intro go gb))))
 have HQ4 := hid gq
 clear gq gi gk gr go gb HE ELO
 go_upto_region 6 with fail
 go_cut [49] from 35 to 48 (fun c wx => c = .bool th ∧ QNorm wx (.agg #[.bool s4, .slice p4 k4 c4, .slice q4 l4 d4]) lo ∧ Box wx (w.heap.size) #[.bool s1, .slice p1 k1 c1, .slice q1 l1 d1, .bool sz1, .slice pz1 kz1 cz1, .slice qz1 lz1 dz1, .bool x1, .bool y1, .bool false] ∧ Box wx (w.heap.size + 1) #[.bool s2, .slice p2 k2 c2, .slice q2 l2 d2, .bool sz2, .slice pz2 kz2 cz2, .slice qz2 lz2 dz2, .bool x2, .bool y2, .bool false] ∧ Box wx (w.heap.size + 1 + 1) #[.bool false, .slice none 0 0, .slice none 0 0, .bool false, .slice none 0 0, .slice none 0 0, .bool false, .bool false, .bool false] ∧ Box wx (w.heap.size + 1 + 1 + 1) #[.bool s4, .slice p4 k4 c4, .slice q4 l4 d4, .bool sz1, .slice pz1 kz1 cz1, .slice qz1 lz1 dz1, .bool xlo, .bool y1, .bool false] ∧ Below w.heap.size w wx)
 case first =>
  cases y1
  ·cases y2
   ·have HL2 := hid (HH.out rfl rfl)
    by_cases hp : rh < 0
    ·have hp1 : decide (rh < 0) = true := decide_eq_true hp
     have HT2 : Hid (th = true) := hid (by rw [ETH.out, hp1]; rfl)
     obtain ⟨m0, m1, m2, m3, m4, m5, m6, m7, m8, _⟩ := HE2.out.1.cells9
     obtain ⟨n0, n1, n2, n3, n4, n5, n6, n7, n8, _⟩ := HE2.out.2.1.cells9
     go_wp2_with fail
     refine (HL2.out _ HE2.out.2.2.2.2).mono ?_
     rintro e w1 ⟨rfl, hB1⟩
     clear m0 m1 m2 m3 m4 m5 m6 m7 m8 n0 n1 n2 n3 n4 n5 n6 n7 n8
     have Hi1 := hid (HE2.out.1.below hB1)
     have Hk1 := hid (HE2.out.2.1.below hB1)
     have Hr1 := hid (HE2.out.2.2.1.below hB1)
     have Ho1 := hid (HE2.out.2.2.2.1.below hB1)
     have Hb1 := hid (HE2.out.2.2.2.2.trans (hB1.mono HE2.out.2.2.2.2.size))
     have HQ41 := hid (QNorm.below HQ4.out hB1)
     clear hB1
     go_wp2_with fail
     go_meet
     exact ⟨by (rw [HT2.out] <;> rfl), HQ41.out, Hi1.out, Hk1.out, Hr1.out, Ho1.out, Hb1.out⟩
    ·have hp1 : decide (rh < 0) = false := decide_eq_false hp
     have HT2 : Hid (th = false) := hid (by rw [ETH.out, hp1]; rfl)
     obtain ⟨m0, m1, m2, m3, m4, m5, m6, m7, m8, _⟩ := HE2.out.1.cells9
     obtain ⟨n0, n1, n2, n3, n4, n5, n6, n7, n8, _⟩ := HE2.out.2.1.cells9
     go_wp2_with fail
     refine (HL2.out _ HE2.out.2.2.2.2).mono ?_
     rintro e w1 ⟨rfl, hB1⟩
     clear m0 m1 m2 m3 m4 m5 m6 m7 m8 n0 n1 n2 n3 n4 n5 n6 n7 n8
     have Hi1 := hid (HE2.out.1.below hB1)
     have Hk1 := hid (HE2.out.2.1.below hB1)
     have Hr1 := hid (HE2.out.2.2.1.below hB1)
     have Ho1 := hid (HE2.out.2.2.2.1.below hB1)
     have Hb1 := hid (HE2.out.2.2.2.2.trans (hB1.mono HE2.out.2.2.2.2.size))
     have HQ41 := hid (QNorm.below HQ4.out hB1)
     clear hB1
     go_wp2_with fail
     go_meet
     exact ⟨by (rw [HT2.out] <;> rfl), HQ41.out, Hi1.out, Hk1.out, Hr1.out, Ho1.out, Hb1.out⟩
   ·obtain ⟨m0, m1, m2, m3, m4, m5, m6, m7, m8, _⟩ := HE2.out.1.cells9
    obtain ⟨n0, n1, n2, n3, n4, n5, n6, n7, n8, _⟩ := HE2.out.2.1.cells9
    go_wp2_with fail
    go_meet
    exact ⟨by (rw [ETH.out] <;> rfl), HQ4.out, HE2.out.1, HE2.out.2.1, HE2.out.2.2.1, HE2.out.2.2.2.1, HE2.out.2.2.2.2⟩
  ·obtain ⟨m0, m1, m2, m3, m4, m5, m6, m7, m8, _⟩ := HE2.out.1.cells9
   obtain ⟨n0, n1, n2, n3, n4, n5, n6, n7, n8, _⟩ := HE2.out.2.1.cells9
   go_wp2_with fail
   go_meet
   exact ⟨by (rw [ETH.out] <;> rfl), HQ4.out, HE2.out.1, HE2.out.2.1, HE2.out.2.2.1, HE2.out.2.2.2.1, HE2.out.2.2.2.2⟩
 case rest =>
 obtain ⟨rfl, gq, gi, gk, gr, go, gb⟩ := hcut
 have HE3 := hid (And.intro gi (And.intro gk (And.intro gr (And.intro go gb))))
 have HQ5 := hid gq
 clear gq gi gk gr go gb HE2 HQ4 HH ETH
 go_upto_if 49 with fail
 go_cut [] from 50 to 55 (fun wx => ∃ s5 p5 k5 c5 q5 l5 d5, QNorm wx (.agg #[.bool s4, .slice p4 k4 c4, .slice q4 l4 d4]) lo ∧ QNorm wx (.agg #[.bool s5, .slice p5 k5 c5, .slice q5 l5 d5]) hi ∧ Box wx (w.heap.size + 1 + 1) #[.bool false, .slice none 0 0, .slice none 0 0, .bool false, .slice none 0 0, .slice none 0 0, .bool false, .bool false, .bool false] ∧ Box wx (w.heap.size + 1 + 1 + 1) #[.bool s4, .slice p4 k4 c4, .slice q4 l4 d4, .bool s5, .slice p5 k5 c5, .slice q5 l5 d5, .bool xlo, .bool yhi, .bool false] ∧ Below w.heap.size w wx)
 case first =>
  cases th
  ·have hx : y1 = yhi := EHI.out.2.symm
   have hq : hi = a.2.1 := EHI.out.1
   subst hx hq
   go_wp2_with fail
   go_meet
   exact ⟨_, _, _, _, _, _, _, HQ5.out, QA.out.2.below HE3.out.2.2.2.2, HE3.out.2.2.1, HE3.out.2.2.2.1, HE3.out.2.2.2.2⟩
  ·have hx : y2 = yhi := EHI.out.2.symm
   have hq : hi = b.2.1 := EHI.out.1
   subst hx hq
   obtain ⟨m0, m1, m2, m3, m4, m5, m6, m7, m8, _⟩ := HE3.out.1.cells9
   obtain ⟨n0, n1, n2, n3, n4, n5, n6, n7, n8, _⟩ := HE3.out.2.1.cells9
   go_upto_region 7 with fail
   have HQ := hid (QQ.i2 (cs := [.bool s1, .slice p1 k1 c1, .slice q1 l1 d1, .bool sz1, .slice pz1 kz1 cz1, .slice qz1 lz1 dz1, .bool x1, .bool y1, .bool false]) (cs' := [.bool s2, .slice p2 k2 c2, .slice q2 l2 d2, .bool sz2, .slice pz2 kz2 cz2, .slice qz2 lz2 dz2, .bool x2, .bool y2, .bool false]) HE3.out.1 HE3.out.2.1 HE3.out.2.2.2.2)
   have HS : Hid (∀ w', QQ w [(w.heap.size, [.bool s1, .slice p1 k1 c1, .slice q1 l1 d1, .bool sz1, .slice pz1 kz1 cz1, .slice qz1 lz1 dz1, .bool x1, .bool y1, .bool false]), (w.heap.size + 1, [.bool s2, .slice p2 k2 c2, .slice q2 l2 d2, .bool sz2, .slice pz2 kz2 cz2, .slice qz2 lz2 dz2, .bool x2, .bool y2, .bool false])] w' → (w'.cell? ⟨w.heap.size + 1, 3, none⟩ = some (.bool sz2) ∧ w'.cell? ⟨w.heap.size + 1, 4, none⟩ = some (.slice pz2 kz2 cz2) ∧ w'.cell? ⟨w.heap.size + 1, 5, none⟩ = some (.slice qz2 lz2 dz2) ∧ w'.cell? ⟨w.heap.size + 1, 7, none⟩ = some (.bool y2) ∧ Hid (QQ w [(w.heap.size, [.bool s1, .slice p1 k1 c1, .slice q1 l1 d1, .bool sz1, .slice pz1 kz1 cz1, .slice qz1 lz1 dz1, .bool x1, .bool y1, .bool false]), (w.heap.size + 1, [.bool s2, .slice p2 k2 c2, .slice q2 l2 d2, .bool sz2, .slice pz2 kz2 cz2, .slice qz2 lz2 dz2, .bool x2, .bool y2, .bool false])] w'))) := hid fun w' hb => ⟨(hb.b2.cells9).2.2.2.1, (hb.b2.cells9).2.2.2.2.1, (hb.b2.cells9).2.2.2.2.2.1, (hb.b2.cells9).2.2.2.2.2.2.2.1, hid hb⟩
   have HN : Hid (Apart [(w.heap.size, [.bool s1, .slice p1 k1 c1, .slice q1 l1 d1, .bool sz1, .slice pz1 kz1 cz1, .slice qz1 lz1 dz1, .bool x1, .bool y1, .bool false]), (w.heap.size + 1, [.bool s2, .slice p2 k2 c2, .slice q2 l2 d2, .bool sz2, .slice pz2 kz2 cz2, .slice qz2 lz2 dz2, .bool x2, .bool y2, .bool false])] (w.heap.size + 1 + 1 + 1)) := hid (ne2 (by omega) (by omega))
   have HI : Hid (w.heap.size ≤ w.heap.size + 1 + 1 + 1) := hid (by omega)
   clear m0 m1 m2 m3 m4 m5 m6 m7 m8 n0 n1 n2 n3 n4 n5 n6 n7 n8
   obtain ⟨u0, u1, u2, u3, u4, u5, u6, u7, u8, f0, f1, f2, f3, f4, f5, f6, f7, f8⟩ := (HE3.out.2.2.2.1).cells9
   go_wp2_with fail
   go_region_held3 (fun w' => w'.cell? ⟨w.heap.size + 1, 3, none⟩ = some (.bool sz2) ∧ w'.cell? ⟨w.heap.size + 1, 4, none⟩ = some (.slice pz2 kz2 cz2) ∧ w'.cell? ⟨w.heap.size + 1, 5, none⟩ = some (.slice qz2 lz2 dz2) ∧ w'.cell? ⟨w.heap.size + 1, 7, none⟩ = some (.bool y2) ∧ Hid (QQ w [(w.heap.size, [.bool s1, .slice p1 k1 c1, .slice q1 l1 d1, .bool sz1, .slice pz1 kz1 cz1, .slice qz1 lz1 dz1, .bool x1, .bool y1, .bool false]), (w.heap.size + 1, [.bool s2, .slice p2 k2 c2, .slice q2 l2 d2, .bool sz2, .slice pz2 kz2 cz2, .slice qz2 lz2 dz2, .bool x2, .bool y2, .bool false])] w'))
    (first | (refine HS.out _ ?_; first | (with_reducible exact HQ.out.drew) | (with_reducible refine QQ.drew ?_; first | (with_reducible refine QQ.st3h ?_ HN.out HI.out; first | (with_reducible exact HQ.out) | (with_reducible refine QQ.st1f7 ?_ HN.out HI.out; (with_reducible exact HQ.out))) | (with_reducible refine QQ.st1f7 ?_ HN.out HI.out; first | (with_reducible exact HQ.out) | (with_reducible refine QQ.st3h ?_ HN.out HI.out; (with_reducible exact HQ.out))))))
    (fail)
   rename_i hHeld
   clear hHeld
   generalize hW : World.drew _ = y
   have Hx := hid (show Box y (w.heap.size + 1 + 1 + 1) #[.bool s4, .slice p4 k4 c4, .slice q4 l4 d4, .bool sz2, .slice pz2 kz2 cz2, .slice qz2 lz2 dz2, .bool xlo, .bool y2, .bool false] by rw [← hW]; exact Box.drew (Box.stores_at (m := [.bool s4, .slice p4 k4 c4, .slice q4 l4 d4, .bool sz2, .slice pz2 kz2 cz2, .slice qz2 lz2 dz2, .bool xlo, .bool y1, .bool false]) (k := 7) (l := [.bool y2]) (Box.stores_at (m := [.bool s4, .slice p4 k4 c4, .slice q4 l4 d4, .bool sz1, .slice pz1 kz1 cz1, .slice qz1 lz1 dz1, .bool xlo, .bool y1, .bool false]) (k := 3) (l := [.bool sz2, .slice pz2 kz2 cz2, .slice qz2 lz2 dz2]) HE3.out.2.2.2.1 nd3) nd1))
   have Hxi := hid (show Box y (w.heap.size) #[.bool s1, .slice p1 k1 c1, .slice q1 l1 d1, .bool sz1, .slice pz1 kz1 cz1, .slice qz1 lz1 dz1, .bool x1, .bool y1, .bool false] by rw [← hW]; exact Box.drew (Box.stores_other (k := 7) (l := [.bool y2]) (Box.stores_other (k := 3) (l := [.bool sz2, .slice pz2 kz2 cz2, .slice qz2 lz2 dz2]) HE3.out.1 (by omega)) (by omega)))
   have Hxk := hid (show Box y (w.heap.size + 1) #[.bool s2, .slice p2 k2 c2, .slice q2 l2 d2, .bool sz2, .slice pz2 kz2 cz2, .slice qz2 lz2 dz2, .bool x2, .bool y2, .bool false] by rw [← hW]; exact Box.drew (Box.stores_other (k := 7) (l := [.bool y2]) (Box.stores_other (k := 3) (l := [.bool sz2, .slice pz2 kz2 cz2, .slice qz2 lz2 dz2]) HE3.out.2.1 (by omega)) (by omega)))
   have Hxr := hid (show Box y (w.heap.size + 1 + 1) #[.bool false, .slice none 0 0, .slice none 0 0, .bool false, .slice none 0 0, .slice none 0 0, .bool false, .bool false, .bool false] by rw [← hW]; exact Box.drew (Box.stores_other (k := 7) (l := [.bool y2]) (Box.stores_other (k := 3) (l := [.bool sz2, .slice pz2 kz2 cz2, .slice qz2 lz2 dz2]) HE3.out.2.2.1 (by omega)) (by omega)))
   have Hxb := hid (show Below w.heap.size w y by rw [← hW]; exact Below.drew (Below.stores (k := 7) (l := [.bool y2]) (Below.stores (k := 3) (l := [.bool sz2, .slice pz2 kz2 cz2, .slice qz2 lz2 dz2]) HE3.out.2.2.2.2 (by omega)) (by omega)))
   have Hxl := hid (show QNorm y (.agg #[.bool s4, .slice p4 k4 c4, .slice q4 l4 d4]) lo by rw [← hW]; exact QNorm.below (QNorm.stores (k := 7) (l := [.bool y2]) (QNorm.stores (k := 3) (l := [.bool sz2, .slice pz2 kz2 cz2, .slice qz2 lz2 dz2]) HQ5.out HE3.out.2.2.2.1 nd3) (Box.stores_at (m := [.bool s4, .slice p4 k4 c4, .slice q4 l4 d4, .bool sz1, .slice pz1 kz1 cz1, .slice qz1 lz1 dz1, .bool xlo, .bool y1, .bool false]) (k := 3) (l := [.bool sz2, .slice pz2 kz2 cz2, .slice qz2 lz2 dz2]) HE3.out.2.2.2.1 nd3) nd1) (Below.refl _ _).drew)
   clear hW
   go_wp2_with fail
   go_meet
   exact ⟨_, _, _, _, _, _, _, Hxl.out, QB.out.2.below Hxb.out, Hxr.out, Hx.out, Hxb.out⟩
 case rest =>
 obtain ⟨s5, p5, k5, c5, q5, l5, d5, gq, gq2, gr, go, gb⟩ := hcut
 have HR := hid (And.intro gr (And.intro go gb))
 have HQ6 := hid (And.intro gq gq2)
 clear gq gq2 gr go gb HE3 HQ5 EHI QA QB
 cases hxl : xlo
 ·cases hyl : yhi
  ·have HC2 := hid (HC.out hxl hyl)
   subst hxl hyl
   by_cases hp : 0 < rc
   ·have hp1 : decide (0 < rc) = true := decide_eq_true hp
    have hD2 : D = jnone := by rw [HD.out, hp1]; rfl
    subst hD2
    obtain ⟨m0, m1, m2, m3, m4, m5, m6, m7, m8, _⟩ := HR.out.2.1.cells9
    go_wp2_with fail
    refine (HC2.out _ s4 p4 k4 c4 q4 l4 d4 s5 p5 k5 c5 q5 l5 d5 HQ6.out.1 HQ6.out.2).mono ?_
    rintro e w1 ⟨rfl, hB1⟩
    have HE := hid (And.intro (HR.out.1.below hB1) (HR.out.2.2.trans (hB1.mono HR.out.2.2.size)))
    clear hB1 m0 m1 m2 m3 m4 m5 m6 m7 m8
    go_wp2_with fail
    refine (jNone_any _).mono ?_
    rintro e w3 ⟨rfl, hB3⟩
    have HE3 := hid (And.intro (HE.out.1.below hB3) (HE.out.2.trans (hB3.mono HE.out.2.size)))
    clear hB3
    obtain ⟨g0, g1, g2, g3, g4, g5, g6, g7, g8, f0, f1, f2, f3, f4, f5, f6, f7, f8⟩ := HE3.out.1.cells9
    go_wp2_with fail
    exact jBoth_ret rfl (HE3.out.1.stores [.bool false, .slice none 0 0, .slice none 0 0, .bool false, .slice none 0 0, .slice none 0 0, .bool false, .bool false, .bool true] rfl nd_J) (by rw [HP.out]; exact ⟨_, _, _, _, _, _, _, _, _, _, _, _, _, _, _, _, _, rfl, hid (JRep.stores (k := 0) (l := [.bool false, .slice none 0 0, .slice none 0 0, .bool false, .slice none 0 0, .slice none 0 0, .bool false, .bool false, .bool true]) ⟨_, _, _, _, _, _, _, _, _, _, _, _, _, _, _, _, _, rfl, QNorm.zero _, QNorm.zero _, rfl, rfl, rfl⟩ HE3.out.1 nd_J), Below.stores (k := 0) (l := [.bool false, .slice none 0 0, .slice none 0 0, .bool false, .slice none 0 0, .slice none 0 0, .bool false, .bool false, .bool true]) HE3.out.2 (by omega)⟩)
   ·have hp1 : decide (0 < rc) = false := decide_eq_false hp
    have hD2 : D = (lo, hi, false, false, false) := by rw [HD.out, hp1]; rfl
    subst hD2
    obtain ⟨m0, m1, m2, m3, m4, m5, m6, m7, m8, _⟩ := HR.out.2.1.cells9
    go_wp2_with fail
    refine (HC2.out _ s4 p4 k4 c4 q4 l4 d4 s5 p5 k5 c5 q5 l5 d5 HQ6.out.1 HQ6.out.2).mono ?_
    rintro e w1 ⟨rfl, hB1⟩
    have HE := hid (And.intro (HR.out.1.below hB1) (And.intro (HR.out.2.1.below hB1) (HR.out.2.2.trans (hB1.mono HR.out.2.2.size))))
    have HQ7 := hid (And.intro (HQ6.out.1.below hB1) (HQ6.out.2.below hB1))
    clear hB1 m0 m1 m2 m3 m4 m5 m6 m7 m8
    obtain ⟨m0, m1, m2, m3, m4, m5, m6, m7, m8, _⟩ := HE.out.2.1.cells9
    obtain ⟨g0, g1, g2, g3, g4, g5, g6, g7, g8, f0, f1, f2, f3, f4, f5, f6, f7, f8⟩ := HE.out.1.cells9
    go_wp2_with fail
    exact jBoth_ret rfl (HE.out.1.stores [.bool s4, .slice p4 k4 c4, .slice q4 l4 d4, .bool s5, .slice p5 k5 c5, .slice q5 l5 d5, .bool false, .bool false, .bool false] rfl nd_J) (by rw [HP.out]; exact ⟨_, _, _, _, _, _, _, _, _, _, _, _, _, _, _, _, _, rfl, hid (JRep.stores (k := 0) (l := [.bool s4, .slice p4 k4 c4, .slice q4 l4 d4, .bool s5, .slice p5 k5 c5, .slice q5 l5 d5, .bool false, .bool false, .bool false]) ⟨_, _, _, _, _, _, _, _, _, _, _, _, _, _, _, _, _, rfl, HQ7.out.1, HQ7.out.2, rfl, rfl, rfl⟩ HE.out.1 nd_J), Below.stores (k := 0) (l := [.bool s4, .slice p4 k4 c4, .slice q4 l4 d4, .bool s5, .slice p5 k5 c5, .slice q5 l5 d5, .bool false, .bool false, .bool false]) HE.out.2.2 (by omega)⟩)
  ·subst hxl hyl
   have hD2 : D = (lo, hi, false, true, false) := by rw [HD.out]; rfl
   subst hD2
   obtain ⟨m0, m1, m2, m3, m4, m5, m6, m7, m8, _⟩ := HR.out.2.1.cells9
   obtain ⟨g0, g1, g2, g3, g4, g5, g6, g7, g8, f0, f1, f2, f3, f4, f5, f6, f7, f8⟩ := HR.out.1.cells9
   go_wp2_with fail
   exact jBoth_ret rfl (HR.out.1.stores [.bool s4, .slice p4 k4 c4, .slice q4 l4 d4, .bool s5, .slice p5 k5 c5, .slice q5 l5 d5, .bool false, .bool true, .bool false] rfl nd_J) (by rw [HP.out]; exact ⟨_, _, _, _, _, _, _, _, _, _, _, _, _, _, _, _, _, rfl, hid (JRep.stores (k := 0) (l := [.bool s4, .slice p4 k4 c4, .slice q4 l4 d4, .bool s5, .slice p5 k5 c5, .slice q5 l5 d5, .bool false, .bool true, .bool false]) ⟨_, _, _, _, _, _, _, _, _, _, _, _, _, _, _, _, _, rfl, HQ6.out.1, HQ6.out.2, rfl, rfl, rfl⟩ HR.out.1 nd_J), Below.stores (k := 0) (l := [.bool s4, .slice p4 k4 c4, .slice q4 l4 d4, .bool s5, .slice p5 k5 c5, .slice q5 l5 d5, .bool false, .bool true, .bool false]) HR.out.2.2 (by omega)⟩)
 ·subst hxl
  have hD2 : D = (lo, hi, true, yhi, false) := by rw [HD.out]; rfl
  subst hD2
  obtain ⟨m0, m1, m2, m3, m4, m5, m6, m7, m8, _⟩ := HR.out.2.1.cells9
  obtain ⟨g0, g1, g2, g3, g4, g5, g6, g7, g8, f0, f1, f2, f3, f4, f5, f6, f7, f8⟩ := HR.out.1.cells9
  go_wp2_with fail
  exact jBoth_ret rfl (HR.out.1.stores [.bool s4, .slice p4 k4 c4, .slice q4 l4 d4, .bool s5, .slice p5 k5 c5, .slice q5 l5 d5, .bool true, .bool yhi, .bool false] rfl nd_J) (by rw [HP.out]; exact ⟨_, _, _, _, _, _, _, _, _, _, _, _, _, _, _, _, _, rfl, hid (JRep.stores (k := 0) (l := [.bool s4, .slice p4 k4 c4, .slice q4 l4 d4, .bool s5, .slice p5 k5 c5, .slice q5 l5 d5, .bool true, .bool yhi, .bool false]) ⟨_, _, _, _, _, _, _, _, _, _, _, _, _, _, _, _, _, rfl, HQ6.out.1, HQ6.out.2, rfl, rfl, rfl⟩ HR.out.1 nd_J), Below.stores (k := 0) (l := [.bool s4, .slice p4 k4 c4, .slice q4 l4 d4, .bool s5, .slice p5 k5 c5, .slice q5 l5 d5, .bool true, .bool yhi, .bool false]) HR.out.2.2 (by omega)⟩)
end Go.Proofs.YtimjoejkjgklaaaGreatDoor
