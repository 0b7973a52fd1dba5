/- The greater and the lesser one of two ends, of two numbers; the sign of an end. -/
import Derived.Test.YtimjoejkjgklaaaGreatDoorIsJ
import Derived.Test.YtimjoejkjgklaaaGreatDoorMkI
import Derived.Test.YtimjoejkjgklaaaGreatDoorBothI
import Derived.WalkSmall
set_option maxHeartbeats 2000000
set_option maxRecDepth 100000
namespace Go.Proofs.YtimjoejkjgklaaaGreatDoor
open Go.RowKit Dg
def emax (x y : Int × Bool × Nat × Nat) : Int × Bool × Nat × Nat := if 0 < ecmp y x then y else x
theorem egreatest_ret {W : World} {B : Nat} {a0 a1 a2 a3 : Value} {tm : Array Value} {R : Ending → World → Prop} (h2 : tm[4]?.getD undef = .pointer (some ⟨B, 0, none⟩)) (hV : Box W B #[a0, a1, a2, a3]) (hR : R (.returned (.agg #[a0, a1, a2, a3])) W) :
  bodyPost Tryz.prog Tryz.f116 R .ret { tmps := tm, defers := [] } W := by
 obtain ⟨g0, g1, g2, g3, _⟩ := hV.cells4
 exact bodyPost_ret (v := .agg #[a0, a1, a2, a3]) (by simp [results, Tryz.results116, go_sem, h2, g0, g1, g2, g3]) rfl hR
theorem egreatest_any (i1 : Int) (s1 : Bool) (p1 : Option Addr) (k1 c1 : Nat) (q1 : Option Addr) (l1 d1 : Nat) (i2 : Int) (s2 : Bool) (p2 : Option Addr) (k2 c2 : Nat) (q2 : Option Addr) (l2 d2 : Nat) (x y : Int × Bool × Nat × Nat) (A : Nat) (w : World) (h : ERep w (.agg #[.int .i64 i1, .bool s1, .slice p1 k1 c1, .slice q1 l1 d1]) x) (h' : ERep w (.agg #[.int .i64 i2, .bool s2, .slice p2 k2 c2, .slice q2 l2 d2]) y) (hx : EOk A x) (hy : EOk A y) (hA : A ≤ 4000000) :
  Calls Tryz.prog 116 #[.agg #[.int .i64 i1, .bool s1, .slice p1 k1 c1, .slice q1 l1 d1], .agg #[.int .i64 i2, .bool s2, .slice p2 k2 c2, .slice q2 l2 d2]] w fun e w' => ∃ i3 s3 p3 k3 c3 q3 l3 d3, e = .returned (.agg #[.int .i64 i3, .bool s3, .slice p3 k3 c3, .slice q3 l3 d3]) ∧ Hid (ERep w' (.agg #[.int .i64 i3, .bool s3, .slice p3 k3 c3, .slice q3 l3 d3]) (emax x y)) ∧ Below w.heap.size w w' := by
 have HC := hid (fun (W : World) (hW : Below w.heap.size w W) => ecompare_any i2 s2 p2 k2 c2 q2 l2 d2 i1 s1 p1 k1 c1 q1 l1 d1 y x A W (h'.below hW) (h.below hW) hy hx hA)
 have HR := hid (And.intro (fun (W : World) (hW : Below w.heap.size w W) => ERep.below h hW) (fun (W : World) (hW : Below w.heap.size w W) => ERep.below h' hW))
 obtain ⟨z, hz⟩ : ∃ z, z = emax x y := ⟨_, rfl⟩
 rw [← hz]
 have hD : z = if 0 < ecmp y x then y else x := hz
 clear hz
 obtain ⟨r, hr⟩ : ∃ r, r = ecmp y x := ⟨_, rfl⟩
 rw [← hr] at HC hD
 have HZ := hid hD
 clear h h' hx hy hr hD
 go_enter Tryz.func116, Tryz.ntmps116
 go_wp2_with fail
 generalize hA : World.alloc _ _ = W0
 have HV := hid (pre3_o hA nd4 nd4 nd4)
 clear hA
 by_cases hc : 0 < r
 ·have hc1 : decide (0 < r) = true := decide_eq_true hc
  refine (HC.out _ HV.out.2.2.2).mono ?_
  rintro e w1 ⟨rfl, hB1⟩
  have HE := hid (And.intro (HV.out.1.below hB1) (And.intro (HV.out.2.1.below hB1) (And.intro (HV.out.2.2.1.below hB1) (HV.out.2.2.2.trans (hB1.mono HV.out.2.2.2.size)))))
  clear hB1
  obtain ⟨m0, m1, m2, m3, _⟩ := HE.out.2.1.cells4
  obtain ⟨g0, g1, g2, g3, f0, f1, f2, f3⟩ := HE.out.2.2.1.cells4
  go_wp2_with fail
  exact egreatest_ret rfl (HE.out.2.2.1.stores [.int .i64 i2, .bool s2, .slice p2 k2 c2, .slice q2 l2 d2] rfl nd4) ⟨i2, s2, p2, k2, c2, q2, l2, d2, rfl, hid (by rw [HZ.out, if_pos (show 0 < r by omega)]; exact ERep.stores (k := 0) (l := [.int .i64 i2, .bool s2, .slice p2 k2 c2, .slice q2 l2 d2]) (HR.out.2 _ HE.out.2.2.2) HE.out.2.2.1 nd4), Below.stores (k := 0) (l := [.int .i64 i2, .bool s2, .slice p2 k2 c2, .slice q2 l2 d2]) HE.out.2.2.2 (by omega)⟩
 ·have hc1 : decide (0 < r) = false := decide_eq_false hc
  refine (HC.out _ HV.out.2.2.2).mono ?_
  rintro e w1 ⟨rfl, hB1⟩
  have HE := hid (And.intro (HV.out.1.below hB1) (And.intro (HV.out.2.1.below hB1) (And.intro (HV.out.2.2.1.below hB1) (HV.out.2.2.2.trans (hB1.mono HV.out.2.2.2.size)))))
  clear hB1
  obtain ⟨m0, m1, m2, m3, _⟩ := HE.out.1.cells4
  obtain ⟨g0, g1, g2, g3, f0, f1, f2, f3⟩ := HE.out.2.2.1.cells4
  go_wp2_with fail
  exact egreatest_ret rfl (HE.out.2.2.1.stores [.int .i64 i1, .bool s1, .slice p1 k1 c1, .slice q1 l1 d1] rfl nd4) ⟨i1, s1, p1, k1, c1, q1, l1, d1, rfl, hid (by rw [HZ.out, if_neg (show ¬ (0 < r) by omega)]; exact ERep.stores (k := 0) (l := [.int .i64 i1, .bool s1, .slice p1 k1 c1, .slice q1 l1 d1]) (HR.out.1 _ HE.out.2.2.2) HE.out.2.2.1 nd4), Below.stores (k := 0) (l := [.int .i64 i1, .bool s1, .slice p1 k1 c1, .slice q1 l1 d1]) HE.out.2.2.2 (by omega)⟩
def emin (x y : Int × Bool × Nat × Nat) : Int × Bool × Nat × Nat := if ecmp y x < 0 then y else x
theorem eleast_ret {W : World} {B : Nat} {a0 a1 a2 a3 : Value} {tm : Array Value} {R : Ending → World → Prop} (h2 : tm[4]?.getD undef = .pointer (some ⟨B, 0, none⟩)) (hV : Box W B #[a0, a1, a2, a3]) (hR : R (.returned (.agg #[a0, a1, a2, a3])) W) :
  bodyPost Tryz.prog Tryz.f113 R .ret { tmps := tm, defers := [] } W := by
 obtain ⟨g0, g1, g2, g3, _⟩ := hV.cells4
 exact bodyPost_ret (v := .agg #[a0, a1, a2, a3]) (by simp [results, Tryz.results113, go_sem, h2, g0, g1, g2, g3]) rfl hR
theorem eleast_any (i1 : Int) (s1 : Bool) (p1 : Option Addr) (k1 c1 : Nat) (q1 : Option Addr) (l1 d1 : Nat) (i2 : Int) (s2 : Bool) (p2 : Option Addr) (k2 c2 : Nat) (q2 : Option Addr) (l2 d2 : Nat) (x y : Int × Bool × Nat × Nat) (A : Nat) (w : World) (h : ERep w (.agg #[.int .i64 i1, .bool s1, .slice p1 k1 c1, .slice q1 l1 d1]) x) (h' : ERep w (.agg #[.int .i64 i2, .bool s2, .slice p2 k2 c2, .slice q2 l2 d2]) y) (hx : EOk A x) (hy : EOk A y) (hA : A ≤ 4000000) :
  Calls Tryz.prog 113 #[.agg #[.int .i64 i1, .bool s1, .slice p1 k1 c1, .slice q1 l1 d1], .agg #[.int .i64 i2, .bool s2, .slice p2 k2 c2, .slice q2 l2 d2]] w fun e w' => ∃ i3 s3 p3 k3 c3 q3 l3 d3, e = .returned (.agg #[.int .i64 i3, .bool s3, .slice p3 k3 c3, .slice q3 l3 d3]) ∧ Hid (ERep w' (.agg #[.int .i64 i3, .bool s3, .slice p3 k3 c3, .slice q3 l3 d3]) (emin x y)) ∧ Below w.heap.size w w' := by
 have HC := hid (fun (W : World) (hW : Below w.heap.size w W) => ecompare_any i2 s2 p2 k2 c2 q2 l2 d2 i1 s1 p1 k1 c1 q1 l1 d1 y x A W (h'.below hW) (h.below hW) hy hx hA)
 have HR := hid (And.intro (fun (W : World) (hW : Below w.heap.size w W) => ERep.below h hW) (fun (W : World) (hW : Below w.heap.size w W) => ERep.below h' hW))
 obtain ⟨z, hz⟩ : ∃ z, z = emin x y := ⟨_, rfl⟩
 rw [← hz]
 have hD : z = if ecmp y x < 0 then y else x := hz
 clear hz
 obtain ⟨r, hr⟩ : ∃ r, r = ecmp y x := ⟨_, rfl⟩
 rw [← hr] at HC hD
 have HZ := hid hD
 clear h h' hx hy hr hD
 go_enter Tryz.func113, Tryz.ntmps113
 go_wp2_with fail
 generalize hA : World.alloc _ _ = W0
 have HV := hid (pre3_o hA nd4 nd4 nd4)
 clear hA
 by_cases hc : r < 0
 ·have hc1 : decide (r < 0) = true := decide_eq_true hc
  refine (HC.out _ HV.out.2.2.2).mono ?_
  rintro e w1 ⟨rfl, hB1⟩
  have HE := hid (And.intro (HV.out.1.below hB1) (And.intro (HV.out.2.1.below hB1) (And.intro (HV.out.2.2.1.below hB1) (HV.out.2.2.2.trans (hB1.mono HV.out.2.2.2.size)))))
  clear hB1
  obtain ⟨m0, m1, m2, m3, _⟩ := HE.out.2.1.cells4
  obtain ⟨g0, g1, g2, g3, f0, f1, f2, f3⟩ := HE.out.2.2.1.cells4
  go_wp2_with fail
  exact eleast_ret rfl (HE.out.2.2.1.stores [.int .i64 i2, .bool s2, .slice p2 k2 c2, .slice q2 l2 d2] rfl nd4) ⟨i2, s2, p2, k2, c2, q2, l2, d2, rfl, hid (by rw [HZ.out, if_pos (show r < 0 by omega)]; exact ERep.stores (k := 0) (l := [.int .i64 i2, .bool s2, .slice p2 k2 c2, .slice q2 l2 d2]) (HR.out.2 _ HE.out.2.2.2) HE.out.2.2.1 nd4), Below.stores (k := 0) (l := [.int .i64 i2, .bool s2, .slice p2 k2 c2, .slice q2 l2 d2]) HE.out.2.2.2 (by omega)⟩
 ·have hc1 : decide (r < 0) = false := decide_eq_false hc
  refine (HC.out _ HV.out.2.2.2).mono ?_
  rintro e w1 ⟨rfl, hB1⟩
  have HE := hid (And.intro (HV.out.1.below hB1) (And.intro (HV.out.2.1.below hB1) (And.intro (HV.out.2.2.1.below hB1) (HV.out.2.2.2.trans (hB1.mono HV.out.2.2.2.size)))))
  clear hB1
  obtain ⟨m0, m1, m2, m3, _⟩ := HE.out.1.cells4
  obtain ⟨g0, g1, g2, g3, f0, f1, f2, f3⟩ := HE.out.2.2.1.cells4
  go_wp2_with fail
  exact eleast_ret rfl (HE.out.2.2.1.stores [.int .i64 i1, .bool s1, .slice p1 k1 c1, .slice q1 l1 d1] rfl nd4) ⟨i1, s1, p1, k1, c1, q1, l1, d1, rfl, hid (by rw [HZ.out, if_neg (show ¬ (r < 0) by omega)]; exact ERep.stores (k := 0) (l := [.int .i64 i1, .bool s1, .slice p1 k1 c1, .slice q1 l1 d1]) (HR.out.1 _ HE.out.2.2.2) HE.out.2.2.1 nd4), Below.stores (k := 0) (l := [.int .i64 i1, .bool s1, .slice p1 k1 c1, .slice q1 l1 d1]) HE.out.2.2.2 (by omega)⟩
def qmax (x y : Bool × Nat × Nat) : Bool × Nat × Nat := if 0 < fcmp y x then y else x
theorem jMost_ret {W : World} {B : Nat} {a0 a1 a2 : Value} {tm : Array Value} {R : Ending → World → Prop} (h2 : tm[4]?.getD undef = .pointer (some ⟨B, 0, none⟩)) (hV : Box W B #[a0, a1, a2]) (hR : R (.returned (.agg #[a0, a1, a2])) W) :
  bodyPost Tryz.prog Tryz.f122 R .ret { tmps := tm, defers := [] } W := by
 obtain ⟨g0, g1, g2, _⟩ := hV.cells3
 exact bodyPost_ret (v := .agg #[a0, a1, a2]) (by simp [results, Tryz.results122, go_sem, h2, g0, g1, g2]) rfl hR
theorem jMost_any (s1 : Bool) (p1 : Option Addr) (k1 c1 : Nat) (q1 : Option Addr) (l1 d1 : Nat) (s2 : Bool) (p2 : Option Addr) (k2 c2 : Nat) (q2 : Option Addr) (l2 d2 : Nat) (x y : Bool × Nat × Nat) (w : World) (h : QNorm w (.agg #[.bool s1, .slice p1 k1 c1, .slice q1 l1 d1]) x) (h' : QNorm w (.agg #[.bool s2, .slice p2 k2 c2, .slice q2 l2 d2]) y) (hx : QOk x) (hy : QOk y) :
  Calls Tryz.prog 122 #[.agg #[.bool s1, .slice p1 k1 c1, .slice q1 l1 d1], .agg #[.bool s2, .slice p2 k2 c2, .slice q2 l2 d2]] w fun e w' => ∃ s3 p3 k3 c3 q3 l3 d3, e = .returned (.agg #[.bool s3, .slice p3 k3 c3, .slice q3 l3 d3]) ∧ Hid (QNorm w' (.agg #[.bool s3, .slice p3 k3 c3, .slice q3 l3 d3]) (qmax x y)) ∧ Below w.heap.size w w' := by
 have HC := hid (fun (W : World) (hW : Below w.heap.size w W) => rcmp_ok (.agg #[.bool s2, .slice p2 k2 c2, .slice q2 l2 d2]) (.agg #[.bool s1, .slice p1 k1 c1, .slice q1 l1 d1]) y x W (h'.below hW) (h.below hW) hy hx)
 have HR := hid (And.intro (fun (W : World) (hW : Below w.heap.size w W) => QNorm.below h hW) (fun (W : World) (hW : Below w.heap.size w W) => QNorm.below h' hW))
 obtain ⟨z, hz⟩ : ∃ z, z = qmax x y := ⟨_, rfl⟩
 rw [← hz]
 have hD : z = if 0 < fcmp y x then y else x := hz
 clear hz
 obtain ⟨r, hr⟩ : ∃ r, r = fcmp y x := ⟨_, rfl⟩
 rw [← hr] at HC hD
 have HZ := hid hD
 clear h h' hx hy hr hD
 go_enter Tryz.func122, Tryz.ntmps122
 go_wp2_with fail
 generalize hA : World.alloc _ _ = W0
 have HV := hid (pre3_o hA nd3 nd3 nd3)
 clear hA
 by_cases hc : 0 < r
 ·have hc1 : decide (0 < r) = true := decide_eq_true hc
  refine (HC.out _ HV.out.2.2.2).mono ?_
  rintro e w1 ⟨rfl, hB1⟩
  have HE := hid (And.intro (HV.out.1.below hB1) (And.intro (HV.out.2.1.below hB1) (And.intro (HV.out.2.2.1.below hB1) (HV.out.2.2.2.trans (hB1.mono HV.out.2.2.2.size)))))
  clear hB1
  obtain ⟨m0, m1, m2, _⟩ := HE.out.2.1.cells3
  obtain ⟨g0, g1, g2, f0, f1, f2⟩ := HE.out.2.2.1.cells3
  go_wp2_with fail
  exact jMost_ret rfl (HE.out.2.2.1.stores [.bool s2, .slice p2 k2 c2, .slice q2 l2 d2] rfl nd3) ⟨s2, p2, k2, c2, q2, l2, d2, rfl, hid (by rw [HZ.out, if_pos (show 0 < r by omega)]; exact QNorm.stores (k := 0) (l := [.bool s2, .slice p2 k2 c2, .slice q2 l2 d2]) (HR.out.2 _ HE.out.2.2.2) HE.out.2.2.1 nd3), Below.stores (k := 0) (l := [.bool s2, .slice p2 k2 c2, .slice q2 l2 d2]) HE.out.2.2.2 (by omega)⟩
 ·have hc1 : decide (0 < r) = false := decide_eq_false hc
  refine (HC.out _ HV.out.2.2.2).mono ?_
  rintro e w1 ⟨rfl, hB1⟩
  have HE := hid (And.intro (HV.out.1.below hB1) (And.intro (HV.out.2.1.below hB1) (And.intro (HV.out.2.2.1.below hB1) (HV.out.2.2.2.trans (hB1.mono HV.out.2.2.2.size)))))
  clear hB1
  obtain ⟨m0, m1, m2, _⟩ := HE.out.1.cells3
  obtain ⟨g0, g1, g2, f0, f1, f2⟩ := HE.out.2.2.1.cells3
  go_wp2_with fail
  exact jMost_ret rfl (HE.out.2.2.1.stores [.bool s1, .slice p1 k1 c1, .slice q1 l1 d1] rfl nd3) ⟨s1, p1, k1, c1, q1, l1, d1, rfl, hid (by rw [HZ.out, if_neg (show ¬ (0 < r) by omega)]; exact QNorm.stores (k := 0) (l := [.bool s1, .slice p1 k1 c1, .slice q1 l1 d1]) (HR.out.1 _ HE.out.2.2.2) HE.out.2.2.1 nd3), Below.stores (k := 0) (l := [.bool s1, .slice p1 k1 c1, .slice q1 l1 d1]) HE.out.2.2.2 (by omega)⟩
def qmin (x y : Bool × Nat × Nat) : Bool × Nat × Nat := if fcmp y x < 0 then y else x
theorem jLeast_ret {W : World} {B : Nat} {a0 a1 a2 : Value} {tm : Array Value} {R : Ending → World → Prop} (h2 : tm[4]?.getD undef = .pointer (some ⟨B, 0, none⟩)) (hV : Box W B #[a0, a1, a2]) (hR : R (.returned (.agg #[a0, a1, a2])) W) :
  bodyPost Tryz.prog Tryz.f115 R .ret { tmps := tm, defers := [] } W := by
 obtain ⟨g0, g1, g2, _⟩ := hV.cells3
 exact bodyPost_ret (v := .agg #[a0, a1, a2]) (by simp [results, Tryz.results115, go_sem, h2, g0, g1, g2]) rfl hR
theorem jLeast_any (s1 : Bool) (p1 : Option Addr) (k1 c1 : Nat) (q1 : Option Addr) (l1 d1 : Nat) (s2 : Bool) (p2 : Option Addr) (k2 c2 : Nat) (q2 : Option Addr) (l2 d2 : Nat) (x y : Bool × Nat × Nat) (w : World) (h : QNorm w (.agg #[.bool s1, .slice p1 k1 c1, .slice q1 l1 d1]) x) (h' : QNorm w (.agg #[.bool s2, .slice p2 k2 c2, .slice q2 l2 d2]) y) (hx : QOk x) (hy : QOk y) :
  Calls Tryz.prog 115 #[.agg #[.bool s1, .slice p1 k1 c1, .slice q1 l1 d1], .agg #[.bool s2, .slice p2 k2 c2, .slice q2 l2 d2]] w fun e w' => ∃ s3 p3 k3 c3 q3 l3 d3, e = .returned (.agg #[.bool s3, .slice p3 k3 c3, .slice q3 l3 d3]) ∧ Hid (QNorm w' (.agg #[.bool s3, .slice p3 k3 c3, .slice q3 l3 d3]) (qmin x y)) ∧ Below w.heap.size w w' := by
 have HC := hid (fun (W : World) (hW : Below w.heap.size w W) => rcmp_ok (.agg #[.bool s2, .slice p2 k2 c2, .slice q2 l2 d2]) (.agg #[.bool s1, .slice p1 k1 c1, .slice q1 l1 d1]) y x W (h'.below hW) (h.below hW) hy hx)
 have HR := hid (And.intro (fun (W : World) (hW : Below w.heap.size w W) => QNorm.below h hW) (fun (W : World) (hW : Below w.heap.size w W) => QNorm.below h' hW))
 obtain ⟨z, hz⟩ : ∃ z, z = qmin x y := ⟨_, rfl⟩
 rw [← hz]
 have hD : z = if fcmp y x < 0 then y else x := hz
 clear hz
 obtain ⟨r, hr⟩ : ∃ r, r = fcmp y x := ⟨_, rfl⟩
 rw [← hr] at HC hD
 have HZ := hid hD
 clear h h' hx hy hr hD
 go_enter Tryz.func115, Tryz.ntmps115
 go_wp2_with fail
 generalize hA : World.alloc _ _ = W0
 have HV := hid (pre3_o hA nd3 nd3 nd3)
 clear hA
 by_cases hc : r < 0
 ·have hc1 : decide (r < 0) = true := decide_eq_true hc
  refine (HC.out _ HV.out.2.2.2).mono ?_
  rintro e w1 ⟨rfl, hB1⟩
  have HE := hid (And.intro (HV.out.1.below hB1) (And.intro (HV.out.2.1.below hB1) (And.intro (HV.out.2.2.1.below hB1) (HV.out.2.2.2.trans (hB1.mono HV.out.2.2.2.size)))))
  clear hB1
  obtain ⟨m0, m1, m2, _⟩ := HE.out.2.1.cells3
  obtain ⟨g0, g1, g2, f0, f1, f2⟩ := HE.out.2.2.1.cells3
  go_wp2_with fail
  exact jLeast_ret rfl (HE.out.2.2.1.stores [.bool s2, .slice p2 k2 c2, .slice q2 l2 d2] rfl nd3) ⟨s2, p2, k2, c2, q2, l2, d2, rfl, hid (by rw [HZ.out, if_pos (show r < 0 by omega)]; exact QNorm.stores (k := 0) (l := [.bool s2, .slice p2 k2 c2, .slice q2 l2 d2]) (HR.out.2 _ HE.out.2.2.2) HE.out.2.2.1 nd3), Below.stores (k := 0) (l := [.bool s2, .slice p2 k2 c2, .slice q2 l2 d2]) HE.out.2.2.2 (by omega)⟩
 ·have hc1 : decide (r < 0) = false := decide_eq_false hc
  refine (HC.out _ HV.out.2.2.2).mono ?_
  rintro e w1 ⟨rfl, hB1⟩
  have HE := hid (And.intro (HV.out.1.below hB1) (And.intro (HV.out.2.1.below hB1) (And.intro (HV.out.2.2.1.below hB1) (HV.out.2.2.2.trans (hB1.mono HV.out.2.2.2.size)))))
  clear hB1
  obtain ⟨m0, m1, m2, _⟩ := HE.out.1.cells3
  obtain ⟨g0, g1, g2, f0, f1, f2⟩ := HE.out.2.2.1.cells3
  go_wp2_with fail
  exact jLeast_ret rfl (HE.out.2.2.1.stores [.bool s1, .slice p1 k1 c1, .slice q1 l1 d1] rfl nd3) ⟨s1, p1, k1, c1, q1, l1, d1, rfl, hid (by rw [HZ.out, if_neg (show ¬ (r < 0) by omega)]; exact QNorm.stores (k := 0) (l := [.bool s1, .slice p1 k1 c1, .slice q1 l1 d1]) (HR.out.1 _ HE.out.2.2.2) HE.out.2.2.1 nd3), Below.stores (k := 0) (l := [.bool s1, .slice p1 k1 c1, .slice q1 l1 d1]) HE.out.2.2.2 (by omega)⟩
end Go.Proofs.YtimjoejkjgklaaaGreatDoor
